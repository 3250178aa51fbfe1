import PyProof.Rows.All
import Wide.All
import OpenK.AllK
import Wide.FinOn
import HandS.ForExc
import HandS.Property
import KE.KStateDown
import HandS.Defaults
import HandS.ClsMeth
import HandS.Head0
import HandS.Head1
import HandS.Head2
import HandS.HeadEnd
import HandS.HeadHook1
import HandS.HeadHook2
import HandS.HeadNt
import HandS.IsInst
import HandS.ExcIs
import HandS.ExcInit
import HandS.ExcField
import HandS.ExcOwn
import KE.KExcIs
import HandS.ExcInitHot
import HandS.TupAny
import HandS.HeadHook3
import HandS.MakeKwOnly
import HandS.Zip
import HandS.ForMost
import HandS.Comp
import HandS.Walk
import HandS.Strs
import HandS.WideBits
import HandS.Iter
import HandS.Style
import HandS.DictTup
import HandS.Dict
import PyProof.DictMoreH
import PySem.Challenge.RW_bookstogether_k24_needs_and_modes
section
set_option Elab.async false
set_option linter.all false
set_option maxRecDepth 100000
set_option maxHeartbeats 4000000
/-! Own operators, truth, static methods of plain own classes. -/
namespace OwnX
open PySem PySem.Spec PyProof.Rows L2

section
variable {X : Cx} {CX : CXT} {pins : List (Addr × Obj)} {σ : L2.St} {H : Hp} {s : Shared} {a C dx f p : Addr} {k : Nat} {fd : FuncData} {ps : List Str} {sp : Sp} {E : XK} {m : Str} {mc : Value}

/-- a def is called below the running body -/
theorem run_call {Q : VK} {A : Around} {us : List Value} {vs : List V} (F : FnOk X.prog X.w X.K X.mg X.base CX k f fd ps sp) (hr : Room k A) (e0 : Env0 X.prog X.w X.K X.mg X.base A X.stack s H) (hb : Binds X.K fd ps []) (hx : Passes CX X E)
    (I : Inv X pins σ H s) (r : Vals vs us) (h : sp vs H Q E) : wpAny (model X.prog X.w) A (call (.ref f) us) (EP X pins σ Q) X.xe s := by
  have hl : us.length = ps.length := by rw [← F.len _ _ _ _ h, r.length]
  refine wpAny_call (codeAny_mono (F.run A X.stack s H ⟨us, []⟩ us vs Q E hr e0 (by
    have := hb s us I.kIn (by simpa using hl)
    simpa using this) r h) fun r s' hq => ?_)
  cases r with
  | error e => exact hx pins σ H s e s' I hq
  | ok fl =>
    cases fl with
    | ret w => exact I.after hq
    | next => exact False.elim hq
    | brk => exact False.elim hq
    | cont => exact False.elim hq
theorem cmpback {P : Value → Shared → Prop} {z : V} {v : Value} {s' : Shared} (r : RelV z v) (h : P v s') : PySem.W.CmpBack P v s' := by
  cases z with
  | non => cases (show v = Value.none from r); exact h
  | bl b => cases (show v = Value.bool b from r); exact h
  | int i =>
    obtain ⟨t, e⟩ := (show ∃ t, v = Value.int i t from r)
    cases e
    exact h
  | str x =>
    obtain ⟨t, e⟩ := (show ∃ t, v = Value.str x t from r)
    cases e
    exact h
  | byt b =>
    obtain ⟨t, e⟩ := (show ∃ t, v = Value.bytes b t from r)
    cases e
    exact h
  | flt b =>
    obtain ⟨t, e⟩ := (show ∃ t, v = Value.float b t from r)
    cases e
    exact h
  | ref a => cases (show v = Value.ref a from r); exact h
  | ty n => cases (show v = Value.type n from r); exact h
/-- x op y, both instances of the class at C -/
def rOwn (C : Addr) (sp : Sp) (E : XK) : R2 := fun x y H Q => ∃ a dx fs b dy gs, x = .ref a ∧ y = .ref b ∧ H a = some (.ins C dx fs) ∧ H b = some (.ins C dy gs) ∧ sp [x, y] H Q E
theorem op_bin {op : Operator} (hc : PySem.W.selfFirst X.K C = true) (M : Meth X.K C (PySem.dunder op.info.2) f) (F : FnOk X.prog X.w X.K X.mg X.base CX k f fd ps sp) (hr : Room k X.A) (hb : Binds X.K fd ps []) (hx : Passes CX X E) :
    OpR X (binaryOp op) (rOwn C sp E) := by
  intro pins s σ H x y v u Q I rx ry h
  obtain ⟨a, dx, fs, b, dy, gs, rfl, rfl, ha, hb', q⟩ := h
  cases (show v = Value.ref a from rx)
  cases (show u = Value.ref b from ry)
  obtain ⟨mA, J, _⟩ := ins_get I.hok ha
  obtain ⟨mB, J', _⟩ := ins_get I.hok hb'
  obtain ⟨od, J, _⟩ := J.look
  obtain ⟨od', J', _⟩ := J'.look
  obtain ⟨m, hF⟩ := I.fr
  refine PySem.W.binop_K (op := op) hF I.ok.mod.kin J J'.type hc M.at_ M.fn ?_
  refine wpAny_mono (run_call (us := [.ref a, .ref b]) (vs := [.ref a, .ref b]) F hr I.env0 hb hx I (.cons rfl (.cons rfl .nil)) q) (fun w s' z => ?_) fun _ _ x => x
  obtain ⟨z', H', I', rz, qz⟩ := z
  exact cmpback rz ⟨z', H', I', rz, qz⟩
theorem op_cmp {op : CmpOp} (hop : ∀ a b, compareOp op a b = richCompare op a b) (M : Meth X.K C (cmpInfo op).2.1 f) (F : FnOk X.prog X.w X.K X.mg X.base CX k f fd ps sp) (hr : Room k X.A) (hb : Binds X.K fd ps []) (hx : Passes CX X E) :
    OpR X (compareOp op) (rOwn C sp E) := by
  intro pins s σ H x y v u Q I rx ry h
  obtain ⟨a, dx, fs, b, dy, gs, rfl, rfl, ha, hb', q⟩ := h
  cases (show v = Value.ref a from rx)
  cases (show u = Value.ref b from ry)
  obtain ⟨mA, J, _⟩ := ins_get I.hok ha
  obtain ⟨mB, J', _⟩ := ins_get I.hok hb'
  obtain ⟨od, J, _⟩ := J.look
  obtain ⟨od', J', _⟩ := J'.look
  obtain ⟨m, hF⟩ := I.fr
  rw [hop]
  refine PySem.W.cmp_K (op := op) (tb := .ref C) hr.units0 hF I.ok.mod.kin J J'.type (by simp [PySem.W.notFirst]) M.at_ M.fn ?_
  refine wpAny_mono (run_call (us := [.ref a, .ref b]) (vs := [.ref a, .ref b]) F hr I.env0 hb hx I (.cons rfl (.cons rfl .nil)) q) (fun w s' z => ?_) fun _ _ x => x
  obtain ⟨z', H', I', rz, qz⟩ := z
  exact cmpback rz ⟨z', H', I', rz, qz⟩
/-- ~x -/
def rOwn1 (C : Addr) (sp : Sp) (E : XK) : V → Hp → VK → Prop := fun x H Q => ∃ a dx fs, x = .ref a ∧ H a = some (.ins C dx fs) ∧ sp [x] H Q E
theorem un_inv (M : Meth X.K C "__invert__" f) (F : FnOk X.prog X.w X.K X.mg X.base CX k f fd ps sp) (hr : Room k X.A) (hb : Binds X.K fd ps []) (hx : Passes CX X E) : UnR X (unaryOp .Invert) (rOwn1 C sp E) := by
  intro pins s σ H x v Q I rx h
  obtain ⟨a, dx, fs, rfl, ha, q⟩ := h
  cases (show v = Value.ref a from rx)
  obtain ⟨mA, J, _⟩ := ins_get I.hok ha
  obtain ⟨od, J, _⟩ := J.look
  obtain ⟨m, hF⟩ := I.fr
  exact PySem.W.ksp_inv hF I.ok.mod.kin J M.at_ M.fn (run_call (us := [.ref a]) (vs := [.ref a]) F hr I.env0 hb hx I (.cons rfl .nil) q)
/-- the truth of x by its own __bool__ -/
def rTruth (C : Addr) (sp : Sp) (E : XK) : V → Hp → (Bool → Hp → Prop) → Prop := fun x H Q => ∃ a dx fs, x = .ref a ∧ H a = some (.ins C dx fs) ∧ sp [x] H (fun v H' => ∃ b, v = .bl b ∧ Q b H') E
theorem truth_at {A : Around} {Q : Bool → Hp → Prop} {E' : Value → Shared → Prop} (I : Inv X pins σ H s) (e : H a = some (.ins C dx fs)) (M : Meth X.K C "__bool__" f)
    (h : wpAny (model X.prog X.w) A (call (.ref f) [.ref a]) (EP X pins σ fun v H' => ∃ b, v = .bl b ∧ Q b H') E' s) : wpAny (model X.prog X.w) A (truthy (.ref a)) (TP X pins σ Q) E' s := by
  obtain ⟨mA, J, _⟩ := ins_get I.hok e
  obtain ⟨od, J, _⟩ := J.look
  obtain ⟨m, hF⟩ := I.fr
  refine PySem.W.truthy_K hF I.ok.mod.kin J M.at_ M.fn (wpAny_mono h (fun r s' hr => ?_) fun _ _ y => y)
  obtain ⟨v, H', I', rv, b, ev, q⟩ := hr
  subst ev
  cases (show r = Value.bool b from rv)
  exact ⟨H', I', q⟩
theorem tru_own (M : Meth X.K C "__bool__" f) (F : FnOk X.prog X.w X.K X.mg X.base CX k f fd ps sp) (hr : Room k X.A) (hb : Binds X.K fd ps []) (hx : Passes CX X E) : TruR X (rTruth C sp E) := by
  intro pins s σ H x v Q I rx h
  obtain ⟨a, dx, fs, rfl, ha, q⟩ := h
  cases (show v = Value.ref a from rx)
  exact truth_at I ha M (run_call (us := [.ref a]) (vs := [.ref a]) F hr I.env0 hb hx I (.cons rfl .nil) q)
/-- a test that is an own instance's truth -/
theorem pt_own {e : Expr} {ta : TE} (ha : PE X e ta) (M : Meth X.K C "__bool__" f) (F : FnOk X.prog X.w X.K X.mg X.base CX k f fd ps sp) (hr : Room k X.A) (hb : Binds X.K fd ps []) (hx : Passes CX X E)
    (he : ∀ whole, isTrue e X.env whole = (do let v ← whole; standAt e.pos; holding [v] (truthy v)) := by intro _; rfl) :
    PT X e (fun σ H Q => ta σ H fun x H' => rTruth C sp E x H' Q) := by
  refine ⟨fun pins s σ H Q I h => ?_⟩
  exact isTrue_plain (thn (ha.run pins s σ H _ I h) fun v s1 ⟨x, H1, I1, r1, q1⟩ => tru_own M F hr hb hx pins s1 σ H1 x v Q I1 r1 q1) (he _)
/-- bool(x) -/
theorem bool_own {A : Around} {x : Addr} {Q : Value → Shared → Prop} {E' : Value → Shared → Prop} {prog : Program} {w : World} {s : Shared}
    (h : wpAny (model prog w) A.in1.in1 (truthy (.ref x)) (fun b s₁ => Q (.bool b) s₁) E' s) : wpAny (model prog w) A (call (.type "bool") [.ref x]) Q E' s := by
  refine callType_codes (T := "bool") (Bi := Builtin.«object.__init__») (Q₁ := fun r s₁ => ∃ b, r = Value.bool b ∧ Q r s₁) PySem.F.called_bool (PySem.F.typeCall_bool_1 _) PySem.F.entry_object_init ?_ ?_
  · refine codeAny_of_tree ?_
    show wpAny _ A.in1.in1 (do checkBuiltinCall "bool.__new__" ⟨[.type "bool", .ref x], []⟩; again (.builtin "bool.__new__" ⟨[.type "bool", .ref x], []⟩)) _ _ s
    refine wpAny_bind (wpAny_of_eq (PySem.F.newCall_bool_1 _) (wpAny_pure ⟨plainId_quiet (by decide +kernel) _, codeAny_builtin PySem.F.entry_bool_new ?_⟩))
    rw [Around.under_plainId (by decide +kernel) _]
    unfold Builtin.«bool.__new__»
    refine wpAny_bind (wpAny_of_eq (a := true) (by kernel_rfl) ?_)
    refine PySem.W.KFB.if_not rfl ?_
    refine wpAny_bind (wpAny_of_eq (a := true) PySem.F.conv_sub_bool ?_)
    refine PySem.W.KFB.if_not rfl ?_
    refine wpAny_bind (wpAny_of_eq (a := [Value.ref x]) (by kernel_rfl) ?_)
    exact wpAny_bind (wpAny_mono h (fun b s₁ hb => wpAny_pure ⟨b, rfl, hb⟩) fun _ _ y => y)
  · rintro obj s₁ ⟨b, rfl, hq⟩
    exact ⟨rfl, PySem.F.args_object_init_2 _ _, object_init_meets PySem.F.called_bool.init.lookup PySem.F.called_bool.made (by decide) prog w A.in1 _ s₁ ⟨rfl, rfl, hq⟩⟩
end
end OwnX

end
section
set_option Elab.async false
set_option linter.all false
set_option maxRecDepth 100000
set_option maxHeartbeats 4000000
/-! The head's facts by a Hook of one Bool, defs at any address; calls of such defs. -/
namespace Hk
open PySem PySem.Spec PyProof.Rows L2
open He (ga ma ba eqO eqO_ok frG frG_in)
open He5 (DefA fnA asA wf)

def obsE (ex : PySem.W.Frag → Bool) (fn : List DefA) (K : PySem.W.Frag) : He.AlD := (ex K && fn.all fun d => d.ok K, fn.map fun d => fnA K (d.at_ K))
def valE (fn : List DefA) : He.AlD := (true, fn.map DefA.val)
def SaysE (ex : PySem.W.Frag → Bool) (fn : List DefA) (K : PySem.W.Frag) : Prop := obsE ex fn K = valE fn
def obsEG (n : Nat) (ex : PySem.W.Frag → Bool) (fn : List DefA) (g : Addr → Option Obj) : He.AlD := obsE ex fn (frG g (asA g n))
def hookE (n : Nat) (ex : PySem.W.Frag → Bool) (fn : List DefA) : PySem.W.Hook where
  α := He.AlD
  obs := fun s => obsEG n ex fn s.heap.get?
  val := fun _ => valE fn
  says := fun _ h => ∃ K : PySem.W.Frag, K.In h ∧ SaysE ex fn K
  of := fun _ _ e => ⟨_, frG_in, e⟩
  keeps := fun _ _ _ ⟨K, hK, c⟩ k => ⟨K, PySem.W.Frag.In.keeps hK k, c⟩
theorem obsEG_eq {n : Nat} {ex : PySem.W.Frag → Bool} {fn : List DefA} {g : Addr → Option Obj} {s : Shared} (h : ∀ a, g a = s.heap.get? a) : obsEG n ex fn g = (hookE n ex fn).obs s := by
  have e : g = s.heap.get? := funext h
  rw [e] <;> rfl
section
variable {ex : PySem.W.Frag → Bool} {fn : List DefA} {K : PySem.W.Frag}
theorem SaysE.more (c : SaysE ex fn K) : ex K = true :=
  (ba (show (ex K && fn.all fun d => d.ok K) = true from congrArg (fun z : He.AlD => z.1) c)).1
theorem SaysE.def_ (c : SaysE ex fn K) (i : Nat) {d : DefA} (h : fn[i]? = some d := by rfl) : ∃ fd, FunD K d.name d.qual d.params d.body d.scope (d.dvs K) (d.kws K) (d.at_ K) fd := by
  have c2 := (ba (show (ex K && fn.all fun d => d.ok K) = true from congrArg (fun z : He.AlD => z.1) c)).2
  have e : fn.map (fun d => fnA K (d.at_ K)) = fn.map DefA.val := congrArg (fun z : He.AlD => z.2) c
  have e2 : (fn.map fun d => fnA K (d.at_ K))[i]? = (fn.map DefA.val)[i]? := by rw [e]
  rw [List.getElem?_map, List.getElem?_map, h] at e2
  exact DefA.funD (Option.some.inj e2) (List.all_eq_true.mp c2 d (List.mem_of_getElem? h))
end

/-! ### facts as Bools -/
/-- the getter's address of the property f of the class x -/
def pg (K : PySem.W.Frag) (x f : Str) : Addr := wf K (ga K x) "property" f
/-- the static method's def -/
def sg (K : PySem.W.Frag) (x f : Str) : Addr := wf K (ga K x) "staticmethod" f
def cg (K : PySem.W.Frag) (x f : Str) : Addr := wf K (ga K x) "classmethod" f
def mt (K : PySem.W.Frag) (x f : Str) : Addr := ma K (ga K x) f
/-- the module's name is this value -/
def nsB (K : PySem.W.Frag) (x : Str) (r : Option Value) : Bool := eqO (PySem.W.nsIn K mainGlobals x) (some r)
def selfB (K : PySem.W.Frag) (x : Str) : Bool := PySem.W.selfFirst K (ga K x)
def propB (K : PySem.W.Frag) (x f : Str) : Bool := eqO (PySem.W.findIn K (.ref (ga K x)) f) (some (some (.ref (mt K x f)))) && (eqO (PySem.W.specialIn K (.ref (mt K x f)) "__get__") (some (some (.builtin "property.__get__"))) &&
  (decide (PySem.W.takesIn K (.ref (mt K x f)) = some true) && (match PySem.W.recIn K (mt K x f) "property" with
    | some (.ref _ :: _) => true
    | _ => false)))
theorem prop_ok {K : PySem.W.Frag} {x f : Str} (h : propB K x f = true) : PropOf K (ga K x) f (mt K x f) (pg K x f) := by
  obtain ⟨h1, h⟩ := ba h
  obtain ⟨h2, h⟩ := ba h
  obtain ⟨h3, h4⟩ := ba h
  refine ⟨eqO_ok h1, eqO_ok h2, of_decide_eq_true h3, ?_⟩
  unfold pg wf
  show ∃ rest, PySem.W.recIn K (mt K x f) "property" = some (.ref (match PySem.W.recIn K (mt K x f) "property" with | some (.ref f :: _) => f | _ => 0) :: rest)
  split at h4
  · rename_i g r e
    exact ⟨r, by rw [e]⟩
  · cases h4
def statB (K : PySem.W.Frag) (x f : Str) : Bool := He5.wrapB K (ga K x) "staticmethod" "staticmethod.__get__" f && (PySem.W.keepIn K (.ref (sg K x f)))
def readB (K : PySem.W.Frag) (x : Str) : Bool := PySem.W.readsIn K (ga K x) (.type "type") && eqO (PySem.W.specialIn K (.ref (ga K x)) "__getattribute__") (some (some (.builtin "type.__getattribute__")))
theorem read_ok {K : PySem.W.Frag} {x : Str} (h : readB K x = true) : ClX.CRead K (ga K x) (.type "type") := by
  obtain ⟨h1, h2⟩ := ba h
  exact ⟨h1, eqO_ok h2⟩
/-- the class's value v -/
def cvalB (K : PySem.W.Frag) (x f : Str) (v : V) : Bool := match PySem.W.findCls K (.ref (ga K x)) (.type "type") f with
  | some (.val u) => He.relB v u
  | _ => false
theorem cval_ok {K : PySem.W.Frag} {x f : Str} {v : V} (h : cvalB K x f v = true) : ∃ u, ClX.CVal K (ga K x) (.type "type") f v u := by
  unfold cvalB at h
  split at h
  · rename_i u e
    exact ⟨u, e, He.relB_ok h⟩
  · cases h
/-- an own error class: bm its bases -/
def excB (K : PySem.W.Frag) (x : Str) (bm : List Value) : Bool := PySem.W.excIn K (ga K x) bm "ValueError.__new__" && (PySem.W.keepIn K (.ref (ga K x)) && (decide (PySem.W.subIn K (.ref (ga K x)) (.type "BaseException") = some true) && decide (PySem.W.typeIn K (.ref (ga K x)) = some (.type "type"))))
structure ExcF (K : PySem.W.Frag) (x : Str) (bm : List Value) : Prop where
  ex : PySem.W.excIn K (ga K x) bm "ValueError.__new__" = true
  kp : PySem.W.keepIn K (.ref (ga K x)) = true
  sb : PySem.W.subIn K (.ref (ga K x)) (.type "BaseException") = some true
  ty : PySem.W.typeIn K (.ref (ga K x)) = some (.type "type")
theorem exc_ok {K : PySem.W.Frag} {x : Str} {bm : List Value} (c : excB K x bm = true) : ExcF K x bm := by
  obtain ⟨c1, c⟩ := ba c
  obtain ⟨c2, c⟩ := ba c
  obtain ⟨c3, c4⟩ := ba c
  exact ⟨c1, c2, of_decide_eq_true c3, of_decide_eq_true c4⟩
/-- the module's names as the table tells them -/
def NsAll (K : PySem.W.Frag) (mg : Str → Option Value) : Prop := ∀ x r, PySem.W.nsIn K mainGlobals x = some r → mg x = r
theorem nsAll_of {K : PySem.W.Frag} {h : Heap} {mg : Str → Option Value} (X : K.In h) (G : h.Ns mainGlobals mg) : NsAll K mg := fun x r e => by
  cases r with
  | none => exact PySem.W.mg_none_of X G e
  | some v => exact PySem.W.mg_of X G e
theorem ns_ok {K : PySem.W.Frag} {mg : Str → Option Value} {x : Str} {r : Option Value} (N : NsAll K mg) (c : nsB K x r = true) : mg x = r := N x r (eqO_ok c)
theorem glo_ok {K : PySem.W.Frag} {mg : Str → Option Value} {x : Str} (N : NsAll K mg) (c : (He.Fa.glo x).ok K = true) : mg x = some (.ref (ga K x)) := N x _ (eqO_ok c)
theorem free_ok {K : PySem.W.Frag} {mg : Str → Option Value} {x : Str} (N : NsAll K mg) (c : (He.Fa.free x).ok K = true) : mg x = none := N x _ (eqO_ok c)

/-! ### defs that keep promises -/
section
variable {P : Program} {w : World} {K : PySem.W.Frag} {mg : Str → Option Value} {base : Heap}
/-- the module's def x keeps the promise -/
structure GOk (P : Program) (w : World) (K : PySem.W.Frag) (mg : Str → Option Value) (base : Heap) (CX : CXT) (k : Nat) (x : Str) (ps : List Str) (sp : Sp) : Prop where
  g : mg x = some (.ref (ga K x))
  ex : ∃ fd, PySem.W.keepIn K (.ref (ga K x)) = true ∧ Binds K fd ps [] ∧ FnOk P w K mg base CX k (ga K x) fd ps sp
theorem GOk.mono {CX : CXT} {j k : Nat} {x : Str} {ps : List Str} {sp : Sp} (G : GOk P w K mg base CX j x ps sp) (h : j ≤ k) : GOk P w K mg base CX k x ps sp :=
  let ⟨fd, a, b, c⟩ := G.ex
  ⟨G.g, fd, a, b, c.mono h⟩
theorem GOk.imp {CX : CXT} {k : Nat} {x : Str} {ps : List Str} {sp sp' : Sp} (G : GOk P w K mg base CX k x ps sp) (h : ∀ vs H Q E, sp' vs H Q E → sp vs H Q E) : GOk P w K mg base CX k x ps sp' :=
  let ⟨fd, a, b, c⟩ := G.ex
  ⟨G.g, fd, a, b, c.imp h⟩
/-- a method, a getter, a static method at an address -/
structure AOk (P : Program) (w : World) (K : PySem.W.Frag) (mg : Str → Option Value) (base : Heap) (CX : CXT) (k : Nat) (a : Addr) (ps : List Str) (sp : Sp) : Prop where
  ex : ∃ fd, Binds K fd ps [] ∧ FnOk P w K mg base CX k a fd ps sp
theorem AOk.mono {CX : CXT} {j k : Nat} {a : Addr} {ps : List Str} {sp : Sp} (G : AOk P w K mg base CX j a ps sp) (h : j ≤ k) : AOk P w K mg base CX k a ps sp :=
  let ⟨fd, b, c⟩ := G.ex
  ⟨fd, b, c.mono h⟩
end
section
variable {X : Cx} {CX : CXT} {k : Nat} {x : Str} {ps : List Str} {sp : Sp} {E : XK} {e : Expr} {es : List Expr} {p pos apos : Pos} {t : TA} {ta : TE} {cls m : Str} {C : Addr} {o : Expr} {a b : Expr} {tb : TE}
/-- f(e, ..) -/
theorem pe_g (G : GOk X.prog X.w X.K X.mg X.base CX k x ps sp) (hr : Room k X.A) (hx : Passes CX X E) (ha : PA X (e :: es) t) (hg : Gl X x := by rfl)
    (hdb : (x == ("__debug__" : Str)) = false := by decide) (he : starEach (e :: es) X.env = (false, eval e X.env) :: starEach es X.env := by rfl) (hpl : (backTo pos (starEach es X.env)).any (·.1) = false := by rfl) :
    PE X (.Call (.Name x p) (e :: es) [] pos) (tCall sp [] E t) := by
  obtain ⟨fd, h1, h2, h3⟩ := G.ex
  exact pe_call h3 hr hg G.g h1 h2 .nil hx ha hdb he hpl
theorem pe_g0 (G : GOk X.prog X.w X.K X.mg X.base CX k x ps sp) (hr : Room k X.A) (hx : Passes CX X E) (hg : Gl X x := by rfl) (hdb : (x == ("__debug__" : Str)) = false := by decide) : PE X (.Call (.Name x p) [] [] pos) (tCall sp [] E tNil) := by
  obtain ⟨fd, h1, h2, h3⟩ := G.ex
  exact pe_call0 h3 hr hg G.g h1 h2 .nil hx hdb
/-- o.m(e, ..) -/
theorem pe_m {pl : Sem Bool} (G : AOk X.prog X.w X.K X.mg X.base CX k (ma X.K C m) ps sp) (c : Cls X.K C) (hm : Meth X.K C m (ma X.K C m)) (hr : Room k X.A) (hx : Passes CX X E) (he : PE X o ta) (ha : PA X (e :: es) t)
    (hst : starEach (e :: es) X.env = (false, eval e X.env) :: starEach es X.env := by rfl) (hpl : (backTo pos (starEach es X.env)).any (·.1) = false := by rfl)
    (ht : eval (.Call (.Attribute o m apos) (e :: es) [] pos) X.env = (do
      let ov ← eval o X.env
      standAt apos.atName
      let (f, first) ← holding [ov] (getMethod ov m pl)
      callWith pos f first (backTo pos (starEach (e :: es) X.env)) (backToKw pos (keywordEach [] X.env))) := by rfl) :
    PE X (.Call (.Attribute o m apos) (e :: es) [] pos) (tMeth C m sp [] E ta t) := by
  obtain ⟨fd, h2, h3⟩ := G.ex
  exact pe_meth he c hm h3 hr h2 .nil hx ha hst hpl ht
/-- o.f, a property -/
theorem pe_p {pr a' : Addr} (G : AOk X.prog X.w X.K X.mg X.base CX k a' ps sp) (c : Cls X.K C) (hp : PropOf X.K C m pr a') (hr : Room (k + 1) X.A) (hx : Passes CX X.nox E) (he : PE X o ta)
    (hab : attributeBase o m X.env (eval o X.env) = eval o X.env := by rfl) : PE X (.Attribute o m pos) (tProp C sp [] E ta) := by
  obtain ⟨fd, h2, h3⟩ := G.ex
  exact pe_prop he c hp h3 hr h2 .nil hx hab
theorem op_bin {op : Operator} (G : AOk X.prog X.w X.K X.mg X.base CX k f ps sp) (hc : PySem.W.selfFirst X.K C = true) (M : Meth X.K C (PySem.dunder op.info.2) f) (hr : Room k X.A) (hx : Passes CX X E) : OpR X (binaryOp op) (OwnX.rOwn C sp E) := by
  obtain ⟨fd, h2, h3⟩ := G.ex
  exact OwnX.op_bin hc M h3 hr h2 hx
theorem op_cmp {op : CmpOp} (G : AOk X.prog X.w X.K X.mg X.base CX k f ps sp) (hop : ∀ a b, compareOp op a b = richCompare op a b) (M : Meth X.K C (cmpInfo op).2.1 f) (hr : Room k X.A) (hx : Passes CX X E) : OpR X (compareOp op) (OwnX.rOwn C sp E) := by
  obtain ⟨fd, h2, h3⟩ := G.ex
  exact OwnX.op_cmp hop M h3 hr h2 hx
theorem un_inv (G : AOk X.prog X.w X.K X.mg X.base CX k f ps sp) (M : Meth X.K C "__invert__" f) (hr : Room k X.A) (hx : Passes CX X E) : UnR X (unaryOp .Invert) (OwnX.rOwn1 C sp E) := by
  obtain ⟨fd, h2, h3⟩ := G.ex
  exact OwnX.un_inv M h3 hr h2 hx
theorem pt_own (G : AOk X.prog X.w X.K X.mg X.base CX k f ps sp) (M : Meth X.K C "__bool__" f) (hr : Room k X.A) (hx : Passes CX X E) (ha : PE X e ta)
    (he : ∀ whole, isTrue e X.env whole = (do let v ← whole; standAt e.pos; holding [v] (truthy v)) := by intro _; rfl) : PT X e (fun σ H Q => ta σ H fun x H' => OwnX.rTruth C sp E x H' Q) := by
  obtain ⟨fd, h2, h3⟩ := G.ex
  exact OwnX.pt_own ha M h3 hr h2 hx he
/-- bool(x), x an own instance -/
theorem call_bool (G : AOk X.prog X.w X.K X.mg X.base CX k f ps sp) (M : Meth X.K C "__bool__" f) (hr : Room (k + 2) X.A) (hx : Passes CX X E) : CallR X (.type "bool") (fun xs H Q => ∃ x, xs = [x] ∧ OwnX.rTruth C sp E x H fun b H' => Q (.bl b) H') := by
  obtain ⟨fd, h2, h3⟩ := G.ex
  intro pins s σ H xs us Q I r h
  obtain ⟨x, rfl, a, dx, fs, rfl, ha, q⟩ := h
  obtain ⟨u, rfl, ru⟩ := r.one
  cases (show u = Value.ref a from ru)
  have hr2 : Room k X.A.in1.in1 := (show Room (k + 1) X.A.in1 from Room.in1 hr).in1
  refine OwnX.bool_own (wpAny_mono (OwnX.truth_at I ha M (OwnX.run_call (us := [.ref a]) (vs := [.ref a]) h3 hr2 I.env0.in1.in1 h2 hx I (.cons rfl .nil) q)) (fun b s' z => ?_) fun _ _ y => y)
  obtain ⟨H', I', q'⟩ := z
  exact ⟨.bl b, H', I', rfl, q'⟩
/-- C(e, ..) -/
theorem pe_mk (M : Mk X.K C f) (G : AOk X.prog X.w X.K X.mg X.base CX k f ps sp) (hm : X.mg x = some (.ref C)) (hr : Room (k + 1) X.A) (hx : Passes CX X E) (ha : PA X (e :: es) t) (hg : Gl X x := by rfl)
    (hdb : (x == ("__debug__" : Str)) = false := by decide) (he : starEach (e :: es) X.env = (false, eval e X.env) :: starEach es X.env := by rfl) (hpl : (backTo pos (starEach es X.env)).any (·.1) = false := by rfl) :
    PE X (.Call (.Name x p) (e :: es) [] pos) (tMake C sp [] E t) := by
  obtain ⟨fd, h2, h3⟩ := G.ex
  exact pe_make M h3 hr hg hm h2 .nil hx ha hdb he hpl
end
/-! ### static methods called off the class -/
/-- e.m(..), e the class at C -/
def tStat (C : Addr) (sp : Sp) (E : XK) (ta : TE) (t : TA) : TE := fun σ H Q => ta σ H fun x H1 => x = .ref C ∧ t σ H1 fun vs H2 => sp vs H2 Q E
section
variable {X : Cx} {CX : CXT} {k : Nat} {x : Str} {ps : List Str} {sp : Sp} {E : XK} {e : Expr} {es : List Expr} {p pos apos : Pos} {t : TA} {ta : TE} {m : Str} {o : Expr}
theorem pe_s {pl : Sem Bool} (G : AOk X.prog X.w X.K X.mg X.base CX k (sg X.K x m) ps sp) (r : readB X.K x = true) (c : statB X.K x m = true) (hr : Room k X.A) (hx : Passes CX X E) (hex : PE X o ta) (ha : PA X (e :: es) t)
    (hst : starEach (e :: es) X.env = (false, eval e X.env) :: starEach es X.env := by rfl) (hpl : (backTo pos (starEach es X.env)).any (·.1) = false := by rfl)
    (ht : eval (.Call (.Attribute o m apos) (e :: es) [] pos) X.env = (do
      let ov ← eval o X.env
      standAt apos.atName
      let (f, first) ← holding [ov] (getMethod ov m pl)
      callWith pos f first (backTo pos (starEach (e :: es) X.env)) (backToKw pos (keywordEach [] X.env))) := by rfl) :
    PE X (.Call (.Attribute o m apos) (e :: es) [] pos) (tStat (ga X.K x) sp E ta t) := by
  obtain ⟨fd, h2, h3⟩ := G.ex
  obtain ⟨c1, c2⟩ := ba c
  obtain ⟨w1, rest, w2⟩ := He5.wrapB_ok c1
  have R := read_ok r
  refine ⟨fun pins s σ H Q I h => ?_⟩
  refine PySem.W.methodCall_KW (pl := pl) (thn (hex.run pins s σ H _ I h) fun u s1 ⟨y, H1, I1, rx, ex, q⟩ => ?_) ht
  subst ex
  obtain rfl : u = Value.ref (ga X.K x) := rx
  refine PySem.W.method_cls I1.kIn R.ga (PySem.W.cls_bind I1.kIn R.rd w1 (wpAny_call (PySem.W.sm_get (s := { s1 with toks := s1.toks + 1 }) I1.kIn w2 (PySem.W.handed_on rfl ?_))))
  have I2 := I1.tok (s1.toks + 1)
  refine PySem.W.callWith_K (h₀ := X.base) I2.ok.mod.kin c2 (thn (ha.run pos pins _ σ H1 _ I2 q) fun us s3 ⟨vs, H2, I3, rv, q2⟩ => ⟨I3.kIn, ?_⟩) hst hpl
  exact OwnX.run_call h3 hr I3.env0 h2 hx I3 rv q2
end
/-! ### a def of the text and its promise -/
section
variable {P : Program} {w : World} {K : PySem.W.Frag} {mg : Str → Option Value} {base : Heap} {nm qual : Str} {st : Stmt} {N ps : List Str} {k : Nat} {CX : CXT} {sp : Sp} {a : Addr}
theorem mkFX (F : ∃ fd, FunD K nm qual (defArgs st) (defBody st) (defScope st) [] [] a fd)
    (hb : ∀ (kV doc pm : Value) (an : Option Addr) (cdv ct : Value) (us : List Value), us.length = ps.length → bindArgs (PySem.W.fnOf nm qual (defArgs st) (defBody st) (defScope st) .none kV doc pm an cdv ct) ⟨us, []⟩ = pure (ps.zip us))
    (S : FnScope N ps (defScope st)) (len : ∀ vs H Q E, sp vs H Q E → vs.length = ps.length)
    (hbody : ∀ (cdv : Value) (A : Around) (outer : List Env) (s : Shared) (H : Hp) (vs : List V) (Q : VK) (E : XK), Room k (A.deeper (envOfC qual (defScope st) s.heap.objs.size a cdv)) → sp vs H Q E →
      ∃ t, PSs (cxOf CX P w K mg base N qual (defScope st) a cdv A outer s H E) (defBody st) t ∧ t { nx := fun _ H' => Q .non H', rt := Q } (start N vs) H) :
    ∃ fd, PySem.W.keepIn K (.ref a) = true ∧ Binds K fd ps [] ∧ FnOk P w K mg base CX (k + 1) a fd ps sp := by
  obtain ⟨fd, F⟩ := F
  exact ⟨fd, F.kp, F.bindsN hb, F.ok S len hbody⟩
theorem mkGX (g : mg nm = some (.ref (ga K nm))) (F : ∃ fd, FunD K nm qual (defArgs st) (defBody st) (defScope st) [] [] (ga K nm) fd)
    (hb : ∀ (kV doc pm : Value) (an : Option Addr) (cdv ct : Value) (us : List Value), us.length = ps.length → bindArgs (PySem.W.fnOf nm qual (defArgs st) (defBody st) (defScope st) .none kV doc pm an cdv ct) ⟨us, []⟩ = pure (ps.zip us))
    (S : FnScope N ps (defScope st)) (len : ∀ vs H Q E, sp vs H Q E → vs.length = ps.length)
    (hbody : ∀ (cdv : Value) (A : Around) (outer : List Env) (s : Shared) (H : Hp) (vs : List V) (Q : VK) (E : XK), Room k (A.deeper (envOfC qual (defScope st) s.heap.objs.size (ga K nm) cdv)) → sp vs H Q E →
      ∃ t, PSs (cxOf CX P w K mg base N qual (defScope st) (ga K nm) cdv A outer s H E) (defBody st) t ∧ t { nx := fun _ H' => Q .non H', rt := Q } (start N vs) H) : GOk P w K mg base CX (k + 1) nm ps sp :=
  ⟨g, mkFX F hb S len hbody⟩
theorem mkAX (F : ∃ fd, FunD K nm qual (defArgs st) (defBody st) (defScope st) [] [] a fd)
    (hb : ∀ (kV doc pm : Value) (an : Option Addr) (cdv ct : Value) (us : List Value), us.length = ps.length → bindArgs (PySem.W.fnOf nm qual (defArgs st) (defBody st) (defScope st) .none kV doc pm an cdv ct) ⟨us, []⟩ = pure (ps.zip us))
    (S : FnScope N ps (defScope st)) (len : ∀ vs H Q E, sp vs H Q E → vs.length = ps.length)
    (hbody : ∀ (cdv : Value) (A : Around) (outer : List Env) (s : Shared) (H : Hp) (vs : List V) (Q : VK) (E : XK), Room k (A.deeper (envOfC qual (defScope st) s.heap.objs.size a cdv)) → sp vs H Q E →
      ∃ t, PSs (cxOf CX P w K mg base N qual (defScope st) a cdv A outer s H E) (defBody st) t ∧ t { nx := fun _ H' => Q .non H', rt := Q } (start N vs) H) : AOk P w K mg base CX (k + 1) a ps sp :=
  let ⟨fd, _, b, c⟩ := mkFX F hb S len hbody
  ⟨fd, b, c⟩
theorem mkF (F : ∃ fd, FunD K nm qual (defArgs st) (defBody st) (defScope st) [] [] a fd)
    (hb : ∀ (kV doc pm : Value) (an : Option Addr) (cdv ct : Value) (us : List Value), us.length = ps.length → bindArgs (PySem.W.fnOf nm qual (defArgs st) (defBody st) (defScope st) .none kV doc pm an cdv ct) ⟨us, []⟩ = pure (ps.zip us))
    (S : FnScope N ps (defScope st)) (len : ∀ vs H Q E, sp vs H Q E → vs.length = ps.length)
    (hbody : ∀ (cdv : Value) (A : Around) (outer : List Env) (s : Shared) (H : Hp) (vs : List V) (Q : VK) (E : XK), Room k (A.deeper (envOfC qual (defScope st) s.heap.objs.size a cdv)) → sp vs H Q E →
      ∃ t, PSs (cxOf CX P w K mg base N qual (defScope st) a cdv A outer s H E).nox (defBody st) t ∧ t { nx := fun _ H' => Q .non H', rt := Q } (start N vs) H) :
    ∃ fd, PySem.W.keepIn K (.ref a) = true ∧ Binds K fd ps [] ∧ FnOk P w K mg base CX (k + 1) a fd ps sp := by
  obtain ⟨fd, F⟩ := F
  exact ⟨fd, F.kp, F.bindsN hb, F.ok S len fun cdv A outer s H vs Q E hr h => let ⟨t, h1, h2⟩ := hbody cdv A outer s H vs Q E hr h; ⟨t, h1.nox, h2⟩⟩
theorem mkG (g : mg nm = some (.ref (ga K nm))) (F : ∃ fd, FunD K nm qual (defArgs st) (defBody st) (defScope st) [] [] (ga K nm) fd)
    (hb : ∀ (kV doc pm : Value) (an : Option Addr) (cdv ct : Value) (us : List Value), us.length = ps.length → bindArgs (PySem.W.fnOf nm qual (defArgs st) (defBody st) (defScope st) .none kV doc pm an cdv ct) ⟨us, []⟩ = pure (ps.zip us))
    (S : FnScope N ps (defScope st)) (len : ∀ vs H Q E, sp vs H Q E → vs.length = ps.length)
    (hbody : ∀ (cdv : Value) (A : Around) (outer : List Env) (s : Shared) (H : Hp) (vs : List V) (Q : VK) (E : XK), Room k (A.deeper (envOfC qual (defScope st) s.heap.objs.size (ga K nm) cdv)) → sp vs H Q E →
      ∃ t, PSs (cxOf CX P w K mg base N qual (defScope st) (ga K nm) cdv A outer s H E).nox (defBody st) t ∧ t { nx := fun _ H' => Q .non H', rt := Q } (start N vs) H) : GOk P w K mg base CX (k + 1) nm ps sp :=
  ⟨g, mkF F hb S len hbody⟩
theorem mkA (F : ∃ fd, FunD K nm qual (defArgs st) (defBody st) (defScope st) [] [] a fd)
    (hb : ∀ (kV doc pm : Value) (an : Option Addr) (cdv ct : Value) (us : List Value), us.length = ps.length → bindArgs (PySem.W.fnOf nm qual (defArgs st) (defBody st) (defScope st) .none kV doc pm an cdv ct) ⟨us, []⟩ = pure (ps.zip us))
    (S : FnScope N ps (defScope st)) (len : ∀ vs H Q E, sp vs H Q E → vs.length = ps.length)
    (hbody : ∀ (cdv : Value) (A : Around) (outer : List Env) (s : Shared) (H : Hp) (vs : List V) (Q : VK) (E : XK), Room k (A.deeper (envOfC qual (defScope st) s.heap.objs.size a cdv)) → sp vs H Q E →
      ∃ t, PSs (cxOf CX P w K mg base N qual (defScope st) a cdv A outer s H E).nox (defBody st) t ∧ t { nx := fun _ H' => Q .non H', rt := Q } (start N vs) H) : AOk P w K mg base CX (k + 1) a ps sp :=
  let ⟨fd, _, b, c⟩ := mkF F hb S len hbody
  ⟨fd, b, c⟩
end
theorem lk_hd {f : Str} {v : V} {l : List (Str × V)} : ((f, v) :: l).lookup f = some v := by simp [List.lookup]
theorem same_upd {H : Hp} {p : Addr} {o : HO} (h : H p = none) : Same H (upd H p o) := fun b x e => by
  rw [upd_ne (ne_of_none e h)]
  exact e
/-- isinstance(x, C), x an instance of an own class -/
theorem call_isiO {X : Cx} : CallR X (.builtin "isinstance") (rIsi X.K) := call_isi
/-! ### isinstance: what the classes must say -/
structure IsiF (K : PySem.W.Frag) (C : Addr) : Prop where
  cl : Cls K C
  ha : PySem.W.findIn K (.ref C) "__class__" = some (some (.builtin "object.__class__"))
  hn : PySem.W.specialIn K (.builtin "object.__class__") "__get__" = some (some (.builtin "getset_descriptor.__get__"))
  ht : PySem.W.takesIn K (.builtin "object.__class__") = some true
  hm : PySem.W.mroIn K C (.type "object") = some true
def isiB (K : PySem.W.Frag) (x : Str) : Bool := (He.Fa.cls x).ok K && (eqO (PySem.W.findIn K (.ref (ga K x)) "__class__") (some (some (.builtin "object.__class__"))) && (eqO (PySem.W.specialIn K (.builtin "object.__class__") "__get__") (some (some (.builtin "getset_descriptor.__get__"))) &&
  (decide (PySem.W.takesIn K (.builtin "object.__class__") = some true) && decide (PySem.W.mroIn K (ga K x) (.type "object") = some true))))
theorem isi_ok {K : PySem.W.Frag} {x : Str} (h : isiB K x = true) : IsiF K (ga K x) := by
  obtain ⟨h1, h⟩ := ba h
  obtain ⟨h2, h⟩ := ba h
  obtain ⟨h3, h⟩ := ba h
  obtain ⟨h4, h5⟩ := ba h
  exact ⟨He.cls_ok h1, eqO_ok h2, eqO_ok h3, of_decide_eq_true h4, of_decide_eq_true h5⟩
theorem IsiF.ty {K : PySem.W.Frag} {C a dx : Addr} {fs : List (Str × V)} {H : Hp} (F : IsiF K C) (e : H a = some (.ins C dx fs)) : TyX K H (.ref a) (.ref C) := .base (.ins e F.cl F.ha F.hn F.ht F.hm)
def excCB (K : PySem.W.Frag) (x : Str) : Bool := eqO (PySem.W.findIn K (.ref (ga K x)) "__getattribute__") (some (some (.builtin "BaseException.__getattribute__"))) && (eqO (PySem.W.findIn K (.ref (ga K x)) "__getattr__") (some none) &&
  (decide (PySem.W.subIn K (.ref (ga K x)) (.type "BaseException") = some true) && (PySem.W.hasDictIn K (ga K x) && (eqO (PySem.W.findIn K (.ref (ga K x)) "__class__") (some (some (.builtin "object.__class__"))) && (eqO (PySem.W.specialIn K (.builtin "object.__class__") "__get__") (some (some (.builtin "getset_descriptor.__get__"))) &&
  (decide (PySem.W.takesIn K (.builtin "object.__class__") = some true) && decide (PySem.W.mroIn K (ga K x) (.type "object") = some true)))))))
theorem excC_ok {K : PySem.W.Frag} {x : Str} (h : excCB K x = true) : ExcC K (ga K x) := by
  obtain ⟨h1, h⟩ := ba h
  obtain ⟨h2, h⟩ := ba h
  obtain ⟨h3, h⟩ := ba h
  obtain ⟨h4, h⟩ := ba h
  obtain ⟨h5, h⟩ := ba h
  obtain ⟨h6, h⟩ := ba h
  obtain ⟨h7, h8⟩ := ba h
  exact ⟨eqO_ok h1, eqO_ok h2, of_decide_eq_true h3, h4, eqO_ok h5, eqO_ok h6, of_decide_eq_true h7, of_decide_eq_true h8⟩
def kitB (K : PySem.W.Frag) (x y : Str) (b : Bool) : Bool := decide (PySem.W.kitOne K (.ref (ga K x)) (.ref (ga K y)) = some b)
/-! ### is True, is False -/
def rIsBo : R2 := fun x y H Q => ∃ b : Bool, y = .bl b ∧ Q (.bl (decide (x = .bl b))) H
section
variable {X : Cx}
theorem op_isB : OpR X (compareOp .Is) rIsBo := by
  intro pins s σ H x y v u Q I rx ry h
  obtain ⟨b, rfl, q⟩ := h
  cases (show u = Value.bool b from ry)
  by_cases e : x = .bl b
  · subst e
    cases (show v = Value.bool b from rx)
    exact wpAny_is_self rfl ⟨.bl true, H, I, rfl, by simpa using q⟩
  · refine wpAny_is_other (by cases x <;> first | (cases rx; rfl) | (obtain ⟨t, rfl⟩ := rx; rfl)) (fun z => ?_) ⟨.bl false, H, I, rfl, by simpa [e] using q⟩
    cases x <;> first
      | (cases rx; exact e (by cases z; rfl))
      | (obtain ⟨t, rfl⟩ := rx; cases z)
      | (cases rx; cases z)
end
/-- a tuple of the module, as a thing with methods -/
def tupO (K : PySem.W.Frag) (x : Str) : Bool := match K.lookup (ga K x) with
  | some ⟨.type c, none, _, _⟩ => decide (c = "tuple")
  | _ => false
theorem tupO_ok {K : PySem.W.Frag} {x : Str} (h : tupO K x = true) (H : Hp) : tyV K "tuple" (.ref (ga K x)) H := by
  unfold tupO at h
  cases q : K.lookup (ga K x) with
  | none => rw [q] at h; cases h
  | some o =>
    obtain ⟨oc, od, dt, sl⟩ := o
    rw [q] at h
    cases oc with
    | type c =>
      cases od with
      | none => exact Or.inr (Or.inl ⟨rfl, _, q, congrArg Value.type (of_decide_eq_true h), rfl⟩)
      | some d => cases h
    | _ => cases od <;> cases h
/-- a statement, and what follows it from whatever it leaves -/
theorem seq_rest {A B : TS} {D : Ends} {σ : L2.St} {H : Hp} (W : L2.St → Hp → Prop) (h : ∀ nx : L2.St → Hp → Prop, (∀ σ' H', W σ' H' → nx σ' H') → A { D with nx := nx } σ H) (r : ∀ σ' H', W σ' H' → B D σ' H') : tSeq A B D σ H := h (B D) r
theorem dI (a b : Int) : decide (V.int a = V.int b) = decide (a = b) := by simp only [V.int.injEq]
theorem dS (a b : Str) : decide (V.str a = V.str b) = decide (a = b) := by simp only [V.str.injEq]
theorem dB (a b : Bool) : decide (V.bl a = V.bl b) = decide (a = b) := by simp only [V.bl.injEq]
theorem fmod_lo {a b : Int} (h : 0 < b) : 0 ≤ a.fmod b := by rw [Int.fmod_eq_emod_of_nonneg _ (Int.le_of_lt h)]; exact Int.emod_nonneg _ (by omega)
theorem fmod_hi {a b : Int} (h : 0 < b) : a.fmod b < b := by rw [Int.fmod_eq_emod_of_nonneg _ (Int.le_of_lt h)]; exact Int.emod_lt_of_pos _ h
theorem atI_of {α : Type} {xs : List α} {i : Int} (h0 : 0 ≤ i) (h1 : i < xs.length) : ∃ x, atI xs i = some x ∧ xs[i.toNat]? = some x := by
  obtain ⟨j, rfl⟩ : ∃ j : Nat, i = (j : Int) := ⟨i.toNat, by omega⟩
  have hj : j < xs.length := by omega
  refine ⟨xs[j], atI_nat (List.getElem?_eq_getElem hj), ?_⟩
  rw [Int.toNat_natCast]
  exact List.getElem?_eq_getElem hj
theorem atI_map {α β : Type} {f : α → β} {xs : List α} {i : Int} (h0 : 0 ≤ i) (h1 : i < xs.length) : ∃ x, atI (xs.map f) i = some (f x) ∧ xs[i.toNat]? = some x := by
  obtain ⟨y, h2, h3⟩ := atI_of (xs := xs.map f) h0 (by rw [List.length_map]; exact h1)
  rw [List.getElem?_map] at h3
  cases e : xs[i.toNat]? with
  | none => rw [e] at h3; cases h3
  | some x =>
    rw [e] at h3
    cases h3
    exact ⟨x, h2, rfl⟩
theorem seq_skip {A B : TS} {D : Ends} {σ : L2.St} {H : Hp} (h : ∀ nx : L2.St → Hp → Prop, nx σ H → A { D with nx := nx } σ H) (r : B D σ H) : tSeq A B D σ H := h (B D) r
section
variable {K : PySem.W.Frag} {wi : TI} {g : TG} {tb : TS} {D : Ends} {σ : L2.St} {H H1 : Hp}
/-- for k in range(..) -/
theorem tfor_rng {lo : Int} {n : Nat} (Pv : Nat → L2.St → Hp → Prop) (hw : ∀ R : It → Hp → Prop, R (Itr lo n) H1 → wi σ H R) (h0 : Pv 0 σ H1)
    (hs : ∀ (i : Nat) σ H (nx : L2.St → Hp → Prop), i < n → Pv i σ H → (∀ σ' H', Pv (i + 1) σ' H' → nx σ' H') → g (.int (lo + i)) σ H fun σ2 H2 => tb { D with nx := nx, ct := nx, bk := D.nx } σ2 H2) (hd : ∀ σ H, Pv n σ H → D.nx σ H) : tFor wi g tb D σ H :=
  hw _ (for_range Pv h0 (fun i σ H hi hp => hs i σ H _ hi hp fun _ _ q => q) hd)
/-- for x in a list that stands still -/
theorem tfor_lst {a : Addr} {xs : List V} (Pv : Nat → L2.St → Hp → Prop) (hw : ∀ R : It → Hp → Prop, R (Itl K a) H1 → wi σ H R) (h0 : Pv 0 σ H1) (hl : ∀ i σ H, i ≤ xs.length → Pv i σ H → SqL K H a xs)
    (hs : ∀ (i : Nat) x σ H (nx : L2.St → Hp → Prop), xs[i]? = some x → Pv i σ H → (∀ σ' H', Pv (i + 1) σ' H' → nx σ' H') → g x σ H fun σ2 H2 => tb { D with nx := nx, ct := nx, bk := D.nx } σ2 H2) (hd : ∀ σ H, Pv xs.length σ H → D.nx σ H) : tFor wi g tb D σ H :=
  hw _ (for_list Pv h0 hl (fun i x σ H hi hp => hs i x σ H _ hi hp fun _ _ q => q) hd)
theorem tfor_tup {a : Addr} {xs : List V} (Pv : Nat → L2.St → Hp → Prop) (hw : ∀ R : It → Hp → Prop, R (Itt K a) H1 → wi σ H R) (h0 : Pv 0 σ H1) (hl : ∀ i σ H, i ≤ xs.length → Pv i σ H → SqT K H a xs)
    (hs : ∀ (i : Nat) x σ H (nx : L2.St → Hp → Prop), xs[i]? = some x → Pv i σ H → (∀ σ' H', Pv (i + 1) σ' H' → nx σ' H') → g x σ H fun σ2 H2 => tb { D with nx := nx, ct := nx, bk := D.nx } σ2 H2) (hd : ∀ σ H, Pv xs.length σ H → D.nx σ H) : tFor wi g tb D σ H :=
  hw _ (for_tup Pv h0 hl (fun i x σ H hi hp => hs i x σ H _ hi hp fun _ _ q => q) hd)
end
theorem ty_SqT {K : PySem.W.Frag} {H : Hp} {a : Addr} {xs : List V} (h : SqT K H a xs) : TyX K H (.ref a) (.type "tuple") := by
  rcases h with (h | ⟨o, h⟩) | ⟨o, its, n, h1, h2, _⟩
  · exact .base (.tup h)
  · exact .fTuple h
  · exact .kTuple h1 h2
theorem ty_SqL {K : PySem.W.Frag} {H : Hp} {a : Addr} {xs : List V} (h : SqL K H a xs) : TyX K H (.ref a) (.type "list") := by
  rcases h with (h | ⟨o, h⟩) | ⟨o, its, n, h1, h2, _⟩
  · exact .base (.lst h)
  · exact .base (.frz h)
  · exact .kList h1 h2
theorem DpAll.len {K : PySem.W.Frag} {H : Hp} : ∀ {xs : List V} {ds : List PyData}, DpAll K H xs ds → xs.length = ds.length
  | _, _, .nil => rfl
  | _, _, .cons _ t => congrArg Nat.succ (DpAll.len t)
theorem DpAll.get {K : PySem.W.Frag} {H : Hp} : ∀ {xs : List V} {ds : List PyData} {i : Nat} {d : PyData}, DpAll K H xs ds → ds[i]? = some d → ∃ x, xs[i]? = some x ∧ Dp K H x d
  | _, _, _, _, .nil, e => by simp at e
  | _, _, 0, _, .cons h _, e => by simp at e; subst e; exact ⟨_, rfl, h⟩
  | _, _, i + 1, d, .cons _ t, e => by
    obtain ⟨x, h1, h2⟩ := DpAll.get (i := i) (d := d) t (by simpa using e)
    exact ⟨x, by simpa using h1, h2⟩
/-! ### calls in a try's body -/
section
variable {X : Cx} {CX : CXT} {k : Nat} {x : Str} {ps : List Str} {sp : Sp} {E : L2.St → XK} {e : Expr} {es : List Expr} {p pos apos : Pos} {t : TA} {ta : TE} {m : Str} {o : Expr} {C : Addr}
theorem pe_gS (G : GOk X.prog X.w X.K X.mg X.base CX k x ps sp) (hr : Room k X.A) (hx : ∀ σ, PassesAt CX X σ (E σ)) (ha : PA X (e :: es) t) (hg : Gl X x := by rfl)
    (hdb : (x == ("__debug__" : Str)) = false := by decide) (he : starEach (e :: es) X.env = (false, eval e X.env) :: starEach es X.env := by rfl) (hpl : (backTo pos (starEach es X.env)).any (·.1) = false := by rfl) :
    PE X (.Call (.Name x p) (e :: es) [] pos) (tCallS sp E t) := by
  obtain ⟨fd, h1, h2, h3⟩ := G.ex
  exact pe_callS h3 hr hg G.g h1 h2 hx ha hdb he hpl
def tStatS (C : Addr) (sp : Sp) (E : L2.St → XK) (ta : TE) (t : TA) : TE := fun σ H Q => ta σ H fun x H1 => x = .ref C ∧ t σ H1 fun vs H2 => sp vs H2 Q (E σ)
theorem pe_sS {pl : Sem Bool} {K : PySem.W.Frag} (G : AOk X.prog X.w X.K X.mg X.base CX k (sg K x m) ps sp) (r : readB K x = true) (c : statB K x m = true) (hr : Room k X.A) (hx : ∀ σ, PassesAt CX X σ (E σ)) (hex : PE X o ta) (ha : PA X (e :: es) t) (hK : X.K = K := by rfl)
    (hst : starEach (e :: es) X.env = (false, eval e X.env) :: starEach es X.env := by rfl) (hpl : (backTo pos (starEach es X.env)).any (·.1) = false := by rfl)
    (ht : eval (.Call (.Attribute o m apos) (e :: es) [] pos) X.env = (do
      let ov ← eval o X.env
      standAt apos.atName
      let (f, first) ← holding [ov] (getMethod ov m pl)
      callWith pos f first (backTo pos (starEach (e :: es) X.env)) (backToKw pos (keywordEach [] X.env))) := by rfl) :
    PE X (.Call (.Attribute o m apos) (e :: es) [] pos) (tStatS (ga K x) sp E ta t) := by
  subst hK
  obtain ⟨fd, h2, h3⟩ := G.ex
  obtain ⟨c1, c2⟩ := ba c
  obtain ⟨w1, rest, w2⟩ := He5.wrapB_ok c1
  have R := read_ok r
  refine ⟨fun pins s σ H Q I h => ?_⟩
  refine PySem.W.methodCall_KW (pl := pl) (thn (hex.run pins s σ H _ I h) fun u s1 ⟨y, H1, I1, rx, ex, q⟩ => ?_) ht
  subst ex
  obtain rfl : u = Value.ref (ga X.K x) := rx
  refine PySem.W.method_cls I1.kIn R.ga (PySem.W.cls_bind I1.kIn R.rd w1 (wpAny_call (PySem.W.sm_get (s := { s1 with toks := s1.toks + 1 }) I1.kIn w2 (PySem.W.handed_on rfl ?_))))
  have I2 := I1.tok (s1.toks + 1)
  refine PySem.W.callWith_K (h₀ := X.base) I2.ok.mod.kin c2 (thn (ha.run pos pins _ σ H1 _ I2 q) fun us s3 ⟨vs, H2, I3, rv, q2⟩ => ⟨I3.kIn, ?_⟩) hst hpl
  exact run_fnS h3 hr h2 (hx σ) I3 rv q2
/-- isinstance(e, C), e the exception that the suite holds, of whatever own class -/
theorem call_isEx {a : Addr} {oe : Obj} {cls : Value} {d : Option Addr} {pn : List (Addr × Obj)} (hz : Zc cls d oe) (hf : ∃ vs, oe.data = .fields vs) :
    CallR (X.suite a ((a, oe) :: pn)) (.builtin "isinstance") (fun xs H Q => ∃ D, cls = .ref D ∧ d = none ∧ ExcC X.K D ∧ rIsE X.K D a xs H Q) := by
  intro pins s σ H xs us Q I r h
  obtain ⟨D, rfl, rfl, c, q⟩ := h
  exact call_isE c hz hf pins s σ H xs us Q I r q
end
theorem op_notIn_seqK {X : Cx} {K : PySem.W.Frag} (h : X.K = K := by rfl) : OpR X (compareOp .NotIn) (rIn K true) := h ▸ op_notIn_seq
theorem op_in_seqK {X : Cx} {K : PySem.W.Frag} (h : X.K = K := by rfl) : OpR X (compareOp .In) (rIn K false) := h ▸ op_in_seq
theorem mkL {P : Program} {w : World} {K : PySem.W.Frag} {mg : Str → Option Value} {base : Heap} {nm qual : Str} {st : Stmt} {N ps : List Str} {k : Nat} {CX : CXT} {sp : Sp} {a : Addr} {fd : FuncData} (F : FunD K nm qual (defArgs st) (defBody st) (defScope st) [] [] a fd)
    (S : FnScope N ps (defScope st)) (len : ∀ vs H Q E, sp vs H Q E → vs.length = ps.length)
    (hbody : ∀ (cdv : Value) (A : Around) (outer : List Env) (s : Shared) (H : Hp) (vs : List V) (Q : VK) (E : XK), Room k (A.deeper (envOfC qual (defScope st) s.heap.objs.size a cdv)) → sp vs H Q E →
      ∃ t, PSs (cxOf CX P w K mg base N qual (defScope st) a cdv A outer s H E).nox (defBody st) t ∧ t { nx := fun _ H' => Q .non H', rt := Q } (start N vs) H) : FnOk P w K mg base CX (k + 1) a fd ps sp :=
  F.ok S len fun cdv A outer s H vs Q E hr h => let ⟨t, h1, h2⟩ := hbody cdv A outer s H vs Q E hr h; ⟨t, h1.nox, h2⟩
end Hk

end
section
set_option Elab.async false
set_option linter.all false
set_option maxRecDepth 100000
set_option maxHeartbeats 4000000
/-! Own error classes whose __init__ stores fields: facts by one Bool; C() without arguments. -/
namespace Hk
open PySem PySem.Spec PyProof.Rows L2
open He (ga ma ba eqO eqO_ok)
/-- the shape of such a class -/
def shapeB (K : PySem.W.Frag) (C : Addr) : Bool := match K.lookup C with
  | some ⟨.type "type", _, .cls c, v⟩ => (match c.mro, v.toList with
    | .ref D :: l, [_, _, _, _, some (.builtin n), _] => (D == C && n == "ValueError.__new__") && ((!c.hasDel && c.hasDict) && PySem.HandSPX.refsVE l)
    | _, _ => false)
  | _ => false
theorem shape_ok {K : PySem.W.Frag} {C : Addr} (h : shapeB K C = true) : ∃ nm q N bs bm sn sub ab col dd k0 k1 k2 k3 k5, K.lookup C = some (excClassObj nm q C N bs bm true sn sub ab col dd k0 k1 k2 k3 k5 "ValueError.__new__") ∧ PySem.HandSPX.refsVE bm = true := by
  unfold shapeB at h
  split at h
  · rename_i dd c v e
    split at h
    · rename_i D l a0 a1 a2 a3 n a5 em es
      obtain ⟨h1, h2⟩ := ba h
      obtain ⟨h11, h12⟩ := ba h1
      obtain ⟨h21, h22⟩ := ba h2
      obtain ⟨h3, h4⟩ := ba h21
      obtain rfl := beq_iff_eq.mp h11
      obtain rfl := beq_iff_eq.mp h12
      obtain ⟨nm, bs, mro, ns, qn, hd, sn, sub, ab, col, dl⟩ := c
      obtain ⟨v⟩ := v
      dsimp only at em es h3 h4
      obtain rfl : dl = false := by cases dl with | false => rfl | true => cases h3
      subst em es h4
      exact ⟨nm, qn, ns, bs, l, sn, sub, ab, col, dd, a0, a1, a2, a3, a5, e, h22⟩
    · cases h
  · cases h
def oexB (K : PySem.W.Frag) (x : Str) : Bool := (shapeB K (ga K x) && eqO (PySem.W.findIn K (.ref (ga K x)) "__setattr__") (some (some (.builtin "object.__setattr__")))) && ((decide (PySem.W.subIn K (.ref (ga K x)) (.type "BaseException") = some true) && decide (PySem.W.typeIn K (.ref (ga K x)) = some (.type "type"))) && (PySem.W.keepIn K (.ref (ga K x))))
theorem oex_ok {K : PySem.W.Frag} {x : Str} (h : oexB K x = true) : OexC K (ga K x) := by
  obtain ⟨h1, h2⟩ := ba h
  obtain ⟨h3, h4⟩ := ba h1
  obtain ⟨h5, h6⟩ := ba h2
  obtain ⟨h7, h8⟩ := ba h5
  exact ⟨shape_ok h3, eqO_ok h4, of_decide_eq_true h7, of_decide_eq_true h8, h6⟩
/-- its __init__ -/
def xinB (K : PySem.W.Frag) (x : Str) : Bool := eqO (PySem.W.findIn K (.ref (ga K x)) "__init__") (some (some (.ref (mt K x "__init__")))) && decide (PySem.W.typeIn K (.ref (mt K x "__init__")) = some (.type "function"))
structure XIn (K : PySem.W.Frag) (x : Str) : Prop where
  fi : PySem.W.findIn K (.ref (ga K x)) "__init__" = some (some (.ref (mt K x "__init__")))
  ty : PySem.W.typeIn K (.ref (mt K x "__init__")) = some (.type "function")
theorem xin_ok {K : PySem.W.Frag} {x : Str} (h : xinB K x = true) : XIn K x := let ⟨a, b⟩ := ba h; ⟨eqO_ok a, of_decide_eq_true b⟩
def noxB (K : PySem.W.Frag) (x f : Str) : Bool := eqO (PySem.W.findIn K (.ref (ga K x)) f) (some none)
section
variable {X : Cx} {CX : CXT} {k : Nat} {x : Str} {ps : List Str} {sp : Sp} {p pos : Pos}
/-- C(), C's own __init__ keeping sp -/
theorem pmk_oex0 {C fI : Addr} {fd : FuncData} (T : OexC X.K C) (iC : PySem.W.findIn X.K (.ref C) "__init__" = some (some (.ref fI))) (tI : PySem.W.typeIn X.K (.ref fI) = some (.type "function")) (F1 : FnOk X.prog X.w X.K X.mg X.base CX k fI fd ps sp)
    (hr : Room (k + 1) X.A) (hb : Binds X.K fd ps []) (hx : Passes CX X (fun _ _ _ => False)) (hg : Gl X x) (hm : X.mg x = some (.ref C)) (hdb : (x == ("__debug__" : Str)) = false := by decide) :
    PMk X (.Call (.Name x p) [] [] pos) (fun σ H Q => ∀ a, H a = none → sp [.ref a] (upd H a (exo a C none)) (fun v H2 => v = .non ∧ ∃ (d : Addr) (fs : List (Str × V)), H2 a = some (exo a C (some d)) ∧ H2 d = some (exd d fs) ∧ H d = none ∧ Q (.ref C) (some d) (upd (del H2 a) d (.xd fs))) (fun _ _ _ => False)) := by
  intro pins s σ H Q I h
  obtain ⟨nm, q, N, bs, bm, sn, sub, ab, col, dd, k0, k1, k2, k3, k5, hC, hbm⟩ := T.cls
  refine wpAny_Call_Name_kw (ld_glob I hg hm (PySem.W.callWith_K0 I.kIn T.kC ?_) hdb)
  obtain ⟨g0, gs, dr, tk, os⟩ := s
  have z1 : g0.objs.size ≤ g0.objs.size + 1 := Nat.le_succ _
  have hq := h (g0.objs.size + 1) (I.hok.fresh z1)
  have kk : ∀ b o, g0.get? b = some o → ((g0.push (PySem.W.kdv_tup [])).push (PySem.HandSPX.excO C g0.objs.size)).get? b = some o :=
    fun b o e => Heap.get?_push_of_some _ (Heap.get?_push_of_some _ e)
  have I2 : Inv X pins σ (upd H (g0.objs.size + 1) (exo (g0.objs.size + 1) C none)) ⟨(g0.push (PySem.W.kdv_tup [])).push (PySem.HandSPX.excO C g0.objs.size), gs, dr, tk, os⟩ :=
    Inv.laid (t' := tk) I kk z1 (exo_ok (t1 := g0.objs.size) (by heap_get))
  have r2 : Vals [V.ref (g0.objs.size + 1)] (Value.ref (g0.objs.size + 1) :: ([] : List Value)) := .cons rfl .nil
  have hl : (Value.ref (g0.objs.size + 1) :: ([] : List Value)).length = ps.length := (F1.len _ _ _ _ hq).symm ▸ rfl
  show wpAny _ _ (call (.ref C) []) _ _ _
  have run1 := F1.run _ X.stack _ _ ⟨[Value.ref (g0.objs.size + 1)], []⟩ [Value.ref (g0.objs.size + 1)] _ _ (fun _ _ _ => False) (hr.make C [] []) (I2.env0.make C [] []) (hb _ [Value.ref (g0.objs.size + 1)] I2.kIn hl) r2 hq
  refine wpAny_call (PySem.HandSPX.call_own F.excBase_ValueError (fun Y => PySem.HandSPX.refsVE_contains Y bm hbm) (I.kIn _ _ hC) (PySem.W.looks_findIn I.kIn iC) (fun self => PySem.W.bind_fn I.kIn self tI) (Nat.zero_le _) (codeAny_mono run1 (fun r s' hq' => ?_)))
  cases r with
  | error er => exact hx pins σ _ _ er s' I2 hq'
  | ok fl =>
    cases fl with
    | ret u =>
        obtain ⟨v, H2, o2, b2, un2, hk2, rv, ev, d, fs, ea, ed, hd1, q2⟩ := hq'
        obtain rfl := ev
        exact ⟨rv, mk_end (raises_own T.exC T.tyC) I z1 kk un2 hk2 o2 b2 ea ed hd1 q2⟩
    | next => exact hq'.elim
    | brk => exact hq'.elim
    | cont => exact hq'.elim
end
end Hk
namespace Hk
open PySem PySem.Spec PyProof.Rows L2
open He (ga ma ba eqO eqO_ok)
section
variable {X : Cx} {CX : CXT} {k : Nat} {x : Str} {ps : List Str} {sp : Sp} {p pos : Pos}
theorem pmk_x0 {K : PySem.W.Frag} (T : OexC K (ga K x)) (I : XIn K x) (G : AOk X.prog X.w K X.mg X.base CX k (mt K x "__init__") ps sp) (hr : Room (k + 1) X.A) (hx : Passes CX X (fun _ _ _ => False)) (hm : X.mg x = some (.ref (ga K x))) (hK : X.K = K := by rfl) (hg : Gl X x := by rfl)
    (hdb : (x == ("__debug__" : Str)) = false := by decide) :
    PMk X (.Call (.Name x p) [] [] pos) (fun σ H Q => ∀ a, H a = none → sp [.ref a] (upd H a (exo a (ga K x) none)) (fun v H2 => v = .non ∧ ∃ (d : Addr) (fs : List (Str × V)), H2 a = some (exo a (ga K x) (some d)) ∧ H2 d = some (exd d fs) ∧ H d = none ∧ Q (.ref (ga K x)) (some d) (upd (del H2 a) d (.xd fs))) (fun _ _ _ => False)) := by
  subst hK
  obtain ⟨fd, b, c⟩ := G.ex
  exact pmk_oex0 T I.fi I.ty c hr b hx hg hm hdb
end
end Hk

end
section
set_option Elab.async false
set_option linter.all false
set_option maxRecDepth 100000
set_option maxHeartbeats 4000000
/-! isinstance of a caught error that has fields. -/
namespace Hk
open PySem PySem.Spec PyProof.Rows L2
open He (ga ma ba eqO eqO_ok)
section
variable {X : Cx} {a : Addr} {oe : Obj} {cls : Value} {d : Option Addr} {pn : List (Addr × Obj)}
theorem call_isEd (hz : Zc cls d oe) (hf : ∃ vs, oe.data = .fields vs) :
    CallR (X.suite a ((a, oe) :: pn)) (.builtin "isinstance") (fun xs H Q => ∃ (D dd : Addr) (fs : List (Str × V)), cls = .ref D ∧ d = some dd ∧ H dd = some (.xd fs) ∧ ExcC X.K D ∧ rIsE X.K D a xs H Q) := by
  rintro pins s σ H xs us Q I r ⟨D, dd, fs, rfl, rfl, ex, C, c, cv, b, rfl, hcv, e, q⟩
  match us, r with
  | [u1, u2], .cons rx (.cons rt .nil) =>
    obtain rfl : u1 = Value.ref a := rx
    obtain rfl := hcv _ rt
    obtain ⟨ha, _⟩ := I.pin (a, oe) (List.mem_append_left _ List.mem_cons_self)
    obtain ⟨ws, hd⟩ := hf
    have hx : ObjOk X.prog X.w H s.heap dd (.xd fs) := I.hok dd _ ex
    obtain ⟨mA, hns, _⟩ := hx
    obtain ⟨od, ho, _⟩ := lookIn_ns hns
    have J : PySem.W.InstAt s.heap a oe D (some od) := ⟨ha, hz.1, by unfold PySem.W.notCls; rw [hd] <;> rfl, by rw [hz.2]; exact ho⟩
    have hcl : (PySem.W.clsIn X.K D).isSome = true := by
      obtain ⟨cd, hc, _⟩ := PySem.W.any_some C.hd
      rw [hc] <;> rfl
    exact PySem.W.kia_one (PySem.W.kitx_exc hcl C.hg C.hk C.hs C.ha C.hn C.ht C.hm) I.kIn J e nofun fun tk => ⟨.bl b, H, I.kept (t' := tk) fun _ _ z => z, rfl, q⟩
end
end Hk

end
section
set_option Elab.async false
set_option linter.all false
set_option maxRecDepth 100000
set_option maxHeartbeats 4000000
/-! Errors whose context is None; defs called within an except suite. -/
namespace Hk
open PySem PySem.Spec PyProof.Rows L2
open He (ga ma ba eqO eqO_ok)
section
variable {X : Cx} {CX : CXT} {k : Nat} {x : Str} {ps : List Str} {sp : Sp} {p pos : Pos} {E : L2.St → XK} {e : Expr} {es : List Expr} {t : TA}
theorem pmkN_x0 {K : PySem.W.Frag} (T : OexC K (ga K x)) (Y : XIn K x) (G : AOk X.prog X.w K X.mg X.base CX k (mt K x "__init__") ps sp) (hr : Room (k + 1) X.A) (hx : Passes CX X (fun _ _ _ => False)) (hm : X.mg x = some (.ref (ga K x))) (hK : X.K = K := by rfl) (hg : Gl X x := by rfl)
    (hdb : (x == ("__debug__" : Str)) = false := by decide) :
    L2N.PMk X (.Call (.Name x p) [] [] pos) (fun σ H Q => ∀ a, H a = none → sp [.ref a] (upd H a (exo a (ga K x) none)) (fun v H2 => v = .non ∧ ∃ (d : Addr) (fs : List (Str × V)), H2 a = some (exo a (ga K x) (some d)) ∧ H2 d = some (exd d fs) ∧ H d = none ∧ Q (.ref (ga K x)) (some d) (upd (del H2 a) d (.xd fs))) (fun _ _ _ => False)) := by
  subst hK
  obtain ⟨fd, hb, F1⟩ := G.ex
  intro pins s σ H Q I h
  obtain ⟨nm, q, N, bs, bm, sn, sub, ab, col, dd, k0, k1, k2, k3, k5, hC, hbm⟩ := T.cls
  refine wpAny_Call_Name_kw (ld_glob I hg hm (PySem.W.callWith_K0 I.kIn T.kC ?_) hdb)
  obtain ⟨g0, gs, dr, tk, os⟩ := s
  have z1 : g0.objs.size ≤ g0.objs.size + 1 := Nat.le_succ _
  have hq := h (g0.objs.size + 1) (I.hok.fresh z1)
  have kk : ∀ b o, g0.get? b = some o → ((g0.push (PySem.W.kdv_tup [])).push (PySem.HandSPX.excO (ga X.K x) g0.objs.size)).get? b = some o :=
    fun b o e => Heap.get?_push_of_some _ (Heap.get?_push_of_some _ e)
  have I2 : Inv X pins σ (upd H (g0.objs.size + 1) (exo (g0.objs.size + 1) (ga X.K x) none)) ⟨(g0.push (PySem.W.kdv_tup [])).push (PySem.HandSPX.excO (ga X.K x) g0.objs.size), gs, dr, tk, os⟩ :=
    Inv.laid (t' := tk) I kk z1 (exo_ok (t1 := g0.objs.size) (by heap_get))
  have r2 : Vals [V.ref (g0.objs.size + 1)] (Value.ref (g0.objs.size + 1) :: ([] : List Value)) := .cons rfl .nil
  have hl : (Value.ref (g0.objs.size + 1) :: ([] : List Value)).length = ps.length := (F1.len _ _ _ _ hq).symm ▸ rfl
  show wpAny _ _ (call (.ref (ga X.K x)) []) _ _ _
  have run1 := F1.run _ X.stack _ _ ⟨[Value.ref (g0.objs.size + 1)], []⟩ [Value.ref (g0.objs.size + 1)] _ _ (fun _ _ _ => False) (hr.make (ga X.K x) [] []) (I2.env0.make (ga X.K x) [] []) (hb _ [Value.ref (g0.objs.size + 1)] I2.kIn hl) r2 hq
  refine wpAny_call (PySem.HandSPX.call_own F.excBase_ValueError (fun Z => PySem.HandSPX.refsVE_contains Z bm hbm) (I.kIn _ _ hC) (PySem.W.looks_findIn I.kIn Y.fi) (fun self => PySem.W.bind_fn I.kIn self Y.ty) (Nat.zero_le _) (codeAny_mono run1 (fun r s' hq' => ?_)))
  cases r with
  | error er => exact hx pins σ _ _ er s' I2 hq'
  | ok fl =>
    cases fl with
    | ret u =>
      obtain ⟨v, H2, o2, b2, un2, hk2, rv, ev, d, fs, ea, ed, hd1, q2⟩ := hq'
      obtain rfl := ev
      obtain ⟨h2, gs2, dr2, tk2, os2⟩ := s'
      obtain ⟨u0, G2, J, kG, ge, hoe, na⟩ := mk_end0 (d2 := dr2) (t2 := tk2) I z1 kk un2 hk2 o2 b2 ea ed hd1
      exact ⟨rv, g0.objs.size + 1, _, _, ⟨G2, gs2, dr2, tk2, os2⟩, _, .ref (ga X.K x), some d, rfl, J, kG, ge, hoe, ⟨rfl, rfl, fun vs hv => by cases hv; rfl⟩, rfl, rfl, na, rfl, b2, raises_own T.exC T.tyC, q2⟩
    | next => exact hq'.elim
    | brk => exact hq'.elim
    | cont => exact hq'.elim
theorem takesN0 : L2N.Takes X (fun _ _ _ _ => False) := fun _ _ x => by
  obtain ⟨_, _, _, _, _, _, _, _, _, _, _, _, _, _, _, _, z⟩ := x
  exact z.elim
theorem passA0 {E : XK} (σ : L2.St) : PassesAt CX0 X σ E := fun _ _ _ _ _ _ h => h.elim
/-! ### defs called in a suite -/
structure GOkH (P : Program) (w : World) (K : PySem.W.Frag) (mg : Str → Option Value) (base : Heap) (CX : CXT) (k : Nat) (x : Str) (ps : List Str) (sp : Sp) : Prop where
  g : mg x = some (.ref (ga K x))
  ex : ∃ fd, PySem.W.keepIn K (.ref (ga K x)) = true ∧ Binds K fd ps [] ∧ L2H.FnH P w K mg base CX k (ga K x) fd ps sp
theorem pe_gH (G : GOkH X.prog X.w X.K X.mg X.base CX k x ps sp) (hr : L2H.RoomH k X.A) (hc : L2H.HotC X) (hx : ∀ σ, PassesAt CX X σ (E σ)) (ha : PA X (e :: es) t) (hg : Gl X x := by rfl)
    (hdb : (x == ("__debug__" : Str)) = false := by decide) (he : starEach (e :: es) X.env = (false, eval e X.env) :: starEach es X.env := by rfl) (hpl : (backTo pos (starEach es X.env)).any (·.1) = false := by rfl) :
    PE X (.Call (.Name x p) (e :: es) [] pos) (tCallS sp E t) := by
  obtain ⟨fd, h1, h2, h3⟩ := G.ex
  exact L2H.pe_callH h3 hr hc hg G.g h1 h2 hx ha hdb he hpl
theorem hot_suite {a : Addr} {oe : Obj} {cls : Value} {d : Option Addr} {pn : List (Addr × Obj)} (hz : L2N.Zn cls d oe) (hf : ∃ vs, oe.data = .fields vs) : L2H.HotC (X.suite a ((a, oe) :: pn)) := by
  obtain ⟨vs, hd⟩ := hf
  exact ⟨(a, oe), ⟨rfl, vs, hd, hz.2.2 vs hd⟩, List.mem_cons_self⟩
end
section
variable {P : Program} {w : World} {K : PySem.W.Frag} {mg : Str → Option Value} {base : Heap} {nm qual : Str} {st : Stmt} {N ps : List Str} {k : Nat} {CX : CXT} {sp : Sp}
theorem mkGH (g : mg nm = some (.ref (ga K nm))) (F : ∃ fd, FunD K nm qual (defArgs st) (defBody st) (defScope st) [] [] (ga K nm) fd)
    (hb : ∀ (kV doc pm : Value) (an : Option Addr) (cdv ct : Value) (us : List Value), us.length = ps.length → bindArgs (PySem.W.fnOf nm qual (defArgs st) (defBody st) (defScope st) .none kV doc pm an cdv ct) ⟨us, []⟩ = pure (ps.zip us))
    (S : FnScope N ps (defScope st)) (len : ∀ vs H Q E, sp vs H Q E → vs.length = ps.length)
    (hbody : ∀ (cdv : Value) (A : Around) (outer : List Env) (s : Shared) (H : Hp) (vs : List V) (Q : VK) (E : XK) (p : Addr × Obj), L2H.HotC (L2H.cxH CX P w K mg base N qual (defScope st) (ga K nm) cdv A outer s H E p).nox → L2H.RoomH k (A.deeper (envOfC qual (defScope st) s.heap.objs.size (ga K nm) cdv)) → sp vs H Q E →
      ∃ t, PSs (L2H.cxH CX P w K mg base N qual (defScope st) (ga K nm) cdv A outer s H E p).nox (defBody st) t ∧ t { nx := fun _ H' => Q .non H', rt := Q } (start N vs) H) : GOkH P w K mg base CX (k + 1) nm ps sp := by
  obtain ⟨fd, F⟩ := F
  have F' := F.bindsN hb
  have kp := F.kp
  obtain ⟨oc, od, dV, kV, doc, pm, an, cdv, ct, osl, rfl, lk, hcd, _, _⟩ := F.ex
  refine ⟨g, _, kp, F', L2H.fn_ofH lk hcd S len fun A outer s H vs Q E p hot hr hsp => ?_⟩
  obtain ⟨t, h1, h2⟩ := hbody cdv A outer s H vs Q E p ⟨p, hot, List.mem_cons_self⟩ hr hsp
  exact ⟨t, h1.nox, h2⟩
end
end Hk
namespace Hk
open PySem PySem.Spec PyProof.Rows L2
theorem sl_tupAK {X : Cx} {K : PySem.W.Frag} (h : X.K = K := by rfl) : SlR X (rSlA K) := h ▸ sl_tupA
theorem op_catAK {X : Cx} {K : PySem.W.Frag} (h : X.K = K := by rfl) : OpR X (binaryOp .Add) (rCatA K) := h ▸ op_catA
end Hk

end
section
set_option Elab.async false
set_option linter.all false
set_option maxRecDepth 100000
set_option maxHeartbeats 4000000
/-! The hook of facts with tables (dicts of the top with text keys); keyword-only parameters. -/
namespace Hk
open PySem PySem.Spec PyProof.Rows L2
open He (ga ma ba eqO eqO_ok frG frG_in)
open He5 (DefA fnA asA wf)
abbrev TabL : Type := List (PySem.W.Frag → Addr) × List (List Str)
abbrev AlE : Type := He.AlD × List (Option (List (Option (Str × Int))))
def obsW (ex : PySem.W.Frag → Bool) (fn : List DefA) (ts : List He.Tab) (K : PySem.W.Frag) : AlE := (obsE ex fn K, ts.map fun t => He.dicW K (t.1 K))
def valW (fn : List DefA) (ts : List He.Tab) (w : World) : AlE := (valE fn, ts.map fun t => some (He.keysIn w.params t.2))
def SaysW (ex : PySem.W.Frag → Bool) (fn : List DefA) (ts : List He.Tab) (w : World) (K : PySem.W.Frag) : Prop := obsW ex fn ts K = valW fn ts w
def obsWG (n : Nat) (ex : PySem.W.Frag → Bool) (fn : List DefA) (ts : List He.Tab) (g : Addr → Option Obj) : AlE := obsW ex fn ts (frG g (asA g n))
def hookW (n : Nat) (ex : PySem.W.Frag → Bool) (fn : List DefA) (ts : List He.Tab) : PySem.W.Hook where
  α := AlE
  obs := fun s => obsWG n ex fn ts s.heap.get?
  val := fun w => valW fn ts w
  says := fun w h => ∃ K : PySem.W.Frag, K.In h ∧ SaysW ex fn ts w K
  of := fun _ _ e => ⟨_, frG_in, e⟩
  keeps := fun _ _ _ ⟨K, hK, c⟩ k => ⟨K, PySem.W.Frag.In.keeps hK k, c⟩
theorem obsWG_eq {n : Nat} {ex : PySem.W.Frag → Bool} {fn : List DefA} {ts : List He.Tab} {g : Addr → Option Obj} {s : Shared} (h : ∀ a, g a = s.heap.get? a) : obsWG n ex fn ts g = (hookW n ex fn ts).obs s := by
  have e : g = s.heap.get? := funext h
  rw [e] <;> rfl
section
variable {ex : PySem.W.Frag → Bool} {fn : List DefA} {ts : List He.Tab} {K : PySem.W.Frag} {w : World}
theorem SaysW.e (c : SaysW ex fn ts w K) : SaysE ex fn K := congrArg (fun z : AlE => z.1) c
theorem SaysW.keys (c : SaysW ex fn ts w K) (i : Nat) {t : He.Tab} (h : ts[i]? = some t := by rfl) : He.dicW K (t.1 K) = some (He.keysIn w.params t.2) := by
  have e : ts.map (fun t => He.dicW K (t.1 K)) = ts.map fun t => some (He.keysIn w.params t.2) := congrArg (fun z : AlE => z.2) c
  have e2 : (ts.map fun t => He.dicW K (t.1 K))[i]? = (ts.map fun t => some (He.keysIn w.params t.2))[i]? := by rw [e]
  rw [List.getElem?_map, List.getElem?_map, h] at e2
  exact Option.some.inj e2
end
/-- a table, its keys known: an item under a key, nothing under another one -/
structure TabF (K : PySem.W.Frag) (w : World) (a : Addr) (ks : List Str) : Prop where
  d : ∃ es n, KDict K w a es n
  no : ∀ z, z ∉ ks → PySem.W.nsIn K a z = some none
theorem no_key {P : Params} {z : Str} : ∀ {l : List DictEntry} {ks : List Str}, l.map He.keyOf = He.keysIn P ks → z ∉ ks → l.find? (·.key.isStr z) = none ∧ l.any (·.refKey) = false
  | [], _, _, _ => ⟨rfl, rfl⟩
  | e :: r, [], h, _ => by cases h
  | e :: r, k :: ks, h, hz => by
    have h1 : He.keyOf e :: r.map He.keyOf = some (k, PyData.keyHash P k) :: He.keysIn P ks := h
    injection h1 with h2 h3
    obtain ⟨f1, f2⟩ := no_key h3 (fun m => hz (List.mem_cons_of_mem _ m))
    obtain ⟨ek, ev, eh⟩ := e
    unfold He.keyOf at h2
    split at h2
    · rename_i x t q
      dsimp only at q
      have h5 := (Prod.mk.inj (Option.some.inj h2)).1
      have nz : ¬ (x = z) := fun y => hz (by rw [← y, h5]; exact List.mem_cons_self)
      subst q
      have e1 : (Value.str x t).isStr z = false := beq_eq_false_iff_ne.mpr nz
      refine ⟨?_, ?_⟩
      · rw [List.find?_cons]
        show (match (Value.str x t).isStr z with | true => some _ | false => List.find? _ r) = none
        rw [e1]
        exact f1
      · rw [List.any_cons]
        show (false || _) = false
        rw [f2] <;> rfl
    · cases h2
theorem tab_ok {K : PySem.W.Frag} {w : World} {a : Addr} {ks : List Str} (h : He.dicW K a = some (He.keysIn w.params ks)) : TabF K w a ks := by
  refine ⟨He.dicW_ok h, fun z hz => ?_⟩
  obtain ⟨es, n, hd⟩ := He.dicW_ok h
  have hl := hd.1
  unfold He.dicW at h
  rw [hl] at h
  have h2 : (match decide (("dict" : String) = "dict") && ((#[] : Array (Option Value)).isEmpty && !(a == sysModules)) with
    | true => some (es.toList.map He.keyOf)
    | false => none) = some (He.keysIn w.params ks) := h
  split at h2
  · obtain ⟨f1, f2⟩ := no_key (Option.some.inj h2) hz
    unfold PySem.W.nsIn
    rw [hl]
    dsimp only
    rw [f1]
    dsimp only
    rw [f2]
    rfl
  · cases h2
/-- where the table's item under a key stands -/
def pa (K : PySem.W.Frag) (x k : Str) : Addr := match PySem.W.nsIn K (ga K x) k with
  | some (some (.ref a)) => a
  | _ => 0
def keyB (K : PySem.W.Frag) (x k : Str) : Bool := eqO (PySem.W.nsIn K (ga K x) k) (some (some (.ref (pa K x k))))
/-- a written tuple at an address -/
def tupAB (K : PySem.W.Frag) (a : Addr) (vs : List He.Dv) : Bool := match K.lookup a with
  | some ⟨.type c, _, .seq its _, _⟩ => decide (c = "tuple") && (decide (its.size ≤ sizeLine) && He.relAll (vs.map (He.Dv.v K)) its.toList)
  | _ => false
theorem tupA_ok {K : PySem.W.Frag} {a : Addr} {vs : List He.Dv} (h : tupAB K a vs = true) (H : Hp) : SqT K H a (vs.map (He.Dv.v K)) := by
  unfold tupAB at h
  split at h
  · rename_i c dd its n sl e
    obtain ⟨h1, h2⟩ := ba h
    obtain ⟨h3, h4⟩ := ba h2
    exact .inr ⟨_, its, n, e, congrArg Value.type (of_decide_eq_true h1), rfl, of_decide_eq_true h3, He.relAll_ok h4⟩
  · cases h
/-- a def with keyword-only parameters alone behind the positional ones -/
structure GOkN (P : Program) (w : World) (K : PySem.W.Frag) (mg : Str → Option Value) (base : Heap) (CX : CXT) (k : Nat) (x : Str) (ps : List Str) (n : Nat) (ks : List Str) (gV : List V → List V → List V) (sp : Sp) : Prop where
  g : mg x = some (.ref (ga K x))
  ex : ∃ (fd : FuncData) (g : List Value → List Value → List Value), PySem.W.keepIn K (.ref (ga K x)) = true ∧ KBn K fd ps n ks g gV ∧ FnOk P w K mg base CX k (ga K x) fd ps sp
theorem pe_gN {X : Cx} {CX : CXT} {k n : Nat} {x : Str} {ps ks : List Str} {gV : List V → List V → List V} {sp : Sp} {E : XK} {e : Expr} {es : List Expr} {kws : List Keyword} {p pos : Pos} {t tk : TA} (G : GOkN X.prog X.w X.K X.mg X.base CX k x ps n ks gV sp) (hr : Room k X.A) (hx : Passes CX X E) (ha : PA X (e :: es) t) (hkw : PK X kws tk) (hg : Gl X x := by rfl)
    (hall : (backToKw pos (keywordEach kws X.env)).all (·.1.isSome) = true := by rfl) (hks : (backToKw pos (keywordEach kws X.env)).filterMap (·.1) = ks := by rfl)
    (hdb : (x == ("__debug__" : Str)) = false := by decide) (he : starEach (e :: es) X.env = (false, eval e X.env) :: starEach es X.env := by rfl)
    (hpl : ((backTo pos (starEach (e :: es) X.env)).any (·.1) || (backToKw pos (keywordEach kws X.env)).any (·.1.isNone)) = false := by rfl) :
    PE X (.Call (.Name x p) (e :: es) kws pos) (tCallN n ks.length sp gV E t tk) := by
  obtain ⟨fd, g, h1, h2, h3⟩ := G.ex
  exact pe_callN h3 hr hg G.g h1 h2 hx ha hkw hall hks hdb he hpl
/-- the world's answer to one row, told -/
def rowSet (p : Params) (b : Bool) : Params := { p with followText := fun s => if s == "special-get-raises" then b else p.followText s }
theorem row_eq (p : Params) : p = rowSet p (p.followText "special-get-raises") := by
  have e : p.followText = fun s => if s == "special-get-raises" then p.followText "special-get-raises" else p.followText s := funext fun s => by
    by_cases h : s = "special-get-raises"
    · subst h
      rw [if_pos (beq_self_eq_true _)]
    · rw [if_neg (fun z => h (beq_iff_eq.mp z))]
  unfold rowSet
  rw [← e]
end Hk

end
section
set_option Elab.async false
set_option linter.all false
set_option maxRecDepth 100000
set_option maxHeartbeats 4000000
/-! A def with keyword-only parameters called within a try. -/
namespace Hk
open PySem PySem.Spec PyProof.Rows L2
open He (ga)
def tCallNS (n m : Nat) (sp : Sp) (gV : List V → List V → List V) (E : L2.St → XK) (t tk : TA) : TE := fun σ H Q => tCallN n m sp gV (E σ) t tk σ H Q
theorem pe_gNS {X : Cx} {CX : CXT} {k n : Nat} {x : Str} {ps ks : List Str} {gV : List V → List V → List V} {sp : Sp} {E : L2.St → XK} {e : Expr} {es : List Expr} {kws : List Keyword} {p pos : Pos} {t tk : TA} (G : GOkN X.prog X.w X.K X.mg X.base CX k x ps n ks gV sp) (hr : Room k X.A) (hx : ∀ σ, PassesAt CX X σ (E σ)) (ha : PA X (e :: es) t) (hkw : PK X kws tk) (hg : Gl X x := by rfl)
    (hall : (backToKw pos (keywordEach kws X.env)).all (·.1.isSome) = true := by rfl) (hks : (backToKw pos (keywordEach kws X.env)).filterMap (·.1) = ks := by rfl)
    (hdb : (x == ("__debug__" : Str)) = false := by decide) (he : starEach (e :: es) X.env = (false, eval e X.env) :: starEach es X.env := by rfl)
    (hpl : ((backTo pos (starEach (e :: es) X.env)).any (·.1) || (backToKw pos (keywordEach kws X.env)).any (·.1.isNone)) = false := by rfl) :
    PE X (.Call (.Name x p) (e :: es) kws pos) (tCallNS n ks.length sp gV E t tk) := by
  obtain ⟨fd, g, kp, hb, F⟩ := G.ex
  subst hks
  refine ⟨fun pins s σ H Q I h => wpAny_Call_Name_kw (ld_glob I hg G.g ?_ hdb)⟩
  refine PySem.W.callWith_KW (h₀ := X.base) I.ok.mod.kin kp hall (thn (ha.run pos pins s σ H _ I h) fun us s1 h1 => ?_) hpl he
  obtain ⟨vs, H1, I1, r, q⟩ := h1
  refine thn (hkw.run pos pins s1 σ H1 _ I1 q) fun ws s2 h2 => ?_
  obtain ⟨zs, H2, I2, rz, l1, l2, q2⟩ := h2
  refine ⟨I2.kIn, wpAny_call (codeAny_mono (F.run X.A X.stack s2 H2 ⟨us, _⟩ (g us ws) (gV vs zs) Q (E σ) hr I2.env0 (hb.to s2 us ws I2.kIn (r.length.symm.trans l1) (rz.length.symm.trans l2)) (hb.rel r rz) q2) fun z s' hq => ?_)⟩
  match z, hq with
  | .error e, hq => exact hx σ pins H2 s2 e s' I2 hq
  | .ok (.ret u), hq => exact I2.after hq
  | .ok .next, hq => exact hq.elim
  | .ok .brk, hq => exact hq.elim
  | .ok .cont, hq => exact hq.elim
end Hk

end
section
set_option Elab.async false
set_option linter.all false
set_option maxRecDepth 100000
set_option maxHeartbeats 4000000
/-! An own error whose __init__ takes arguments, raised where nothing is handled. -/
namespace Hk
open PySem PySem.Spec PyProof.Rows L2
open He (ga)
section
variable {X : Cx} {CX : CXT} {k : Nat} {x : Str} {ps : List Str} {sp : Sp} {p pos : Pos} {e : Expr} {es : List Expr} {ta : TA}
/-- what C(e, ..) asks, C's __init__ keeping sp -/
def tOwnErr (C : Addr) (sp : Sp) (ta : TA) : L2.St → Hp → XK → Prop := fun σ H Q => ta σ H fun vs H1 => vs.length ≤ 1000 ∧ ∀ a, H1 a = none → sp (.ref a :: vs) (upd H1 a (exo a C none)) (fun v H2 => v = .non ∧ ∃ (d : Addr) (fs : List (Str × V)), H2 a = some (exo a C (some d)) ∧ H2 d = some (exd d fs) ∧ H1 d = none ∧ Q (.ref C) (some d) (upd (del H2 a) d (.xd fs))) (fun _ _ _ => False)
theorem pmkN_x {K : PySem.W.Frag} (T : OexC K (ga K x)) (Y : XIn K x) (G : AOk X.prog X.w K X.mg X.base CX k (mt K x "__init__") ps sp) (hr : Room (k + 1) X.A) (hx : Passes CX X (fun _ _ _ => False)) (hm : X.mg x = some (.ref (ga K x))) (ha : PA X (e :: es) ta) (hK : X.K = K := by rfl) (hg : Gl X x := by rfl)
    (hdb : (x == ("__debug__" : Str)) = false := by decide) (he : starEach (e :: es) X.env = (false, eval e X.env) :: starEach es X.env := by rfl) (hpl : (backTo pos (starEach es X.env)).any (·.1) = false := by rfl) :
    L2N.PMk X (.Call (.Name x p) (e :: es) [] pos) (tOwnErr (ga K x) sp ta) := by
  subst hK
  obtain ⟨fd, hb, F1⟩ := G.ex
  intro pins s0 σ H Q I0 h
  obtain ⟨nm, q, N, bs, bm, sn, sub, ab, col, dd, k0, k1, k2, k3, k5, hC, hbm⟩ := T.cls
  refine wpAny_Call_Name_kw (ld_glob I0 hg hm (PySem.W.callWith_K (h₀ := X.base) I0.ok.mod.kin T.kC (thn (ha.run pos pins s0 σ H _ I0 h) fun us s h1 => ?_) he hpl) hdb)
  obtain ⟨vs, H1, I, rv1, hz, hall⟩ := h1
  refine ⟨I.kIn, ?_⟩
  obtain ⟨g0, gs, dr, tk, os⟩ := s
  have z1 : g0.objs.size ≤ g0.objs.size + 1 := Nat.le_succ _
  have hq := hall (g0.objs.size + 1) (I.hok.fresh z1)
  have kk : ∀ b o, g0.get? b = some o → ((g0.push (PySem.W.kdv_tup us)).push (PySem.HandSPX.excO (ga X.K x) g0.objs.size)).get? b = some o :=
    fun b o e => Heap.get?_push_of_some _ (Heap.get?_push_of_some _ e)
  have I2 : Inv X pins σ (upd H1 (g0.objs.size + 1) (exo (g0.objs.size + 1) (ga X.K x) none)) ⟨(g0.push (PySem.W.kdv_tup us)).push (PySem.HandSPX.excO (ga X.K x) g0.objs.size), gs, dr, tk, os⟩ :=
    Inv.laid (t' := tk) I kk z1 (exo_ok (t1 := g0.objs.size) (by heap_get))
  have r2 : Vals (V.ref (g0.objs.size + 1) :: vs) (Value.ref (g0.objs.size + 1) :: us) := .cons rfl rv1
  have hl : (Value.ref (g0.objs.size + 1) :: us ++ []).length = ps.length := by
    rw [List.append_nil, ← r2.length]
    exact F1.len _ _ _ _ hq
  have b2 := hb _ (Value.ref (g0.objs.size + 1) :: us) I2.kIn hl
  rw [List.append_nil] at b2
  have hus : us.length ≤ sizeLine := by
    rw [← rv1.length, sizeLine_eq]
    omega
  show wpAny _ _ (call (.ref (ga X.K x)) us) _ _ _
  have run1 := F1.run _ X.stack _ _ ⟨Value.ref (g0.objs.size + 1) :: us, []⟩ (Value.ref (g0.objs.size + 1) :: us) _ _ (fun _ _ _ => False) (hr.make (ga X.K x) us []) (I2.env0.make (ga X.K x) us []) b2 r2 hq
  refine wpAny_call (PySem.HandSPX.call_own F.excBase_ValueError (fun Z => PySem.HandSPX.refsVE_contains Z bm hbm) (I.kIn _ _ hC) (PySem.W.looks_findIn I.kIn Y.fi) (fun self => PySem.W.bind_fn I.kIn self Y.ty) hus (codeAny_mono run1 (fun r s' hq' => ?_)))
  match r, hq' with
  | .error er, hq' => exact hx pins σ _ _ er s' I2 hq'
  | .ok .next, hq' => exact hq'.elim
  | .ok .brk, hq' => exact hq'.elim
  | .ok .cont, hq' => exact hq'.elim
  | .ok (.ret u), hq' =>
    obtain ⟨v, H2, o2, b2', un2, hk2, rv, ev, d, fs, ea, ed, hd1, q2⟩ := hq'
    obtain rfl := ev
    obtain ⟨h2, gs2, dr2, tk2, os2⟩ := s'
    obtain ⟨u0, G2, J, kG, ge, hoe, na⟩ := mk_end0 (d2 := dr2) (t2 := tk2) I z1 kk un2 hk2 o2 b2' ea ed hd1
    exact ⟨rv, g0.objs.size + 1, _, _, ⟨G2, gs2, dr2, tk2, os2⟩, _, .ref (ga X.K x), some d, rfl, J, kG, ge, hoe, ⟨rfl, rfl, fun vs hv => by cases hv; rfl⟩, rfl, rfl, na, rfl, b2', raises_own T.exC T.tyC, q2⟩
end
theorem int_ok {K : PySem.W.Frag} {mg : Str → Option Value} {x : Str} {i : Int} (N : NsAll K mg) (c : (He.Fa.int x i).ok K = true) : ∃ t, mg x = some (.int i t) := by
  unfold He.Fa.ok at c
  dsimp only at c
  split at c
  · rename_i j t e
    exact ⟨t, (of_decide_eq_true c) ▸ N x _ e⟩
  · cases c
theorem str_ok {K : PySem.W.Frag} {mg : Str → Option Value} {x z : Str} (N : NsAll K mg) (c : (He.Fa.str x z).ok K = true) : ∃ t, mg x = some (.str z t) := by
  unfold He.Fa.ok at c
  dsimp only at c
  split at c
  · rename_i j t e
    exact ⟨t, (of_decide_eq_true c) ▸ N x _ e⟩
  · cases c
end Hk

end
section
set_option Elab.async false
set_option linter.all false
set_option maxRecDepth 100000
set_option maxHeartbeats 4000000
/-! Values without addresses; what stands for them in the heap; readings that follow functions. -/
namespace Fu
open PySem PySem.Spec PyProof.Rows L2
open He (ga)

inductive PV where
  | non | bl (b : Bool) | int (i : Int) | str (x : Str) | ty (n : String)
  | tup (xs : List PV) | ktu (xs : List PV) | lst (xs : List PV) | kls (xs : List PV) | ref (n : Nat) | con (x : Str)
inductive AO where
  | lst (xs : List PV)
  | dic (kvs : List (PV × PV))
  | dct (kvs : List (PV × PV))
  | ins (c : Str) (fs : List (Str × PV))
abbrev AS := List (Option AO)
/-- the addresses of the live objects -/
def Lv (φ : List Addr) (S : AS) : Addr → Prop := fun a => ∃ (n : Nat) (o : AO), S[n]? = some (some o) ∧ φ[n]? = some a
def uni (A B : Addr → Prop) : Addr → Prop := fun a => A a ∨ B a
/-- a tuple, a list that nobody changes -/
def TpI (H : Hp) (M : Addr → Prop) (a : Addr) (vs : List V) : Prop := H a = some (.tup vs) ∧ ¬ M a
/-- a tuple that is not tracked as one (of the top) -/
def KtI (K : PySem.W.Frag) (H : Hp) (M : Addr → Prop) (a : Addr) (vs : List V) : Prop :=
  ((∃ o, H a = some (.frz o (.tup vs))) ∧ ¬ M a) ∨ ∃ (o : Obj) (its : Array Value) (n : Nat), K.lookup a = some o ∧ o.cls = .type "tuple" ∧ o.data = .seq its n ∧ its.size ≤ sizeLine ∧ Vals vs its.toList
def LsI (H : Hp) (M : Addr → Prop) (a : Addr) (vs : List V) : Prop := H a = some (.lst vs) ∧ ¬ M a
/-- a list that is not tracked as one (the script, a list of the top) -/
def KlI (K : PySem.W.Frag) (H : Hp) (M : Addr → Prop) (a : Addr) (vs : List V) : Prop :=
  ((∃ o, H a = some (.frz o (.lst vs))) ∧ ¬ M a) ∨ ∃ (o : Obj) (its : Array Value) (n : Nat), K.lookup a = some o ∧ o.cls = .type "list" ∧ o.dict = none ∧ o.data = .seq its n ∧ its.size ≤ sizeLine ∧ Vals vs its.toList
mutual
inductive RV (K : PySem.W.Frag) (H : Hp) (φ : List Addr) (M : Addr → Prop) : PV → V → Prop
  | non : RV K H φ M .non .non
  | bl {b} : RV K H φ M (.bl b) (.bl b)
  | int {i} : RV K H φ M (.int i) (.int i)
  | str {x} : RV K H φ M (.str x) (.str x)
  | ty {n} : RV K H φ M (.ty n) (.ty n)
  | con {x} : RV K H φ M (.con x) (.ref (ga K x))
  | ref {n a} : φ[n]? = some a → RV K H φ M (.ref n) (.ref a)
  | tup {xs vs a} : TpI H M a vs → RVs K H φ M xs vs → RV K H φ M (.tup xs) (.ref a)
  | ktu {xs vs a} : KtI K H M a vs → RVs K H φ M xs vs → RV K H φ M (.ktu xs) (.ref a)
  | lst {xs vs a} : LsI H M a vs → RVs K H φ M xs vs → RV K H φ M (.lst xs) (.ref a)
  | kls {xs vs a} : KlI K H M a vs → RVs K H φ M xs vs → RV K H φ M (.kls xs) (.ref a)
inductive RVs (K : PySem.W.Frag) (H : Hp) (φ : List Addr) (M : Addr → Prop) : List PV → List V → Prop
  | nil : RVs K H φ M [] []
  | cons {p ps v vs} : RV K H φ M p v → RVs K H φ M ps vs → RVs K H φ M (p :: ps) (v :: vs)
end
section
variable {K : PySem.W.Frag} {H H' : Hp} {φ φ' : List Addr} {M M' : Addr → Prop}
theorem TpI.mono {a : Addr} {vs : List V} (k : ∀ a, H a ≠ none → ¬ M a → H' a = H a ∧ ¬ M' a) (h : TpI H M a vs) : TpI H' M' a vs :=
  let ⟨e, m'⟩ := k a (by rw [h.1]; nofun) h.2
  ⟨e.trans h.1, m'⟩
theorem KtI.mono {a : Addr} {vs : List V} (k : ∀ a, H a ≠ none → ¬ M a → H' a = H a ∧ ¬ M' a) (h : KtI K H M a vs) : KtI K H' M' a vs := by
  rcases h with ⟨⟨o, h⟩, m⟩ | h
  · obtain ⟨e, m'⟩ := k a (by rw [h]; nofun) m
    exact .inl ⟨⟨o, e.trans h⟩, m'⟩
  · exact .inr h
theorem LsI.mono {a : Addr} {vs : List V} (k : ∀ a, H a ≠ none → ¬ M a → H' a = H a ∧ ¬ M' a) (h : LsI H M a vs) : LsI H' M' a vs :=
  let ⟨e, m'⟩ := k a (by rw [h.1]; nofun) h.2
  ⟨e.trans h.1, m'⟩
theorem KlI.mono {a : Addr} {vs : List V} (k : ∀ a, H a ≠ none → ¬ M a → H' a = H a ∧ ¬ M' a) (h : KlI K H M a vs) : KlI K H' M' a vs := by
  rcases h with ⟨⟨o, h⟩, m⟩ | h
  · obtain ⟨e, m'⟩ := k a (by rw [h]; nofun) m
    exact .inl ⟨⟨o, e.trans h⟩, m'⟩
  · exact .inr h
theorem TpI.sq {a : Addr} {vs : List V} (h : TpI H M a vs) : SqT K H a vs := .inl (.inl h.1)
theorem KtI.sq {a : Addr} {vs : List V} (h : KtI K H M a vs) : SqT K H a vs := h.imp (fun z => .inr z.1) id
theorem LsI.sq {a : Addr} {vs : List V} (h : LsI H M a vs) : SqL K H a vs := .inl (.inl h.1)
theorem KlI.sq {a : Addr} {vs : List V} (h : KlI K H M a vs) : SqL K H a vs := h.imp (fun z => .inr z.1) id
mutual
theorem RV.mono (k : ∀ a, H a ≠ none → ¬ M a → H' a = H a ∧ ¬ M' a) (g : ∀ (n : Nat) a, φ[n]? = some a → φ'[n]? = some a) : ∀ {p : PV} {v : V}, RV K H φ M p v → RV K H' φ' M' p v
  | _, _, .non => .non
  | _, _, .bl => .bl
  | _, _, .int => .int
  | _, _, .str => .str
  | _, _, .ty => .ty
  | _, _, .con => .con
  | _, _, .ref h => .ref (g _ _ h)
  | _, _, .tup h r => .tup (h.mono k) (RVs.mono k g r)
  | _, _, .ktu h r => .ktu (h.mono k) (RVs.mono k g r)
  | _, _, .lst h r => .lst (h.mono k) (RVs.mono k g r)
  | _, _, .kls h r => .kls (h.mono k) (RVs.mono k g r)
theorem RVs.mono (k : ∀ a, H a ≠ none → ¬ M a → H' a = H a ∧ ¬ M' a) (g : ∀ (n : Nat) a, φ[n]? = some a → φ'[n]? = some a) : ∀ {p : List PV} {v : List V}, RVs K H φ M p v → RVs K H' φ' M' p v
  | _, _, .nil => .nil
  | _, _, .cons h r => .cons (RV.mono k g h) (RVs.mono k g r)
end
theorem RVs.len : ∀ {ps : List PV} {vs : List V}, RVs K H φ M ps vs → vs.length = ps.length
  | _, _, .nil => rfl
  | _, _, .cons _ r => congrArg Nat.succ r.len
theorem RVs.get : ∀ {ps : List PV} {vs : List V} {i : Nat} {p : PV}, RVs K H φ M ps vs → ps[i]? = some p → ∃ v, vs[i]? = some v ∧ RV K H φ M p v
  | _, _, _, _, .nil, e => by simp at e
  | _, _, 0, _, .cons r _, e => by simp at e; subst e; exact ⟨_, rfl, r⟩
  | _, _, i + 1, _, .cons _ t, e => by
    obtain ⟨u, h1, h2⟩ := RVs.get (i := i) t (by simpa using e)
    exact ⟨u, by simpa using h1, h2⟩
theorem RVs.append : ∀ {ps qs : List PV} {vs ws : List V}, RVs K H φ M ps vs → RVs K H φ M qs ws → RVs K H φ M (ps ++ qs) (vs ++ ws)
  | _, _, _, _, .nil, s => s
  | _, _, _, _, .cons r t, s => .cons r (t.append s)
theorem RVs.take : ∀ {ps : List PV} {vs : List V} (n : Nat), RVs K H φ M ps vs → RVs K H φ M (ps.take n) (vs.take n)
  | _, _, 0, _ => .nil
  | _, _, _ + 1, .nil => .nil
  | _, _, n + 1, .cons r t => .cons r (t.take n)
theorem RVs.drop : ∀ {ps : List PV} {vs : List V} (n : Nat), RVs K H φ M ps vs → RVs K H φ M (ps.drop n) (vs.drop n)
  | _, _, 0, r => r
  | _, _, _ + 1, .nil => .nil
  | _, _, n + 1, .cons _ t => t.drop n
theorem RVs.set {p : PV} {v : V} (r : RV K H φ M p v) : ∀ {ps : List PV} {vs : List V} (i : Nat), RVs K H φ M ps vs → RVs K H φ M (ps.set i p) (vs.set i v)
  | _, _, _, .nil => .nil
  | _, _, 0, .cons _ t => .cons r t
  | _, _, i + 1, .cons q t => .cons q (t.set r i)
theorem RVs.eraseIdx : ∀ {ps : List PV} {vs : List V} (i : Nat), RVs K H φ M ps vs → RVs K H φ M (ps.eraseIdx i) (vs.eraseIdx i)
  | _, _, _, .nil => .nil
  | _, _, 0, .cons _ t => t
  | _, _, i + 1, .cons q t => .cons q (t.eraseIdx i)
theorem RVs.reverse : ∀ {ps : List PV} {vs : List V}, RVs K H φ M ps vs → RVs K H φ M ps.reverse vs.reverse
  | _, _, .nil => .nil
  | _, _, .cons q t => by
    rw [List.reverse_cons, List.reverse_cons]
    exact t.reverse.append (.cons q .nil)
end
/-! ### states -/
/-- fields, by names -/
inductive RFs (K : PySem.W.Frag) (H : Hp) (φ : List Addr) (M : Addr → Prop) : List (Str × PV) → List (Str × V) → Prop
  | nil : RFs K H φ M [] []
  | cons {x p v ps vs} : RV K H φ M p v → RFs K H φ M ps vs → RFs K H φ M ((x, p) :: ps) ((x, v) :: vs)
def keyOf : PV → Option Key
  | .int i => some (.inl i)
  | .str x => some (.inr x)
  | _ => none
inductive RKs (K : PySem.W.Frag) (H : Hp) (φ : List Addr) (M : Addr → Prop) : List (PV × PV) → List (Key × V) → Prop
  | nil : RKs K H φ M [] []
  | cons {k x p v ps vs} : keyOf k = some x → RV K H φ M p v → RKs K H φ M ps vs → RKs K H φ M ((k, p) :: ps) ((x, v) :: vs)
def keysOf : List PV → Option (List Key)
  | [] => some []
  | p :: ps => match keyOf p, keysOf ps with
    | some k, some ks => some (k :: ks)
    | _, _ => none
def tupKey : PV → Option (List Key)
  | .tup ps => keysOf ps
  | _ => none
inductive RTs (K : PySem.W.Frag) (H : Hp) (φ : List Addr) (M : Addr → Prop) : List (PV × PV) → List (List Key × V) → Prop
  | nil : RTs K H φ M [] []
  | cons {k x p v ps vs} : tupKey k = some x → RV K H φ M p v → RTs K H φ M ps vs → RTs K H φ M ((k, p) :: ps) ((x, v) :: vs)
inductive RO (K : PySem.W.Frag) (H : Hp) (φ : List Addr) (M : Addr → Prop) : AO → HO → Prop
  | lst {xs vs} : RVs K H φ M xs vs → RO K H φ M (.lst xs) (.lst vs)
  | dK {kvs ws} : RKs K H φ M kvs ws → RO K H φ M (.dic kvs) (.dK ws)
  | dT {kvs ws} : RTs K H φ M kvs ws → RO K H φ M (.dct kvs) (.dT ws)
  | ins {c fs dx gs} : RFs K H φ M fs gs → RO K H φ M (.ins c fs) (.ins (ga K c) dx gs)
section
variable {K : PySem.W.Frag} {H H' : Hp} {φ φ' : List Addr} {M M' : Addr → Prop}
theorem RFs.mono (k : ∀ a, H a ≠ none → ¬ M a → H' a = H a ∧ ¬ M' a) (g : ∀ (n : Nat) a, φ[n]? = some a → φ'[n]? = some a) : ∀ {p q}, RFs K H φ M p q → RFs K H' φ' M' p q
  | _, _, .nil => .nil
  | _, _, .cons h r => .cons (h.mono k g) (r.mono k g)
theorem RKs.mono (k : ∀ a, H a ≠ none → ¬ M a → H' a = H a ∧ ¬ M' a) (g : ∀ (n : Nat) a, φ[n]? = some a → φ'[n]? = some a) : ∀ {p q}, RKs K H φ M p q → RKs K H' φ' M' p q
  | _, _, .nil => .nil
  | _, _, .cons e h r => .cons e (h.mono k g) (r.mono k g)
theorem RTs.mono (k : ∀ a, H a ≠ none → ¬ M a → H' a = H a ∧ ¬ M' a) (g : ∀ (n : Nat) a, φ[n]? = some a → φ'[n]? = some a) : ∀ {p q}, RTs K H φ M p q → RTs K H' φ' M' p q
  | _, _, .nil => .nil
  | _, _, .cons e h r => .cons e (h.mono k g) (r.mono k g)
theorem RO.mono (k : ∀ a, H a ≠ none → ¬ M a → H' a = H a ∧ ¬ M' a) (g : ∀ (n : Nat) a, φ[n]? = some a → φ'[n]? = some a) : ∀ {p q}, RO K H φ M p q → RO K H' φ' M' p q
  | _, _, .lst h => .lst (h.mono k g)
  | _, _, .dK h => .dK (h.mono k g)
  | _, _, .dT h => .dT (h.mono k g)
  | _, _, .ins h => .ins (h.mono k g)
end
/-- the live objects stand in the heap; F: what is not to be touched -/
structure WF (K : PySem.W.Frag) (H : Hp) (φ : List Addr) (S : AS) (F : Addr → Prop) : Prop where
  len : φ.length = S.length
  live : ∀ (n : Nat) o, S[n]? = some (some o) → ∃ a ho, φ[n]? = some a ∧ H a = some ho ∧ RO K H φ (uni (Lv φ S) F) o ho
  inj : ∀ (n m : Nat) a o u, S[n]? = some (some o) → S[m]? = some (some u) → φ[n]? = some a → φ[m]? = some a → n = m
  away : ∀ a, F a → H a ≠ none ∧ ¬ Lv φ S a
/-- from one state to a later one: what is not at M stands as it was -/
structure Ev (H : Hp) (φ : List Addr) (M : Addr → Prop) (H' : Hp) (φ' : List Addr) (M' : Addr → Prop) : Prop where
  stay : ∀ a, H a ≠ none → H' a ≠ none
  keep : ∀ a, H a ≠ none → ¬ M a → H' a = H a ∧ ¬ M' a
  pre : ∀ (n : Nat) a, φ[n]? = some a → φ'[n]? = some a
section
variable {K : PySem.W.Frag} {H H' H1 H2 : Hp} {φ φ' φ1 φ2 : List Addr} {M M' M1 M2 F : Addr → Prop} {S S' S1 S2 : AS}
theorem Ev.refl : Ev H φ M H φ M := ⟨fun _ h => h, fun _ _ m => ⟨rfl, m⟩, fun _ _ h => h⟩
theorem Ev.trans (a : Ev H φ M H1 φ1 M1) (b : Ev H1 φ1 M1 H2 φ2 M2) : Ev H φ M H2 φ2 M2 :=
  ⟨fun x h => b.stay x (a.stay x h), fun x h m => by
    obtain ⟨e1, m1⟩ := a.keep x h m
    obtain ⟨e2, m2⟩ := b.keep x (by rw [e1]; exact h) m1
    exact ⟨e2.trans e1, m2⟩, fun n x h => b.pre n x (a.pre n x h)⟩
/-- with what is not to be touched -/
theorem Ev.keepU (e : Ev H φ (Lv φ S) H' φ' (Lv φ' S')) : ∀ a, H a ≠ none → ¬ uni (Lv φ S) F a → H' a = H a ∧ ¬ uni (Lv φ' S') F a := fun a h m => by
  obtain ⟨e1, m1⟩ := e.keep a h fun z => m (.inl z)
  exact ⟨e1, fun z => z.elim m1 fun z => m (.inr z)⟩
theorem Ev.rv (e : Ev H φ (Lv φ S) H' φ' (Lv φ' S')) {p : PV} {v : V} (r : RV K H φ (uni (Lv φ S) F) p v) : RV K H' φ' (uni (Lv φ' S') F) p v := r.mono e.keepU e.pre
theorem Ev.rvs (e : Ev H φ (Lv φ S) H' φ' (Lv φ' S')) {p : List PV} {v : List V} (r : RVs K H φ (uni (Lv φ S) F) p v) : RVs K H' φ' (uni (Lv φ' S') F) p v := r.mono e.keepU e.pre
theorem WF.away' (w : WF K H φ S F) (e : Ev H φ (Lv φ S) H' φ' (Lv φ' S')) : ∀ a, F a → H' a ≠ none ∧ ¬ Lv φ' S' a := fun a h => by
  obtain ⟨h1, h2⟩ := w.away a h
  obtain ⟨e1, m1⟩ := e.keep a h1 h2
  exact ⟨by rw [e1]; exact h1, m1⟩
/-- a new object that nobody tracks as live: the state stays well -/
theorem lv_none (w : WF K H φ S F) {p : Addr} (hp : H p = none) : ¬ Lv φ S p := fun ⟨n, o, e1, e2⟩ => by
  obtain ⟨a, ho, e3, e4, _⟩ := w.live n o e1
  rw [e2] at e3
  cases e3
  rw [hp] at e4
  cases e4
theorem f_none (w : WF K H φ S F) {p : Addr} (hp : H p = none) : ¬ F p := fun h => (w.away p h).1 hp
theorem ev_new {o : HO} {p : Addr} (hp : H p = none) : Ev H φ M (upd H p o) φ M := ⟨fun a h => by
  have e : upd H p o a = H a := upd_ne (fun z => h (by rw [z]; exact hp))
  rw [e]; exact h, fun a h m => ⟨upd_ne fun z => h (z ▸ hp), m⟩, fun _ _ h => h⟩
theorem WF.new (w : WF K H φ S F) {p : Addr} {o : HO} (hp : H p = none) : WF K (upd H p o) φ S F where
  len := w.len
  live := fun n u e => by
    obtain ⟨a, ho, e1, e2, r⟩ := w.live n u e
    refine ⟨a, ho, e1, (upd_ne fun z => ?_).trans e2, r.mono (ev_new (M := uni (Lv φ S) F) (φ := φ) hp).keep fun _ _ h => h⟩
    rw [z, hp] at e2
    cases e2
  inj := w.inj
  away := fun a h => by
    obtain ⟨h1, h2⟩ := w.away a h
    have e : upd H p o a = H a := upd_ne (fun z => h1 (by rw [z]; exact hp))
    exact ⟨by rw [e]; exact h1, h2⟩
theorem RV.newTup (w : WF K H φ S F) {p : Addr} {xs : List PV} {vs : List V} (hp : H p = none) (r : RVs K H φ (uni (Lv φ S) F) xs vs) : RV K (upd H p (.tup vs)) φ (uni (Lv φ S) F) (.tup xs) (.ref p) :=
  .tup ⟨upd_same, fun z => z.elim (lv_none w hp) (f_none w hp)⟩ (r.mono (ev_new (φ := φ) hp).keep fun _ _ h => h)
theorem RV.newLst (w : WF K H φ S F) {p : Addr} {xs : List PV} {vs : List V} (hp : H p = none) (r : RVs K H φ (uni (Lv φ S) F) xs vs) : RV K (upd H p (.lst vs)) φ (uni (Lv φ S) F) (.lst xs) (.ref p) :=
  .lst ⟨upd_same, fun z => z.elim (lv_none w hp) (f_none w hp)⟩ (r.mono (ev_new (φ := φ) hp).keep fun _ _ h => h)
end
end Fu

end
section
set_option Elab.async false
set_option linter.all false
set_option maxRecDepth 100000
set_option maxHeartbeats 4000000
namespace Fu
open PySem PySem.Spec PyProof.Rows L2
open He (ga)
/-- what comes of an evaluation -/
inductive R (α : Type) where
  | ok (a : α) (S : AS) | exc (c : Str) (fs : List (Str × PV)) (S : AS) | stuck
def R.bind {α β : Type} (r : R α) (g : α → AS → R β) : R β := match r with
  | .ok a S => g a S
  | .exc c fs S => .exc c fs S
  | .stuck => .stuck
@[simp] theorem R.bind_ok {α β : Type} {a : α} {S : AS} {g : α → AS → R β} : (R.ok a S).bind g = g a S := rfl
@[simp] theorem R.bind_exc {α β : Type} {c : Str} {fs : List (Str × PV)} {S : AS} {g : α → AS → R β} : (R.exc c fs S : R α).bind g = .exc c fs S := rfl
@[simp] theorem R.bind_stuck {α β : Type} {g : α → AS → R β} : (R.stuck : R α).bind g = .stuck := rfl
/-- a slot: nothing known; a value; a list that the slot alone holds -/
inductive Sl where
  | no | val (p : PV) | own (xs : List PV)
abbrev Sls := List Sl
structure RE (K : PySem.W.Frag) (H : Hp) (φ : List Addr) (M O : Addr → Prop) (η : Sls) (σ : L2.St) : Prop where
  len : σ.length = η.length
  val : ∀ (i : Nat) p, η[i]? = some (.val p) → ∃ v, σ[i]? = some (some v) ∧ RV K H φ M p v
  own : ∀ (i : Nat) xs, η[i]? = some (.own xs) → ∃ a vs, σ[i]? = some (some (.ref a)) ∧ H a = some (.lst vs) ∧ RVs K H φ M xs vs ∧ O a
/-- the error's own dict -/
def RX (K : PySem.W.Frag) (H : Hp) (φ : List Addr) (M : Addr → Prop) (fs : List (Str × PV)) (d : Option Addr) : Prop :=
  (fs = [] ∧ d = none) ∨ ∃ dd gs, d = some dd ∧ H dd = some (.xd gs) ∧ RFs K H φ M fs gs ∧ ¬ M dd
/-- a value, or a list that is lent -/
def RB (K : PySem.W.Frag) (H : Hp) (φ : List Addr) (M O : Addr → Prop) (p : PV) (v : V) : Prop :=
  RV K H φ M p v ∨ ∃ a xs vs, p = .lst xs ∧ v = .ref a ∧ H a = some (.lst vs) ∧ O a ∧ RVs K H φ M xs vs
abbrev XW := L2.St → XK
def GoE {α : Type} (K : PySem.W.Frag) (E : XK) (F : Addr → Prop) (H : Hp) (φ : List Addr) (S : AS) (r : R α) (P : α → List Addr → AS → Hp → Prop) : Prop := match r with
  | .ok a S' => ∀ φ' H', Ev H φ (Lv φ S) H' φ' (Lv φ' S') → WF K H' φ' S' F → P a φ' S' H'
  | .exc c fs S' => ∀ φ' H' d, Ev H φ (Lv φ S) H' φ' (Lv φ' S') → WF K H' φ' S' F → RX K H' φ' (uni (Lv φ' S') F) fs d → E (.ref (ga K c)) d H'
  | .stuck => False
section
variable {K : PySem.W.Frag} {E : XK} {F O : Addr → Prop} {H H' H1 : Hp} {φ φ' φ1 : List Addr} {S S' S1 : AS} {α β : Type} {η : Sls} {σ : L2.St}
theorem RE.mono (w : WF K H φ S F) (hO : ∀ a, O a → F a) (e : Ev H φ (Lv φ S) H' φ' (Lv φ' S')) (r : RE K H φ (uni (Lv φ S) F) O η σ) : RE K H' φ' (uni (Lv φ' S') F) O η σ where
  len := r.len
  val := fun i p h => let ⟨v, h1, h2⟩ := r.val i p h; ⟨v, h1, e.rv h2⟩
  own := fun i xs h => by
    obtain ⟨a, vs, h1, h2, h3, h4⟩ := r.own i xs h
    obtain ⟨q1, q2⟩ := w.away a (hO a h4)
    exact ⟨a, vs, h1, (e.keep a q1 q2).1.trans h2, e.rvs h3, h4⟩
theorem RB.mono (w : WF K H φ S F) (hO : ∀ a, O a → F a) (e : Ev H φ (Lv φ S) H' φ' (Lv φ' S')) {p : PV} {v : V} (r : RB K H φ (uni (Lv φ S) F) O p v) : RB K H' φ' (uni (Lv φ' S') F) O p v := by
  rcases r with r | ⟨a, xs, vs, h1, h2, h3, h4, h5⟩
  · exact .inl (e.rv r)
  · obtain ⟨q1, q2⟩ := w.away a (hO a h4)
    exact .inr ⟨a, xs, vs, h1, h2, (e.keep a q1 q2).1.trans h3, h4, e.rvs h5⟩
theorem GoE.bind {r : R α} {g : α → AS → R β} {P : β → List Addr → AS → Hp → Prop} (h : GoE K E F H φ S (r.bind g) P) : GoE K E F H φ S r fun a φ1 S1 H1 => GoE K E F H1 φ1 S1 (g a S1) P := by
  cases r with
  | ok a S1 =>
    intro φ1 H1 e1 w1
    have h' : GoE K E F H φ S (g a S1) P := h
    cases q : g a S1 with
    | ok b S2 =>
      rw [q] at h'
      exact fun φ2 H2 e2 w2 => h' φ2 H2 (e1.trans e2) w2
    | exc c fs S2 =>
      rw [q] at h'
      exact fun φ2 H2 d e2 w2 x => h' φ2 H2 d (e1.trans e2) w2 x
    | stuck =>
      rw [q] at h'
      exact h'.elim
  | exc c fs S2 => exact h
  | stuck => exact h
theorem GoE.imp {r : R α} {P P' : α → List Addr → AS → Hp → Prop} (h : GoE K E F H φ S r P) (f : ∀ a φ' S' H', Ev H φ (Lv φ S) H' φ' (Lv φ' S') → WF K H' φ' S' F → P a φ' S' H' → P' a φ' S' H') : GoE K E F H φ S r P' := by
  cases r with
  | ok a S1 => exact fun φ1 H1 e1 w1 => f _ _ _ _ e1 w1 (h φ1 H1 e1 w1)
  | exc c fs S2 => exact h
  | stuck => exact h
theorem GoE.ok {a : α} {P : α → List Addr → AS → Hp → Prop} (w : WF K H φ S F) (h : GoE K E F H φ S (.ok a S) P) : P a φ S H := h φ H Ev.refl w
theorem GoE.new {a : α} {P : α → List Addr → AS → Hp → Prop} (w : WF K H φ S F) {p : Addr} {o : HO} (hp : H p = none) (h : GoE K E F H φ S (.ok a S) P) : P a φ S (upd H p o) := h φ _ (ev_new hp) (w.new hp)
end
/-! ### expressions that follow functions -/
abbrev FE := Sls → AS → R PV
abbrev FT := Sls → AS → R Bool
abbrev FA := Sls → AS → R (List PV)
abbrev FO := Sls → AS → R (Option Int)
def SimE (K : PySem.W.Frag) (E : XW) (t : TE) (f : FE) : Prop := ∀ (H : Hp) (φ : List Addr) (S : AS) (F O : Addr → Prop) (η : Sls) (σ : L2.St) (Q : VK), WF K H φ S F → (∀ a, O a → F a) → RE K H φ (uni (Lv φ S) F) O η σ →
  GoE K (E σ) F H φ S (f η S) (fun p φ' S' H' => ∀ v, RV K H' φ' (uni (Lv φ' S') F) p v → Q v H') → t σ H Q
/-- .. whose value may be lent -/
def SimB (K : PySem.W.Frag) (E : XW) (t : TE) (f : FE) : Prop := ∀ (H : Hp) (φ : List Addr) (S : AS) (F O : Addr → Prop) (η : Sls) (σ : L2.St) (Q : VK), WF K H φ S F → (∀ a, O a → F a) → RE K H φ (uni (Lv φ S) F) O η σ →
  GoE K (E σ) F H φ S (f η S) (fun p φ' S' H' => ∀ v, RB K H' φ' (uni (Lv φ' S') F) O p v → Q v H') → t σ H Q
def SimT (K : PySem.W.Frag) (E : XW) (t : TT) (f : FT) : Prop := ∀ (H : Hp) (φ : List Addr) (S : AS) (F O : Addr → Prop) (η : Sls) (σ : L2.St) (Q : Bool → Hp → Prop), WF K H φ S F → (∀ a, O a → F a) → RE K H φ (uni (Lv φ S) F) O η σ →
  GoE K (E σ) F H φ S (f η S) (fun p φ' S' H' => Q p H') → t σ H Q
def SimA (K : PySem.W.Frag) (E : XW) (t : TA) (f : FA) : Prop := ∀ (H : Hp) (φ : List Addr) (S : AS) (F O : Addr → Prop) (η : Sls) (σ : L2.St) (Q : List V → Hp → Prop), WF K H φ S F → (∀ a, O a → F a) → RE K H φ (uni (Lv φ S) F) O η σ →
  GoE K (E σ) F H φ S (f η S) (fun p φ' S' H' => ∀ v, RVs K H' φ' (uni (Lv φ' S') F) p v → Q v H') → t σ H Q
/-- arguments that may be lent -/
def RBs (K : PySem.W.Frag) (H : Hp) (φ : List Addr) (M O : Addr → Prop) : List PV → List V → Prop
  | [], [] => True
  | p :: ps, v :: vs => RB K H φ M O p v ∧ RBs K H φ M O ps vs
  | _, _ => False
def SimAB (K : PySem.W.Frag) (E : XW) (t : TA) (f : FA) : Prop := ∀ (H : Hp) (φ : List Addr) (S : AS) (F O : Addr → Prop) (η : Sls) (σ : L2.St) (Q : List V → Hp → Prop), WF K H φ S F → (∀ a, O a → F a) → RE K H φ (uni (Lv φ S) F) O η σ →
  GoE K (E σ) F H φ S (f η S) (fun p φ' S' H' => ∀ v, RBs K H' φ' (uni (Lv φ' S') F) O p v → Q v H') → t σ H Q
def SimO (K : PySem.W.Frag) (E : XW) (t : TO) (f : FO) : Prop := ∀ (H : Hp) (φ : List Addr) (S : AS) (F O : Addr → Prop) (η : Sls) (σ : L2.St) (Q : Option Int → Hp → Prop), WF K H φ S F → (∀ a, O a → F a) → RE K H φ (uni (Lv φ S) F) O η σ →
  GoE K (E σ) F H φ S (f η S) (fun p φ' S' H' => Q p H') → t σ H Q
/-- operations by values -/
def SimR (K : PySem.W.Frag) (r : R2) (g : PV → PV → AS → R PV) : Prop := ∀ (H : Hp) (φ : List Addr) (S : AS) (F O : Addr → Prop) (p q : PV) (x y : V) (Q : VK), WF K H φ S F → (∀ a, O a → F a) → RB K H φ (uni (Lv φ S) F) O p x → RB K H φ (uni (Lv φ S) F) O q y →
  GoE K (fun _ _ _ => False) F H φ S (g p q S) (fun p φ' S' H' => ∀ v, RV K H' φ' (uni (Lv φ' S') F) p v → Q v H') → r x y H Q
def SimU (K : PySem.W.Frag) (r : V → Hp → VK → Prop) (g : PV → AS → R PV) : Prop := ∀ (H : Hp) (φ : List Addr) (S : AS) (F O : Addr → Prop) (p : PV) (x : V) (Q : VK), WF K H φ S F → (∀ a, O a → F a) → RB K H φ (uni (Lv φ S) F) O p x →
  GoE K (fun _ _ _ => False) F H φ S (g p S) (fun p φ' S' H' => ∀ v, RV K H' φ' (uni (Lv φ' S') F) p v → Q v H') → r x H Q
def SimC (K : PySem.W.Frag) (r : List V → Hp → VK → Prop) (g : List PV → AS → R PV) : Prop := ∀ (H : Hp) (φ : List Addr) (S : AS) (F O : Addr → Prop) (ps : List PV) (xs : List V) (Q : VK), WF K H φ S F → (∀ a, O a → F a) → RBs K H φ (uni (Lv φ S) F) O ps xs →
  GoE K (fun _ _ _ => False) F H φ S (g ps S) (fun p φ' S' H' => ∀ v, RV K H' φ' (uni (Lv φ' S') F) p v → Q v H') → r xs H Q
def SimSl (K : PySem.W.Frag) (r : V → Option Int → Option Int → Hp → VK → Prop) (g : PV → Option Int → Option Int → AS → R PV) : Prop := ∀ (H : Hp) (φ : List Addr) (S : AS) (F O : Addr → Prop) (p : PV) (x : V) (lo hi : Option Int) (Q : VK), WF K H φ S F → (∀ a, O a → F a) → RB K H φ (uni (Lv φ S) F) O p x →
  GoE K (fun _ _ _ => False) F H φ S (g p lo hi S) (fun p φ' S' H' => ∀ v, RV K H' φ' (uni (Lv φ' S') F) p v → Q v H') → r x lo hi H Q
section
variable {K : PySem.W.Frag} {E : XW} {F : Addr → Prop} {H : Hp} {φ : List Addr} {S : AS}
theorem GoE.noE {α : Type} {E : XK} {r : R α} {P : α → List Addr → AS → Hp → Prop} (h : GoE K E F H φ S r P) (hn : ∀ c fs S', r ≠ .exc c fs S') : GoE K (fun _ _ _ => False) F H φ S r P := by
  cases r with
  | ok a S1 => exact h
  | exc c fs S2 => exact (hn c fs S2 rfl).elim
  | stuck => exact h
end
/-- a value's function, its errors none -/
def pureR {α : Type} (r : R α) : R α := match r with
  | .ok a S => .ok a S
  | _ => .stuck
theorem pureR_go {α : Type} {K : PySem.W.Frag} {E : XK} {F : Addr → Prop} {H : Hp} {φ : List Addr} {S : AS} {r : R α} {P : α → List Addr → AS → Hp → Prop} (h : GoE K E F H φ S (pureR r) P) : GoE K (fun _ _ _ => False) F H φ S r P := by
  cases r with
  | ok a S1 => exact h
  | exc c fs S2 => exact h.elim
  | stuck => exact h
/-! ### the functions -/
def varF (i : Nat) : FE := fun η S => match η[i]? with
  | some (.val p) => .ok p S
  | _ => .stuck
def bvarF (i : Nat) : FE := fun η S => match η[i]? with
  | some (.val p) => .ok p S
  | some (.own xs) => .ok (.lst xs) S
  | _ => .stuck
def cF (p : PV) : FE := fun _ S => .ok p S
def opF (g : PV → PV → AS → R PV) (a b : FE) : FE := fun η S => (a η S).bind fun p S => (b η S).bind fun q S => pureR (g p q S)
def unF (g : PV → AS → R PV) (a : FE) : FE := fun η S => (a η S).bind fun p S => pureR (g p S)
def callB (g : List PV → AS → R PV) (a : FA) : FE := fun η S => (a η S).bind fun p S => pureR (g p S)
def toB : PV → AS → R Bool := fun p S => match p with
  | .bl b => .ok b S
  | _ => .stuck
def tstF (f : FE) : FT := fun η S => (f η S).bind toB
def andT (a b : FT) : FT := fun η S => (a η S).bind fun c S => if c = true then b η S else .ok false S
def orT (a b : FT) : FT := fun η S => (a η S).bind fun c S => if c = true then .ok true S else b η S
def notT (a : FT) : FT := fun η S => (a η S).bind fun c S => .ok (!c) S
def andF (a b : FE) : FE := fun η S => (a η S).bind fun p S => (toB p S).bind fun c S => if c = true then b η S else .ok (.bl false) S
def orF (a b : FE) : FE := fun η S => (a η S).bind fun p S => (toB p S).bind fun c S => if c = true then .ok (.bl true) S else b η S
def notF (a : FE) : FE := fun η S => (a η S).bind fun p S => (toB p S).bind fun c S => .ok (.bl (!c)) S
def ifF (c : FT) (a b : FE) : FE := fun η S => (c η S).bind fun d S => if d = true then a η S else b η S
def nilA : FA := fun _ S => .ok [] S
def consA (a : FE) (r : FA) : FA := fun η S => (a η S).bind fun p S => (r η S).bind fun ps S => .ok (p :: ps) S
def tupF (a : FA) : FE := fun η S => (a η S).bind fun ps S => if ps.length ≤ 1000000 then .ok (.tup ps) S else .stuck
def lstF (a : FA) : FE := fun η S => (a η S).bind fun ps S => if ps.length ≤ 1000000 then .ok (.lst ps) S else .stuck
def noneO : FO := fun _ S => .ok none S
def someO (a : FE) : FO := fun η S => (a η S).bind fun p S => match p with
  | .int i => .ok (some i) S
  | _ => .stuck
def slF (g : PV → Option Int → Option Int → AS → R PV) (a : FE) (l h : FO) : FE := fun η S => (a η S).bind fun p S => (l η S).bind fun l S => (h η S).bind fun u S => pureR (g p l u S)
theorem million {n : Nat} (h : n ≤ 1000000) : n ≤ sizeLine := by rw [sizeLine_eq]; omega
section
variable {K : PySem.W.Frag} {E : XW}
theorem SimE.b {t : TE} {f : FE} (s : SimE K E t f) : SimB K E t f := fun H φ S F O η σ Q w hO r h => s H φ S F O η σ Q w hO r (h.imp fun p φ' S' H' _ _ q v rv => q v (.inl rv))
theorem se_var {i : Nat} : SimE K E (tVar i) (varF i) := fun H φ S F O η σ Q w hO r h => by
  unfold varF at h
  split at h
  · rename_i p e
    obtain ⟨v, e1, e2⟩ := r.val i p e
    exact ⟨v, e1, h.ok w v e2⟩
  · exact h.elim
theorem sb_var {i : Nat} : SimB K E (tVar i) (bvarF i) := fun H φ S F O η σ Q w hO r h => by
  unfold bvarF at h
  split at h
  · rename_i p e
    obtain ⟨v, e1, e2⟩ := r.val i p e
    exact ⟨v, e1, h.ok w v (.inl e2)⟩
  · rename_i xs e
    obtain ⟨a, vs, e1, e2, e3, e4⟩ := r.own i xs e
    exact ⟨_, e1, h.ok w _ (.inr ⟨a, xs, vs, rfl, rfl, e2, e4, e3⟩)⟩
  · exact h.elim
theorem se_int {i : Int} : SimE K E (tC (.int i)) (cF (.int i)) := fun H φ S F O η σ Q w hO r h => h.ok w _ .int
theorem se_bl {i : Bool} : SimE K E (tC (.bl i)) (cF (.bl i)) := fun H φ S F O η σ Q w hO r h => h.ok w _ .bl
theorem se_non : SimE K E (tC .non) (cF .non) := fun H φ S F O η σ Q w hO r h => h.ok w _ .non
theorem se_str {x : Str} : SimE K E (tC (.str x)) (cF (.str x)) := fun H φ S F O η σ Q w hO r h => h.ok w _ .str
theorem se_ty {x : String} : SimE K E (tC (.ty x)) (cF (.ty x)) := fun H φ S F O η σ Q w hO r h => h.ok w _ .ty
theorem se_con {x : Str} : SimE K E (tC (.ref (ga K x))) (cF (.con x)) := fun H φ S F O η σ Q w hO r h => h.ok w _ .con
theorem se_op {r : R2} {g : PV → PV → AS → R PV} {ta tb : TE} {fa fb : FE} (hr : SimR K r g) (ha : SimB K E ta fa) (hb : SimB K E tb fb) : SimE K E (tOp r ta tb) (opF g fa fb) := fun H φ S F O η σ Q w hO re h => by
  refine ha H φ S F O η σ _ w hO re (h.bind.imp fun p φ1 S1 H1 e1 w1 h1 x rx => ?_)
  refine hb H1 φ1 S1 F O η σ _ w1 hO (re.mono w hO e1) (h1.bind.imp fun q φ2 S2 H2 e2 w2 h2 y ry => ?_)
  exact hr H2 φ2 S2 F O p q x y Q w2 hO (rx.mono w1 hO e2) ry (pureR_go h2)
theorem se_un {r : V → Hp → VK → Prop} {g : PV → AS → R PV} {ta : TE} {fa : FE} (hr : SimU K r g) (ha : SimB K E ta fa) : SimE K E (tUn r ta) (unF g fa) := fun H φ S F O η σ Q w hO re h => by
  refine ha H φ S F O η σ _ w hO re (h.bind.imp fun p φ1 S1 H1 e1 w1 h1 x rx => ?_)
  exact hr H1 φ1 S1 F O p x Q w1 hO rx (pureR_go h1)
theorem se_cb {r : List V → Hp → VK → Prop} {g : List PV → AS → R PV} {ta : TA} {fa : FA} (hr : SimC K r g) (ha : SimAB K E ta fa) : SimE K E (tCB r ta) (callB g fa) := fun H φ S F O η σ Q w hO re h => by
  refine ha H φ S F O η σ _ w hO re (h.bind.imp fun p φ1 S1 H1 e1 w1 h1 x rx => ?_)
  exact hr H1 φ1 S1 F O p x Q w1 hO rx (pureR_go h1)
theorem toB_go {K : PySem.W.Frag} {E : XK} {F : Addr → Prop} {H : Hp} {φ : List Addr} {S : AS} {p : PV} {P : Bool → List Addr → AS → Hp → Prop} {M O : Addr → Prop} {v : V} (w : WF K H φ S F) (r : RB K H φ M O p v) (h : GoE K E F H φ S (toB p S) P) : ∃ b, p = .bl b ∧ v = .bl b ∧ P b φ S H := by
  unfold toB at h
  split at h
  · rename_i b
    rcases r with r | ⟨_, _, _, z, _⟩
    · cases r
      exact ⟨b, rfl, rfl, h.ok w⟩
    · cases z
  · exact h.elim
theorem st_tst {t : TE} {f : FE} (s : SimB K E t f) : SimT K E (tTest t) (tstF f) := fun H φ S F O η σ Q w hO re h => by
  refine s H φ S F O η σ _ w hO re (h.bind.imp fun p φ1 S1 H1 e1 w1 h1 x rx => ?_)
  obtain ⟨b, _, e2, h2⟩ := toB_go w1 rx h1
  exact ⟨b, e2, h2⟩
theorem st_tB {t : TE} {f : FE} (s : SimB K E t f) : SimT K E (tB t) (tstF f) := st_tst s
theorem st_and {t u : TT} {f g : FT} (a : SimT K E t f) (b : SimT K E u g) : SimT K E (tAnd t u) (andT f g) := fun H φ S F O η σ Q w hO re h => by
  refine a H φ S F O η σ _ w hO re (h.bind.imp fun c φ1 S1 H1 e1 w1 h1 => ?_)
  cases c with
  | true => exact b H1 φ1 S1 F O η σ _ w1 hO (re.mono w hO e1) h1
  | false => exact h1.ok w1
theorem st_or {t u : TT} {f g : FT} (a : SimT K E t f) (b : SimT K E u g) : SimT K E (tOr t u) (orT f g) := fun H φ S F O η σ Q w hO re h => by
  refine a H φ S F O η σ _ w hO re (h.bind.imp fun c φ1 S1 H1 e1 w1 h1 => ?_)
  cases c with
  | false => exact b H1 φ1 S1 F O η σ _ w1 hO (re.mono w hO e1) h1
  | true => exact h1.ok w1
theorem st_not {t : TT} {f : FT} (a : SimT K E t f) : SimT K E (tNot t) (notT f) := fun H φ S F O η σ Q w hO re h => by
  refine a H φ S F O η σ _ w hO re (h.bind.imp fun c φ1 S1 H1 e1 w1 h1 => h1.ok w1)
theorem se_and {ta tb : TE} {f g : FE} (a : SimB K E ta f) (b : SimE K E tb g) : SimE K E (tAndV ta tb) (andF f g) := fun H φ S F O η σ Q w hO re h => by
  refine a H φ S F O η σ _ w hO re (h.bind.imp fun p φ1 S1 H1 e1 w1 h1 x rx => ?_)
  obtain ⟨c, _, e2, h2⟩ := toB_go w1 rx h1.bind
  refine ⟨c, e2, ?_⟩
  cases c with
  | true => exact b H1 φ1 S1 F O η σ _ w1 hO (re.mono w hO e1) h2
  | false => exact h2.ok w1 _ .bl
theorem se_or {ta tb : TE} {f g : FE} (a : SimB K E ta f) (b : SimE K E tb g) : SimE K E (tOrV ta tb) (orF f g) := fun H φ S F O η σ Q w hO re h => by
  refine a H φ S F O η σ _ w hO re (h.bind.imp fun p φ1 S1 H1 e1 w1 h1 x rx => ?_)
  obtain ⟨c, _, e2, h2⟩ := toB_go w1 rx h1.bind
  refine ⟨c, e2, ?_⟩
  cases c with
  | false => exact b H1 φ1 S1 F O η σ _ w1 hO (re.mono w hO e1) h2
  | true => exact h2.ok w1 _ .bl
theorem se_not {ta : TE} {f : FE} (a : SimB K E ta f) : SimE K E (tNotV ta) (notF f) := fun H φ S F O η σ Q w hO re h => by
  refine a H φ S F O η σ _ w hO re (h.bind.imp fun p φ1 S1 H1 e1 w1 h1 x rx => ?_)
  obtain ⟨c, _, e2, h2⟩ := toB_go w1 rx h1.bind
  exact ⟨c, e2, h2.ok w1 _ .bl⟩
theorem se_if {c : TT} {ta tb : TE} {fc : FT} {f g : FE} (hc : SimT K E c fc) (a : SimE K E ta f) (b : SimE K E tb g) : SimE K E (tIf c ta tb) (ifF fc f g) := fun H φ S F O η σ Q w hO re h => by
  refine hc H φ S F O η σ _ w hO re (h.bind.imp fun d φ1 S1 H1 e1 w1 h1 => ?_)
  cases d with
  | true => exact a H1 φ1 S1 F O η σ _ w1 hO (re.mono w hO e1) h1
  | false => exact b H1 φ1 S1 F O η σ _ w1 hO (re.mono w hO e1) h1
theorem sa_nil : SimA K E tNil nilA := fun H φ S F O η σ Q w hO re h => h.ok w _ .nil
theorem sa_cons {ta : TE} {t : TA} {f : FE} {g : FA} (a : SimE K E ta f) (b : SimA K E t g) : SimA K E (tCons ta t) (consA f g) := fun H φ S F O η σ Q w hO re h => by
  refine a H φ S F O η σ _ w hO re (h.bind.imp fun p φ1 S1 H1 e1 w1 h1 x rx => ?_)
  refine b H1 φ1 S1 F O η σ _ w1 hO (re.mono w hO e1) (h1.bind.imp fun ps φ2 S2 H2 e2 w2 h2 xs rs => ?_)
  exact h2.ok w2 _ (.cons (e2.rv rx) rs)
theorem sab_nil : SimAB K E tNil nilA := fun H φ S F O η σ Q w hO re h => h.ok w _ trivial
theorem sab_cons {ta : TE} {t : TA} {f : FE} {g : FA} (a : SimB K E ta f) (b : SimAB K E t g) : SimAB K E (tCons ta t) (consA f g) := fun H φ S F O η σ Q w hO re h => by
  refine a H φ S F O η σ _ w hO re (h.bind.imp fun p φ1 S1 H1 e1 w1 h1 x rx => ?_)
  refine b H1 φ1 S1 F O η σ _ w1 hO (re.mono w hO e1) (h1.bind.imp fun ps φ2 S2 H2 e2 w2 h2 xs rs => ?_)
  exact h2.ok w2 _ ⟨rx.mono w1 hO e2, rs⟩
theorem se_tup {t : TA} {f : FA} (a : SimA K E t f) : SimE K E (tTup t) (tupF f) := fun H φ S F O η σ Q w hO re h => by
  refine a H φ S F O η σ _ w hO re (h.bind.imp fun ps φ1 S1 H1 e1 w1 h1 xs rs => ?_)
  split at h1
  · rename_i hl
    refine ⟨million (by rw [rs.len]; exact hl), fun p hp => ?_⟩
    exact h1.new w1 hp _ (.newTup w1 hp rs)
  · exact h1.elim
theorem se_lst {t : TA} {f : FA} (a : SimA K E t f) : SimE K E (tLst t) (lstF f) := fun H φ S F O η σ Q w hO re h => by
  refine a H φ S F O η σ _ w hO re (h.bind.imp fun ps φ1 S1 H1 e1 w1 h1 xs rs => ?_)
  split at h1
  · rename_i hl
    refine ⟨million (by rw [rs.len]; exact hl), fun p hp => ?_⟩
    exact h1.new w1 hp _ (.newLst w1 hp rs)
  · exact h1.elim
theorem so_none : SimO K E tNoPart noneO := fun H φ S F O η σ Q w hO re h => h.ok w
theorem so_some {ta : TE} {f : FE} (a : SimB K E ta f) : SimO K E (tPart ta) (someO f) := fun H φ S F O η σ Q w hO re h => by
  refine a H φ S F O η σ _ w hO re (h.bind.imp fun p φ1 S1 H1 e1 w1 h1 x rx => ?_)
  split at h1
  · rename_i i
    rcases rx with r | ⟨_, _, _, z, _⟩
    · cases r
      exact ⟨i, rfl, h1.ok w1⟩
    · cases z
  · exact h1.elim
theorem se_sl {r : V → Option Int → Option Int → Hp → VK → Prop} {g : PV → Option Int → Option Int → AS → R PV} {ta : TE} {tl th : TO} {fa : FE} {fl fh : FO} (hr : SimSl K r g) (ha : SimB K E ta fa) (hl : SimO K E tl fl) (hh : SimO K E th fh) : SimE K E (tSl r ta tl th) (slF g fa fl fh) := fun H φ S F O η σ Q w hO re h => by
  refine ha H φ S F O η σ _ w hO re (h.bind.imp fun p φ1 S1 H1 e1 w1 h1 x rx => ?_)
  refine hl H1 φ1 S1 F O η σ _ w1 hO (re.mono w hO e1) (h1.bind.imp fun l φ2 S2 H2 e2 w2 h2 => ?_)
  refine hh H2 φ2 S2 F O η σ _ w2 hO ((re.mono w hO e1).mono w1 hO e2) (h2.bind.imp fun u φ3 S3 H3 e3 w3 h3 => ?_)
  exact hr H3 φ3 S3 F O p x l u Q w3 hO ((rx.mono w1 hO e2).mono w2 hO e3) (pureR_go h3)
end
end Fu

end
section
set_option Elab.async false
set_option linter.all false
set_option maxRecDepth 100000
set_option maxHeartbeats 4000000
namespace Fu
open PySem PySem.Spec PyProof.Rows L2
open He (ga)
/-! ### statements -/
inductive RF where
  | nx (η : Sls) (S : AS) | rt (p : PV) (S : AS) | bk (η : Sls) (S : AS) | ct (η : Sls) (S : AS) | exc (c : Str) (fs : List (Str × PV)) (η : Sls) (S : AS) | stuck
abbrev FS := Sls → AS → RF
/-- the lists that slots hold alone -/
def Own (η : Sls) (σ : L2.St) : Addr → Prop := fun a => ∃ (i : Nat) (xs : List PV), η[i]? = some (.own xs) ∧ σ[i]? = some (some (.ref a))
structure WS (K : PySem.W.Frag) (H : Hp) (φ : List Addr) (S : AS) (F : Addr → Prop) (η : Sls) (σ : L2.St) : Prop where
  wf : WF K H φ S (uni F (Own η σ))
  re : RE K H φ (uni (Lv φ S) (uni F (Own η σ))) (Own η σ) η σ
  inj : ∀ (i j : Nat) xs ys a, η[i]? = some (.own xs) → η[j]? = some (.own ys) → σ[i]? = some (some (.ref a)) → σ[j]? = some (some (.ref a)) → i = j
  dis : ∀ a, F a → ¬ Own η σ a
abbrev EvS (H : Hp) (φ : List Addr) (S : AS) (η : Sls) (σ : L2.St) (H' : Hp) (φ' : List Addr) (S' : AS) (η' : Sls) (σ' : L2.St) : Prop := Ev H φ (uni (Lv φ S) (Own η σ)) H' φ' (uni (Lv φ' S') (Own η' σ'))
def GoS (K : PySem.W.Frag) (E : XW) (F : Addr → Prop) (H : Hp) (φ : List Addr) (S : AS) (η : Sls) (σ : L2.St) (r : RF) (D : Ends) : Prop := match r with
  | .nx η' S' => ∀ φ' H' σ', EvS H φ S η σ H' φ' S' η' σ' → WS K H' φ' S' F η' σ' → D.nx σ' H'
  | .rt p S' => ∀ φ' H' v, Ev H φ (uni (Lv φ S) (Own η σ)) H' φ' (Lv φ' S') → WF K H' φ' S' F → RV K H' φ' (uni (Lv φ' S') F) p v → D.rt v H'
  | .bk η' S' => ∀ φ' H' σ', EvS H φ S η σ H' φ' S' η' σ' → WS K H' φ' S' F η' σ' → D.bk σ' H'
  | .ct η' S' => ∀ φ' H' σ', EvS H φ S η σ H' φ' S' η' σ' → WS K H' φ' S' F η' σ' → D.ct σ' H'
  | .exc c fs η' S' => ∀ φ' H' d σ', EvS H φ S η σ H' φ' S' η' σ' → WS K H' φ' S' F η' σ' → RX K H' φ' (uni (Lv φ' S') (uni F (Own η' σ'))) fs d → E σ' (.ref (ga K c)) d H'
  | .stuck => False
def SimS (K : PySem.W.Frag) (E : XW) (t : TS) (f : FS) : Prop := ∀ (H : Hp) (φ : List Addr) (S : AS) (F : Addr → Prop) (η : Sls) (σ : L2.St) (D : Ends), WS K H φ S F η σ → GoS K E F H φ S η σ (f η S) D → t D σ H
/-- an expression's outcome, within a statement -/
def lift {α : Type} (r : R α) (η : Sls) (k : α → AS → RF) : RF := match r with
  | .ok a S => k a S
  | .exc c fs S => .exc c fs η S
  | .stuck => .stuck
@[simp] theorem lift_ok {α : Type} {a : α} {S : AS} {η : Sls} {k : α → AS → RF} : lift (R.ok a S) η k = k a S := rfl
@[simp] theorem lift_exc {α : Type} {c : Str} {fs : List (Str × PV)} {S : AS} {η : Sls} {k : α → AS → RF} : lift (R.exc c fs S : R α) η k = .exc c fs η S := rfl
@[simp] theorem lift_stuck {α : Type} {η : Sls} {k : α → AS → RF} : lift (R.stuck : R α) η k = .stuck := rfl
section
variable {K : PySem.W.Frag} {E : XW} {F : Addr → Prop} {H H' H1 : Hp} {φ φ' φ1 : List Addr} {S S' S1 : AS} {α : Type} {η η' η1 : Sls} {σ σ' σ1 : L2.St} {D : Ends}
theorem EvS.of (e : Ev H φ (Lv φ S) H1 φ1 (Lv φ1 S1)) : EvS H φ S η σ H1 φ1 S1 η σ := ⟨e.stay, fun a h m => by
  obtain ⟨e1, m1⟩ := e.keep a h fun z => m (.inl z)
  exact ⟨e1, fun z => z.elim m1 fun z => m (.inr z)⟩, e.pre⟩
theorem WS.step (w : WS K H φ S F η σ) (e : Ev H φ (Lv φ S) H1 φ1 (Lv φ1 S1)) (f : WF K H1 φ1 S1 (uni F (Own η σ))) : WS K H1 φ1 S1 F η σ := ⟨f, w.re.mono w.wf (fun _ z => .inr z) e, w.inj, w.dis⟩
theorem GoS.step {r : RF} (g : GoS K E F H φ S η σ r D) (e : EvS H φ S η σ H1 φ1 S1 η1 σ1) : GoS K E F H1 φ1 S1 η1 σ1 r D := by
  cases r with
  | nx η' S' => exact fun φ' H' σ' e' w => g φ' H' σ' (e.trans e') w
  | rt p S' => exact fun φ' H' v e' w r => g φ' H' v (e.trans e') w r
  | bk η' S' => exact fun φ' H' σ' e' w => g φ' H' σ' (e.trans e') w
  | ct η' S' => exact fun φ' H' σ' e' w => g φ' H' σ' (e.trans e') w
  | exc c fs η' S' => exact fun φ' H' d σ' e' w x => g φ' H' d σ' (e.trans e') w x
  | stuck => exact g
theorem GoS.lift0 {r : R α} {k : α → AS → RF} (w : WS K H φ S F η σ) (g : GoS K E F H φ S η σ (lift r η k) D) : GoE K (E σ) (uni F (Own η σ)) H φ S r fun a φ1 S1 H1 => GoS K E F H φ S η σ (k a S1) D ∧ WS K H1 φ1 S1 F η σ := by
  cases r with
  | ok a S1 => exact fun φ1 H1 e f => ⟨g, w.step e f⟩
  | exc c fs S1 => exact fun φ1 H1 d e f x => g φ1 H1 d σ (EvS.of e) (w.step e f) x
  | stuck => exact g
theorem GoS.lift {r : R α} {k : α → AS → RF} (w : WS K H φ S F η σ) (g : GoS K E F H φ S η σ (lift r η k) D) : GoE K (E σ) (uni F (Own η σ)) H φ S r fun a φ1 S1 H1 => GoS K E F H1 φ1 S1 η σ (k a S1) D ∧ WS K H1 φ1 S1 F η σ := by
  cases r with
  | ok a S1 => exact fun φ1 H1 e f => ⟨GoS.step (r := k a S1) g (EvS.of e), w.step e f⟩
  | exc c fs S1 => exact fun φ1 H1 d e f x => g φ1 H1 d σ (EvS.of e) (w.step e f) x
  | stuck => exact g
theorem WF.less {F' : Addr → Prop} (w : WF K H φ S F) (h : ∀ a, F' a → F a) : WF K H φ S F' where
  len := w.len
  live := fun n o e => let ⟨a, ho, e1, e2, r⟩ := w.live n o e; ⟨a, ho, e1, e2, r.mono (fun a _ m => ⟨rfl, fun z => m (z.imp id (h a))⟩) fun _ _ h => h⟩
  inj := w.inj
  away := fun a z => w.away a (h a z)
theorem RV.less {M M' : Addr → Prop} (h : ∀ a, M' a → M a) {p : PV} {v : V} (r : RV K H φ M p v) : RV K H φ M' p v := r.mono (fun a _ m => ⟨rfl, fun z => m (h a z)⟩) fun _ _ h => h
theorem RVs.less {M M' : Addr → Prop} (h : ∀ a, M' a → M a) {p : List PV} {v : List V} (r : RVs K H φ M p v) : RVs K H φ M' p v := r.mono (fun a _ m => ⟨rfl, fun z => m (h a z)⟩) fun _ _ h => h
theorem WS.here (w : WS K H φ S F η σ) (g : GoS K E F H φ S η σ (.nx η S) D) : D.nx σ H := g φ H σ Ev.refl w
/-- a slot's value stored -/
theorem own_set {i : Nat} {p : PV} {v : V} {a : Addr} (h : Own (η.set i (.val p)) (σ.set i (some v)) a) : Own η σ a := by
  obtain ⟨j, xs, h1, h2⟩ := h
  by_cases e : i = j
  · subst e
    rw [List.getElem?_set] at h1
    split at h1
    · split at h1 <;> cases h1
    · exact absurd rfl ‹_›
  · rw [List.getElem?_set_ne e] at h1 h2
    exact ⟨j, xs, h1, h2⟩
theorem uni_imp {A B B' : Addr → Prop} (h : ∀ a, B' a → B a) : ∀ a, uni A B' a → uni A B a := fun a z => z.imp id (h a)
theorem WS.set {i : Nat} {p : PV} {v : V} (w : WS K H φ S F η σ) (r : RV K H φ (uni (Lv φ S) (uni F (Own η σ))) p v) : WS K H φ S F (η.set i (.val p)) (σ.set i (some v)) where
  wf := w.wf.less (uni_imp fun a => own_set)
  re := by
    have hm : ∀ a, uni (Lv φ S) (uni F (Own (η.set i (.val p)) (σ.set i (some v)))) a → uni (Lv φ S) (uni F (Own η σ)) a := uni_imp (uni_imp fun a => own_set)
    refine ⟨by rw [List.length_set, List.length_set]; exact w.re.len, fun j q h => ?_, fun j xs h => ?_⟩
    · by_cases e : i = j
      · subst e
        rw [List.getElem?_set] at h
        split at h
        · split at h
          · cases h
            rename_i hi
            exact ⟨v, by rw [List.getElem?_set, if_pos rfl, if_pos (by rw [w.re.len]; exact hi)], r.less hm⟩
          · cases h
        · exact absurd rfl ‹_›
      · rw [List.getElem?_set_ne e] at h ⊢
        obtain ⟨u, h1, h2⟩ := w.re.val j q h
        exact ⟨u, h1, h2.less hm⟩
    · by_cases e : i = j
      · subst e
        rw [List.getElem?_set] at h
        split at h
        · split at h <;> cases h
        · exact absurd rfl ‹_›
      · have h0 := h
        rw [List.getElem?_set_ne e] at h ⊢
        obtain ⟨a, vs, h1, h2, h3, h4⟩ := w.re.own j xs h
        exact ⟨a, vs, h1, h2, h3.less hm, ⟨j, xs, h0, by rw [List.getElem?_set_ne e]; exact h1⟩⟩
  inj := fun j k xs ys a h1 h2 h3 h4 => by
    have z : ∀ {l : Nat} {zs : List PV}, (η.set i (.val p))[l]? = some (.own zs) → i ≠ l := fun h e => by
      subst e
      rw [List.getElem?_set] at h
      split at h
      · split at h <;> cases h
      · exact absurd rfl ‹_›
    rw [List.getElem?_set_ne (z h1)] at h3
    rw [List.getElem?_set_ne (z h2)] at h4
    have h1' := h1
    have h2' := h2
    rw [List.getElem?_set_ne (z h1)] at h1'
    rw [List.getElem?_set_ne (z h2)] at h2'
    exact w.inj j k xs ys a h1' h2' h3 h4
  dis := fun a h z => w.dis a h (own_set z)
theorem EvS.set {i : Nat} {p : PV} {v : V} : EvS H φ S η σ H φ S (η.set i (.val p)) (σ.set i (some v)) := ⟨fun _ h => h, fun a h m => ⟨rfl, fun z => m (uni_imp (fun a => own_set) a z)⟩, fun _ _ h => h⟩
end
/-! ### targets -/
abbrev FG := PV → Sls → AS → RF
def SimG (K : PySem.W.Frag) (g : TG) (f : FG) : Prop := ∀ (H : Hp) (φ : List Addr) (S : AS) (F : Addr → Prop) (η : Sls) (σ : L2.St) (p : PV) (v : V) (Q : L2.St → Hp → Prop), WS K H φ S F η σ → RV K H φ (uni (Lv φ S) (uni F (Own η σ))) p v →
  GoS K (fun _ _ _ _ => False) F H φ S η σ (f p η S) { nx := Q, rt := fun _ _ => False } → g v σ H Q
def SimGs (K : PySem.W.Frag) (g : TGs) (f : List PV → Sls → AS → RF) : Prop := ∀ (H : Hp) (φ : List Addr) (S : AS) (F : Addr → Prop) (η : Sls) (σ : L2.St) (p : List PV) (v : List V) (Q : L2.St → Hp → Prop), WS K H φ S F η σ → RVs K H φ (uni (Lv φ S) (uni F (Own η σ))) p v →
  GoS K (fun _ _ _ _ => False) F H φ S η σ (f p η S) { nx := Q, rt := fun _ _ => False } → g v σ H Q
/-- only the going on -/
def onlyNx (r : RF) (k : Sls → AS → RF) : RF := match r with
  | .nx η S => k η S
  | _ => .stuck
@[simp] theorem onlyNx_nx {η : Sls} {S : AS} {k : Sls → AS → RF} : onlyNx (.nx η S) k = k η S := rfl
def nameG (i : Nat) : FG := fun p η S => .nx (η.set i (.val p)) S
def nilG : List PV → Sls → AS → RF := fun ps η S => match ps with
  | [] => .nx η S
  | _ => .stuck
def consG (g : FG) (r : List PV → Sls → AS → RF) : List PV → Sls → AS → RF := fun ps η S => match ps with
  | p :: ps => onlyNx (g p η S) fun η S => r ps η S
  | _ => .stuck
def tupG (n : Nat) (g : List PV → Sls → AS → RF) : FG := fun p η S => match p with
  | .tup ps => if ps.length = n then g ps η S else .stuck
  | .ktu ps => if ps.length = n then g ps η S else .stuck
  | _ => .stuck
/-! ### the functions of statements -/
def nextS : FS := fun η S => .nx η S
def stuckS : FS := fun _ _ => .stuck
def seqS (f g : FS) : FS := fun η S => match f η S with
  | .nx η S => g η S
  | r => r
@[simp] theorem seqS_nx {f g : FS} {η η' : Sls} {S S' : AS} (h : f η S = .nx η' S') : seqS f g η S = g η' S' := by unfold seqS; rw [h]
def asgS (f : FE) (g : FG) : FS := fun η S => lift (f η S) η fun p S => onlyNx (g p η S) fun η S => .nx η S
def ifS (c : FT) (f g : FS) : FS := fun η S => lift (c η S) η fun b S => if b = true then f η S else g η S
def retS (f : FE) : FS := fun η S => lift (f η S) η fun p S => .rt p S
def retN : FS := fun _ S => .rt .non S
def exprS (f : FE) : FS := fun η S => lift (f η S) η fun _ S => .nx η S
def breakS : FS := fun η S => .bk η S
def contS : FS := fun η S => .ct η S
def forL (g : FG) (b : FS) : List PV → Sls → AS → RF
  | [], η, S => .nx η S
  | p :: ps, η, S => onlyNx (g p η S) fun η1 S1 => match b η1 S1 with
    | .nx η2 S2 => forL g b ps η2 S2
    | .ct η2 S2 => forL g b ps η2 S2
    | .bk η2 S2 => .nx η2 S2
    | r => r
abbrev FI := Sls → AS → R (List PV)
def forS (fi : FI) (g : FG) (b : FS) : FS := fun η S => lift (fi η S) η fun ps S => forL g b ps η S
/-- an iterator that gives these values, whatever comes in between -/
def Walks (K : PySem.W.Frag) (J : It) (ps : List PV) (H : Hp) (φ : List Addr) (M : Addr → Prop) : Prop := ∀ (H' : Hp) (φ' : List Addr) (M' : Addr → Prop), (∀ a, H a ≠ none → ¬ M a → H' a = H a ∧ ¬ M' a) → (∀ (n : Nat) a, φ[n]? = some a → φ'[n]? = some a) →
  (∀ a, M' a → H' a ≠ none) → (∀ (i : Nat) p, ps[i]? = some p → J.go i H' ∧ ∀ x H3, J.yld i H' x H3 → (∀ a, H' a ≠ none → H3 a = H' a) ∧ RV K H3 φ' M' p x) ∧ J.stop ps.length H'
def SimI (K : PySem.W.Frag) (E : XW) (t : TI) (f : FI) : Prop := ∀ (H : Hp) (φ : List Addr) (S : AS) (F O : Addr → Prop) (η : Sls) (σ : L2.St) (R : It → Hp → Prop), WF K H φ S F → (∀ a, O a → F a) → RE K H φ (uni (Lv φ S) F) O η σ →
  GoE K (E σ) F H φ S (f η S) (fun ps φ' S' H' => ∀ J, Walks K J ps H' φ' (uni (Lv φ' S') F) → R J H') → t σ H R
section
variable {K : PySem.W.Frag} {E : XW}
theorem sg_name {i : Nat} : SimG K (gName i) (nameG i) := fun H φ S F η σ p v Q w r g => g φ H _ EvS.set (w.set r)
theorem sgs_nil : SimGs K gNil nilG := fun H φ S F η σ ps vs Q w r g => by
  cases r with
  | nil => exact ⟨rfl, w.here g⟩
  | cons _ _ => exact (show False from g).elim
theorem onlyNx_go {F : Addr → Prop} {H : Hp} {φ : List Addr} {S : AS} {η : Sls} {σ : L2.St} {r : RF} {k : Sls → AS → RF} {D : Ends} (g : GoS K E F H φ S η σ (onlyNx r k) D) : ∃ η' S', r = .nx η' S' ∧ GoS K E F H φ S η σ (k η' S') D := by
  cases r with
  | nx η' S' => exact ⟨η', S', rfl, g⟩
  | _ => exact (show False from g).elim
theorem RVs.more {F : Addr → Prop} {H H' : Hp} {φ φ' : List Addr} {S S' : AS} {η η' : Sls} {σ σ' : L2.St} (e : EvS H φ S η σ H' φ' S' η' σ') {p : List PV} {v : List V} (r : RVs K H φ (uni (Lv φ S) (uni F (Own η σ))) p v) : RVs K H' φ' (uni (Lv φ' S') (uni F (Own η' σ'))) p v :=
  r.mono (fun a h m => by
    obtain ⟨e1, m1⟩ := e.keep a h fun z => m (z.imp id .inr)
    exact ⟨e1, fun z => z.elim (fun z => m1 (.inl z)) fun z => z.elim (fun z => m (.inr (.inl z))) fun z => m1 (.inr z)⟩) e.pre
theorem RV.more {F : Addr → Prop} {H H' : Hp} {φ φ' : List Addr} {S S' : AS} {η η' : Sls} {σ σ' : L2.St} (e : EvS H φ S η σ H' φ' S' η' σ') {p : PV} {v : V} (r : RV K H φ (uni (Lv φ S) (uni F (Own η σ))) p v) : RV K H' φ' (uni (Lv φ' S') (uni F (Own η' σ'))) p v :=
  r.mono (fun a h m => by
    obtain ⟨e1, m1⟩ := e.keep a h fun z => m (z.imp id .inr)
    exact ⟨e1, fun z => z.elim (fun z => m1 (.inl z)) fun z => z.elim (fun z => m (.inr (.inl z))) fun z => m1 (.inr z)⟩) e.pre
theorem sgs_cons {t : TG} {u : TGs} {f : FG} {g : List PV → Sls → AS → RF} (a : SimG K t f) (b : SimGs K u g) : SimGs K (gCons t u) (consG f g) := fun H φ S F η σ ps vs Q w r h => by
  cases r with
  | nil => exact (show False from h).elim
  | @cons p ps v vs r rs =>
    refine ⟨v, vs, rfl, a H φ S F η σ p v _ w r ?_⟩
    obtain ⟨η', S', e, h'⟩ := onlyNx_go h
    rw [e]
    intro φ' H' σ' e' w'
    exact b H' φ' S' F η' σ' ps vs Q w' (rs.more e') (GoS.step h' e')
theorem sg_tup {t : TGs} {n : Nat} {g : List PV → Sls → AS → RF} (a : SimGs K t g) : SimG K (gTup K n t) (tupG n g) := fun H φ S F η σ p v Q w r h => by
  unfold tupG at h
  split at h
  · rename_i ps
    split at h
    · rename_i hl
      cases r with
      | tup hv rs => exact ⟨_, _, rfl, hv.sq, by rw [rs.len]; exact hl, a H φ S F η σ _ _ Q w rs h⟩
    · exact h.elim
  · rename_i ps
    split at h
    · rename_i hl
      cases r with
      | ktu hv rs => exact ⟨_, _, rfl, hv.sq, by rw [rs.len]; exact hl, a H φ S F η σ _ _ Q w rs h⟩
    · exact h.elim
  · exact h.elim
theorem ss_next : SimS K E tNext nextS := fun H φ S F η σ D w g => w.here g
theorem ss_never : SimS K E tNever stuckS := fun H φ S F η σ D w g => g
theorem ss_break : SimS K E tBreak breakS := fun H φ S F η σ D w g => g φ H σ Ev.refl w
theorem ss_cont : SimS K E tCont contS := fun H φ S F η σ D w g => g φ H σ Ev.refl w
theorem ss_seq {t u : TS} {f g : FS} (a : SimS K E t f) (b : SimS K E u g) : SimS K E (tSeq t u) (seqS f g) := fun H φ S F η σ D w h => by
  refine a H φ S F η σ _ w ?_
  unfold seqS at h
  cases q : f η S with
  | nx η' S' =>
    rw [q] at h
    exact fun φ' H' σ' e' w' => b H' φ' S' F η' σ' D w' (GoS.step h e')
  | rt p S' => rw [q] at h; exact h
  | bk η' S' => rw [q] at h; exact h
  | ct η' S' => rw [q] at h; exact h
  | exc c fs η' S' => rw [q] at h; exact h
  | stuck => rw [q] at h; exact h
theorem ss_asg {te : TE} {g : TG} {f : FE} {fg : FG} (a : SimE K E te f) (b : SimG K g fg) : SimS K E (tAsg te g) (asgS f fg) := fun H φ S F η σ D w h => by
  refine a H φ S _ _ η σ _ w.wf (fun _ z => .inr z) w.re ((GoS.lift w h).imp fun p φ1 S1 H1 e1 w1 h1 v rv => ?_)
  obtain ⟨h1, w2⟩ := h1
  obtain ⟨η', S', e, h'⟩ := onlyNx_go h1
  refine b H1 φ1 S1 F η σ p v _ w2 rv ?_
  rw [e]
  exact h'
theorem ss_if {c : TT} {t u : TS} {fc : FT} {f g : FS} (hc : SimT K E c fc) (a : SimS K E t f) (b : SimS K E u g) : SimS K E (tIfS c t u) (ifS fc f g) := fun H φ S F η σ D w h => by
  refine hc H φ S _ _ η σ _ w.wf (fun _ z => .inr z) w.re ((GoS.lift w h).imp fun d φ1 S1 H1 e1 w1 h1 => ?_)
  obtain ⟨h1, w2⟩ := h1
  cases d with
  | true => exact a H1 φ1 S1 F η σ D w2 h1
  | false => exact b H1 φ1 S1 F η σ D w2 h1
theorem WS.out {H : Hp} {φ : List Addr} {S : AS} {F : Addr → Prop} {η : Sls} {σ : L2.St} (w : WS K H φ S F η σ) : WF K H φ S F := w.wf.less fun a z => .inl z
theorem ss_ret {te : TE} {f : FE} (a : SimB K E te f) : SimS K E (tRet te) (retS f) := fun H φ S F η σ D w h => by
  refine a H φ S _ _ η σ _ w.wf (fun _ z => .inr z) w.re ((GoS.lift w h).imp fun p φ1 S1 H1 e1 w1 h1 v rv => ?_)
  obtain ⟨h1, w2⟩ := h1
  refine h1 φ1 H1 v ⟨fun _ h => h, fun a h m => ⟨rfl, fun z => m (.inl z)⟩, fun _ _ h => h⟩ w2.out ?_
  have hm : ∀ a, uni (Lv φ1 S1) F a → uni (Lv φ1 S1) (uni F (Own η σ)) a := fun a z => z.imp id .inl
  rcases rv with rv | ⟨a, xs, vs, rfl, rfl, h3, h4, h5⟩
  · exact rv.less hm
  · refine .lst ⟨h3, fun z => ?_⟩ (h5.less hm)
    have h6 := (w2.wf.away a (.inr h4)).2
    exact z.elim h6 fun z => w.dis a z h4
theorem ss_retN : SimS K E tRetN retN := fun H φ S F η σ D w h => h φ H .non ⟨fun _ h => h, fun a h m => ⟨rfl, fun z => m (.inl z)⟩, fun _ _ h => h⟩ w.out .non
theorem ss_expr {te : TE} {f : FE} (a : SimB K E te f) : SimS K E (tDrop te) (exprS f) := fun H φ S F η σ D w h => by
  refine a H φ S _ _ η σ _ w.wf (fun _ z => .inr z) w.re ((GoS.lift w h).imp fun p φ1 S1 H1 e1 w1 h1 v rv => ?_)
  exact h1.2.here h1.1
end
end Fu

end
section
set_option Elab.async false
set_option linter.all false
set_option maxRecDepth 100000
set_option maxHeartbeats 4000000
namespace Fu
open PySem PySem.Spec PyProof.Rows L2
open He (ga)
section
variable {K : PySem.W.Frag} {E : XW} {F O : Addr → Prop} {H H' H1 H3 : Hp} {φ φ' φ1 : List Addr} {S S' S1 : AS} {η η' η1 : Sls} {σ σ' σ1 : L2.St} {D : Ends}
/-- new things alone -/
theorem ev_ext {M : Addr → Prop} (x : ∀ a, H a ≠ none → H3 a = H a) : Ev H φ M H3 φ M := ⟨fun a h => by rw [x a h]; exact h, fun a h m => ⟨x a h, m⟩, fun _ _ h => h⟩
theorem WF.ext (w : WF K H φ S F) (x : ∀ a, H a ≠ none → H3 a = H a) : WF K H3 φ S F where
  len := w.len
  live := fun n u e => by
    obtain ⟨a, ho, e1, e2, r⟩ := w.live n u e
    exact ⟨a, ho, e1, (x a (by rw [e2]; nofun)).trans e2, r.mono (ev_ext (M := uni (Lv φ S) F) (φ := φ) x).keep fun _ _ h => h⟩
  inj := w.inj
  away := fun a h => by
    obtain ⟨h1, h2⟩ := w.away a h
    exact ⟨by rw [x a h1]; exact h1, h2⟩
theorem lv_some (w : WF K H φ S F) {a : Addr} (h : Lv φ S a) : H a ≠ none := by
  obtain ⟨n, o, e1, e2⟩ := h
  obtain ⟨b, ho, e3, e4, _⟩ := w.live n o e1
  rw [e2] at e3
  cases e3
  rw [e4]
  nofun
theorem ss_for {wi : TI} {g : TG} {tb : TS} {fi : FI} {fg : FG} {fb : FS} (hi : SimI K E wi fi) (hg : SimG K g fg) (hb : SimS K E tb fb) : SimS K E (tFor wi g tb) (forS fi fg fb) := fun H φ S F η σ D w h => by
  refine hi H φ S _ _ η σ _ w.wf (fun _ z => .inr z) w.re ((GoS.lift w h).imp fun ps φ1 S1 H1 e1 w1 h1 J hJ => ?_)
  obtain ⟨h1, w2⟩ := h1
  refine ⟨fun i m σ' H' => m = ps.length - i ∧ i ≤ ps.length ∧ ∃ φ' S' η', EvS H1 φ1 S1 η σ H' φ' S' η' σ' ∧ WS K H' φ' S' F η' σ' ∧ GoS K E F H' φ' S' η' σ' (forL fg fb (ps.drop i) η' S') D, ⟨_, rfl, Nat.zero_le _, φ1, S1, η, Ev.refl, w2, h1⟩, ?_⟩
  rintro i m σ' H' ⟨rfl, hi, φ', S', η', ev, ws, go⟩
  have hw := hJ H' φ' (uni (Lv φ' S') (uni F (Own η' σ'))) (fun a h m => by
    obtain ⟨e1, m1⟩ := ev.keep a h fun z => m (z.imp id .inr)
    exact ⟨e1, fun z => z.elim (fun z => m1 (.inl z)) fun z => z.elim (fun z => m (.inr (.inl z))) fun z => m1 (.inr z)⟩) ev.pre (fun a z => z.elim (lv_some ws.wf) fun z => (ws.wf.away a z).1)
  by_cases hlt : i < ps.length
  · have e : ps[i]? = some ps[i] := List.getElem?_eq_getElem hlt
    obtain ⟨hgo, hy⟩ := hw.1 i _ e
    rw [List.drop_eq_getElem_cons hlt] at go
    refine .inr ⟨hgo, fun σ2 H2 => ∃ φ2 S2 η2, EvS H1 φ1 S1 η σ H2 φ2 S2 η2 σ2 ∧ WS K H2 φ2 S2 F η2 σ2 ∧ GoS K E F H2 φ2 S2 η2 σ2 (forL fg fb (ps.drop (i + 1)) η2 S2) D, fun σ2 H2 ⟨φ2, S2, η2, a, b, c⟩ => ⟨_, by omega, rfl, hlt, φ2, S2, η2, a, b, c⟩, fun x H3 hx => ?_⟩
    obtain ⟨ext, rv⟩ := hy x H3 hx
    have e3 : EvS H' φ' S' η' σ' H3 φ' S' η' σ' := ev_ext ext
    have ws3 : WS K H3 φ' S' F η' σ' := ws.step (ev_ext ext) (ws.wf.ext ext)
    obtain ⟨η4, S4, e4, go4⟩ := onlyNx_go go
    refine hg H3 φ' S' F η' σ' _ x _ ws3 rv ?_
    rw [e4]
    intro φ5 H5 σ5 ev5 ws5
    have ev6 := (ev.trans e3).trans ev5
    have go5 := GoS.step go4 (e3.trans ev5)
    refine hb H5 φ5 S4 F η4 σ5 _ ws5 ?_
    cases q : fb η4 S4 with
    | nx η7 S7 =>
      rw [q] at go5
      exact fun φ7 H7 σ7 ev7 ws7 => ⟨φ7, S7, η7, ev6.trans ev7, ws7, GoS.step go5 ev7⟩
    | ct η7 S7 =>
      rw [q] at go5
      exact fun φ7 H7 σ7 ev7 ws7 => ⟨φ7, S7, η7, ev6.trans ev7, ws7, GoS.step go5 ev7⟩
    | bk η7 S7 => rw [q] at go5; exact go5
    | rt p S7 => rw [q] at go5; exact go5
    | exc c fs η7 S7 => rw [q] at go5; exact go5
    | stuck => rw [q] at go5; exact go5
  · have e : i = ps.length := by omega
    subst e
    rw [List.drop_length] at go
    exact .inl ⟨hw.2, ws.here go⟩
end
/-! ### new lists -/
abbrev FN := Sls → AS → R (List PV)
abbrev at1 (p : Addr) : Addr → Prop := fun a => a = p
def SimN (K : PySem.W.Frag) (E : XW) (t : TE) (f : FN) : Prop := ∀ (H : Hp) (φ : List Addr) (S : AS) (F O : Addr → Prop) (η : Sls) (σ : L2.St) (Q : VK), WF K H φ S F → (∀ a, O a → F a) → RE K H φ (uni (Lv φ S) F) O η σ →
  GoE K (E σ) F H φ S (f η S) (fun xs φ' S' H' => ∀ p vs, H p = none → WF K H' φ' S' (uni F (at1 p)) → H' p = some (.lst vs) → RVs K H' φ' (uni (Lv φ' S') (uni F (at1 p))) xs vs → Q (.ref p) H') → t σ H Q
def valN (f : FN) : FE := fun η S => (f η S).bind fun xs S => .ok (.lst xs) S
section
variable {K : PySem.W.Frag} {E : XW} {F O : Addr → Prop} {H H' H1 H3 : Hp} {φ φ' φ1 : List Addr} {S S' S1 : AS} {η η' η1 : Sls} {σ σ' σ1 : L2.St} {D : Ends}
theorem at1_less {a p : Addr} : ∀ {M : Addr → Prop}, uni M F a → uni M (uni F (at1 p)) a := fun z => z.imp id .inl
theorem SimN.e {t : TE} {f : FN} (s : SimN K E t f) : SimE K E t (valN f) := fun H φ S F O η σ Q w hO re h => by
  refine s H φ S F O η σ Q w hO re (h.bind.imp fun xs φ1 S1 H1 e1 w1 h1 p vs hp w2 hl r => ?_)
  refine h1.ok w1 _ (.lst ⟨hl, fun z => z.elim (w2.away p (.inr rfl)).2 (f_none w hp)⟩ (r.less fun a z => at1_less z))
/-- a new list laid at the end -/
theorem GoE.lay {E' : XK} {xs : List PV} {Q : VK} {vs : List V} {H0 : Hp} (w : WF K H φ S F) (r : RVs K H φ (uni (Lv φ S) F) xs vs) {p : Addr} (hp : H p = none) (st : ∀ a, H0 a ≠ none → H a ≠ none)
    (h : ∀ φ' H', Ev H φ (Lv φ S) H' φ' (Lv φ' S) → WF K H' φ' S F → ∀ p vs, H0 p = none → WF K H' φ' S (uni F (at1 p)) → H' p = some (.lst vs) → RVs K H' φ' (uni (Lv φ' S) (uni F (at1 p))) xs vs → Q (.ref p) H') : Q (.ref p) (upd H p (.lst vs)) := by
  have k : ∀ a, H a ≠ none → ¬ uni (Lv φ S) F a → upd H p (.lst vs) a = H a ∧ ¬ uni (Lv φ S) (uni F (at1 p)) a := fun a ha m => by
    have ne : a ≠ p := fun z => ha (by rw [z]; exact hp)
    exact ⟨upd_ne ne, fun z => z.elim (fun z => m (.inl z)) fun z => z.elim (fun z => m (.inr z)) ne⟩
  refine h φ _ (ev_new hp) (w.new hp) p vs ?_ ?_ upd_same (r.mono k fun _ _ h => h)
  · cases q : H0 p with
    | none => rfl
    | some o => exact (st p (by rw [q]; nofun) hp).elim
  · have w2 := w.new (o := .lst vs) hp
    refine ⟨w2.len, fun n u e => ?_, w2.inj, fun a z => z.elim (w2.away a) fun z => ?_⟩
    · obtain ⟨a, ho, e1, e2, r⟩ := w.live n u e
      exact ⟨a, ho, e1, (upd_ne fun z => by rw [z, hp] at e2; cases e2).trans e2, r.mono k fun _ _ h => h⟩
    · rw [show a = p from z]
      exact ⟨by rw [upd_same]; nofun, lv_none w hp⟩
def lstN (f : FA) : FN := fun η S => (f η S).bind fun ps S => if ps.length ≤ 1000000 then .ok ps S else .stuck
theorem sn_lst {t : TA} {f : FA} (a : SimA K E t f) : SimN K E (tLst t) (lstN f) := fun H φ S F O η σ Q w hO re h => by
  refine a H φ S F O η σ _ w hO re (h.bind.imp fun ps φ1 S1 H1 e1 w1 h1 xs rs => ?_)
  split at h1
  · rename_i hl
    exact ⟨million (by rw [rs.len]; exact hl), fun p hp => GoE.lay (E' := E σ) w1 rs hp e1.stay h1⟩
  · exact h1.elim
/-! ### comprehensions -/
def wipeS (η : Sls) : List Nat → Sls
  | [] => η
  | v :: vs => (wipeS η vs).set v .no
abbrev FGx := PV → Sls → Option Sls
/-- a target within a block -/
def SimGx (K : PySem.W.Frag) (vs : List Nat) (g : TG) (f : FGx) : Prop := ∀ (H : Hp) (φ : List Addr) (M O : Addr → Prop) (η η' : Sls) (σ : L2.St) (p : PV) (v : V) (Q : L2.St → Hp → Prop), RE K H φ M O η σ → RV K H φ M p v → f p η = some η' →
  (∀ σ', RE K H φ M O η' σ' → wipe σ' vs = wipe σ vs → Q σ' H) → g v σ H Q
def compL (g : FGx) (t : FT) (e : FE) : List PV → List PV → Sls → AS → R (List PV)
  | [], acc, _, S => .ok acc S
  | p :: ps, acc, η, S => match g p η with
    | some η2 => (pureR (t η2 S)).bind fun b S1 => if b = true then (pureR (e η2 S1)).bind fun q S2 => if acc.length < 1000000 then compL g t e ps (acc ++ [q]) η S2 else .stuck else compL g t e ps acc η S1
    | none => .stuck
def compN (fi : FI) (vs : List Nat) (g : FGx) (t : FT) (e : FE) : FN := fun η S => (fi η S).bind fun ps S => compL g t e ps [] (wipeS η vs) S
theorem RE.wipe1 {M : Addr → Prop} (r : RE K H φ M O η σ) (i : Nat) : RE K H φ M O (η.set i .no) (σ.set i none) := by
  refine ⟨by rw [List.length_set, List.length_set]; exact r.len, fun j p h => ?_, fun j xs h => ?_⟩
  · by_cases e : i = j
    · subst e
      rw [List.getElem?_set] at h
      split at h
      · split at h <;> cases h
      · exact absurd rfl ‹_›
    · rw [List.getElem?_set_ne e] at h ⊢
      exact r.val j p h
  · by_cases e : i = j
    · subst e
      rw [List.getElem?_set] at h
      split at h
      · split at h <;> cases h
      · exact absurd rfl ‹_›
    · rw [List.getElem?_set_ne e] at h ⊢
      exact r.own j xs h
theorem RE.wipe {M : Addr → Prop} (r : RE K H φ M O η σ) : ∀ vs : List Nat, RE K H φ M O (wipeS η vs) (wipe σ vs)
  | [] => r
  | v :: vs => (r.wipe vs).wipe1 v
theorem wipe_idem (σ : L2.St) : ∀ vs us : List Nat, (∀ v ∈ vs, v ∈ us) → wipe (wipe σ us) vs = wipe σ us := by
  intro vs us hs
  apply List.ext_getElem?
  intro i
  induction vs with
  | nil => rfl
  | cons v vs ih =>
    have ih' := ih fun x hx => hs x (List.mem_cons_of_mem _ hx)
    show ((L2.wipe (L2.wipe σ us) vs).set v none)[i]? = _
    by_cases e : v = i
    · subst e
      have hv : v ∈ us := hs v List.mem_cons_self
      have z : ∀ us : List Nat, v ∈ us → (L2.wipe σ us)[v]? = none ∨ (L2.wipe σ us)[v]? = some none := fun us => by
        induction us with
        | nil => intro h; cases h
        | cons u us ih2 =>
          intro h
          show ((L2.wipe σ us).set u none)[v]? = none ∨ ((L2.wipe σ us).set u none)[v]? = some none
          by_cases eu : u = v
          · subst eu
            rw [List.getElem?_set, if_pos rfl]
            split
            · exact .inr rfl
            · exact .inl rfl
          · rw [List.getElem?_set_ne eu]
            rcases List.mem_cons.mp h with h | h
            · exact absurd h.symm eu
            · exact ih2 h
      rw [List.getElem?_set, if_pos rfl]
      rcases z us hv with z | z
      · rw [z, if_neg]
        rw [L2.wipe_length]
        exact Nat.not_lt.mpr (List.getElem?_eq_none_iff.mp z)
      · rw [z, if_pos]
        rw [L2.wipe_length]
        exact (List.getElem?_eq_some_iff.mp z).1
    · rw [List.getElem?_set_ne e]
      exact ih'
theorem sn_lc {wi : TI} {g : TG} {tt : TT} {te : TE} {vs : List Nat} {fi : FI} {fg : FGx} {ft : FT} {fe : FE} (hi : SimI K E wi fi) (hg : SimGx K vs g fg) (ht : SimT K (fun _ _ _ _ => False) tt ft) (he : SimE K (fun _ _ _ _ => False) te fe) :
    SimN K E (tLc wi g tt te vs) (compN fi vs fg ft fe) := fun H φ S F O η σ Q w hO re h => by
  refine hi H φ S F O η σ _ w hO re (h.bind.imp fun ps φ1 S1 H1 e1 w1 h1 J hJ D hD => ?_)
  have nD : H D = none := by
    cases q : H D with
    | none => rfl
    | some o => exact (e1.stay D (by rw [q]; nofun) hD).elim
  -- the state while the list grows: F with D
  have k0 : ∀ a, H1 a ≠ none → ¬ uni (Lv φ1 S1) F a → upd H1 D (.lst []) a = H1 a ∧ ¬ uni (Lv φ1 S1) (uni F (at1 D)) a := fun a ha m => by
    have ne : a ≠ D := fun z => ha (by rw [z]; exact hD)
    exact ⟨upd_ne ne, fun z => z.elim (fun z => m (.inl z)) fun z => z.elim (fun z => m (.inr z)) ne⟩
  have w0 : WF K (upd H1 D (.lst [])) φ1 S1 (uni F (at1 D)) := by
    have w2 := w1.new (o := .lst []) hD
    refine ⟨w2.len, fun n u e => ?_, w2.inj, fun a z => z.elim (w2.away a) fun z => ?_⟩
    · obtain ⟨a, ho, e1, e2, r⟩ := w1.live n u e
      exact ⟨a, ho, e1, (upd_ne fun z => by rw [z, hD] at e2; cases e2).trans e2, r.mono k0 fun _ _ h => h⟩
    · rw [show a = D from z]
      exact ⟨by rw [upd_same]; nofun, lv_none w1 hD⟩
  have re1 := re.mono w hO e1
  have re0 : RE K (upd H1 D (.lst [])) φ1 (uni (Lv φ1 S1) (uni F (at1 D))) O η σ := ⟨re1.len, fun i p h => let ⟨v, h1, h2⟩ := re1.val i p h; ⟨v, h1, h2.mono k0 fun _ _ h => h⟩, fun i xs h => by
    obtain ⟨a, vs, h1, h2, h3, h4⟩ := re1.own i xs h
    have ne : a ≠ D := fun z => by rw [z, hD] at h2; cases h2
    exact ⟨a, vs, h1, (upd_ne ne).trans h2, h3.mono k0 fun _ _ h => h, h4⟩⟩
  generalize hr0 : compL fg ft fe ps [] (wipeS η vs) S1 = r0 at h1
  have inD : ∀ {H2 : Hp} {φ2 : List Addr} {S2 : AS} {H4 : Hp} {φ4 : List Addr} {S4 : AS}, WF K H2 φ2 S2 (uni F (at1 D)) → Ev H2 φ2 (Lv φ2 S2) H4 φ4 (Lv φ4 S4) → ∀ {us : List V}, H2 D = some (.lst us) → H4 D = some (.lst us) := fun w e us hl => (e.keep D (by rw [hl]; nofun) (w.away D (.inr rfl)).2).1.trans hl
  refine ⟨fun i m H' => m = ps.length - i ∧ i ≤ ps.length ∧ ∃ φ' S' acc us, r0 = compL fg ft fe (ps.drop i) acc (wipeS η vs) S' ∧ Ev H1 φ1 (Lv φ1 S1) H' φ' (Lv φ' S') ∧ WF K H' φ' S' (uni F (at1 D)) ∧ H' D = some (.lst us) ∧ RVs K H' φ' (uni (Lv φ' S') (uni F (at1 D))) acc us,
    ⟨_, rfl, Nat.zero_le _, φ1, S1, [], [], by rw [List.drop_zero]; exact hr0.symm, ev_new hD, w0, upd_same, .nil⟩, ?_⟩
  rintro i m H' ⟨rfl, hi, φ', S', acc, us, eq, ev, ws, hl, hr⟩
  have kk : ∀ a, H1 a ≠ none → ¬ uni (Lv φ1 S1) F a → H' a = H1 a ∧ ¬ uni (Lv φ' S') (uni F (at1 D)) a := fun a h m => by
    obtain ⟨q2, m2⟩ := ev.keep a h fun z => m (.inl z)
    have ne : a ≠ D := fun z => h (by rw [z]; exact hD)
    exact ⟨q2, fun z => z.elim m2 fun z => z.elim (fun z => m (.inr z)) ne⟩
  have hw := hJ H' φ' (uni (Lv φ' S') (uni F (at1 D))) kk ev.pre (fun a z => z.elim (lv_some ws) fun z => (ws.away a z).1)
  by_cases hlt : i < ps.length
  · have e : ps[i]? = some ps[i] := List.getElem?_eq_getElem hlt
    obtain ⟨hgo, hy⟩ := hw.1 i _ e
    rw [List.drop_eq_getElem_cons hlt] at eq
    refine .inr ⟨hgo, fun H2 => ∃ φ2 S2 acc us, r0 = compL fg ft fe (ps.drop (i + 1)) acc (wipeS η vs) S2 ∧ Ev H1 φ1 (Lv φ1 S1) H2 φ2 (Lv φ2 S2) ∧ WF K H2 φ2 S2 (uni F (at1 D)) ∧ H2 D = some (.lst us) ∧ RVs K H2 φ2 (uni (Lv φ2 S2) (uni F (at1 D))) acc us,
      fun H2 ⟨φ2, S2, acc, us, a, b, c, d, g⟩ => ⟨_, by omega, rfl, hlt, φ2, S2, acc, us, a, b, c, d, g⟩, fun x H3 hx => ?_⟩
    obtain ⟨ext, rv⟩ := hy x H3 hx
    have w3 := ws.ext ext
    have e3 : Ev H' φ' (Lv φ' S') H3 φ' (Lv φ' S') := ev_ext ext
    have hO' : ∀ a, O a → uni F (at1 D) a := fun a z => .inl (hO a z)
    have re3 : RE K H3 φ' (uni (Lv φ' S') (uni F (at1 D))) O η σ := ⟨re1.len, fun i p h => by
      obtain ⟨v, h1, h2⟩ := re1.val i p h
      refine ⟨v, h1, h2.mono (fun a h m => ?_) ev.pre⟩
      obtain ⟨q1, m1⟩ := kk a h m
      exact ⟨(ext a (by rw [q1]; exact h)).trans q1, m1⟩, fun i xs h => by
      obtain ⟨a, vs, h1, h2, h3, h4⟩ := re1.own i xs h
      have q1 := (ev.keep a (by rw [h2]; nofun) (w1.away a (hO a h4)).2).1
      refine ⟨a, vs, h1, (ext a (by rw [q1, h2]; nofun)).trans (q1.trans h2), h3.mono (fun a h m => ?_) ev.pre, h4⟩
      obtain ⟨q1, m1⟩ := kk a h m
      exact ⟨(ext a (by rw [q1]; exact h)).trans q1, m1⟩⟩
    have hl3 : H3 D = some (.lst us) := (ext D (by rw [hl]; nofun)).trans hl
    have hr3 := hr.mono (fun a h m => ⟨ext a h, m⟩) fun _ _ h => h
    rw [eq] at h1
    unfold compL at eq h1
    cases q : fg ps[i] (wipeS η vs) with
    | none => rw [q] at h1; exact (show False from h1).elim
    | some η2 =>
      rw [q] at eq h1
      dsimp only at eq h1
      refine hg H3 φ' _ O _ η2 _ _ x _ (re3.wipe vs) rv q fun σ2 re2 hwi => ⟨hwi.trans (wipe_idem σ vs vs fun _ h => h), ?_⟩
      refine ht H3 φ' S' (uni F (at1 D)) O η2 σ2 _ w3 hO' re2 ?_
      cases q2 : ft η2 S' with
      | exc c fs S4 => rw [q2] at h1; exact (show False from h1).elim
      | stuck => rw [q2] at h1; exact (show False from h1).elim
      | ok b S4 =>
        rw [q2] at eq h1
        dsimp only [pureR, R.bind_ok] at eq h1
        intro φ4 H4 ev4 w4
        have l4 := inD w3 ev4 hl3
        have r4 := ev4.rvs hr3
        have ev14 := (ev.trans e3).trans ev4
        cases b with
        | false =>
          rw [if_neg Bool.false_ne_true] at eq ⊢
          exact ⟨φ4, S4, acc, us, eq, ev14, w4, l4, r4⟩
        | true =>
          rw [if_pos rfl] at eq h1 ⊢
          have re4 := re2.mono w3 hO' ev4
          refine he H4 φ4 S4 (uni F (at1 D)) O η2 σ2 _ w4 hO' re4 ?_
          cases q5 : fe η2 S4 with
          | exc c fs S5 => rw [q5] at h1; exact (show False from h1).elim
          | stuck => rw [q5] at h1; exact (show False from h1).elim
          | ok y S5 =>
            rw [q5] at eq h1
            dsimp only [pureR, R.bind_ok] at eq h1
            intro φ5 H5 ev5 w5 yv ry
            split at h1
            · rename_i hsz
              rw [if_pos hsz] at eq
              have l5 := inD w4 ev5 l4
              have r5 := ev5.rvs r4
              refine ⟨us, l5, ?_, ?_⟩
              · rw [r5.len, sizeLine_eq]
                omega
              have ev15 := ev14.trans ev5
              have hlD : ¬ Lv φ5 S5 D := (w5.away D (.inr rfl)).2
              have kw : ∀ a, H5 a ≠ none → ¬ uni (Lv φ5 S5) (uni F (at1 D)) a → upd H5 D (.lst (us ++ [yv])) a = H5 a ∧ ¬ uni (Lv φ5 S5) (uni F (at1 D)) a := fun a h m => ⟨upd_ne fun z => m (.inr (.inr z)), m⟩
              have sw : ∀ a, H5 a ≠ none → upd H5 D (.lst (us ++ [yv])) a ≠ none := fun a h => by
                by_cases e : a = D
                · subst e; rw [upd_same]; nofun
                · rw [upd_ne e]; exact h
              have w6 : WF K (upd H5 D (.lst (us ++ [yv]))) φ5 S5 (uni F (at1 D)) := by
                refine ⟨w5.len, fun n u e => ?_, w5.inj, fun a z => ?_⟩
                · obtain ⟨a, ho, e1, e2, r⟩ := w5.live n u e
                  exact ⟨a, ho, e1, (upd_ne fun z => hlD ⟨n, u, e, by rw [← z]; exact e1⟩).trans e2, r.mono kw fun _ _ h => h⟩
                · obtain ⟨h1, h2⟩ := w5.away a z
                  exact ⟨sw a h1, h2⟩
              refine ⟨φ5, S5, acc ++ [y], us ++ [yv], eq, ⟨fun a h => sw a (ev15.stay a h), fun a h m => ?_, ev15.pre⟩, w6, upd_same, (r5.append (.cons ry .nil)).mono kw fun _ _ h => h⟩
              obtain ⟨q, m'⟩ := ev15.keep a h m
              exact ⟨(upd_ne fun z => h (by rw [z]; exact hD)).trans q, m'⟩
            · exact h1.elim
  · have e : i = ps.length := by omega
    subst e
    rw [List.drop_length] at eq
    refine .inl ⟨hw.2, ?_⟩
    rw [eq] at h1
    exact h1 φ' H' ev (ws.less fun a z => .inl z) D us nD ws hl hr
end
end Fu

end
section
set_option Elab.async false
set_option linter.all false
set_option maxRecDepth 100000
set_option maxHeartbeats 4000000
namespace Fu
open PySem PySem.Spec PyProof.Rows L2
open He (ga)
/-! ### defs -/
abbrev Fn := List PV → AS → R PV
def spF (K : PySem.W.Frag) (n : Nat) (f : Fn) : Sp := fun vs H Q E => ∃ (φ : List Addr) (S : AS) (F : Addr → Prop) (ps : List PV), ps.length = n ∧ WF K H φ S F ∧ RVs K H φ (uni (Lv φ S) F) ps vs ∧ GoE K E F H φ S (f ps S) fun p φ' S' H' => ∀ v, RV K H' φ' (uni (Lv φ' S') F) p v → Q v H'
/-- a def's function from its body's -/
def fnOf (N : Nat) (b : FS) : Fn := fun ps S => match b (ps.map Sl.val ++ List.replicate (N - ps.length) Sl.no) S with
  | .rt p S => .ok p S
  | .nx _ S => .ok .non S
  | .exc c fs _ S => .exc c fs S
  | _ => .stuck
def callF (f : Fn) (a : FA) : FE := fun η S => (a η S).bind fun ps S => f ps S
section
variable {K : PySem.W.Frag} {E : XW} {F O : Addr → Prop} {H H' H1 H3 : Hp} {φ φ' φ1 : List Addr} {S S' S1 : AS} {η η' η1 : Sls} {σ σ' σ1 : L2.St} {D : Ends}
theorem spF_len {n : Nat} {f : Fn} {vs : List V} {Q : VK} {X : XK} (h : spF K n f vs H Q X) : vs.length = n := by
  obtain ⟨φ, S, F, ps, e, w, r, _⟩ := h
  rw [r.len, e]
theorem start_val {ps : List PV} {k : Nat} {i : Nat} {p : PV} (h : (ps.map Sl.val ++ List.replicate k Sl.no)[i]? = some (.val p)) : ps[i]? = some p := by
  rw [List.getElem?_append] at h
  split at h
  · rw [List.getElem?_map] at h
    cases q : ps[i]? with
    | none => rw [q] at h; cases h
    | some x => rw [q] at h; cases h; rfl
  · rw [List.getElem?_replicate] at h
    split at h <;> cases h
theorem start_own {ps : List PV} {k : Nat} {i : Nat} {xs : List PV} (h : (ps.map Sl.val ++ List.replicate k Sl.no)[i]? = some (.own xs)) : False := by
  rw [List.getElem?_append] at h
  split at h
  · rw [List.getElem?_map] at h
    cases q : ps[i]? with
    | none => rw [q] at h; cases h
    | some x => rw [q] at h; cases h
  · rw [List.getElem?_replicate] at h
    split at h <;> cases h
theorem fn_go {N : List Str} {n : Nat} {t : TS} {b : FS} {X : XK} {vs : List V} {Q : VK} (s : SimS K (fun _ => X) t b) (h : spF K n (fnOf N.length b) vs H Q X) : t { nx := fun _ H' => Q .non H', rt := Q } (L2.start N vs) H := by
  obtain ⟨φ, S, F, ps, e, w, r, g⟩ := h
  have no : ∀ a, ¬ Own (ps.map Sl.val ++ List.replicate (N.length - ps.length) Sl.no) (L2.start N vs) a := fun a ⟨i, xs, h, _⟩ => start_own h
  have hm : ∀ a, uni (Lv φ S) (uni F (Own (ps.map Sl.val ++ List.replicate (N.length - ps.length) Sl.no) (L2.start N vs))) a → uni (Lv φ S) F a := fun a z => z.imp id fun z => z.elim id fun z => (no a z).elim
  have ws : WS K H φ S F (ps.map Sl.val ++ List.replicate (N.length - ps.length) Sl.no) (L2.start N vs) := by
    refine ⟨w.less fun a z => z.elim id fun z => (no a z).elim, ⟨?_, fun i p h => ?_, fun i xs h => (start_own h).elim⟩, fun i j xs ys a h => (start_own h).elim, fun a _ => no a⟩
    · unfold L2.start
      rw [List.length_append, List.length_append, List.length_map, List.length_map, List.length_replicate, List.length_replicate, r.len]
    · obtain ⟨v, h1, h2⟩ := r.get (start_val h)
      refine ⟨v, ?_, h2.less hm⟩
      unfold L2.start
      rw [List.getElem?_append_left (by rw [List.length_map]; exact (List.getElem?_eq_some_iff.mp h1).1), List.getElem?_map, h1]
      rfl
  refine s H φ S F _ _ _ ws ?_
  have lift' : ∀ {φ' : List Addr} {S' : AS} {H' : Hp} {M' : Addr → Prop}, Ev H φ (uni (Lv φ S) (Own (ps.map Sl.val ++ List.replicate (N.length - ps.length) Sl.no) (L2.start N vs))) H' φ' M' → (∀ a, Lv φ' S' a → M' a) → Ev H φ (Lv φ S) H' φ' (Lv φ' S') := fun e hl => ⟨e.stay, fun a h m => by
    obtain ⟨q, m'⟩ := e.keep a h fun z => z.elim m (no a)
    exact ⟨q, fun z => m' (hl a z)⟩, e.pre⟩
  unfold fnOf at g
  cases q : b (ps.map Sl.val ++ List.replicate (N.length - ps.length) Sl.no) S with
  | nx η' S' =>
    rw [q] at g
    exact fun φ' H' σ' ev ws' => g φ' H' (lift' ev fun a z => .inl z) ws'.out _ .non
  | rt p S' =>
    rw [q] at g
    exact fun φ' H' v ev w' r => g φ' H' (lift' ev fun a z => z) w' v r
  | exc c fs η' S' =>
    rw [q] at g
    refine fun φ' H' d σ' ev ws' x => g φ' H' d (lift' ev fun a z => .inl z) ws'.out ?_
    rcases x with x | ⟨dd, gs, h1, h2, h3, h4⟩
    · exact .inl x
    · exact .inr ⟨dd, gs, h1, h2, h3.mono (fun a h m => ⟨rfl, fun z => m (z.imp id .inl)⟩) fun _ _ h => h, fun z => h4 (z.imp id .inl)⟩
  | bk η' S' => rw [q] at g; exact (show False from g).elim
  | ct η' S' => rw [q] at g; exact (show False from g).elim
  | stuck => rw [q] at g; exact (show False from g).elim
theorem SimA.len {t : TA} {fa : FA} (n : Nat) (a : SimA K E t fa) : SimA K E t fun η S => (fa η S).bind fun ps S => if ps.length = n then .ok ps S else .stuck := fun H φ S F O η σ Q w hO re h => by
  refine a H φ S F O η σ Q w hO re (h.bind.imp fun ps φ1 S1 H1 e1 w1 h1 vs rs => ?_)
  split at h1
  · exact h1.ok w1 vs rs
  · exact h1.elim
/-- a def called: the number of its arguments is right -/
def callN (n : Nat) (f : Fn) (a : FA) : FE := fun η S => (a η S).bind fun ps S => if ps.length = n then f ps S else .stuck
theorem se_call {n : Nat} {f : Fn} {t : TA} {fa : FA} {X : XK} (a : SimA K (fun _ => X) t fa) : SimE K (fun _ => X) (tCall (spF K n f) [] X t) (callN n f fa) := fun H φ S F O η σ Q w hO re h => by
  refine a H φ S F O η σ _ w hO re (h.bind.imp fun ps φ1 S1 H1 e1 w1 h1 vs rs => ?_)
  split at h1
  · rename_i hl
    rw [List.append_nil]
    exact ⟨φ1, S1, F, ps, hl, w1, rs, h1⟩
  · exact h1.elim
theorem se_callS {n : Nat} {f : Fn} {t : TA} {fa : FA} (a : SimA K E t fa) : SimE K E (tCallS (spF K n f) E t) (callN n f fa) := fun H φ S F O η σ Q w hO re h => by
  refine a H φ S F O η σ _ w hO re (h.bind.imp fun ps φ1 S1 H1 e1 w1 h1 vs rs => ?_)
  split at h1
  · rename_i hl
    exact ⟨φ1, S1, F, ps, hl, w1, rs, h1⟩
  · exact h1.elim
/-! ### lists of a slot -/
def ownS (i : Nat) (f : FN) : FS := fun η S => lift (f η S) η fun xs S => .nx (η.set i (.own xs)) S
theorem set_own {i j : Nat} {xs ys : List PV} {p a : Addr} (h1 : (η.set i (.own xs))[j]? = some (.own ys)) (h2 : (σ.set i (some (.ref p)))[j]? = some (some (.ref a))) : (i = j ∧ a = p ∧ xs = ys) ∨ (i ≠ j ∧ η[j]? = some (.own ys) ∧ σ[j]? = some (some (.ref a))) := by
  by_cases e : i = j
  · subst e
    rw [List.getElem?_set, if_pos rfl] at h1 h2
    split at h1
    · cases h1
      split at h2
      · cases h2; exact .inl ⟨rfl, rfl, rfl⟩
      · cases h2
    · cases h1
  · rw [List.getElem?_set_ne e] at h1 h2
    exact .inr ⟨e, h1, h2⟩
theorem ss_own {i : Nat} {t : TE} {f : FN} (a : SimN K E t f) : SimS K E (tAsg t (gName i)) (ownS i f) := fun H φ S F η σ D w h => by
  refine a H φ S _ _ η σ _ w.wf (fun _ z => .inr z) w.re ((GoS.lift0 w h).imp fun xs φ1 S1 H1 e1 w1 h1 p vs hp w2 hl r => ?_)
  obtain ⟨h1, ws⟩ := h1
  have ow : ∀ a, Own (η.set i (.own xs)) (σ.set i (some (.ref p))) a → Own η σ a ∨ a = p := fun a ⟨j, ys, q1, q2⟩ => by
    rcases set_own q1 q2 with ⟨_, e, _⟩ | ⟨_, q1, q2⟩
    · exact .inr e
    · exact .inl ⟨j, ys, q1, q2⟩
  have hm : ∀ a, uni F (Own (η.set i (.own xs)) (σ.set i (some (.ref p)))) a → uni (uni F (Own η σ)) (at1 p) a := fun a z => z.elim (fun z => .inl (.inl z)) fun z => (ow a z).imp .inr id
  have k : ∀ a, H a ≠ none → ¬ uni (Lv φ S) (uni F (Own η σ)) a → H1 a = H a ∧ ¬ uni (Lv φ1 S1) (uni (uni F (Own η σ)) (at1 p)) a := fun a h m => by
    obtain ⟨q, m'⟩ := e1.keepU (F := uni F (Own η σ)) a h m
    exact ⟨q, fun z => z.elim (fun z => m' (.inl z)) fun z => z.elim (fun z => m' (.inr z)) fun z => h (by rw [show a = p from z]; exact hp)⟩
  have re1 : RE K H1 φ1 (uni (Lv φ1 S1) (uni (uni F (Own η σ)) (at1 p))) (Own η σ) η σ := ⟨w.re.len, fun j q h => let ⟨v, h1, h2⟩ := w.re.val j q h; ⟨v, h1, h2.mono k e1.pre⟩, fun j ys h => by
    obtain ⟨a, us, h1, h2, h3, h4⟩ := w.re.own j ys h
    exact ⟨a, us, h1, (e1.keep a (by rw [h2]; nofun) (w.wf.away a (.inr h4)).2).1.trans h2, h3.mono k e1.pre, h4⟩⟩
  have op : ∀ {a}, Own η σ a → a ≠ p := fun {a} z e => (w.wf.away a (.inr z)).1 (by rw [e]; exact hp)
  have fp : ∀ {a}, F a → a ≠ p := fun {a} z e => (w.wf.away a (.inl z)).1 (by rw [e]; exact hp)
  have mm : ∀ a, uni (Lv φ1 S1) (uni F (Own (η.set i (.own xs)) (σ.set i (some (.ref p))))) a → uni (Lv φ1 S1) (uni (uni F (Own η σ)) (at1 p)) a := fun a z => z.imp id (hm a)
  refine h1 φ1 H1 (σ.set i (some (.ref p))) ?_ ?_
  · refine ⟨e1.stay, fun a ha m => ?_, e1.pre⟩
    obtain ⟨q, m'⟩ := e1.keep a ha fun z => m (.inl z)
    exact ⟨q, fun z => z.elim m' fun z => (ow a z).elim (fun z => m (.inr z)) fun e => ha (by rw [e]; exact hp)⟩
  · refine ⟨w2.less hm, ⟨by rw [List.length_set, List.length_set]; exact re1.len, fun j q h => ?_, fun j ys h => ?_⟩, fun j l xs ys a h1 h2 h3 h4 => ?_, fun a z1 z2 => (ow a z2).elim (w.dis a z1) (fp z1)⟩
    · by_cases e : i = j
      · subst e
        rw [List.getElem?_set] at h
        split at h
        · split at h <;> cases h
        · exact absurd rfl ‹_›
      · rw [List.getElem?_set_ne e] at h ⊢
        obtain ⟨v, h1, h2⟩ := re1.val j q h
        exact ⟨v, h1, h2.less mm⟩
    · by_cases e : i = j
      · subst e
        have h0 := h
        rw [List.getElem?_set, if_pos rfl] at h
        split at h
        · rename_i hi
          cases h
          have q : (σ.set i (some (V.ref p)))[i]? = some (some (.ref p)) := by rw [List.getElem?_set, if_pos rfl, if_pos (by rw [w.re.len]; exact hi)]
          exact ⟨p, vs, q, hl, r.less mm, ⟨i, _, h0, q⟩⟩
        · cases h
      · have h0 := h
        rw [List.getElem?_set_ne e] at h
        obtain ⟨a, us, q1, q2, q3, q4⟩ := re1.own j ys h
        have q : (σ.set i (some (V.ref p)))[j]? = some (some (.ref a)) := by rw [List.getElem?_set_ne e]; exact q1
        exact ⟨a, us, q, q2, q3.less mm, ⟨j, ys, h0, q⟩⟩
    · rcases set_own h1 h3 with ⟨e1, e2, _⟩ | ⟨_, q1, q2⟩
      · rcases set_own h2 h4 with ⟨e3, _, _⟩ | ⟨_, q3, q4⟩
        · rw [← e1, ← e3]
        · exact (op ⟨_, _, q3, q4⟩ e2).elim
      · rcases set_own h2 h4 with ⟨_, e4, _⟩ | ⟨_, q3, q4⟩
        · exact (op ⟨_, _, q1, q2⟩ e4).elim
        · exact w.inj j l _ _ a q1 q3 q2 q4
end
end Fu

end
section
set_option Elab.async false
set_option linter.all false
set_option maxRecDepth 100000
set_option maxHeartbeats 4000000
namespace Fu
open PySem PySem.Spec PyProof.Rows L2
open He (ga)
/-! ### operations by values -/
section
variable {X : Cx} {K : PySem.W.Frag}
def rAddU (K : PySem.W.Frag) : R2 := fun x y H Q => rI0 (fun i j => .int (i + j)) x y H Q ∨ (∃ i j, x = .str i ∧ y = .str j ∧ i.length + j.length ≤ sizeLine ∧ Q (.str (i ++ j)) H) ∨ rCatA K x y H Q ∨ rCat x y H Q
theorem op_addU (h : X.K = K := by rfl) : OpR X (binaryOp .Add) (rAddU K) := by
  subst h
  exact op_add.or (op_add_str.or (op_catA.or op_cat))
end
def addG : PV → PV → AS → R PV := fun p q S => match p, q with
  | .int i, .int j => .ok (.int (i + j)) S
  | .str i, .str j => if i.length + j.length ≤ 1000000 then .ok (.str (i ++ j)) S else .stuck
  | .tup xs, .tup ys => if xs.length + ys.length ≤ 1000000 then .ok (.tup (xs ++ ys)) S else .stuck
  | .lst xs, .lst ys => if xs.length + ys.length ≤ 1000000 then .ok (.lst (xs ++ ys)) S else .stuck
  | _, _ => .stuck
section
variable {K : PySem.W.Frag} {E : XW} {F O : Addr → Prop} {H H' H1 H3 : Hp} {φ φ' φ1 : List Addr} {S S' S1 : AS} {M : Addr → Prop}
theorem RB.int {i : Int} {x : V} (r : RB K H φ M O (.int i) x) : x = .int i := by
  rcases r with r | ⟨_, _, _, z, _⟩
  · cases r; rfl
  · cases z
theorem RB.str {i : Str} {x : V} (r : RB K H φ M O (.str i) x) : x = .str i := by
  rcases r with r | ⟨_, _, _, z, _⟩
  · cases r; rfl
  · cases z
theorem RB.bl {i : Bool} {x : V} (r : RB K H φ M O (.bl i) x) : x = .bl i := by
  rcases r with r | ⟨_, _, _, z, _⟩
  · cases r; rfl
  · cases z
theorem RB.non {x : V} (r : RB K H φ M O .non x) : x = .non := by
  rcases r with r | ⟨_, _, _, z, _⟩
  · cases r; rfl
  · cases z
theorem RB.ty {n : String} {x : V} (r : RB K H φ M O (.ty n) x) : x = .ty n := by
  rcases r with r | ⟨_, _, _, z, _⟩
  · cases r; rfl
  · cases z
theorem RB.con {n : Str} {x : V} (r : RB K H φ M O (.con n) x) : x = .ref (ga K n) := by
  rcases r with r | ⟨_, _, _, z, _⟩
  · cases r; rfl
  · cases z
theorem RB.ref {n : Nat} {x : V} (r : RB K H φ M O (.ref n) x) : ∃ a, x = .ref a ∧ φ[n]? = some a := by
  rcases r with r | ⟨_, _, _, z, _⟩
  · cases r with | ref h => exact ⟨_, rfl, h⟩
  · cases z
theorem RB.tup {xs : List PV} {x : V} (r : RB K H φ M O (.tup xs) x) : ∃ a vs, x = .ref a ∧ SqT K H a vs ∧ RVs K H φ M xs vs := by
  rcases r with r | ⟨_, _, _, z, _⟩
  · cases r with | tup h rs => exact ⟨_, _, rfl, h.sq, rs⟩
  · cases z
theorem RB.ktu {xs : List PV} {x : V} (r : RB K H φ M O (.ktu xs) x) : ∃ a vs, x = .ref a ∧ SqT K H a vs ∧ RVs K H φ M xs vs := by
  rcases r with r | ⟨_, _, _, z, _⟩
  · cases r with | ktu h rs => exact ⟨_, _, rfl, h.sq, rs⟩
  · cases z
theorem RB.lst {xs : List PV} {x : V} (r : RB K H φ M O (.lst xs) x) : ∃ a vs, x = .ref a ∧ H a = some (.lst vs) ∧ RVs K H φ M xs vs := by
  rcases r with r | ⟨a, _, vs, z, z2, h1, _, h2⟩
  · cases r with | lst h rs => exact ⟨_, _, rfl, h.1, rs⟩
  · cases z; exact ⟨a, vs, z2, h1, h2⟩
theorem RB.kls {xs : List PV} {x : V} (r : RB K H φ M O (.kls xs) x) : ∃ a vs, x = .ref a ∧ SqL K H a vs ∧ RVs K H φ M xs vs := by
  rcases r with r | ⟨_, _, _, z, _⟩
  · cases r with | kls h rs => exact ⟨_, _, rfl, h.sq, rs⟩
  · cases z
theorem sr_add : SimR K (rAddU K) addG := fun H φ S F O p q x y Q w hO rp rq h => by
  unfold addG at h
  split at h
  · obtain rfl := rp.int
    obtain rfl := rq.int
    exact .inl ⟨_, _, rfl, rfl, h.ok w _ .int⟩
  · split at h
    · rename_i hl
      obtain rfl := rp.str
      obtain rfl := rq.str
      exact .inr (.inl ⟨_, _, rfl, rfl, million hl, h.ok w _ .str⟩)
    · exact h.elim
  · split at h
    · rename_i xs ys hl
      obtain ⟨a, vs, rfl, h1, r1⟩ := rp.tup
      obtain ⟨b, ws, rfl, h2, r2⟩ := rq.tup
      refine .inr (.inr (.inl ⟨a, b, vs, ws, rfl, rfl, h1, h2, million (by rw [r1.len, r2.len]; exact hl), fun e => ?_, fun _ e => ?_, fun _ _ p hp => ?_⟩))
      · subst e
        cases r1
        refine h.ok w _ ?_
        rcases rq with rq | ⟨_, _, _, z, _⟩
        · exact rq
        · cases z
      · subst e
        cases r2
        refine h.ok w _ ?_
        rcases rp with rp | ⟨_, _, _, z, _⟩
        · rw [List.append_nil]; exact rp
        · cases z
      · exact h.new w hp _ (.newTup w hp (r1.append r2))
    · exact h.elim
  · split at h
    · rename_i xs ys hl
      obtain ⟨a, vs, rfl, h1, r1⟩ := rp.lst
      obtain ⟨b, ws, rfl, h2, r2⟩ := rq.lst
      exact .inr (.inr (.inr ⟨a, b, vs, ws, rfl, rfl, h1, h2, million (by rw [r1.len, r2.len]; exact hl), fun p hp => h.new w hp _ (.newLst w hp (r1.append r2))⟩))
    · exact h.elim
  · exact h.elim
/-- two ints -/
def intG (C : Int → Int → Bool) (g : Int → Int → PV) : PV → PV → AS → R PV := fun p q S => match p, q with
  | .int i, .int j => if C i j = true then .ok (g i j) S else .stuck
  | _, _ => .stuck
theorem sr_int {C : Int → Int → Prop} {c : Int → Int → Bool} {g : Int → Int → Int} (hc : ∀ i j, c i j = true → C i j) : SimR K (rI C fun i j => .int (g i j)) (intG c fun i j => .int (g i j)) := fun H φ S F O p q x y Q w hO rp rq h => by
  unfold intG at h
  split at h
  · split at h
    · rename_i hl
      obtain rfl := rp.int
      obtain rfl := rq.int
      exact ⟨_, _, rfl, rfl, hc _ _ hl, h.ok w _ .int⟩
    · exact h.elim
  · exact h.elim
def int0G (g : Int → Int → PV) : PV → PV → AS → R PV := fun p q S => match p, q with
  | .int i, .int j => .ok (g i j) S
  | _, _ => .stuck
theorem sr_int0 {g : Int → Int → Int} : SimR K (rI0 fun i j => .int (g i j)) (int0G fun i j => .int (g i j)) := fun H φ S F O p q x y Q w hO rp rq h => by
  unfold int0G at h
  split at h
  · obtain rfl := rp.int
    obtain rfl := rq.int
    exact ⟨_, _, rfl, rfl, h.ok w _ .int⟩
  · exact h.elim
theorem sr_cmp {g : Int → Int → Bool} : SimR K (rI0 fun i j => .bl (g i j)) (int0G fun i j => .bl (g i j)) := fun H φ S F O p q x y Q w hO rp rq h => by
  unfold int0G at h
  split at h
  · obtain rfl := rp.int
    obtain rfl := rq.int
    exact ⟨_, _, rfl, rfl, h.ok w _ .bl⟩
  · exact h.elim
abbrev subG := int0G fun i j => .int (i - j)
abbrev ltG := int0G fun i j => .bl (decide (i < j))
abbrev leG := int0G fun i j => .bl (decide (i ≤ j))
abbrev gtG := int0G fun i j => .bl (decide (j < i))
abbrev geG := int0G fun i j => .bl (decide (j ≤ i))
def cMul (i j : Int) : Bool := decide (-(2 ^ 64) < i ∧ i < 2 ^ 64) || decide (-(2 ^ 64) < j ∧ j < 2 ^ 64)
def cMod (_ j : Int) : Bool := decide (j ≠ 0)
def cDiv (_ j : Int) : Bool := decide (j ≠ 0 ∧ j.natAbs < 1073741824)
def cPow (i j : Int) : Bool := decide (0 ≤ j ∧ j ≤ 1000000 ∧ i.natAbs < 2 ^ 64)
abbrev mulG := intG cMul fun i j => .int (i * j)
abbrev modG := intG cMod fun i j => .int (i.fmod j)
abbrev divG := intG cDiv fun i j => .int (i.fdiv j)
abbrev powG := intG cPow fun i j => .int (i ^ j.toNat)
theorem sr_mul : SimR K (rI CMul fun i j => .int (i * j)) mulG := sr_int fun i j h => by
  unfold cMul at h
  simpa [CMul] using h
theorem sr_mod : SimR K (rI (fun _ j => j ≠ 0) fun i j => .int (i.fmod j)) modG := sr_int fun i j h => of_decide_eq_true h
theorem sr_div : SimR K (rI CDivN fun i j => .int (i.fdiv j)) divG := sr_int fun i j h => by
  unfold cDiv at h
  have := of_decide_eq_true h
  exact this
theorem sr_pow : SimR K (rI CPow fun i j => .int (i ^ j.toNat)) powG := sr_int fun i j h => by
  unfold cPow at h
  have := of_decide_eq_true h
  exact this
/-! ### == -/
mutual
def toD : PV → PyData
  | .non => .none
  | .bl b => .bool b
  | .int i => .int i
  | .str x => .str x
  | .tup xs => .tuple (toDs xs)
  | .ktu xs => .tuple (toDs xs)
  | .lst xs => .list (toDs xs)
  | .kls xs => .list (toDs xs)
  | _ => .none
def toDs : List PV → List PyData
  | [] => []
  | p :: ps => toD p :: toDs ps
end
mutual
/-- plain data -/
def isD : PV → Bool
  | .non => true
  | .bl _ => true
  | .int _ => true
  | .str _ => true
  | .tup xs => isDs xs
  | .ktu xs => isDs xs
  | .lst xs => isDs xs
  | .kls xs => isDs xs
  | _ => false
def isDs : List PV → Bool
  | [] => true
  | p :: ps => isD p && isDs ps
end
mutual
theorem RV.dp {p : PV} {v : V} (h : RV K H φ M p v) (d : isD p = true) : Dp K H v (toD p) := by
  cases h with
  | non => unfold toD; exact .non
  | bl => unfold toD; exact .bl _
  | int => unfold toD; exact .int _
  | str => unfold toD; exact .str _
  | tup h r => unfold toD; unfold isD at d; exact .tup h.sq (r.dps d)
  | ktu h r => unfold toD; unfold isD at d; exact .tup h.sq (r.dps d)
  | lst h r => unfold toD; unfold isD at d; exact .lst h.sq (r.dps d)
  | kls h r => unfold toD; unfold isD at d; exact .lst h.sq (r.dps d)
  | ty => cases d
  | con => cases d
  | ref _ => cases d
theorem RVs.dps {ps : List PV} {vs : List V} (h : RVs K H φ M ps vs) (d : isDs ps = true) : DpAll K H vs (toDs ps) := by
  cases h with
  | nil => unfold toDs; exact .nil
  | cons h r =>
    unfold isDs at d
    unfold toDs
    exact .cons (h.dp (Bool.and_eq_true_iff.mp d).1) (r.dps (Bool.and_eq_true_iff.mp d).2)
end
theorem RB.dp {p : PV} {v : V} (h : RB K H φ M O p v) (d : isD p = true) : Dp K H v (toD p) := by
  rcases h with h | ⟨a, xs, vs, rfl, rfl, h1, _, h2⟩
  · exact h.dp d
  · unfold toD
    unfold isD at d
    exact .lst (.inl (.inl h1)) (h2.dps d)
def rEqU (K : PySem.W.Frag) : R2 := fun x y H Q => rEq x y H Q ∨ rEqD K x y H Q
def rNeU (K : PySem.W.Frag) : R2 := fun x y H Q => rNe x y H Q ∨ rNeD K x y H Q
theorem op_eqU {X : Cx} (hu : X.A.units + 64 < cLine) (h : X.K = K := by rfl) : OpR X (compareOp .Eq) (rEqU K) := by
  subst h
  exact op_eq.or (op_eqD hu)
theorem op_neU {X : Cx} (hu : X.A.units + 64 < cLine) (h : X.K = K := by rfl) : OpR X (compareOp .NotEq) (rNeU K) := by
  subst h
  exact op_ne.or (op_neD hu)
/-- scalars at once, other data by their depth -/
def eqv : PV → PV → Option Bool := fun p q => match p, q with
  | .int i, .int j => some (decide (i = j))
  | .str i, .str j => some (decide (i = j))
  | .bl i, .bl j => some (decide (i = j))
  | .non, .non => some true
  | .non, .int _ => some false
  | .int _, .non => some false
  | .non, .str _ => some false
  | .str _, .non => some false
  | .int _, .str _ => some false
  | .str _, .int _ => some false
  | p, q => if isD p && isD q && SeqAt.shaped (toD p) && SeqAt.shaped (toD q) then some (PyData.eqv (toD p) (toD q)) else none
def eqG (g : Bool → Bool) : PV → PV → AS → R PV := fun p q S => match eqv p q with
  | some b => .ok (.bl (g b)) S
  | none => .stuck
theorem eqv_ok {p q : PV} {x y : V} {b : Bool} (e : eqv p q = some b) (rp : RB K H φ M O p x) (rq : RB K H φ M O q y) : (scal x y = true ∧ decide (x = y) = b) ∨ ∃ d e, Dp K H x d ∧ Dp K H y e ∧ SeqAt.shaped d = true ∧ SeqAt.shaped e = true ∧ PyData.eqv d e = b := by
  unfold eqv at e
  split at e
  · obtain rfl := rp.int
    obtain rfl := rq.int
    cases e
    exact .inl ⟨rfl, by simp⟩
  · obtain rfl := rp.str
    obtain rfl := rq.str
    cases e
    exact .inl ⟨rfl, by simp⟩
  · obtain rfl := rp.bl
    obtain rfl := rq.bl
    cases e
    exact .inl ⟨rfl, by simp⟩
  · obtain rfl := rp.non
    obtain rfl := rq.non
    cases e
    exact .inl ⟨rfl, by simp⟩
  · obtain rfl := rp.non
    obtain rfl := rq.int
    cases e
    exact .inl ⟨rfl, by simp⟩
  · obtain rfl := rp.int
    obtain rfl := rq.non
    cases e
    exact .inl ⟨rfl, by simp⟩
  · obtain rfl := rp.non
    obtain rfl := rq.str
    cases e
    exact .inl ⟨rfl, by simp⟩
  · obtain rfl := rp.str
    obtain rfl := rq.non
    cases e
    exact .inl ⟨rfl, by simp⟩
  · obtain rfl := rp.int
    obtain rfl := rq.str
    cases e
    exact .inl ⟨rfl, by simp⟩
  · obtain rfl := rp.str
    obtain rfl := rq.int
    cases e
    exact .inl ⟨rfl, by simp⟩
  · split at e
    · rename_i hd
      cases e
      simp only [Bool.and_eq_true] at hd
      obtain ⟨⟨⟨d1, d2⟩, d3⟩, d4⟩ := hd
      exact .inr ⟨_, _, rp.dp d1, rq.dp d2, d3, d4, rfl⟩
    · cases e
theorem sr_eq : SimR K (rEqU K) (eqG id) := fun H φ S F O p q x y Q w hO rp rq h => by
  unfold eqG at h
  split at h
  · rename_i b e
    rcases eqv_ok e rp rq with ⟨h1, h2⟩ | ⟨d, e, h1, h2, h3, h4, h5⟩
    · exact .inl ⟨h1, by rw [h2]; exact h.ok w _ .bl⟩
    · exact .inr ⟨d, e, h1, h2, h3, h4, by rw [h5]; exact h.ok w _ .bl⟩
  · exact h.elim
theorem sr_ne : SimR K (rNeU K) (eqG not) := fun H φ S F O p q x y Q w hO rp rq h => by
  unfold eqG at h
  split at h
  · rename_i b e
    rcases eqv_ok e rp rq with ⟨h1, h2⟩ | ⟨d, e, h1, h2, h3, h4, h5⟩
    · exact .inl ⟨h1, by rw [h2]; exact h.ok w _ .bl⟩
    · exact .inr ⟨d, e, h1, h2, h3, h4, by rw [h5]; exact h.ok w _ .bl⟩
  · exact h.elim
/-! ### is -/
def isNon : PV → Bool
  | .non => true
  | _ => false
def isBl (b : Bool) : PV → Bool
  | .bl c => b == c
  | _ => false
theorem RB.isNon {p : PV} {x : V} (r : RB K H φ M O p x) : decide (x = .non) = isNon p := by
  rcases r with r | ⟨a, xs, vs, rfl, rfl, _⟩
  · cases r <;> rfl
  · rfl
theorem RB.isBl {b : Bool} {p : PV} {x : V} (r : RB K H φ M O p x) : decide (x = .bl b) = isBl b p := by
  rcases r with r | ⟨a, xs, vs, rfl, rfl, _⟩
  · cases r with
    | @bl c => cases b <;> cases c <;> rfl
    | _ => rfl
  · rfl
def isG (g : Bool → Bool) : PV → PV → AS → R PV := fun p q S => match q with
  | .non => .ok (.bl (g (isNon p))) S
  | .bl b => .ok (.bl (g (isBl b p))) S
  | _ => .stuck
theorem op_isU {X : Cx} : OpR X (compareOp .Is) (fun x y H Q => (y = .non ∧ Q (.bl (decide (x = .non))) H) ∨ Hk.rIsBo x y H Q) := op_isN.or Hk.op_isB
theorem sr_is : SimR K (fun x y H Q => (y = .non ∧ Q (.bl (decide (x = .non))) H) ∨ Hk.rIsBo x y H Q) (isG id) := fun H φ S F O p q x y Q w hO rp rq h => by
  unfold isG at h
  split at h
  · obtain rfl := rq.non
    exact .inl ⟨rfl, by rw [rp.isNon]; exact h.ok w _ .bl⟩
  · obtain rfl := rq.bl
    exact .inr ⟨_, rfl, by rw [rp.isBl]; exact h.ok w _ .bl⟩
  · exact h.elim
def notNG : PV → PV → AS → R PV := fun p q S => match q with
  | .non => .ok (.bl (!isNon p)) S
  | _ => .stuck
theorem sr_notN : SimR K (fun x y H Q => y = .non ∧ Q (.bl (!decide (x = .non))) H) notNG := fun H φ S F O p q x y Q w hO rp rq h => by
  unfold notNG at h
  split at h
  · obtain rfl := rq.non
    exact ⟨rfl, by rw [rp.isNon]; exact h.ok w _ .bl⟩
  · exact h.elim
end
end Fu

end
section
set_option Elab.async false
set_option linter.all false
set_option maxRecDepth 100000
set_option maxHeartbeats 4000000
namespace Fu
open PySem PySem.Spec PyProof.Rows L2
open He (ga)
section
variable {K : PySem.W.Frag} {E : XW} {F O : Addr → Prop} {H H' H1 H3 : Hp} {φ φ' φ1 : List Addr} {S S' S1 : AS} {M : Addr → Prop}
/-! ### in -/
def flat : PV → Bool
  | .non => true
  | .bl _ => true
  | .int _ => true
  | .str _ => true
  | _ => false
def eqF : PV → PV → Bool
  | .non, .non => true
  | .bl a, .bl b => a == b
  | .bl a, .int b => (if a then 1 else 0) == b
  | .int a, .bl b => a == (if b then 1 else 0)
  | .int a, .int b => a == b
  | .str a, .str b => a == b
  | _, _ => false
def mem (p : PV) (xs : List PV) : Bool := xs.any fun q => eqF q p
theorem RV.flat {p : PV} {v : V} (h : RV K H φ M p v) (f : Fu.flat p = true) : flatV v = true := by
  cases h <;> first | rfl | cases f
theorem RV.eqF {p q : PV} {v u : V} (h : RV K H φ M p v) (h2 : RV K H φ M q u) (f : Fu.flat p = true) (g : Fu.flat q = true) : eqV v u = Fu.eqF p q := by
  cases h <;> first | (cases f; done) | (cases h2 <;> first | (cases g; done) | rfl)
theorem RVs.flat {ps : List PV} {vs : List V} (h : RVs K H φ M ps vs) (f : ps.all Fu.flat = true) : vs.all flatV = true := by
  cases h with
  | nil => rfl
  | cons h r =>
    rw [List.all_cons, Bool.and_eq_true] at f ⊢
    exact ⟨h.flat f.1, r.flat f.2⟩
theorem RVs.mem {p : PV} {v : V} (h : RV K H φ M p v) (g : Fu.flat p = true) {ps : List PV} {vs : List V} (r : RVs K H φ M ps vs) (f : ps.all Fu.flat = true) : inV v vs = Fu.mem p ps := by
  cases r with
  | nil => rfl
  | cons h2 r =>
    rw [List.all_cons, Bool.and_eq_true] at f
    have e := RVs.mem h g r f.2
    unfold inV Fu.mem at e ⊢
    rw [List.any_cons, List.any_cons, h2.eqF h f.1 g, e]
def rInU (K : PySem.W.Frag) (neg : Bool) : R2 := fun x y H Q => rIn K neg x y H Q ∨ ∃ (c : Nat) (z : Str), x = .str ⟨#[c]⟩ ∧ y = .str z ∧ Q (.bl (if neg then !decide (c ∈ z.cps.toList) else decide (c ∈ z.cps.toList))) H
theorem op_inU {X : Cx} (h : X.K = K := by rfl) : OpR X (compareOp .In) (rInU K false) := by
  subst h
  exact op_in_seq.or op_in_sign
theorem op_notInU {X : Cx} (h : X.K = K := by rfl) : OpR X (compareOp .NotIn) (rInU K true) := by
  subst h
  exact op_notIn_seq.or op_notIn_sign
/-- the one sign of a text -/
def oneC : PV → Option Nat
  | .str ⟨⟨[c]⟩⟩ => some c
  | _ => none
theorem oneC_ok {p : PV} {c : Nat} (h : oneC p = some c) : p = .str ⟨#[c]⟩ := by
  unfold oneC at h
  split at h
  · cases h; rfl
  · cases h
def inG (neg : Bool) : PV → PV → AS → R PV := fun p q S => match q with
  | .lst xs => if flat p && xs.all flat then .ok (.bl (neg ^^ mem p xs)) S else .stuck
  | .kls xs => if flat p && xs.all flat then .ok (.bl (neg ^^ mem p xs)) S else .stuck
  | .tup xs => if flat p && xs.all flat then .ok (.bl (neg ^^ mem p xs)) S else .stuck
  | .ktu xs => if flat p && xs.all flat then .ok (.bl (neg ^^ mem p xs)) S else .stuck
  | .str z => match oneC p with
    | some c => .ok (.bl (neg ^^ decide (c ∈ z.cps.toList))) S
    | none => .stuck
  | _ => .stuck
theorem neg_if {neg b : Bool} : (if neg = true then !b else b) = (neg ^^ b) := by cases neg <;> cases b <;> rfl
theorem RB.rv {p : PV} {x : V} (r : RB K H φ M O p x) (f : flat p = true) : RV K H φ M p x := by
  rcases r with r | ⟨_, _, _, rfl, _⟩
  · exact r
  · cases f
theorem sr_in {neg : Bool} : SimR K (rInU K neg) (inG neg) := fun H φ S F O p q x y Q w hO rp rq h => by
  unfold inG at h
  split at h
  · split at h
    · rename_i xs hf
      rw [Bool.and_eq_true] at hf
      obtain ⟨a, vs, rfl, h1, r1⟩ := rq.lst
      have rv := rp.rv hf.1
      exact .inl ⟨a, vs, rfl, .inl (.inl (.inl h1)), rv.flat hf.1, r1.flat hf.2, by rw [r1.mem rv hf.1 hf.2, neg_if]; exact h.ok w _ .bl⟩
    · exact h.elim
  · split at h
    · rename_i xs hf
      rw [Bool.and_eq_true] at hf
      obtain ⟨a, vs, rfl, h1, r1⟩ := rq.kls
      have rv := rp.rv hf.1
      exact .inl ⟨a, vs, rfl, .inl h1, rv.flat hf.1, r1.flat hf.2, by rw [r1.mem rv hf.1 hf.2, neg_if]; exact h.ok w _ .bl⟩
    · exact h.elim
  · split at h
    · rename_i xs hf
      rw [Bool.and_eq_true] at hf
      obtain ⟨a, vs, rfl, h1, r1⟩ := rq.tup
      have rv := rp.rv hf.1
      exact .inl ⟨a, vs, rfl, .inr h1, rv.flat hf.1, r1.flat hf.2, by rw [r1.mem rv hf.1 hf.2, neg_if]; exact h.ok w _ .bl⟩
    · exact h.elim
  · split at h
    · rename_i xs hf
      rw [Bool.and_eq_true] at hf
      obtain ⟨a, vs, rfl, h1, r1⟩ := rq.ktu
      have rv := rp.rv hf.1
      exact .inl ⟨a, vs, rfl, .inr h1, rv.flat hf.1, r1.flat hf.2, by rw [r1.mem rv hf.1 hf.2, neg_if]; exact h.ok w _ .bl⟩
    · exact h.elim
  · split at h
    · rename_i z c e
      obtain rfl := oneC_ok e
      obtain rfl := rp.str
      obtain rfl := rq.str
      exact .inr ⟨c, _, rfl, rfl, by rw [neg_if]; exact h.ok w _ .bl⟩
    · exact h.elim
  · exact h.elim
/-! ### subscripts -/
theorem RVs.atI {ps : List PV} {vs : List V} (r : RVs K H φ M ps vs) {i : Int} {p : PV} (e : atI ps i = some p) : ∃ v, atI vs i = some v ∧ RV K H φ M p v := by
  unfold L2.atI at e ⊢
  rw [r.len]
  cases q : ixN ps.length i with
  | none => rw [q] at e; cases e
  | some j =>
    rw [q] at e
    obtain ⟨v, h1, h2⟩ := r.get (show ps[j]? = some p from e)
    exact ⟨v, h1, h2⟩
def ofO {α : Type} (o : Option α) (S : AS) : R α := match o with
  | some a => .ok a S
  | none => .stuck
@[simp] theorem ofO_some {α : Type} {a : α} {S : AS} : ofO (some a) S = .ok a S := rfl
def ixG : PV → PV → AS → R PV := fun p q S => match q with
  | .int i => match p with
    | .lst xs => ofO (atI xs i) S
    | .kls xs => ofO (atI xs i) S
    | .tup xs => ofO (atI xs i) S
    | .ktu xs => ofO (atI xs i) S
    | .str z => if z.length ≤ 1000000 then ofO ((atI z.cps.toList i).map fun c => .str ⟨#[c]⟩) S else .stuck
    | .ref n => match S[n]? with
      | some (some (.lst xs)) => ofO (atI xs i) S
      | _ => .stuck
    | _ => .stuck
  | _ => .stuck
theorem ix_U {X : Cx} (h : X.K = K := by rfl) : IxR X (rIx K) := by
  subst h
  exact ix_seq
theorem WF.lst (w : WF K H φ S F) {n : Nat} {xs : List PV} {a : Addr} (e : S[n]? = some (some (.lst xs))) (f : φ[n]? = some a) : ∃ vs, H a = some (.lst vs) ∧ RVs K H φ (uni (Lv φ S) F) xs vs := by
  obtain ⟨b, ho, h1, h2, h3⟩ := w.live n _ e
  rw [f] at h1
  cases h1
  cases h3 with
  | lst r => exact ⟨_, h2, r⟩
theorem ofO_go {α : Type} {E : XK} {o : Option α} {P : α → List Addr → AS → Hp → Prop} (w : WF K H φ S F) (h : GoE K E F H φ S (ofO o S) P) : ∃ a, o = some a ∧ P a φ S H := by
  cases o with
  | none => exact (show False from h).elim
  | some a => exact ⟨a, rfl, h.ok w⟩
theorem sr_ix : SimR K (rIx K) ixG := fun H φ S F O p q x y Q w hO rp rq h => by
  unfold ixG at h
  split at h
  · rename_i i
    obtain rfl := rq.int
    split at h
    · rename_i xs
      obtain ⟨a, vs, rfl, h1, r1⟩ := rp.lst
      obtain ⟨b, e, q⟩ := ofO_go w h
      obtain ⟨v, e1, rv⟩ := r1.atI e
      exact .inl ⟨a, vs, i, v, rfl, rfl, .inl (.inl h1), e1, q v rv⟩
    · rename_i xs
      obtain ⟨a, vs, rfl, h1, r1⟩ := rp.kls
      obtain ⟨b, e, q⟩ := ofO_go w h
      obtain ⟨v, e1, rv⟩ := r1.atI e
      exact .inl ⟨a, vs, i, v, rfl, rfl, h1, e1, q v rv⟩
    · rename_i xs
      obtain ⟨a, vs, rfl, h1, r1⟩ := rp.tup
      obtain ⟨b, e, q⟩ := ofO_go w h
      obtain ⟨v, e1, rv⟩ := r1.atI e
      exact .inr (.inl ⟨a, vs, i, v, rfl, rfl, h1, e1, q v rv⟩)
    · rename_i xs
      obtain ⟨a, vs, rfl, h1, r1⟩ := rp.ktu
      obtain ⟨b, e, q⟩ := ofO_go w h
      obtain ⟨v, e1, rv⟩ := r1.atI e
      exact .inr (.inl ⟨a, vs, i, v, rfl, rfl, h1, e1, q v rv⟩)
    · rename_i z
      split at h
      · rename_i hz
        obtain rfl := rp.str
        obtain ⟨b, e, q⟩ := ofO_go w h
        cases e2 : atI z.cps.toList i with
        | none => rw [e2] at e; cases e
        | some c =>
          rw [e2] at e
          cases e
          exact .inr (.inr ⟨z, i, c, rfl, rfl, million hz, e2, q _ .str⟩)
      · exact h.elim
    · rename_i n
      split at h
      · rename_i xs e0
        obtain ⟨a, rfl, ha⟩ := rp.ref
        obtain ⟨vs, h1, r1⟩ := w.lst e0 ha
        obtain ⟨b, e, q⟩ := ofO_go w h
        obtain ⟨v, e1, rv⟩ := r1.atI e
        exact .inl ⟨a, vs, i, v, rfl, rfl, .inl (.inl h1), e1, q v rv⟩
      · exact h.elim
    · exact h.elim
  · exact h.elim
/-! ### slices -/
def cut {α : Type} (xs : List α) (lo hi : Option Int) : List α := (xs.drop (HT.sIx xs.length 0 lo)).take (HT.sIx xs.length xs.length hi - HT.sIx xs.length 0 lo)
theorem RVs.cut {ps : List PV} {vs : List V} (r : RVs K H φ M ps vs) (lo hi : Option Int) : RVs K H φ M (cut ps lo hi) (cutV vs lo hi) := by
  unfold Fu.cut cutV
  rw [r.len]
  exact (r.drop _).take _
theorem cut_whole {α : Type} {xs : List α} {lo hi : Option Int} (h : HT.sIx xs.length 0 lo = 0 ∧ HT.sIx xs.length xs.length hi = xs.length) : cut xs lo hi = xs := by
  unfold cut
  rw [h.1, h.2, List.drop_zero, Nat.sub_zero, List.take_length]
def rSlU (K : PySem.W.Frag) : V → Option Int → Option Int → Hp → VK → Prop := fun x lo hi H Q => rSlA K x lo hi H Q ∨ rSlL K x lo hi H Q ∨ rSlS x lo hi H Q
theorem sl_U {X : Cx} (h : X.K = K := by rfl) : SlR X (rSlU K) := by
  subst h
  exact sl_tupA.or (sl_list.or sl_str)
def slG : PV → Option Int → Option Int → AS → R PV := fun p lo hi S => match p with
  | .tup xs => .ok (.tup (cut xs lo hi)) S
  | .lst xs => .ok (.lst (cut xs lo hi)) S
  | .kls xs => .ok (.lst (cut xs lo hi)) S
  | .str z => if z.length ≤ 1000000 then .ok (.str (cutS z lo hi)) S else .stuck
  | .ref n => match S[n]? with
    | some (some (.lst xs)) => .ok (.lst (cut xs lo hi)) S
    | _ => .stuck
  | _ => .stuck
theorem ssl_U : SimSl K (rSlU K) slG := fun H φ S F O p x lo hi Q w hO rp h => by
  unfold slG at h
  split at h
  · rename_i xs
    obtain ⟨a, vs, rfl, h1, r1⟩ := rp.tup
    refine .inl ⟨a, vs, rfl, h1, fun e => ?_, fun _ p hp => h.new w hp _ (.newTup w hp (r1.cut lo hi))⟩
    rw [r1.len] at e
    rw [cut_whole e] at h
    rcases rp with rp | ⟨_, _, _, z, _⟩
    · exact h.ok w _ rp
    · cases z
  · rename_i xs
    obtain ⟨a, vs, rfl, h1, r1⟩ := rp.lst
    exact .inr (.inl ⟨a, vs, rfl, .inl (.inl h1), fun p hp => h.new w hp _ (.newLst w hp (r1.cut lo hi))⟩)
  · rename_i xs
    obtain ⟨a, vs, rfl, h1, r1⟩ := rp.kls
    exact .inr (.inl ⟨a, vs, rfl, h1, fun p hp => h.new w hp _ (.newLst w hp (r1.cut lo hi))⟩)
  · split at h
    · rename_i z hz
      obtain rfl := rp.str
      exact .inr (.inr ⟨z, rfl, million hz, h.ok w _ .str⟩)
    · exact h.elim
  · split at h
    · rename_i xs e0
      obtain ⟨a, rfl, ha⟩ := rp.ref
      obtain ⟨vs, h1, r1⟩ := w.lst e0 ha
      exact .inr (.inl ⟨a, vs, rfl, .inl (.inl h1), fun p hp => h.new w hp _ (.newLst w hp (r1.cut lo hi))⟩)
    · exact h.elim
  · exact h.elim
/-! ### calls of built-in functions -/
theorem RBs.one {p : PV} {xs : List V} (r : RBs K H φ M O [p] xs) : ∃ x, xs = [x] ∧ RB K H φ M O p x := by
  cases xs with
  | nil => exact r.elim
  | cons x xs =>
    cases xs with
    | nil => exact ⟨x, rfl, r.1⟩
    | cons y ys => exact r.2.elim
theorem RBs.two {p q : PV} {xs : List V} (r : RBs K H φ M O [p, q] xs) : ∃ x y, xs = [x, y] ∧ RB K H φ M O p x ∧ RB K H φ M O q y := by
  cases xs with
  | nil => exact r.elim
  | cons x xs =>
    obtain ⟨y, rfl, h⟩ := RBs.one r.2
    exact ⟨x, y, rfl, r.1, h⟩
/-- a value's items -/
def items : PV → AS → Option (List PV) := fun p S => match p with
  | .lst xs => some xs
  | .kls xs => some xs
  | .tup xs => some xs
  | .ktu xs => some xs
  | .ref n => match S[n]? with
    | some (some (.lst xs)) => some xs
    | _ => none
  | _ => none
theorem items_ok {p : PV} {x : V} {xs : List PV} (w : WF K H φ S F) (r : RB K H φ (uni (Lv φ S) F) O p x) (e : items p S = some xs) : ∃ a vs, x = .ref a ∧ (SqL K H a vs ∨ SqT K H a vs) ∧ RVs K H φ (uni (Lv φ S) F) xs vs := by
  unfold items at e
  split at e
  · cases e
    obtain ⟨a, vs, rfl, h1, r1⟩ := r.lst
    exact ⟨a, vs, rfl, .inl (.inl (.inl h1)), r1⟩
  · cases e
    obtain ⟨a, vs, rfl, h1, r1⟩ := r.kls
    exact ⟨a, vs, rfl, .inl h1, r1⟩
  · cases e
    obtain ⟨a, vs, rfl, h1, r1⟩ := r.tup
    exact ⟨a, vs, rfl, .inr h1, r1⟩
  · cases e
    obtain ⟨a, vs, rfl, h1, r1⟩ := r.ktu
    exact ⟨a, vs, rfl, .inr h1, r1⟩
  · split at e
    · rename_i e0
      cases e
      obtain ⟨a, rfl, ha⟩ := r.ref
      obtain ⟨vs, h1, r1⟩ := w.lst e0 ha
      exact ⟨a, vs, rfl, .inl (.inl (.inl h1)), r1⟩
    · cases e
  · cases e
def rLenU (K : PySem.W.Frag) : List V → Hp → VK → Prop := fun xs H Q => ∃ x n, xs = [x] ∧ LenV K x H n ∧ Q (.int n) H
theorem call_lenU {X : Cx} (h : X.K = K := by rfl) : CallR X (.builtin "len") (rLenU K) := by
  subst h
  exact call_len
def lenG : List PV → AS → R PV := fun ps S => match ps with
  | [.str z] => if z.length ≤ 1000000 then .ok (.int z.length) S else .stuck
  | [p] => match items p S with
    | some xs => .ok (.int xs.length) S
    | none => .stuck
  | _ => .stuck
theorem sc_len : SimC K (rLenU K) lenG := fun H φ S F O ps xs Q w hO r h => by
  unfold lenG at h
  split at h
  · split at h
    · rename_i z hz
      obtain ⟨x, rfl, r'⟩ := r.one; replace r := r'
      obtain rfl := r.str
      exact ⟨_, _, rfl, ⟨million hz, rfl⟩, h.ok w _ .int⟩
    · exact h.elim
  · split at h
    · rename_i e
      obtain ⟨x, rfl, r'⟩ := r.one; replace r := r'
      obtain ⟨a, vs, rfl, h1, r1⟩ := items_ok w r e
      exact ⟨_, vs.length, rfl, h1.imp (fun z => ⟨vs, z, rfl⟩) fun z => ⟨vs, z, rfl⟩, by rw [r1.len]; exact h.ok w _ .int⟩
    · exact h.elim
  · exact h.elim
def absG : List PV → AS → R PV := fun ps S => match ps with
  | [.int i] => .ok (.int (if i < 0 then -i else i)) S
  | _ => .stuck
theorem sc_abs : SimC K (fun xs H Q => ∃ i, xs = [.int i] ∧ Q (.int (if i < 0 then -i else i)) H) absG := fun H φ S F O ps xs Q w hO r h => by
  unfold absG at h
  split at h
  · obtain ⟨x, rfl, r'⟩ := r.one; replace r := r'
    obtain rfl := r.int
    exact ⟨_, rfl, h.ok w _ .int⟩
  · exact h.elim
def intC : List PV → AS → R PV := fun ps S => match ps with
  | [.int i] => .ok (.int i) S
  | [.bl b] => .ok (.int (if b then 1 else 0)) S
  | _ => .stuck
theorem sc_int : SimC K (fun xs H Q => (∃ i, xs = [.int i] ∧ Q (.int i) H) ∨ ∃ k, xs = [.bl k] ∧ Q (.int (if k then 1 else 0)) H) intC := fun H φ S F O ps xs Q w hO r h => by
  unfold intC at h
  split at h
  · obtain ⟨x, rfl, r'⟩ := r.one; replace r := r'
    obtain rfl := r.int
    exact .inl ⟨_, rfl, h.ok w _ .int⟩
  · obtain ⟨x, rfl, r'⟩ := r.one; replace r := r'
    obtain rfl := r.bl
    exact .inr ⟨_, rfl, h.ok w _ .int⟩
  · exact h.elim
def rListU (K : PySem.W.Frag) : List V → Hp → VK → Prop := fun xs H Q => ∃ p ys, xs = [.ref p] ∧ (SqL K H p ys ∨ SqT K H p ys) ∧ ∀ l, H l = none → Q (.ref l) (upd H l (.lst ys))
theorem call_listU {X : Cx} (h : X.K = K := by rfl) : CallR X (.type "list") (rListU K) := by
  subst h
  exact call_list_of
def listN (f : FA) : FN := fun η S => (f η S).bind fun ps S => match ps with
  | [p] => ofO (items p S) S
  | _ => .stuck
theorem sn_list {t : TA} {f : FA} (a : SimAB K E t f) : SimN K E (tCB (rListU K) t) (listN f) := fun H φ S F O η σ Q w hO re h => by
  refine a H φ S F O η σ _ w hO re (h.bind.imp fun ps φ1 S1 H1 e1 w1 h1 xs rs => ?_)
  split at h1
  · rename_i p
    obtain ⟨x, rfl, r⟩ := rs.one
    cases e : items p S1 with
    | none => rw [e] at h1; exact (show False from h1).elim
    | some ys =>
      rw [e] at h1
      obtain ⟨b, vs, rfl, h2, r1⟩ := items_ok w1 r e
      exact ⟨b, vs, rfl, h2, fun l hl => GoE.lay (E' := E σ) w1 r1 hl e1.stay h1⟩
  · exact h1.elim
def rTupU (K : PySem.W.Frag) : List V → Hp → VK → Prop := fun xs H Q => ∃ p ys, xs = [.ref p] ∧ ((SqL K H p ys ∧ ∀ l, H l = none → Q (.ref l) (upd H l (.tup ys))) ∨ (SqT K H p ys ∧ Q (.ref p) H))
theorem call_tupU {X : Cx} (h : X.K = K := by rfl) : CallR X (.type "tuple") (rTupU K) := by
  subst h
  exact call_tuple_of
/-- a list's items -/
def litems : PV → AS → Option (List PV) := fun p S => match p with
  | .lst xs => some xs
  | .kls xs => some xs
  | .ref n => match S[n]? with
    | some (some (.lst xs)) => some xs
    | _ => none
  | _ => none
theorem litems_ok {p : PV} {x : V} {xs : List PV} (w : WF K H φ S F) (r : RB K H φ (uni (Lv φ S) F) O p x) (e : litems p S = some xs) : ∃ a vs, x = .ref a ∧ SqL K H a vs ∧ RVs K H φ (uni (Lv φ S) F) xs vs := by
  unfold litems at e
  split at e
  · cases e
    obtain ⟨a, vs, rfl, h1, r1⟩ := r.lst
    exact ⟨a, vs, rfl, .inl (.inl h1), r1⟩
  · cases e
    obtain ⟨a, vs, rfl, h1, r1⟩ := r.kls
    exact ⟨a, vs, rfl, h1, r1⟩
  · split at e
    · rename_i e0
      cases e
      obtain ⟨a, rfl, ha⟩ := r.ref
      obtain ⟨vs, h1, r1⟩ := w.lst e0 ha
      exact ⟨a, vs, rfl, .inl (.inl h1), r1⟩
    · cases e
  · cases e
def tupG1 : List PV → AS → R PV := fun ps S => match ps with
  | [.tup xs] => .ok (.tup xs) S
  | [p] => match litems p S with
    | some xs => .ok (.tup xs) S
    | none => .stuck
  | _ => .stuck
theorem sc_tup : SimC K (rTupU K) tupG1 := fun H φ S F O ps xs Q w hO r h => by
  unfold tupG1 at h
  split at h
  · obtain ⟨x, rfl, r'⟩ := r.one; replace r := r'
    obtain ⟨a, vs, rfl, h1, r1⟩ := r.tup
    refine ⟨a, vs, rfl, .inr ⟨h1, ?_⟩⟩
    rcases r with r | ⟨_, _, _, z, _⟩
    · exact h.ok w _ r
    · cases z
  · split at h
    · rename_i e
      obtain ⟨x, rfl, r'⟩ := r.one; replace r := r'
      obtain ⟨a, vs, rfl, h1, r1⟩ := litems_ok w r e
      exact ⟨a, vs, rfl, .inl ⟨h1, fun l hl => h.new w hl _ (.newTup w hl r1)⟩⟩
    · exact h.elim
  · exact h.elim
end
end Fu

end
section
set_option Elab.async false
set_option linter.all false
set_option maxRecDepth 100000
set_option maxHeartbeats 4000000
namespace Fu
open PySem PySem.Spec PyProof.Rows L2
open He (ga)
section
variable {K : PySem.W.Frag} {E : XW} {F O : Addr → Prop} {H H' H1 H3 : Hp} {φ φ' φ1 : List Addr} {S S' S1 : AS} {M : Addr → Prop} {η : Sls} {σ : L2.St}
/-! ### what is walked -/
theorem SqL.at {H' : Hp} {a : Addr} {vs : List V} (r : SqL K H a vs) (h : H a ≠ none → H' a = H a) : SqL K H' a vs := by
  rcases r with (r | ⟨o, r⟩) | r
  · exact .inl (.inl ((h (by rw [r]; nofun)).trans r))
  · exact .inl (.inr ⟨o, (h (by rw [r]; nofun)).trans r⟩)
  · exact .inr r
theorem SqT.at {H' : Hp} {a : Addr} {vs : List V} (r : SqT K H a vs) (h : H a ≠ none → H' a = H a) : SqT K H' a vs := by
  rcases r with (r | ⟨o, r⟩) | r
  · exact .inl (.inl ((h (by rw [r]; nofun)).trans r))
  · exact .inl (.inr ⟨o, (h (by rw [r]; nofun)).trans r⟩)
  · exact .inr r
/-- a walk whose turns leave the heap, its items the list's -/
theorem walks_of {J : It} {ps : List PV} {vs : List V} (r : RVs K H φ M ps vs) (h : ∀ H', (∀ a, H a ≠ none → ¬ M a → H' a = H a) → (∀ (i : Nat) x, vs[i]? = some x → J.go i H' ∧ ∀ y H3, J.yld i H' y H3 → H3 = H' ∧ y = x) ∧ J.stop vs.length H') : Walks K J ps H φ M := fun H' φ' M' k g hm => by
  obtain ⟨h1, h2⟩ := h H' fun a x m => (k a x m).1
  refine ⟨fun i p e => ?_, by rw [← r.len]; exact h2⟩
  obtain ⟨v, e1, rv⟩ := r.get e
  obtain ⟨h3, h4⟩ := h1 i v e1
  refine ⟨h3, fun x H3 hy => ?_⟩
  obtain ⟨rfl, rfl⟩ := h4 x H3 hy
  exact ⟨fun _ _ => rfl, rv.mono k g⟩
theorem walks_list {a : Addr} {ps : List PV} {vs : List V} (r : RVs K H φ M ps vs) (hl : ∀ H', (∀ a, H a ≠ none → ¬ M a → H' a = H a) → SqL K H' a vs) : Walks K (Itl K a) ps H φ M := walks_of r fun H' k => by
  have h := hl H' k
  refine ⟨fun i x e => ⟨⟨vs, x, h, e⟩, fun y H3 hy => ?_⟩, ⟨vs, h, Nat.le_refl _⟩⟩
  obtain ⟨rfl, hy⟩ := hy
  have := hy vs h
  rw [e] at this
  exact ⟨rfl, (Option.some.inj this).symm⟩
theorem walks_tup {a : Addr} {ps : List PV} {vs : List V} (r : RVs K H φ M ps vs) (hl : ∀ H', (∀ a, H a ≠ none → ¬ M a → H' a = H a) → SqT K H' a vs) : Walks K (Itt K a) ps H φ M := walks_of r fun H' k => by
  have h := hl H' k
  refine ⟨fun i x e => ⟨⟨vs, x, h, e⟩, fun y H3 hy => ?_⟩, ⟨vs, h, Nat.le_refl _⟩⟩
  obtain ⟨rfl, hy⟩ := hy
  have := hy vs h
  rw [e] at this
  exact ⟨rfl, (Option.some.inj this).symm⟩
/-- a list, a tuple, a text that is walked -/
def iAny (K : PySem.W.Frag) (te : TE) : TI := fun σ H R => te σ H fun x H1 => (∃ a, x = .ref a ∧ ((∃ xs, SqL K H1 a xs) ∧ R (Itl K a) H1 ∨ (∃ xs, SqT K H1 a xs) ∧ R (Itt K a) H1)) ∨ ∃ z, x = .str z ∧ R (Its z) H1
theorem pi_any {X : Cx} {tg l : Expr} {tl : TE} (hl : PE X l tl) (hK : X.K = K := by rfl) : PI X tg l (iAny K tl) := by
  subst hK
  refine ⟨fun pins s σ H R I h => ?_⟩
  refine thn (hl.run pins s σ H _ I h) fun v s1 ⟨x, H1, I1, r1, q1⟩ => ?_
  have one : ∀ {ti : TI} {te : TE} , PI X tg l ti → True := fun _ => trivial
  rcases q1 with ⟨a, e, ⟨⟨xs, hq⟩, q⟩ | ⟨⟨xs, hq⟩, q⟩⟩ | ⟨z, e, q⟩
  · subst e
    cases r1
    obtain ⟨its, rv, p, hz⟩ := I1.list hq
    refine wpAny_pyIter_list p.isList ?_
    refine ⟨s1.heap.objs.size, [s1.heap.objs.size], _, _, H1, rfl, I1.kept (t' := s1.toks) fun b o e => Heap.get?_push_of_some _ e, turn_list a _, ⟨_, Heap.get?_push_size _ rfl, rfl, rfl⟩, fun b hb => ?_, q⟩
    have e : b = s1.heap.objs.size := by simpa using hb
    subst e
    exact I1.fpOk (Nat.le_refl _) (I1.hok.fresh (Nat.le_refl _))
  · subst e
    cases r1
    obtain ⟨its, rv, p, hz⟩ := I1.tuple hq
    refine wpAny_pyIter_tuple (show s1.heap.IsTuple a its.toArray from p) ?_
    refine ⟨s1.heap.objs.size, [s1.heap.objs.size], _, _, H1, rfl, I1.kept (t' := s1.toks) fun b o e => Heap.get?_push_of_some _ e, turn_tuple a _, ⟨_, Heap.get?_push_size _ rfl, rfl, rfl⟩, fun b hb => ?_, q⟩
    have e : b = s1.heap.objs.size := by simpa using hb
    subst e
    exact I1.fpOk (Nat.le_refl _) (I1.hok.fresh (Nat.le_refl _))
  · subst e
    obtain ⟨t, rfl⟩ := r1
    cases ha : z.cps.all (· < 128)
    · exact wpAny_pyIter_wide ha (pi_one (tk := s1.toks) I1 _ (turn_str _ z t "str_iterator" (.inr rfl)) ⟨_, Heap.get?_push_size _ rfl, rfl, rfl⟩ q)
    · exact wpAny_pyIter_ascii ha (pi_one (tk := s1.toks) I1 _ (turn_str _ z t "str_ascii_iterator" (.inl rfl)) ⟨_, Heap.get?_push_size _ rfl, rfl, rfl⟩ q)
/-- the items of what is walked and stands still -/
def witems : PV → Option (List PV)
  | .lst xs => some xs
  | .kls xs => some xs
  | .tup xs => some xs
  | .ktu xs => some xs
  | .str z => some (z.cps.toList.map fun c => .str ⟨#[c]⟩)
  | _ => none
def anyI (f : FE) : FI := fun η S => (f η S).bind fun p S => ofO (witems p) S
theorem rvs_chars (cs : List Nat) : RVs K H φ M (cs.map fun c => .str ⟨#[c]⟩) (cs.map fun c => V.str ⟨#[c]⟩) := by
  induction cs with
  | nil => exact .nil
  | cons c cs ih => exact .cons .str ih
theorem keep_of {a : Addr} {vs : List V} (h : H a = some (.lst vs)) (m : ¬ M a) {H' : Hp} (k : ∀ a, H a ≠ none → ¬ M a → H' a = H a) : H' a = some (.lst vs) := (k a (by rw [h]; nofun) m).trans h
theorem lsI_at {a : Addr} {vs : List V} (h : LsI H M a vs) {H' : Hp} (k : ∀ a, H a ≠ none → ¬ M a → H' a = H a) : SqL K H' a vs := .inl (.inl (keep_of h.1 h.2 k))
theorem klI_at {a : Addr} {vs : List V} (h : KlI K H M a vs) {H' : Hp} (k : ∀ a, H a ≠ none → ¬ M a → H' a = H a) : SqL K H' a vs := by
  rcases h with ⟨⟨o, h⟩, m⟩ | h
  · exact .inl (.inr ⟨o, (k a (by rw [h]; nofun) m).trans h⟩)
  · exact .inr h
theorem tpI_at {a : Addr} {vs : List V} (h : TpI H M a vs) {H' : Hp} (k : ∀ a, H a ≠ none → ¬ M a → H' a = H a) : SqT K H' a vs := .inl (.inl ((k a (by rw [h.1]; nofun) h.2).trans h.1))
theorem ktI_at {a : Addr} {vs : List V} (h : KtI K H M a vs) {H' : Hp} (k : ∀ a, H a ≠ none → ¬ M a → H' a = H a) : SqT K H' a vs := by
  rcases h with ⟨⟨o, h⟩, m⟩ | h
  · exact .inl (.inr ⟨o, (k a (by rw [h]; nofun) m).trans h⟩)
  · exact .inr h
theorem si_any {te : TE} {f : FE} (s : SimE K E te f) : SimI K E (iAny K te) (anyI f) := fun H φ S F O η σ R w hO re h => by
  refine s H φ S F O η σ _ w hO re (h.bind.imp fun p φ1 S1 H1 e1 w1 h1 v rv => ?_)
  obtain ⟨ps, e, q⟩ := ofO_go w1 h1
  unfold witems at e
  split at e
  · cases e
    cases rv with
    | lst hl r => exact .inl ⟨_, rfl, .inl ⟨⟨_, hl.sq⟩, q _ (walks_list r fun H' k => lsI_at hl k)⟩⟩
  · cases e
    cases rv with
    | kls hl r => exact .inl ⟨_, rfl, .inl ⟨⟨_, hl.sq⟩, q _ (walks_list r fun H' k => klI_at hl k)⟩⟩
  · cases e
    cases rv with
    | tup hl r => exact .inl ⟨_, rfl, .inr ⟨⟨_, hl.sq⟩, q _ (walks_tup r fun H' k => tpI_at hl k)⟩⟩
  · cases e
    cases rv with
    | ktu hl r => exact .inl ⟨_, rfl, .inr ⟨⟨_, hl.sq⟩, q _ (walks_tup r fun H' k => ktI_at hl k)⟩⟩
  · rename_i z
    cases e
    cases rv with
    | str =>
      refine .inr ⟨z, rfl, q _ (walks_of (rvs_chars _) fun H' k => ⟨fun i x hx => ?_, ?_⟩)⟩
      · rw [List.getElem?_map] at hx
        cases e2 : z.cps.toList[i]? with
        | none => rw [e2] at hx; cases hx
        | some c =>
          rw [e2] at hx
          cases hx
          have e3 : z.cps[i]? = some c := by simpa using e2
          refine ⟨(Array.getElem?_eq_some_iff.mp e3).1, fun y H3 ⟨h1, c', h2, h3⟩ => ⟨h1, ?_⟩⟩
          rw [e3] at h2
          cases h2
          exact h3
      · show z.cps.size ≤ _
        simp
  · cases e
/-- lo, lo + 1, .. -/
def rangeL (lo : Int) (n : Nat) : List PV := (List.range n).map fun i => .int (lo + (i : Nat))
def range1I (f : FA) : FI := fun η S => (f η S).bind fun ps S => match ps with
  | [.int j] => if -(2 ^ 62) ≤ j ∧ j < 2 ^ 62 then .ok (rangeL 0 j.toNat) S else .stuck
  | _ => .stuck
def range2I (f : FA) : FI := fun η S => (f η S).bind fun ps S => match ps with
  | [.int i, .int j] => if -(2 ^ 62) ≤ i ∧ i < 2 ^ 62 ∧ -(2 ^ 62) ≤ j ∧ j < 2 ^ 62 then .ok (rangeL i (j - i).toNat) S else .stuck
  | _ => .stuck
theorem rvs_range (lo : Int) (n : Nat) : RVs K H φ M (rangeL lo n) ((List.range n).map fun i => V.int (lo + (i : Nat))) := by
  unfold rangeL
  induction List.range n with
  | nil => exact .nil
  | cons c cs ih => exact .cons .int ih
theorem walks_range {lo : Int} {n : Nat} : Walks K (Itr lo n) (rangeL lo n) H φ M := walks_of (rvs_range lo n) fun H' k => ⟨fun i x hx => by
  rw [List.getElem?_map] at hx
  cases e2 : (List.range n)[i]? with
  | none => rw [e2] at hx; cases hx
  | some c =>
    rw [e2] at hx
    cases hx
    obtain ⟨h1, h2⟩ := List.getElem?_eq_some_iff.mp e2
    rw [List.getElem_range] at h2
    subst h2
    exact ⟨by
      show i < n
      simpa using h1, fun y H3 ⟨q1, q2⟩ => ⟨q1, q2⟩⟩, by
  show n ≤ _
  simp⟩
theorem si_range1 {t : TA} {f : FA} (s : SimAB K E t f) : SimI K E (iRng1 t) (range1I f) := fun H φ S F O η σ R w hO re h => by
  refine s H φ S F O η σ _ w hO re (h.bind.imp fun ps φ1 S1 H1 e1 w1 h1 vs rs => ?_)
  split at h1
  · split at h1
    · rename_i hl
      obtain ⟨x, rfl, r⟩ := rs.one
      obtain rfl := r.int
      exact ⟨_, rfl, hl.1, hl.2, h1.ok w1 _ walks_range⟩
    · exact h1.elim
  · exact h1.elim
theorem si_range2 {t : TA} {f : FA} (s : SimAB K E t f) : SimI K E (iRng2 t) (range2I f) := fun H φ S F O η σ R w hO re h => by
  refine s H φ S F O η σ _ w hO re (h.bind.imp fun ps φ1 S1 H1 e1 w1 h1 vs rs => ?_)
  split at h1
  · split at h1
    · rename_i hl
      obtain ⟨x, y, rfl, r, r2⟩ := rs.two
      obtain rfl := r.int
      obtain rfl := r2.int
      exact ⟨_, _, rfl, hl, h1.ok w1 _ walks_range⟩
    · exact h1.elim
  · exact h1.elim
/-! ### live objects -/
theorem lv_set {n : Nat} {o o' : AO} (e : S[n]? = some (some o)) : ∀ a, Lv φ (S.set n (some o')) a ↔ Lv φ S a := fun a => by
  have hn : n < S.length := (List.getElem?_eq_some_iff.mp e).1
  constructor
  · rintro ⟨m, u, h1, h2⟩
    by_cases q : n = m
    · subst q
      exact ⟨n, o, e, h2⟩
    · rw [List.getElem?_set_ne q] at h1
      exact ⟨m, u, h1, h2⟩
  · rintro ⟨m, u, h1, h2⟩
    by_cases q : n = m
    · subst q
      exact ⟨n, o', by rw [List.getElem?_set, if_pos rfl, if_pos hn], h2⟩
    · exact ⟨m, u, by rw [List.getElem?_set_ne q]; exact h1, h2⟩
/-- a live object changed -/
theorem WF.put (w : WF K H φ S F) {n : Nat} {a : Addr} {o o' : AO} {ho : HO} (e : S[n]? = some (some o)) (f : φ[n]? = some a) (r : RO K H φ (uni (Lv φ S) F) o' ho) :
    WF K (upd H a ho) φ (S.set n (some o')) F ∧ Ev H φ (Lv φ S) (upd H a ho) φ (Lv φ (S.set n (some o'))) := by
  have hn : n < S.length := (List.getElem?_eq_some_iff.mp e).1
  have la : Lv φ S a := ⟨n, o, e, f⟩
  have lv : ∀ b, uni (Lv φ (S.set n (some o'))) F b ↔ uni (Lv φ S) F b := fun b => or_congr (lv_set e b) Iff.rfl
  have k : ∀ b, H b ≠ none → ¬ uni (Lv φ S) F b → upd H a ho b = H b ∧ ¬ uni (Lv φ (S.set n (some o'))) F b := fun b h m => ⟨upd_ne fun z => m (.inl (by rw [z]; exact la)), fun z => m ((lv b).mp z)⟩
  have st : ∀ b, H b ≠ none → upd H a ho b ≠ none := fun b h => by
    by_cases q : b = a
    · subst q; rw [upd_same]; nofun
    · rw [upd_ne q]; exact h
  refine ⟨⟨by rw [List.length_set]; exact w.len, fun m u h => ?_, fun m l b u u' h1 h2 h3 h4 => ?_, fun b h => ?_⟩, ⟨st, fun b h m => ⟨upd_ne fun z => m (by rw [z]; exact la), fun z => m ((lv_set e b).mp z)⟩, fun _ _ h => h⟩⟩
  · by_cases q : n = m
    · subst q
      rw [List.getElem?_set, if_pos rfl, if_pos hn] at h
      cases h
      exact ⟨a, ho, f, upd_same, r.mono k fun _ _ h => h⟩
    · rw [List.getElem?_set_ne q] at h
      obtain ⟨b, hb, h1, h2, h3⟩ := w.live m u h
      have ne : b ≠ a := fun z => q (w.inj n m a o u e h f (by rw [← z]; exact h1))
      exact ⟨b, hb, h1, (upd_ne ne).trans h2, h3.mono k fun _ _ h => h⟩
  · have fix : ∀ {l : Nat} {u}, (S.set n (some o'))[l]? = some (some u) → ∃ u, S[l]? = some (some u) := fun {l u} h => by
      by_cases q : n = l
      · subst q; exact ⟨o, e⟩
      · rw [List.getElem?_set_ne q] at h; exact ⟨u, h⟩
    obtain ⟨_, q1⟩ := fix h1
    obtain ⟨_, q2⟩ := fix h2
    exact w.inj m l b _ _ q1 q2 h3 h4
  · obtain ⟨h1, h2⟩ := w.away b h
    exact ⟨st b h1, fun z => h2 ((lv_set e b).mp z)⟩
/-- a new live object -/
theorem WF.alloc {p : Addr} {o : AO} {ho : HO} (w : WF K H φ S F) (hp : H p = none) (r : RO K H φ (uni (Lv φ S) F) o ho) :
    WF K (upd H p ho) (φ ++ [p]) (S ++ [some o]) F ∧ Ev H φ (Lv φ S) (upd H p ho) (φ ++ [p]) (Lv (φ ++ [p]) (S ++ [some o])) := by
  have pre : ∀ (n : Nat) a, φ[n]? = some a → (φ ++ [p])[n]? = some a := fun n a h => by rw [List.getElem?_append_left (List.getElem?_eq_some_iff.mp h).1]; exact h
  have lv : ∀ a, Lv (φ ++ [p]) (S ++ [some o]) a → Lv φ S a ∨ a = p := fun a ⟨n, u, h1, h2⟩ => by
    by_cases q : n < S.length
    · rw [List.getElem?_append_left q] at h1
      rw [List.getElem?_append_left (by rw [w.len]; exact q)] at h2
      exact .inl ⟨n, u, h1, h2⟩
    · rw [List.getElem?_append_right (by rw [w.len]; omega)] at h2
      have hl : n - φ.length = 0 := by
        have := (List.getElem?_eq_some_iff.mp h2).1
        simp at this
        omega
      rw [hl] at h2
      simp at h2
      exact .inr h2.symm
  have st : ∀ b, H b ≠ none → upd H p ho b ≠ none := fun b h => by rw [upd_ne fun z => h (by rw [z]; exact hp)]; exact h
  have k : ∀ a, H a ≠ none → ¬ uni (Lv φ S) F a → upd H p ho a = H a ∧ ¬ uni (Lv (φ ++ [p]) (S ++ [some o])) F a := fun a h m => by
    have ne : a ≠ p := fun z => h (by rw [z]; exact hp)
    exact ⟨upd_ne ne, fun z => z.elim (fun z => (lv a z).elim (fun z => m (.inl z)) ne) fun z => m (.inr z)⟩
  refine ⟨⟨by rw [List.length_append, List.length_append, w.len]; rfl, fun n u h => ?_, fun n m a u u' h1 h2 h3 h4 => ?_, fun a h => ?_⟩, ⟨st, fun a h m => ?_, pre⟩⟩
  · by_cases q : n < S.length
    · rw [List.getElem?_append_left q] at h
      obtain ⟨a, hb, h1, h2, h3⟩ := w.live n u h
      exact ⟨a, hb, pre n a h1, (upd_ne fun z => by rw [z, hp] at h2; cases h2).trans h2, h3.mono k pre⟩
    · rw [List.getElem?_append_right (by omega)] at h
      have hl : n - S.length = 0 := by
        have := (List.getElem?_eq_some_iff.mp h).1
        simp at this
        omega
      rw [hl] at h
      simp at h
      subst h
      refine ⟨p, ho, ?_, upd_same, r.mono k pre⟩
      rw [List.getElem?_append_right (by rw [w.len]; omega), w.len, hl]
      rfl
  · have big : ∀ {n : Nat} {a : Addr}, ¬ n < S.length → (φ ++ [p])[n]? = some a → n = S.length ∧ a = p := fun {n a} q h => by
      rw [List.getElem?_append_right (by rw [w.len]; omega)] at h
      have hl : n - φ.length = 0 := by
        have := (List.getElem?_eq_some_iff.mp h).1
        simp at this
        omega
      rw [hl] at h
      simp at h
      have := w.len
      exact ⟨by omega, h.symm⟩
    have small : ∀ {n : Nat} {a : Addr} {u : AO}, n < S.length → (S ++ [some o])[n]? = some (some u) → (φ ++ [p])[n]? = some a → S[n]? = some (some u) ∧ φ[n]? = some a ∧ a ≠ p := fun {n a u} q h h2 => by
      rw [List.getElem?_append_left q] at h
      rw [List.getElem?_append_left (by rw [w.len]; exact q)] at h2
      refine ⟨h, h2, fun z => ?_⟩
      obtain ⟨b, hb, e1, e2, _⟩ := w.live n u h
      rw [h2] at e1
      cases e1
      rw [z, hp] at e2
      cases e2
    by_cases q : n < S.length
    · obtain ⟨a1, a2, a3⟩ := small q h1 h3
      by_cases q2 : m < S.length
      · obtain ⟨b1, b2, b3⟩ := small q2 h2 h4
        exact w.inj n m a _ _ a1 b1 a2 b2
      · exact (a3 (big q2 h4).2).elim
    · by_cases q2 : m < S.length
      · obtain ⟨b1, b2, b3⟩ := small q2 h2 h4
        exact (b3 (big q h3).2).elim
      · rw [(big q h3).1, (big q2 h4).1]
  · obtain ⟨h1, h2⟩ := w.away a h
    exact ⟨st a h1, fun z => (lv a z).elim h2 fun z => h1 (by rw [z]; exact hp)⟩
  · have ne : a ≠ p := fun z => h (by rw [z]; exact hp)
    exact ⟨upd_ne ne, fun z => (lv a z).elim m ne⟩
end
end Fu

end
section
set_option Elab.async false
set_option linter.all false
set_option maxRecDepth 100000
set_option maxHeartbeats 4000000
namespace Fu
open PySem PySem.Spec PyProof.Rows L2
open He (ga)
section
variable {K : PySem.W.Frag} {E : XW} {F O : Addr → Prop} {H H' H1 H3 : Hp} {φ φ' φ1 : List Addr} {S S' S1 : AS} {M : Addr → Prop} {η : Sls} {σ : L2.St}
/-! ### live lists -/
/-- a new list kept live -/
def liveF (f : FN) : FE := fun η S => match f η S with
  | .ok xs S' => .ok (.ref S'.length) (S' ++ [some (.lst xs)])
  | .exc c fs S' => .exc c fs S'
  | .stuck => .stuck
theorem WF.adopt {p : Addr} {o : AO} {ho : HO} (w : WF K H φ S (uni F (at1 p))) (hF : ¬ F p) (hp : H p = some ho) (r : RO K H φ (uni (Lv φ S) (uni F (at1 p))) o ho) : WF K H (φ ++ [p]) (S ++ [some o]) F := by
  have pre : ∀ (n : Nat) a, φ[n]? = some a → (φ ++ [p])[n]? = some a := fun n a h => by rw [List.getElem?_append_left (List.getElem?_eq_some_iff.mp h).1]; exact h
  have np : ¬ Lv φ S p := (w.away p (.inr rfl)).2
  have cas : ∀ {n : Nat} {a : Addr} {u : AO}, (S ++ [some o])[n]? = some (some u) → (φ ++ [p])[n]? = some a → (S[n]? = some (some u) ∧ φ[n]? = some a) ∨ (n = S.length ∧ a = p ∧ u = o) := fun {n a u} h1 h2 => by
    by_cases q : n < S.length
    · rw [List.getElem?_append_left q] at h1
      rw [List.getElem?_append_left (by rw [w.len]; exact q)] at h2
      exact .inl ⟨h1, h2⟩
    · have hn : n = S.length := by
        have := (List.getElem?_eq_some_iff.mp h1).1
        simp at this
        omega
      subst hn
      rw [List.getElem?_append_right (Nat.le_refl _)] at h1
      rw [List.getElem?_append_right (by rw [w.len]; exact Nat.le_refl _)] at h2
      simp [w.len] at h1 h2
      exact .inr ⟨rfl, h2.symm, h1.symm⟩
  have lv : ∀ a, Lv (φ ++ [p]) (S ++ [some o]) a → Lv φ S a ∨ a = p := fun a ⟨n, u, h1, h2⟩ => (cas h1 h2).imp (fun z => ⟨n, u, z.1, z.2⟩) fun z => z.2.1
  have k : ∀ a, H a ≠ none → ¬ uni (Lv φ S) (uni F (at1 p)) a → H a = H a ∧ ¬ uni (Lv (φ ++ [p]) (S ++ [some o])) F a := fun a h m => ⟨rfl, fun z => z.elim (fun z => (lv a z).elim (fun z => m (.inl z)) fun z => m (.inr (.inr z))) fun z => m (.inr (.inl z))⟩
  refine ⟨by rw [List.length_append, List.length_append, w.len]; rfl, fun n u h => ?_, fun n m a u u' h1 h2 h3 h4 => ?_, fun a h => ?_⟩
  · by_cases q : n < S.length
    · rw [List.getElem?_append_left q] at h
      obtain ⟨a, hb, h1, h2, h3⟩ := w.live n u h
      exact ⟨a, hb, pre n a h1, h2, h3.mono k pre⟩
    · have hn : n = S.length := by
        have := (List.getElem?_eq_some_iff.mp h).1
        simp at this
        omega
      subst hn
      rw [List.getElem?_append_right (Nat.le_refl _)] at h
      simp at h
      subst h
      refine ⟨p, ho, ?_, hp, r.mono k pre⟩
      rw [List.getElem?_append_right (by rw [w.len]; exact Nat.le_refl _)]
      simp [w.len]
  · rcases cas h1 h3 with ⟨a1, a2⟩ | ⟨a1, a2, _⟩
    · rcases cas h2 h4 with ⟨b1, b2⟩ | ⟨b1, b2, _⟩
      · exact w.inj n m a _ _ a1 b1 a2 b2
      · exact (np ⟨n, _, a1, by rw [← b2]; exact a2⟩).elim
    · rcases cas h2 h4 with ⟨b1, b2⟩ | ⟨b1, b2, _⟩
      · exact (np ⟨m, _, b1, by rw [← a2]; exact b2⟩).elim
      · rw [a1, b1]
  · obtain ⟨h1, h2⟩ := w.away a (.inl h)
    exact ⟨h1, fun z => (lv a z).elim h2 fun z => hF (by rw [← z]; exact h)⟩
theorem se_live {t : TE} {f : FN} (a : SimN K E t f) : SimE K E t (liveF f) := fun H φ S F O η σ Q w hO re h => by
  refine a H φ S F O η σ Q w hO re ?_
  unfold liveF at h
  cases q : f η S with
  | ok xs S1 =>
    rw [q] at h
    intro φ1 H1 e1 w1 p vs hp w2 hl r
    have h' : ∀ φ' H', Ev H φ (Lv φ S) H' φ' (Lv φ' (S1 ++ [some (.lst xs)])) → WF K H' φ' (S1 ++ [some (.lst xs)]) F → ∀ v, RV K H' φ' (uni (Lv φ' (S1 ++ [some (.lst xs)])) F) (.ref S1.length) v → Q v H' := h
    have np : ¬ Lv φ1 S1 p := (w2.away p (.inr rfl)).2
    refine h' (φ1 ++ [p]) H1 ⟨e1.stay, fun a h m => ?_, fun n a z => ?_⟩ (w2.adopt (f_none w hp) hl (.lst r)) _ (.ref ?_)
    · obtain ⟨q1, m1⟩ := e1.keep a h m
      refine ⟨q1, fun ⟨n, u, z1, z2⟩ => ?_⟩
      by_cases qq : n < S1.length
      · rw [List.getElem?_append_left qq] at z1
        rw [List.getElem?_append_left (by rw [w1.len]; exact qq)] at z2
        exact m1 ⟨n, u, z1, z2⟩
      · have hn : n = S1.length := by
          have := (List.getElem?_eq_some_iff.mp z1).1
          simp at this
          omega
        subst hn
        rw [List.getElem?_append_right (by rw [w1.len]; exact Nat.le_refl _)] at z2
        simp [w1.len] at z2
        exact h (by rw [← z2]; exact hp)
    · have z' := e1.pre n a z
      rw [List.getElem?_append_left (List.getElem?_eq_some_iff.mp z').1]
      exact z'
    · rw [List.getElem?_append_right (by rw [w1.len]; exact Nat.le_refl _)]
      simp [w1.len]
  | exc c fs S1 => rw [q] at h; exact h
  | stuck => rw [q] at h; exact h
def subsG (o i : FE) : FG := fun p η S => match pureR (o η S) with
  | .ok (.ref n) S1 => match pureR (i η S1) with
    | .ok (.int k) S2 => match S2[n]? with
      | some (some (.lst xs)) => match ixN xs.length k with
        | some j => .nx η (S2.set n (some (.lst (xs.set j p))))
        | none => .stuck
      | _ => .stuck
    | _ => .stuck
  | _ => .stuck
theorem RVs.setI {ps : List PV} {vs : List V} (r : RVs K H φ M ps vs) : vs.length = ps.length := r.len
theorem sg_sub {to ti : TE} {fo fi : FE} (a : SimE K (fun _ _ _ _ => False) to fo) (b : SimB K (fun _ _ _ _ => False) ti fi) : SimG K (gSub to ti rSetL) (subsG fo fi) := fun H φ S F η σ p v Q w r h => by
  unfold subsG at h
  refine a H φ S _ _ η σ _ w.wf (fun _ z => .inr z) w.re ?_
  cases q : fo η S with
  | exc c fs S1 => rw [q] at h; exact (show False from h).elim
  | stuck => rw [q] at h; exact (show False from h).elim
  | ok po S1 =>
    rw [q] at h
    intro φ1 H1 e1 w1 vo ro
    have ws1 := w.step e1 w1
    have r1 := e1.rv r
    refine b H1 φ1 S1 _ _ η σ _ ws1.wf (fun _ z => .inr z) ws1.re ?_
    cases po with
    | ref n =>
      dsimp only [pureR] at h
      cases q2 : fi η S1 with
      | exc c fs S2 => rw [q2] at h; exact (show False from h).elim
      | stuck => rw [q2] at h; exact (show False from h).elim
      | ok pi S2 =>
        rw [q2] at h
        intro φ2 H2 e2 w2 vi rvi
        have ws2 := ws1.step e2 w2
        have r2 := e2.rv r1
        have ro2 := e2.rv ro
        cases pi with
        | int k =>
          dsimp only [pureR] at h
          obtain rfl := rvi.int
          split at h
          · rename_i xs e0
            split at h
            · rename_i j ej
              cases ro2 with
              | ref ha =>
                obtain ⟨us, hl, rs⟩ := ws2.wf.lst e0 ha
                refine ⟨_, us, k, j, rfl, rfl, hl, by rw [rs.len]; exact ej, ?_⟩
                obtain ⟨w3, e3⟩ := ws2.wf.put (o' := .lst (xs.set j p)) e0 ha (.lst (rs.set r2 j))
                exact h φ2 _ σ (((EvS.of e1).trans (EvS.of e2)).trans (EvS.of e3)) (ws2.step e3 w3)
            · exact (show False from h).elim
          · exact (show False from h).elim
        | _ => exact (show False from h).elim
    | _ => exact (show False from h).elim
/-- x.append(e), x live -/
def appF (o : FE) (a : FA) : FE := fun η S => (o η S).bind fun p S => match p with
  | .ref n => (a η S).bind fun ps S => match ps with
    | [q] => match S[n]? with
      | some (some (.lst xs)) => if xs.length < 1000000 then .ok .non (S.set n (some (.lst (xs ++ [q])))) else .stuck
      | _ => .stuck
    | _ => .stuck
  | _ => .stuck
/-- x is a live list -/
def isLst : PV → AS → Bool := fun p S => match p with
  | .ref n => match S[n]? with
    | some (some (.lst _)) => true
    | _ => false
  | _ => false
def lmF (g : PV → List PV → AS → R PV) (o : FE) (a : FA) : FE := fun η S => (o η S).bind fun p S => if isLst p S = true then (a η S).bind fun ps S => pureR (g p ps S) else .stuck
/-- methods of lists, by values -/
def SimM (K : PySem.W.Frag) (r : V → List V → Hp → VK → Prop) (g : PV → List PV → AS → R PV) : Prop := ∀ (H : Hp) (φ : List Addr) (S : AS) (F O : Addr → Prop) (p : PV) (x : V) (ps : List PV) (xs : List V) (Q : VK), WF K H φ S F → (∀ a, O a → F a) → RV K H φ (uni (Lv φ S) F) p x → RVs K H φ (uni (Lv φ S) F) ps xs →
  GoE K (fun _ _ _ => False) F H φ S (g p ps S) (fun p φ' S' H' => ∀ v, RV K H' φ' (uni (Lv φ' S') F) p v → Q v H') → r x xs H Q
theorem se_lm {r : V → List V → Hp → VK → Prop} {g : PV → List PV → AS → R PV} {to : TE} {t : TA} {fo : FE} {fa : FA} (m : SimM K r g) (a : SimE K E to fo) (b : SimA K E t fa) : SimE K E (tBM K "list" r to t) (lmF g fo fa) := fun H φ S F O η σ Q w hO re h => by
  refine a H φ S F O η σ _ w hO re (h.bind.imp fun p φ1 S1 H1 e1 w1 h1 x rx => ?_)
  split at h1
  · rename_i hi
    refine ⟨?_, b H1 φ1 S1 F O η σ _ w1 hO (re.mono w hO e1) (h1.bind.imp fun ps φ2 S2 H2 e2 w2 h2 xs rs => m H2 φ2 S2 F O p x ps xs Q w2 hO (e2.rv rx) rs (pureR_go h2))⟩
    unfold isLst at hi
    split at hi
    · split at hi
      · rename_i e0
        cases rx with
        | ref ha =>
          obtain ⟨vs, hl, _⟩ := w1.lst e0 ha
          exact .inl ⟨rfl, vs, .inl (.inl hl)⟩
      · cases hi
    · cases hi
  · exact h1.elim
def appG : PV → List PV → AS → R PV := fun p ps S => match p, ps with
  | .ref n, [q] => match S[n]? with
    | some (some (.lst xs)) => if xs.length < 1000000 then .ok .non (S.set n (some (.lst (xs ++ [q])))) else .stuck
    | _ => .stuck
  | _, _ => .stuck
theorem sm_app : SimM K rAppend appG := fun H φ S F O p x ps xs Q w hO rx rs h => by
  unfold appG at h
  split at h
  · split at h
    · split at h
      · rename_i ys e0 hl
        cases rx with
        | ref ha =>
          obtain ⟨vs, hv, rv⟩ := w.lst e0 ha
          cases rs with
          | cons r rs =>
            cases rs
            obtain ⟨w3, e3⟩ := w.put (o' := .lst (ys ++ [_])) e0 ha (.lst (rv.append (.cons r .nil)))
            exact ⟨_, vs, _, rfl, rfl, hv, by rw [rv.len, sizeLine_eq]; omega, h φ _ e3 w3 _ .non⟩
      · exact h.elim
    · exact h.elim
  · exact h.elim
def popG : PV → List PV → AS → R PV := fun p ps S => match p, ps with
  | .ref n, [.int i] => match S[n]? with
    | some (some (.lst xs)) => if -(2 ^ 63) ≤ i ∧ i < 2 ^ 63 then match seqIndex? i xs.length with
        | some k => match xs[k]? with
          | some q => .ok q (S.set n (some (.lst (xs.eraseIdx k))))
          | none => .stuck
        | none => .stuck
      else .stuck
    | _ => .stuck
  | _, _ => .stuck
theorem sm_pop : SimM K rPopAt popG := fun H φ S F O p x ps xs Q w hO rx rs h => by
  unfold popG at h
  split at h
  · split at h
    · split at h
      · split at h
        · split at h
          · rename_i n i ys e0 hl _ k ek _ q eq
            cases rx with
            | ref ha =>
              obtain ⟨vs, hv, rv⟩ := w.lst e0 ha
              cases rs with
              | cons r rs =>
                cases rs
                cases r
                obtain ⟨u, eu, ru⟩ := rv.get eq
                obtain ⟨w3, e3⟩ := w.put (o' := .lst (ys.eraseIdx k)) e0 ha (.lst (rv.eraseIdx k))
                exact ⟨_, vs, _, k, u, rfl, rfl, hv, hl.1, hl.2, by rw [rv.len]; exact ek, eu, h φ _ e3 w3 _ (e3.rv ru)⟩
          · exact h.elim
        · exact h.elim
      · exact h.elim
    · exact h.elim
  · exact h.elim
/-! ### a slot's own list -/
def ownApp (i : Nat) (f : FE) : FS := fun η S => match η[i]? with
  | some (.own xs) => lift (f η S) η fun p S => if xs.length < 1000000 then .nx (η.set i (.own (xs ++ [p]))) S else .stuck
  | _ => .stuck
/-- an own list written -/
theorem WS.own (w : WS K H φ S F η σ) {i : Nat} {xs ys : List PV} {us ws : List V} {a : Addr} (e : η[i]? = some (.own xs)) (f : σ[i]? = some (some (.ref a))) (hl : H a = some (.lst us)) (r : RVs K H φ (uni (Lv φ S) (uni F (Own η σ))) ys ws) :
    WS K (upd H a (.lst ws)) φ S F (η.set i (.own ys)) σ ∧ EvS H φ S η σ (upd H a (.lst ws)) φ S (η.set i (.own ys)) σ := by
  have oa : Own η σ a := ⟨i, xs, e, f⟩
  have hi : i < η.length := (List.getElem?_eq_some_iff.mp e).1
  have ow : ∀ b, Own (η.set i (.own ys)) σ b ↔ Own η σ b := fun b => by
    constructor
    · rintro ⟨j, zs, h1, h2⟩
      by_cases q : i = j
      · subst q
        exact ⟨i, xs, e, h2⟩
      · rw [List.getElem?_set_ne q] at h1
        exact ⟨j, zs, h1, h2⟩
    · rintro ⟨j, zs, h1, h2⟩
      by_cases q : i = j
      · subst q
        exact ⟨i, ys, by rw [List.getElem?_set, if_pos rfl, if_pos hi], h2⟩
      · exact ⟨j, zs, by rw [List.getElem?_set_ne q]; exact h1, h2⟩
  have la : ¬ Lv φ S a := (w.wf.away a (.inr oa)).2
  have st : ∀ b, H b ≠ none → upd H a (.lst ws) b ≠ none := fun b h => by
    by_cases q : b = a
    · subst q; rw [upd_same]; nofun
    · rw [upd_ne q]; exact h
  have fu : ∀ b, uni F (Own (η.set i (.own ys)) σ) b ↔ uni F (Own η σ) b := fun b => or_congr Iff.rfl (ow b)
  have k : ∀ b, H b ≠ none → ¬ uni (Lv φ S) (uni F (Own η σ)) b → upd H a (.lst ws) b = H b ∧ ¬ uni (Lv φ S) (uni F (Own (η.set i (.own ys)) σ)) b := fun b h m => ⟨upd_ne fun z => m (.inr (.inr (by rw [z]; exact oa))), fun z => m (z.imp id (fu b).mp)⟩
  refine ⟨⟨⟨w.wf.len, fun n u h => ?_, w.wf.inj, fun b h => ?_⟩, ⟨by rw [List.length_set]; exact w.re.len, fun j p h => ?_, fun j zs h => ?_⟩, fun j l zs ts b h1 h2 h3 h4 => ?_, fun b h z => w.dis b h ((ow b).mp z)⟩, ⟨st, fun b h m => ⟨upd_ne fun z => m (.inr (by rw [z]; exact oa)), fun z => m (z.imp id (ow b).mp)⟩, fun _ _ h => h⟩⟩
  · obtain ⟨b, hb, h1, h2, h3⟩ := w.wf.live n u h
    exact ⟨b, hb, h1, (upd_ne fun z => la ⟨n, u, h, by rw [← z]; exact h1⟩).trans h2, h3.mono k fun _ _ h => h⟩
  · obtain ⟨h1, h2⟩ := w.wf.away b ((fu b).mp h)
    exact ⟨st b h1, h2⟩
  · by_cases q : i = j
    · subst q
      rw [List.getElem?_set, if_pos rfl, if_pos hi] at h
      cases h
    · rw [List.getElem?_set_ne q] at h
      obtain ⟨v, h1, h2⟩ := w.re.val j p h
      exact ⟨v, h1, h2.mono k fun _ _ h => h⟩
  · by_cases q : i = j
    · subst q
      rw [List.getElem?_set, if_pos rfl, if_pos hi] at h
      cases h
      exact ⟨a, ws, f, upd_same, r.mono k fun _ _ h => h, (ow a).mpr oa⟩
    · rw [List.getElem?_set_ne q] at h
      obtain ⟨b, vs, h1, h2, h3, h4⟩ := w.re.own j zs h
      have ne : b ≠ a := fun z => q (w.inj i j xs zs a e h f (by rw [← z]; exact h1))
      exact ⟨b, vs, h1, (upd_ne ne).trans h2, h3.mono k fun _ _ h => h, (ow b).mpr h4⟩
  · have g : ∀ {j : Nat} {zs : List PV}, (η.set i (.own ys))[j]? = some (.own zs) → ∃ zs, η[j]? = some (.own zs) := fun {j zs} h => by
      by_cases q : i = j
      · subst q; exact ⟨xs, e⟩
      · rw [List.getElem?_set_ne q] at h; exact ⟨zs, h⟩
    obtain ⟨_, q1⟩ := g h1
    obtain ⟨_, q2⟩ := g h2
    exact w.inj j l _ _ b q1 q2 h3 h4
theorem ss_ownApp {i : Nat} {te : TE} {f : FE} (a : SimE K E te f) : SimS K E (tDrop (tBM K "list" rAppend (tVar i) (tCons te tNil))) (ownApp i f) := fun H φ S F η σ D w h => by
  unfold ownApp at h
  split at h
  · rename_i xs e
    obtain ⟨ad, us, e1, e2, e3, e4⟩ := w.re.own i xs e
    refine ⟨_, e1, .inl ⟨rfl, us, .inl (.inl e2)⟩, ?_⟩
    refine a H φ S _ _ η σ _ w.wf (fun _ z => .inr z) w.re ((GoS.lift w h).imp fun p φ1 S1 H1 ev w1 h1 v rv => ?_)
    obtain ⟨h1, ws⟩ := h1
    split at h1
    · rename_i hl
      obtain ⟨ad', us', f1, f2, f3, _⟩ := ws.re.own i xs e
      rw [e1] at f1
      cases f1
      refine ⟨ad, us', v, rfl, rfl, f2, by rw [f3.len, sizeLine_eq]; omega, ?_⟩
      obtain ⟨ws2, ev2⟩ := ws.own (ys := xs ++ [p]) (ws := us' ++ [v]) e e1 f2 (f3.append (.cons rv .nil))
      exact h1 φ1 _ σ ev2 ws2
    · exact h1.elim
  · exact (show False from h).elim
/-- from now on the slot's list is not changed -/
def frzS (i : Nat) (f : FS) : FS := fun η S => match η[i]? with
  | some (.own xs) => f (η.set i (.val (.lst xs))) S
  | _ => f η S
theorem ss_frz {i : Nat} {t : TS} {f : FS} (a : SimS K E t f) : SimS K E t (frzS i f) := fun H φ S F η σ D w h => by
  unfold frzS at h
  split at h
  · rename_i xs e
    obtain ⟨ad, us, e1, e2, e3, e4⟩ := w.re.own i xs e
    have hi : i < σ.length := (List.getElem?_eq_some_iff.mp e1).1
    have hs : σ.set i (some (V.ref ad)) = σ := by
      apply List.ext_getElem?
      intro j
      rw [List.getElem?_set]
      split
      · rename_i q
        subst q
        rw [e1]
      · rfl
    have ow : ∀ b, Own (η.set i (.val (.lst xs))) σ b → Own η σ b ∧ b ≠ ad := fun b ⟨j, zs, h1, h2⟩ => by
      by_cases q : i = j
      · subst q
        rw [List.getElem?_set, if_pos rfl] at h1
        split at h1 <;> cases h1
      · rw [List.getElem?_set_ne q] at h1
        exact ⟨⟨j, zs, h1, h2⟩, fun z => q (w.inj i j xs zs ad e h1 e1 (by rw [← z]; exact h2))⟩
    have hm : ∀ b, uni (Lv φ S) (uni F (Own (η.set i (.val (.lst xs))) σ)) b → uni (Lv φ S) (uni F (Own η σ)) b := fun b z => z.imp id fun z => z.imp id fun z => (ow b z).1
    have na : ¬ uni (Lv φ S) (uni F (Own (η.set i (.val (.lst xs))) σ)) ad := fun z => z.elim (w.wf.away ad (.inr e4)).2 fun z => z.elim (fun z => w.dis ad z e4) fun z => (ow ad z).2 rfl
    refine a H φ S F _ σ D ⟨w.wf.less fun b z => z.imp id fun z => (ow b z).1, ⟨by rw [List.length_set]; exact w.re.len, fun j p h => ?_, fun j zs h => ?_⟩, fun j l zs ts b h1 h2 h3 h4 => ?_, fun b z1 z2 => w.dis b z1 (ow b z2).1⟩ (GoS.step h ?_)
    · by_cases q : i = j
      · subst q
        rw [List.getElem?_set, if_pos rfl] at h
        split at h
        · cases h
          exact ⟨_, e1, .lst ⟨e2, na⟩ (e3.less hm)⟩
        · cases h
      · rw [List.getElem?_set_ne q] at h
        obtain ⟨v, h1, h2⟩ := w.re.val j p h
        exact ⟨v, h1, h2.less hm⟩
    · by_cases q : i = j
      · subst q
        rw [List.getElem?_set, if_pos rfl] at h
        split at h <;> cases h
      · have h0 := h
        rw [List.getElem?_set_ne q] at h
        obtain ⟨b, vs, h1, h2, h3, h4⟩ := w.re.own j zs h
        exact ⟨b, vs, h1, h2, h3.less hm, ⟨j, zs, h0, h1⟩⟩
    · have g : ∀ {j : Nat} {zs : List PV}, (η.set i (.val (.lst xs)))[j]? = some (.own zs) → η[j]? = some (.own zs) := fun {j zs} h => by
        by_cases q : i = j
        · subst q
          rw [List.getElem?_set, if_pos rfl] at h
          split at h <;> cases h
        · rw [List.getElem?_set_ne q] at h; exact h
      exact w.inj j l _ _ b (g h1) (g h2) h3 h4
    · exact ⟨fun _ h => h, fun b h m => ⟨rfl, fun z => m (z.imp id fun z => (ow b z).1)⟩, fun _ _ h => h⟩
  · exact a H φ S F η σ D w h
end
end Fu

end
section
set_option Elab.async false
set_option linter.all false
set_option maxRecDepth 100000
set_option maxHeartbeats 4000000
namespace Fu
open PySem PySem.Spec PyProof.Rows L2
open He (ga)
theorem passN0 {X : Cx} : Passes (L2N.CX X.prog X.w) X (fun _ _ _ => False) := fun _ _ _ _ _ _ _ h => by
  obtain ⟨_, _, _, _, _, _, _, _, _, _, _, z⟩ := h
  obtain ⟨_, z⟩ := z
  first | exact z | exact z.elim | exact z.2
section
variable {K : PySem.W.Frag} {E : XW} {F O : Addr → Prop} {H H' H1 H3 : Hp} {φ φ' φ1 : List Addr} {S S' S1 : AS} {M : Addr → Prop} {η : Sls} {σ : L2.St}
/-! ### targets of comprehensions -/
theorem wipe_set1 (σ : L2.St) (v : Nat) (x : Option V) : ∀ vs : List Nat, (L2.wipe (σ.set v x) vs).set v none = (L2.wipe σ vs).set v none
  | [] => by
    show (σ.set v x).set v none = σ.set v none
    rw [List.set_set]
  | u :: us => by
    show ((L2.wipe (σ.set v x) us).set u none).set v none = ((L2.wipe σ us).set u none).set v none
    by_cases e : u = v
    · subst e
      rw [List.set_set, List.set_set, wipe_set1 σ u x us]
    · rw [List.set_comm _ _ e, wipe_set1 σ v x us, List.set_comm _ _ e]
theorem wipe_set (σ : L2.St) (i : Nat) (x : Option V) : ∀ vs : List Nat, i ∈ vs → L2.wipe (σ.set i x) vs = L2.wipe σ vs
  | u :: us, h => by
    show (L2.wipe (σ.set i x) us).set u none = (L2.wipe σ us).set u none
    by_cases e : u = i
    · subst e
      exact wipe_set1 σ u x us
    · rcases List.mem_cons.mp h with h | h
      · exact absurd h.symm e
      · rw [wipe_set σ i x us h]
def nameX (i : Nat) : FGx := fun p η => some (η.set i (.val p))
theorem sx_name {i : Nat} {vs : List Nat} (hi : i ∈ vs := by decide) : SimGx K vs (gName i) (nameX i) := fun H φ M O η η' σ p v Q re rv e h => by
  cases e
  refine h _ ⟨by rw [List.length_set, List.length_set]; exact re.len, fun j q e => ?_, fun j xs e => ?_⟩ (wipe_set σ i _ vs hi)
  · by_cases z : i = j
    · subst z
      rw [List.getElem?_set, if_pos rfl] at e
      split at e
      · rename_i hl
        cases e
        exact ⟨v, by rw [List.getElem?_set, if_pos rfl, if_pos (by rw [re.len]; exact hl)], rv⟩
      · cases e
    · rw [List.getElem?_set_ne z] at e ⊢
      exact re.val j q e
  · by_cases z : i = j
    · subst z
      rw [List.getElem?_set, if_pos rfl] at e
      split at e <;> cases e
    · rw [List.getElem?_set_ne z] at e ⊢
      exact re.own j xs e
def SimGxs (K : PySem.W.Frag) (vs : List Nat) (g : TGs) (f : List PV → Sls → Option Sls) : Prop := ∀ (H : Hp) (φ : List Addr) (M O : Addr → Prop) (η η' : Sls) (σ : L2.St) (p : List PV) (v : List V) (Q : L2.St → Hp → Prop), RE K H φ M O η σ → RVs K H φ M p v → f p η = some η' →
  (∀ σ', RE K H φ M O η' σ' → wipe σ' vs = wipe σ vs → Q σ' H) → g v σ H Q
def nilX : List PV → Sls → Option Sls := fun ps η => match ps with
  | [] => some η
  | _ => none
def consX (f : FGx) (g : List PV → Sls → Option Sls) : List PV → Sls → Option Sls := fun ps η => match ps with
  | p :: ps => (f p η).bind (g ps)
  | _ => none
def tupX (n : Nat) (g : List PV → Sls → Option Sls) : FGx := fun p η => match p with
  | .tup ps => if ps.length = n then g ps η else none
  | .ktu ps => if ps.length = n then g ps η else none
  | _ => none
theorem sxs_nil {vs : List Nat} : SimGxs K vs gNil nilX := fun H φ M O η η' σ p v Q re rv e h => by
  cases rv with
  | nil => cases e; exact ⟨rfl, h σ re rfl⟩
  | cons _ _ => cases e
theorem sxs_cons {vs : List Nat} {t : TG} {u : TGs} {f : FGx} {g : List PV → Sls → Option Sls} (a : SimGx K vs t f) (b : SimGxs K vs u g) : SimGxs K vs (gCons t u) (consX f g) := fun H φ M O η η' σ p v Q re rv e h => by
  cases rv with
  | nil => cases e
  | @cons p ps v vs' r rs =>
    have e' : (f p η).bind (g ps) = some η' := e
    cases q : f p η with
    | none => rw [q] at e'; cases e'
    | some η1 =>
      rw [q] at e'
      exact ⟨v, vs', rfl, a H φ M O η η1 σ p v _ re r q fun σ1 re1 hw => b H φ M O η1 η' σ1 ps vs' Q re1 rs e' fun σ2 re2 hw2 => h σ2 re2 (hw2.trans hw)⟩
theorem sx_tup {vs : List Nat} {t : TGs} {n : Nat} {g : List PV → Sls → Option Sls} (a : SimGxs K vs t g) : SimGx K vs (gTup K n t) (tupX n g) := fun H φ M O η η' σ p v Q re rv e h => by
  unfold tupX at e
  split at e
  · split at e
    · rename_i hl
      cases rv with
      | tup hv rs => exact ⟨_, _, rfl, hv.sq, by rw [rs.len]; exact hl, a H φ M O η η' σ _ _ Q re rs e h⟩
    · cases e
  · split at e
    · rename_i hl
      cases rv with
      | ktu hv rs => exact ⟨_, _, rfl, hv.sq, by rw [rs.len]; exact hl, a H φ M O η η' σ _ _ Q re rs e h⟩
    · cases e
  · cases e
def yesT : FT := fun _ S => .ok true S
theorem st_yes : SimT K E tYes yesT := fun H φ S F O η σ Q w hO re h => h.ok w
/-! ### list + list, new; the reverse; - -/
def addN (f g : FE) : FN := fun η S => (f η S).bind fun p S => (g η S).bind fun q S => match p, q with
  | .lst xs, .lst ys => if xs.length + ys.length ≤ 1000000 then .ok (xs ++ ys) S else .stuck
  | _, _ => .stuck
theorem sn_add {ta tb : TE} {f g : FE} (a : SimB K E ta f) (b : SimB K E tb g) : SimN K E (tOp (rAddU K) ta tb) (addN f g) := fun H φ S F O η σ Q w hO re h => by
  refine a H φ S F O η σ _ w hO re (h.bind.imp fun p φ1 S1 H1 e1 w1 h1 x rx => ?_)
  refine b H1 φ1 S1 F O η σ _ w1 hO (re.mono w hO e1) (h1.bind.imp fun q φ2 S2 H2 e2 w2 h2 y ry => ?_)
  split at h2
  · split at h2
    · rename_i xs ys hl
      obtain ⟨a, vs, rfl, h3, r1⟩ := (rx.mono w1 hO e2).lst
      obtain ⟨b, ws, rfl, h4, r2⟩ := ry.lst
      exact .inr (.inr (.inr ⟨a, b, vs, ws, rfl, rfl, h3, h4, million (by rw [r1.len, r2.len]; exact hl), fun p hp => GoE.lay (E' := E σ) w2 (r1.append r2) hp (fun a z => e2.stay a (e1.stay a z)) h2⟩))
    · exact h2.elim
  · exact h2.elim
def negG : PV → AS → R PV := fun p S => match p with
  | .int i => .ok (.int (-i)) S
  | _ => .stuck
theorem su_neg : SimU K (rU fun i => .int (-i)) negG := fun H φ S F O p x Q w hO rp h => by
  unfold negG at h
  split at h
  · obtain rfl := rp.int
    exact ⟨_, rfl, h.ok w _ .int⟩
  · exact h.elim
def revG : PV → AS → R PV := fun p S => match litems p S with
  | some xs => .ok (.lst xs.reverse) S
  | none => .stuck
theorem pe_revLK {X : Cx} {e : Expr} {te : TE} {k : Nat} {p1 p2 p3 pos : Pos} (he : PE X e te) (h : X.K = K := by rfl) : PE X (.Subscript e (.Slice none none (some (.UnaryOp .USub (.Constant (.int 1) k p1) p2)) p3) pos) (tRevL K te) := by
  subst h
  exact pe_revL he
theorem se_rev {ta : TE} {f : FE} (a : SimB K E ta f) : SimE K E (tRevL K ta) (unF revG f) := fun H φ S F O η σ Q w hO re h => by
  refine a H φ S F O η σ _ w hO re (h.bind.imp fun p φ1 S1 H1 e1 w1 h1 x rx => ?_)
  have h2 := pureR_go h1
  unfold revG at h2
  split at h2
  · rename_i xs e
    obtain ⟨b, vs, rfl, hl, r⟩ := litems_ok w1 rx e
    exact ⟨b, vs, rfl, hl, fun p hp => h2.new w1 hp _ (.newLst w1 hp r.reverse)⟩
  · exact h2.elim
/-! ### all, any, isinstance -/
def blsOf : List PV → Option (List Bool)
  | [] => some []
  | .bl b :: r => (blsOf r).map (b :: ·)
  | _ => none
theorem blsOf_ok : ∀ {ps : List PV} {vs : List V} {bs : List Bool}, RVs K H φ M ps vs → blsOf ps = some bs → vs = bs.map V.bl
  | [], _, _, .nil, e => by cases e; rfl
  | p :: ps, _, bs, .cons r rs, e => by
    cases r with
    | bl =>
      unfold blsOf at e
      cases q : blsOf ps with
      | none => rw [q] at e; cases e
      | some cs =>
        rw [q] at e
        cases e
        rw [blsOf_ok rs q] <;> rfl
    | _ => cases e
def allG : List PV → AS → R PV := fun ps S => match ps with
  | [p] => match litems p S with
    | some xs => match blsOf xs with
      | some bs => .ok (.bl (bs.all id)) S
      | none => .stuck
    | none => .stuck
  | _ => .stuck
def anyG : List PV → AS → R PV := fun ps S => match ps with
  | [p] => match litems p S with
    | some xs => match blsOf xs with
      | some bs => .ok (.bl (bs.any id)) S
      | none => .stuck
    | none => .stuck
  | _ => .stuck
theorem cr_allU {X : Cx} (hc : X.calm = true) (h : X.K = K := by rfl) : CallR X (.builtin "all") (rAll K) := by
  subst h
  exact cr_all hc
theorem cr_anyU {X : Cx} (hc : X.calm = true) (h : X.K = K := by rfl) : CallR X (.builtin "any") (rAny K) := by
  subst h
  exact cr_any hc
theorem sc_all : SimC K (rAll K) allG := fun H φ S F O ps xs Q w hO r h => by
  unfold allG at h
  split at h
  · split at h
    · rename_i e
      split at h
      · rename_i bs e2
        obtain ⟨x, rfl, r'⟩ := r.one
        obtain ⟨a, vs, rfl, hl, rs⟩ := litems_ok w r' e
        exact ⟨a, bs, rfl, by rw [← blsOf_ok rs e2]; exact hl, h.ok w _ .bl⟩
      · exact h.elim
    · exact h.elim
  · exact h.elim
theorem sc_any : SimC K (rAny K) anyG := fun H φ S F O ps xs Q w hO r h => by
  unfold anyG at h
  split at h
  · split at h
    · rename_i e
      split at h
      · rename_i bs e2
        obtain ⟨x, rfl, r'⟩ := r.one
        obtain ⟨a, vs, rfl, hl, rs⟩ := litems_ok w r' e
        exact ⟨a, bs, rfl, by rw [← blsOf_ok rs e2]; exact hl, h.ok w _ .bl⟩
      · exact h.elim
    · exact h.elim
  · exact h.elim
def tyN : PV → AS → Option String := fun p S => match p with
  | .non => some "NoneType"
  | .bl _ => some "bool"
  | .int _ => some "int"
  | .str _ => some "str"
  | .tup _ => some "tuple"
  | .ktu _ => some "tuple"
  | .lst _ => some "list"
  | .kls _ => some "list"
  | .ref n => match S[n]? with
    | some (some (.lst _)) => some "list"
    | some (some (.dic _)) => some "dict"
    | some (some (.dct _)) => some "dict"
    | _ => none
  | _ => none
/-- is one of the types below an instance's type? -/
def isT (a b : String) : Option Bool :=
  if a = b then some true
  else if a = "bool" ∧ b = "int" then some true
  else if (a = "NoneType" ∨ a = "bool" ∨ a = "int" ∨ a = "str" ∨ a = "tuple" ∨ a = "list" ∨ a = "dict") ∧ (b = "bool" ∨ b = "int" ∨ b = "str" ∨ b = "tuple" ∨ b = "list" ∨ b = "dict") then some false
  else none
theorem isT_ok {a b : String} {c : Bool} (h : isT a b = some c) : kitB a b = some c := by
  unfold isT at h
  split at h
  · rename_i e
    cases h
    subst e
    unfold kitB
    rw [if_pos (by rw [show Value.type a = Value.type a from rfl]; exact beq_self_eq_true _)]
  · split at h
    · rename_i e
      cases h
      obtain ⟨rfl, rfl⟩ := e
      decide +kernel
    · split at h
      · rename_i n1 n2 e
        cases h
        obtain ⟨h1, h2⟩ := e
        rcases h1 with rfl | rfl | rfl | rfl | rfl | rfl | rfl <;> rcases h2 with rfl | rfl | rfl | rfl | rfl | rfl <;> first | exact absurd rfl n1 | exact absurd ⟨rfl, rfl⟩ n2 | decide +kernel
      · cases h
def isiG : List PV → AS → R PV := fun ps S => match ps with
  | [p, .ty n] => match tyN p S with
    | some a => match isT a n with
      | some b => .ok (.bl b) S
      | none => .stuck
    | none => .stuck
  | _ => .stuck
theorem tyN_ok {p : PV} {x : V} {n : String} (w : WF K H φ S F) (r : RB K H φ (uni (Lv φ S) F) O p x) (e : tyN p S = some n) : TyX K H x (.type n) := by
  unfold tyN at e
  split at e
  · obtain rfl := r.non; cases e; exact .base .non
  · obtain rfl := r.bl; cases e; exact .base (.bl _)
  · obtain rfl := r.int; cases e; exact .base (.int _)
  · obtain rfl := r.str; cases e; exact .base (.str _)
  · obtain ⟨a, vs, rfl, h1, _⟩ := r.tup; cases e; exact Hk.ty_SqT h1
  · obtain ⟨a, vs, rfl, h1, _⟩ := r.ktu; cases e; exact Hk.ty_SqT h1
  · obtain ⟨a, vs, rfl, h1, _⟩ := r.lst; cases e; exact .base (.lst h1)
  · obtain ⟨a, vs, rfl, h1, _⟩ := r.kls; cases e; exact Hk.ty_SqL h1
  · obtain ⟨a, rfl, ha⟩ := r.ref
    split at e
    · rename_i e0
      cases e
      obtain ⟨vs, h1, _⟩ := w.lst e0 ha
      exact .base (.lst h1)
    · rename_i e0
      cases e
      obtain ⟨b, ho, h1, h2, h3⟩ := w.live _ _ e0
      rw [ha] at h1
      cases h1
      cases h3 with
      | dK _ => exact .base (.dK h2)
    · rename_i e0
      cases e
      obtain ⟨b, ho, h1, h2, h3⟩ := w.live _ _ e0
      rw [ha] at h1
      cases h1
      cases h3 with
      | dT _ => exact .base (.dT h2)
    · cases e
  · cases e
def rIsiU (K : PySem.W.Frag) : List V → Hp → VK → Prop := rIsi K
theorem call_isiU {X : Cx} (h : X.K = K := by rfl) : CallR X (.builtin "isinstance") (rIsi K) := by
  subst h
  exact call_isi
theorem sc_isi : SimC K (rIsi K) isiG := fun H φ S F O ps xs Q w hO r h => by
  unfold isiG at h
  split at h
  · split at h
    · rename_i e
      split at h
      · rename_i b e2
        obtain ⟨x, y, rfl, r1, r2⟩ := r.two
        obtain rfl := r2.ty
        exact ⟨x, _, _, _, b, rfl, .ty _, tyN_ok w r1 e, kit_ty (isT_ok e2), h.ok w _ .bl⟩
      · exact h.elim
    · exact h.elim
  · exact h.elim
/-! ### what the top holds -/
mutual
def ktB (K : PySem.W.Frag) : PV → Value → Bool
  | .non, u => match u with | .none => true | _ => false
  | .bl b, u => match u with | .bool c => b == c | _ => false
  | .int i, u => match u with | .int j _ => decide (i = j) | _ => false
  | .str x, u => match u with | .str y _ => decide (x = y) | _ => false
  | .ktu xs, u => match u with
    | .ref a => match K.lookup a with
      | some ⟨.type c, _, .seq its _, _⟩ => decide (c = "tuple") && (decide (its.size ≤ sizeLine) && ktBs K xs its.toList)
      | _ => false
    | _ => false
  | _, _ => false
def ktBs (K : PySem.W.Frag) : List PV → List Value → Bool
  | [], [] => true
  | p :: ps, u :: us => ktB K p u && ktBs K ps us
  | _, _ => false
end
mutual
theorem ktB_ok : ∀ {p : PV} {u : Value}, ktB K p u = true → ∃ v, RelV v u ∧ ∀ H φ M, RV K H φ M p v
  | .non, u, h => by
    unfold ktB at h
    split at h
    · exact ⟨.non, rfl, fun _ _ _ => .non⟩
    · cases h
  | .bl b, u, h => by
    unfold ktB at h
    split at h
    · rename_i c
      cases beq_iff_eq.mp h
      exact ⟨.bl b, rfl, fun _ _ _ => .bl⟩
    · cases h
  | .int i, u, h => by
    unfold ktB at h
    split at h
    · cases of_decide_eq_true h
      exact ⟨.int i, ⟨_, rfl⟩, fun _ _ _ => .int⟩
    · cases h
  | .str x, u, h => by
    unfold ktB at h
    split at h
    · cases of_decide_eq_true h
      exact ⟨.str x, ⟨_, rfl⟩, fun _ _ _ => .str⟩
    · cases h
  | .ktu xs, u, h => by
    unfold ktB at h
    split at h
    · rename_i a
      split at h
      · rename_i c dd its n sl e
        rw [Bool.and_eq_true, Bool.and_eq_true] at h
        obtain ⟨h1, h2, h3⟩ := h
        obtain ⟨vs, r1, r2⟩ := ktBs_ok h3
        exact ⟨.ref a, rfl, fun H φ M => .ktu (.inr ⟨_, its, n, e, congrArg Value.type (of_decide_eq_true h1), rfl, of_decide_eq_true h2, r1⟩) (r2 H φ M)⟩
      · cases h
    · cases h
  | .tup _, _, h => by unfold ktB at h; cases h
  | .lst _, _, h => by unfold ktB at h; cases h
  | .kls _, _, h => by unfold ktB at h; cases h
  | .ty _, _, h => by unfold ktB at h; cases h
  | .con _, _, h => by unfold ktB at h; cases h
  | .ref _, _, h => by unfold ktB at h; cases h
theorem ktBs_ok : ∀ {ps : List PV} {us : List Value}, ktBs K ps us = true → ∃ vs, Vals vs us ∧ ∀ H φ M, RVs K H φ M ps vs
  | [], [], _ => ⟨[], .nil, fun _ _ _ => .nil⟩
  | p :: ps, u :: us, h => by
    unfold ktBs at h
    rw [Bool.and_eq_true] at h
    obtain ⟨v, r, k⟩ := ktB_ok h.1
    obtain ⟨vs, rs, ks⟩ := ktBs_ok h.2
    exact ⟨v :: vs, .cons r rs, fun H φ M => .cons (k H φ M) (ks H φ M)⟩
  | [], _ :: _, h => by unfold ktBs at h; cases h
  | _ :: _, [], h => by unfold ktBs at h; cases h
end
theorem se_ktup {a : Addr} {p : PV} (h : ktB K p (.ref a) = true) : SimE K E (tC (.ref a)) (cF p) := fun H φ S F O η σ Q w hO re g => by
  obtain ⟨v, r, k⟩ := ktB_ok h
  have e := r.inj (y := .ref a) rfl
  subst e
  exact g.ok w _ (k _ _ _)
/-- a table of the top: keys that are texts -/
def keyTB (K : PySem.W.Frag) (a : Addr) (k : Str) (p : PV) : Bool := match PySem.W.nsIn K a k with
  | some (some u) => ktB K p u
  | _ => false
def tabG (tab : List (Str × PV)) : PV → AS → R PV := fun p S => match p with
  | .str z => ofO (tab.lookup z) S
  | _ => .stuck
theorem se_tab {wd : World} {a : Addr} {tab : List (Str × PV)} {tk : TE} {f : FE} (hd : ∃ es n, KDict K wd a es n) (h : ∀ z p, tab.lookup z = some p → keyTB K a z p = true) (b : SimB K E tk f) : SimE K E (tOp (rIxD K wd) (tC (.ref a)) tk) (unF (tabG tab) f) := fun H φ S F O η σ Q w hO re g => by
  refine b H φ S F O η σ _ w hO re (g.bind.imp fun q φ1 S1 H1 e1 w1 h1 y ry => ?_)
  have h2 := pureR_go h1
  unfold tabG at h2
  split at h2
  · rename_i z
    obtain rfl := ry.str
    obtain ⟨p, e, k⟩ := ofO_go w1 h2
    have q := h z p e
    unfold keyTB at q
    split at q
    · rename_i u eu
      obtain ⟨v, r, kk⟩ := ktB_ok q
      obtain ⟨es, n, hk⟩ := hd
      exact ⟨a, z, v, rfl, rfl, ⟨es, n, u, hk.1, hk.2, eu, r⟩, k _ (kk _ _ _)⟩
    · cases q
  · exact h2.elim
def TabOk (K : PySem.W.Frag) (a : Addr) (tab : List (Str × PV)) : Prop := ∀ e ∈ tab, keyTB K a e.1 e.2 = true
theorem tab_nil {K : PySem.W.Frag} {a : Addr} : TabOk K a [] := fun _ h => nomatch h
theorem tab_cons {K : PySem.W.Frag} {a : Addr} {k : Str} {p : PV} {r : List (Str × PV)} (h : keyTB K a k p = true) (t : TabOk K a r) : TabOk K a ((k, p) :: r) := fun e he => (List.mem_cons.mp he).elim (fun z => by rw [z]; exact h) (t e)
theorem tab_at {K : PySem.W.Frag} {a : Addr} {tab : List (Str × PV)} (t : TabOk K a tab) : ∀ z p, tab.lookup z = some p → keyTB K a z p = true := fun z p h => by
  have m : ∀ l : List (Str × PV), l.lookup z = some p → (z, p) ∈ l := fun l => by
    induction l with
    | nil => intro h; cases h
    | cons e l ih =>
      obtain ⟨y, q⟩ := e
      intro h
      by_cases ez : z = y
      · subst ez
        simp [List.lookup] at h
        subst h
        exact List.mem_cons_self
      · have hb : (z == y) = false := beq_eq_false_iff_ne.mpr ez
        simp only [List.lookup, hb] at h
        exact List.mem_cons_of_mem _ (ih h)
  exact t _ (m tab h)
end
end Fu

end
section
set_option Elab.async false
set_option linter.all false
set_option maxRecDepth 100000
set_option maxHeartbeats 4000000
namespace Fu
open PySem PySem.Spec PyProof.Rows L2
open He (ga)
/-! ### a recursive def, at depth nought -/
theorem spF_zero {K : PySem.W.Frag} {n : Nat} {vs : List V} {H : Hp} {Q : VK} {X : XK} (h : spF K n (fun _ _ => .stuck) vs H Q X) : False := by
  obtain ⟨_, _, _, _, _, _, _, g⟩ := h
  exact g
theorem go_zero {P : Program} {w : World} {K : PySem.W.Frag} {mg : Str → Option Value} {base : Heap} {CX : CXT} {k : Nat} {nm qual : Str} {st : Stmt} {ps : List Str} {sp : Sp} (g : mg nm = some (.ref (ga K nm)))
    (F : ∃ fd, FunD K nm qual (defArgs st) (defBody st) (defScope st) [] [] (ga K nm) fd)
    (hb : ∀ (kV doc pm : Value) (an : Option Addr) (cdv ct : Value) (us : List Value), us.length = ps.length → bindArgs (PySem.W.fnOf nm qual (defArgs st) (defBody st) (defScope st) .none kV doc pm an cdv ct) ⟨us, []⟩ = pure (ps.zip us))
    (len : ∀ vs H Q E, sp vs H Q E → vs.length = ps.length) (no : ∀ vs H Q E, sp vs H Q E → False) : Hk.GOk P w K mg base CX k nm ps sp := by
  obtain ⟨fd, F⟩ := F
  exact ⟨g, fd, F.kp, F.bindsN hb, ⟨len, fun A outer s H args us vs Q E _ _ _ _ h => (no vs H Q E h).elim⟩⟩
section
variable {K : PySem.W.Frag} {E : XW} {F O : Addr → Prop} {H H' H1 H3 : Hp} {φ φ' φ1 : List Addr} {S S' S1 : AS} {M : Addr → Prop} {η : Sls} {σ : L2.St}
/-! ### fields -/
theorem RFs.get : ∀ {ps : List (Str × PV)} {vs : List (Str × V)} {f : Str} {p : PV}, RFs K H φ M ps vs → ps.lookup f = some p → ∃ v, vs.lookup f = some v ∧ RV K H φ M p v
  | _, _, _, _, .nil, e => by cases e
  | _, _, f, p, @RFs.cons _ _ _ _ x q v ps vs r rs, e => by
    by_cases h : f = x
    · subst h
      simp [List.lookup] at e ⊢
      subst e
      exact r
    · have hb : (f == x) = false := beq_eq_false_iff_ne.mpr h
      simp only [List.lookup, hb] at e ⊢
      exact rs.get e
theorem RFs.none : ∀ {ps : List (Str × PV)} {vs : List (Str × V)} {f : Str}, RFs K H φ M ps vs → ps.lookup f = none → vs.lookup f = none
  | _, _, _, .nil, _ => rfl
  | _, _, f, @RFs.cons _ _ _ _ x q v ps vs r rs, e => by
    by_cases h : f = x
    · subst h
      simp [List.lookup] at e
    · have hb : (f == x) = false := beq_eq_false_iff_ne.mpr h
      simp only [List.lookup, hb] at e ⊢
      exact rs.none e
theorem RFs.len : ∀ {ps : List (Str × PV)} {vs : List (Str × V)}, RFs K H φ M ps vs → vs.length = ps.length
  | _, _, .nil => rfl
  | _, _, .cons _ r => congrArg Nat.succ r.len
def putP (f : Str) (v : PV) : List (Str × PV) → List (Str × PV)
  | [] => [(f, v)]
  | (g, x) :: r => if g = f then (g, v) :: r else (g, x) :: putP f v r
theorem RFs.put {f : Str} {p : PV} {v : V} (r : RV K H φ M p v) : ∀ {ps : List (Str × PV)} {vs : List (Str × V)}, RFs K H φ M ps vs → RFs K H φ M (putP f p ps) (putF f v vs)
  | _, _, .nil => .cons r .nil
  | _, _, @RFs.cons _ _ _ _ x q u ps vs r2 rs => by
    unfold putP putF
    by_cases h : x = f
    · rw [if_pos h, if_pos h]; exact .cons r rs
    · rw [if_neg h, if_neg h]; exact .cons r2 (rs.put r)
theorem WF.ins (w : WF K H φ S F) {n : Nat} {c : Str} {fs : List (Str × PV)} {a : Addr} (e : S[n]? = some (some (.ins c fs))) (f : φ[n]? = some a) : ∃ dx gs, H a = some (.ins (ga K c) dx gs) ∧ RFs K H φ (uni (Lv φ S) F) fs gs := by
  obtain ⟨b, ho, h1, h2, h3⟩ := w.live n _ e
  rw [f] at h1
  cases h1
  cases h3 with
  | ins r => exact ⟨_, _, h2, r⟩
def fldG (c f : Str) : PV → AS → R PV := fun p S => match p with
  | .ref n => match S[n]? with
    | some (some (.ins d fs)) => if d = c then ofO (fs.lookup f) S else .stuck
    | _ => .stuck
  | _ => .stuck
def fldF (c f : Str) (a : FE) : FE := fun η S => (a η S).bind fun p S => fldG c f p S
theorem se_fld {c f : Str} {ta : TE} {fa : FE} (hc : Cls K (ga K c)) (hn : NoAttr K (ga K c) f) (a : SimE K E ta fa) : SimE K E (tFld K ta f) (fldF c f fa) := fun H φ S F O η σ Q w hO re h => by
  refine a H φ S F O η σ _ w hO re (h.bind.imp fun p φ1 S1 H1 e1 w1 h1 x rx => ?_)
  unfold fldG at h1
  split at h1
  · split at h1
    · rename_i n d fs e0
      split at h1
      · rename_i hd
        subst hd
        cases rx with
        | ref ha =>
          obtain ⟨dx, gs, h2, r⟩ := w1.ins e0 ha
          obtain ⟨q, e, k⟩ := ofO_go w1 h1
          obtain ⟨v, e2, rv⟩ := r.get e
          exact ⟨_, _, dx, gs, v, rfl, h2, hc, hn, e2, k v rv⟩
      · exact h1.elim
    · exact h1.elim
  · exact h1.elim
def fldS (c f : Str) (o a : FE) : FS := fun η S => lift (a η S) η fun p S => lift (o η S) η fun q S => match q with
  | .ref n => match S[n]? with
    | some (some (.ins d fs)) => if d = c ∧ fs.length < 1000 then .nx η (S.set n (some (.ins c (putP f p fs)))) else .stuck
    | _ => .stuck
  | _ => .stuck
theorem ss_fld {c f : Str} {ta tv : TE} {fo fa : FE} (hc : Cls K (ga K c)) (hn : NoAttr K (ga K c) f) (o : SimE K E ta fo) (a : SimE K E tv fa) : SimS K E (sFld K ta tv f) (fldS c f fo fa) := fun H φ S F η σ D w h => by
  refine a H φ S _ _ η σ _ w.wf (fun _ z => .inr z) w.re ((GoS.lift w h).imp fun p φ1 S1 H1 e1 w1 h1 y ry => ?_)
  obtain ⟨h1, ws1⟩ := h1
  refine o H1 φ1 S1 _ _ η σ _ ws1.wf (fun _ z => .inr z) ws1.re ((GoS.lift ws1 h1).imp fun q φ2 S2 H2 e2 w2 h2 x rx => ?_)
  obtain ⟨h2, ws2⟩ := h2
  split at h2
  · split at h2
    · rename_i n d fs e0
      split at h2
      · rename_i hd
        obtain ⟨rfl, hl⟩ := hd
        cases rx with
        | ref ha =>
          obtain ⟨dx, gs, h3, r⟩ := ws2.wf.ins e0 ha
          obtain ⟨w3, e3⟩ := ws2.wf.put (o' := .ins d (putP f p fs)) e0 ha (.ins (r.put (e2.rv ry)))
          exact ⟨_, _, dx, gs, rfl, h3, hc, hn, by rw [r.len]; exact hl, h2 φ2 _ σ (EvS.of e3) (ws2.step e3 w3)⟩
      · exact h2.elim
    · exact h2.elim
  · exact h2.elim
/-! ### methods -/
def methF (c : Str) (n : Nat) (m : Str) (f : Fn) (o : FE) (a : FA) : FE := fun η S => (o η S).bind fun p S => match p with
  | .ref i => match S[i]? with
    | some (some (.ins d fs)) => if d = c ∧ fs.lookup m = none then (a η S).bind fun ps S => if ps.length + 1 = n then f (p :: ps) S else .stuck else .stuck
    | _ => .stuck
  | _ => .stuck
theorem se_meth {c m : Str} {n : Nat} {f : Fn} {to : TE} {t : TA} {fo : FE} {fa : FA} {X : XK} (o : SimE K (fun _ => X) to fo) (a : SimA K (fun _ => X) t fa) : SimE K (fun _ => X) (tMeth (ga K c) m (spF K n f) [] X to t) (methF c n m f fo fa) := fun H φ S F O η σ Q w hO re h => by
  refine o H φ S F O η σ _ w hO re (h.bind.imp fun p φ1 S1 H1 e1 w1 h1 x rx => ?_)
  split at h1
  · split at h1
    · rename_i d fs e0
      split at h1
      · rename_i hd
        obtain ⟨rfl, hm⟩ := hd
        cases rx with
        | @ref _ ad ha =>
          obtain ⟨dx, gs, h3, r⟩ := w1.ins e0 ha
          refine ⟨_, dx, gs, rfl, h3, r.none hm, a H1 φ1 S1 F O η σ _ w1 hO (re.mono w hO e1) (h1.bind.imp fun ps φ2 S2 H2 e2 w2 h2 vs rs => ?_)⟩
          split at h2
          · rename_i hl
            rw [List.append_nil]
            exact ⟨φ2, S2, F, _ :: ps, hl, w2, .cons (e2.rv (.ref ha)) rs, h2⟩
          · exact h2.elim
      · exact h1.elim
    · exact h1.elim
  · exact h1.elim
/-! ### new instances -/
def mkF (c : Str) (n : Nat) (f : Fn) (a : FA) : FE := fun η S => (a η S).bind fun ps S => if ps.length + 1 = n then match f (.ref S.length :: ps) (S ++ [some (.ins c [])]) with
    | .ok .non S' => .ok (.ref S.length) S'
    | .exc d fs S' => .exc d fs S'
    | _ => .stuck
  else .stuck
/-- a new instance is there -/
theorem made (w : WF K H φ S F) {c : Str} {x dx : Addr} (hx : H x = none) (hd : H dx = none) (ne : dx ≠ x) :
    WF K (upd (upd H dx (.own x)) x (.ins (ga K c) dx [])) (φ ++ [x]) (S ++ [some (.ins c [])]) F ∧ Ev H φ (Lv φ S) (upd (upd H dx (.own x)) x (.ins (ga K c) dx [])) (φ ++ [x]) (Lv (φ ++ [x]) (S ++ [some (.ins c [])])) := by
  have w1 := w.new (o := .own x) hd
  have e1 : Ev H φ (Lv φ S) (upd H dx (.own x)) φ (Lv φ S) := ev_new hd
  obtain ⟨w2, e2⟩ := w1.alloc (p := x) (o := .ins c []) (ho := .ins (ga K c) dx []) ((upd_ne (Ne.symm ne)).trans hx) (.ins .nil)
  exact ⟨w2, e1.trans e2⟩
theorem mk_go {c : Str} {n : Nat} {f : Fn} {X : XK} {ps : List PV} {vs : List V} {Q : VK} (w : WF K H φ S F) (rs : RVs K H φ (uni (Lv φ S) F) ps vs) (hl : ps.length + 1 = n)
    (h : GoE K X F H φ S (match f (.ref S.length :: ps) (S ++ [some (.ins c [])]) with
      | .ok .non S' => R.ok (PV.ref S.length) S'
      | .exc d fs S' => .exc d fs S'
      | _ => .stuck) (fun p φ' S' H' => ∀ v, RV K H' φ' (uni (Lv φ' S') F) p v → Q v H')) :
    ∀ x dx, H x = none → H dx = none → dx ≠ x → spF K n f (.ref x :: vs) (upd (upd H dx (.own x)) x (.ins (ga K c) dx [])) (fun v H2 => v = .non ∧ Q (.ref x) H2) X := fun x dx hx hd ne => by
  obtain ⟨w2, e2⟩ := made (c := c) w hx hd ne
  have rx : ∀ {φ' : List Addr}, (∀ (k : Nat) a, (φ ++ [x])[k]? = some a → φ'[k]? = some a) → φ'[S.length]? = some x := fun hp => hp _ _ (by rw [List.getElem?_append_right (by rw [w.len]; exact Nat.le_refl _)]; simp [w.len])
  refine ⟨φ ++ [x], S ++ [some (.ins c [])], F, .ref S.length :: ps, by rw [List.length_cons]; exact hl, w2, .cons (.ref (rx fun _ _ z => z)) (e2.rvs rs), ?_⟩
  cases q : f (.ref S.length :: ps) (S ++ [some (.ins c [])]) with
  | ok a S' =>
    rw [q] at h
    cases a with
    | non =>
      intro φ' H' e' w' v rv
      cases rv
      exact ⟨rfl, h φ' H' (e2.trans e') w' _ (.ref (rx e'.pre))⟩
    | _ => exact (show False from h).elim
  | exc d fs S' =>
    rw [q] at h
    exact fun φ' H' d e' w' x => h φ' H' d (e2.trans e') w' x
  | stuck => rw [q] at h; exact (show False from h).elim
theorem se_mk {c : Str} {n : Nat} {f : Fn} {t : TA} {fa : FA} {X : XK} (a : SimA K (fun _ => X) t fa) : SimE K (fun _ => X) (tMake (ga K c) (spF K n f) [] X t) (mkF c n f fa) := fun H φ S F O η σ Q w hO re h => by
  refine a H φ S F O η σ _ w hO re (h.bind.imp fun ps φ1 S1 H1 e1 w1 h1 vs rs => ?_)
  split at h1
  · rename_i hl
    rw [List.append_nil]
    exact mk_go w1 rs hl h1
  · exact h1.elim
/-- all by keywords, in the parameters' order -/
theorem se_mkK {c : Str} {n m : Nat} {f : Fn} {t : TA} {fa : FA} {X : XK} (hm : m + 1 = n) (a : SimA K (fun _ => X) t fa) : SimE K (fun _ => X) (tMakeK (ga K c) 0 m (spF K n f) (fun vs zs => vs ++ zs) X tNil t) (mkF c n f fa) := fun H φ S F O η σ Q w hO re h => by
  show t σ H _
  refine a H φ S F O η σ _ w hO re (h.bind.imp fun ps φ1 S1 H1 e1 w1 h1 vs rs => ?_)
  split at h1
  · rename_i hl
    exact ⟨rfl, by rw [rs.len]; omega, mk_go w1 rs hl h1⟩
  · exact h1.elim
end
section
variable {X : Cx} {CX : CXT} {k n : Nat} {x : Str} {ps ks : List Str} {sp : Sp} {E : XK} {p pos apos : Pos} {ta : TE} {m : Str} {C : Addr} {o : Expr} {kws : List Keyword} {tk : TA} {gV : List V → List V → List V}
/-- an __init__ with keyword-only parameters -/
structure KOk (P : Program) (w : World) (K : PySem.W.Frag) (mg : Str → Option Value) (base : Heap) (CX : CXT) (k : Nat) (a : Addr) (ps : List Str) (n : Nat) (ks : List Str) (gV : List V → List V → List V) (sp : Sp) : Prop where
  ex : ∃ (fd : FuncData) (g : List Value → List Value → List Value), KBn K fd ps n ks g gV ∧ FnOk P w K mg base CX k a fd ps sp
theorem pe_mkK {f : Addr} (M : Mk X.K C f) (G : KOk X.prog X.w X.K X.mg X.base CX k f ps 1 ks gV sp) (hm : X.mg x = some (.ref C)) (hr : Room (k + 1) X.A) (hx : Passes CX X E) (hkw : PK X kws tk) (hg : Gl X x := by rfl)
    (hall : (backToKw pos (keywordEach kws X.env)).all (·.1.isSome) = true := by rfl) (hks : (backToKw pos (keywordEach kws X.env)).filterMap (·.1) = ks := by rfl) (hdb : (x == ("__debug__" : Str)) = false := by decide)
    (hpl : ((backTo pos (starEach [] X.env)).any (·.1) || (backToKw pos (keywordEach kws X.env)).any (·.1.isNone)) = false := by rfl) :
    PE X (.Call (.Name x p) [] kws pos) (tMakeK C 0 ks.length sp gV E tNil tk) := by
  obtain ⟨fd, g, h2, h3⟩ := G.ex
  exact pe_makeK0 M h3 hr hg hm h2 hx hkw hall hks hdb hpl
/-- o.m() -/
theorem pe_m0 {pl : Sem Bool} (G : Hk.AOk X.prog X.w X.K X.mg X.base CX k (He.ma X.K C m) ps sp) (c : Cls X.K C) (hm : Meth X.K C m (He.ma X.K C m)) (hr : Room k X.A) (hx : Passes CX X E) (he : PE X o ta)
    (ht : eval (.Call (.Attribute o m apos) [] [] pos) X.env = (do
      let ov ← eval o X.env
      standAt apos.atName
      let (f, first) ← holding [ov] (getMethod ov m pl)
      callWith pos f first (backTo pos (starEach [] X.env)) (backToKw pos (keywordEach [] X.env))) := by rfl) :
    PE X (.Call (.Attribute o m apos) [] [] pos) (tMeth C m sp [] E ta tNil) := by
  obtain ⟨fd, h2, h3⟩ := G.ex
  exact pe_meth0 he c hm h3 hr h2 .nil hx ht
end
end Fu

end
section
set_option Elab.async false
set_option linter.all false
set_option maxRecDepth 100000
set_option maxHeartbeats 4000000
namespace Fu
open PySem PySem.Spec PyProof.Rows L2
open He (ga)
/-! ### setdefault of a dict whose keys are tuples -/
section
variable {X : Cx} {pins : List (Addr × Obj)} {σ : L2.St} {H : Hp} {s : Shared} {a b : Addr} {r : Value} {d : V} {k : List Key} {A : Around} {E : Value → Shared → Prop}
theorem d_setdT {kvs : List (List Key × V)} {Q : Value → Shared → Prop} (hu : A.units + 1 < cLine) (I : Inv X pins σ H s) (e : H a = some (.dT kvs)) (eb : H b = some (.tup (k.map kV))) (rd : RelV d r) (hl : kvs.length < sizeLine)
    (h1 : ∀ v, valV kvs k = some v → ∀ (y : Value) (s' : Shared), Inv X pins σ H s' → RelV v y → Q y s') (h2 : valV kvs k = none → ∀ (y : Value) (s' : Shared), Inv X pins σ (upd H a (.dT (putK kvs k d))) s' → RelV d y → Q y s') :
    wpAny (model X.prog X.w) A (call (.builtin "dict.setdefault") [.ref a, .ref b, r]) Q E s := by
  obtain ⟨z, hd, xs, rel, dd⟩ := dt_of I.hok e
  have hz : xs.length ≤ sizeLine := Paired.length rel ▸ z
  refine call_meetsIn PySem.F.slot_dict_setdefault dd.typeIs PySem.F.entry_dict_setdefault (PySem.F.args_dict_setdefault_3 _ _ _) (meetsH_dict_setdefault (tupleKind (mixKind X.prog X.w)) a b hd r) ⟨tupleKind_room_in1 hu, k, xs, key_of I.hok eb, dd, hz, fun p hp => ?_, fun hn h' dd' hs => ?_⟩
  · have q := rel.val k
    rw [hp] at q
    cases q0 : valV kvs k with
    | none => rw [q0] at q; exact (show False from q).elim
    | some v0 => rw [q0] at q; exact h1 v0 q0 _ _ (I.tok _) q
  · have q := rel.val k
    rw [hn] at q
    cases q0 : valV kvs k with
    | some v0 => rw [q0] at q; exact (show False from q).elim
    | none =>
      have hm : (putK kvs k d).length ≤ sizeLine := Nat.le_trans (length_putK kvs k d) hl
      obtain ⟨ob, es, ep, ho, g2, g3, g4, _, g5⟩ := dd'
      refine h2 q0 _ _ (d_write I (by rw [e]; exact True.intro) hs ⟨ob, ho⟩ ⟨hm, hd, _, (rel.put k eb rd).keeps fun c ys ec => ?_, ob, es, ep, ho, g2, g3, g4, g5⟩) rd
      exact (upd_ne (ne_of ec e nofun)).trans ec
end
def tDSetdT (td ty tx : TE) : TE := fun σ H Q => td σ H fun x H1 => ∃ a, x = .ref a ∧ IsD H1 a ∧ ty σ H1 fun y H2 => tx σ H2 fun z H3 => ∃ (kvs : List (List Key × V)) (k : List Key) (b : Addr), H3 a = some (.dT kvs) ∧ y = .ref b ∧ H3 b = some (.tup (k.map kV)) ∧ kvs.length < sizeLine ∧
  (∀ v, valV kvs k = some v → Q v H3) ∧ (valV kvs k = none → Q z (upd H3 a (.dT (putK kvs k z))))
section
variable {X : Cx} {o e f : Expr} {td ty tx : TE} {apos cpos : Pos}
theorem pe_dsetdT (hu : X.A.units + 1 < cLine) (ho : PE X o td) (he : PE X e ty) (hf : PE X f tx) (m : M2 X o "setdefault" apos e f cpos) : PE X (.Call (.Attribute o "setdefault" apos) [e, f] [] cpos) (tDSetdT td ty tx) := by
  refine ⟨fun pins s σ H Q I h => wpAny_Call_method m.base m.few m.line PySem.F.plainAttrs_dict PySem.F.slot_dict_setdefault PySem.F.type_dict_setdefault (thn (ho.run pins s σ H _ I h) fun u s1 ⟨x, H1, I1, rx, a, ex, d, q1⟩ => ?_)⟩
  subst ex
  cases (show u = Value.ref a from rx)
  refine ⟨(isD_at I1 d).1, (isD_at I1 d).2.1, ?_⟩
  rw [m.trees]
  refine Calls.callWith_builtin rfl (Calls.evalArgs_plain (Calls.spliced_cons (thn (he.run pins s1 σ H1 _ I1 q1) fun iv s2 ⟨y, H2, I2, ry, q2⟩ => Calls.spliced_cons (thn (hf.run pins s2 σ H2 _ I2 q2) fun fv s3 ⟨z, H3, I3, rz, kvs, k, b, ea, ey, eb, hl, q3, q4⟩ => Calls.spliced_nil ?_))))
  subst ey
  cases (show iv = Value.ref b from ry)
  exact d_setdT hu I3 ea eb rz hl (fun v hv y s4 I4 ry => ⟨v, _, I4, ry, q3 v hv⟩) fun hn y s4 I4 ry => ⟨z, _, I4, ry, q4 hn⟩
end
section
variable {K : PySem.W.Frag} {E : XW} {F O : Addr → Prop} {H H' H1 H3 : Hp} {φ φ' φ1 : List Addr} {S S' S1 : AS} {M : Addr → Prop} {η : Sls} {σ : L2.St}
/-! ### dicts -/
def findT (k : List Key) : List (PV × PV) → Option PV
  | [] => none
  | (p, v) :: r => if tupKey p = some k then some v else findT k r
theorem RTs.find {k : List Key} : ∀ {kvs : List (PV × PV)} {ws : List (List Key × V)}, RTs K H φ M kvs ws → (findT k kvs = none ∧ valV ws k = none) ∨ ∃ p v, findT k kvs = some p ∧ valV ws k = some v ∧ RV K H φ M p v
  | _, _, .nil => .inl ⟨rfl, rfl⟩
  | _, _, @RTs.cons _ _ _ _ q x p v ps vs e r rs => by
    unfold findT
    by_cases h : x = k
    · subst h
      exact .inr ⟨p, v, by rw [if_pos e], valV_pos rfl, r⟩
    · rw [if_neg (by rw [e]; exact fun z => h (Option.some.inj z)), valV_neg h]
      exact rs.find
theorem RTs.len : ∀ {kvs : List (PV × PV)} {ws : List (List Key × V)}, RTs K H φ M kvs ws → ws.length = kvs.length
  | _, _, .nil => rfl
  | _, _, .cons _ _ r => congrArg Nat.succ r.len
theorem RTs.snoc {k : List Key} {q p : PV} {v : V} (e : tupKey q = some k) (r : RV K H φ M p v) : ∀ {kvs : List (PV × PV)} {ws : List (List Key × V)}, RTs K H φ M kvs ws → RTs K H φ M (kvs ++ [(q, p)]) (ws ++ [(k, v)])
  | _, _, .nil => .cons e r .nil
  | _, _, .cons e2 r2 rs => .cons e2 r2 (rs.snoc e r)
theorem keysOf_ok : ∀ {ps : List PV} {vs : List V} {ks : List Key}, RVs K H φ M ps vs → keysOf ps = some ks → vs = ks.map kV
  | [], _, _, .nil, e => by cases e; rfl
  | p :: ps, _, _, .cons r rs, e => by
    unfold keysOf at e
    split at e
    · rename_i k ks' e1 e2
      cases e
      rw [keysOf_ok rs e2]
      cases r with
      | int => cases e1; rfl
      | str => cases e1; rfl
      | _ => cases e1
    · cases e
theorem tupKey_ok {p : PV} {v : V} {k : List Key} (r : RV K H φ M p v) (e : tupKey p = some k) : ∃ b, v = .ref b ∧ H b = some (.tup (k.map kV)) := by
  unfold tupKey at e
  split at e
  · cases r with
    | tup h rs => exact ⟨_, rfl, by rw [← keysOf_ok rs e]; exact h.1⟩
  · cases e
def dnewT : FE := fun _ S => .ok (.ref S.length) (S ++ [some (.dct [])])
def dnewK : FE := fun _ S => .ok (.ref S.length) (S ++ [some (.dic [])])
theorem last_at (w : WF K H φ S F) {p : Addr} : (φ ++ [p])[S.length]? = some p := by
  rw [List.getElem?_append_right (by rw [w.len]; exact Nat.le_refl _)]
  simp [w.len]
theorem se_dnewT : SimE K E tDNewT dnewT := fun H φ S F O η σ Q w hO re h => fun p hp => by
  obtain ⟨w2, e2⟩ := w.alloc (o := .dct []) (ho := .dT []) hp (.dT .nil)
  exact h _ _ e2 w2 _ (.ref (last_at w))
theorem se_dnewK : SimE K E tDNewK dnewK := fun H φ S F O η σ Q w hO re h => fun p hp => by
  obtain ⟨w2, e2⟩ := w.alloc (o := .dic []) (ho := .dK []) hp (.dK .nil)
  exact h _ _ e2 w2 _ (.ref (last_at w))
theorem WF.dct (w : WF K H φ S F) {n : Nat} {kvs : List (PV × PV)} {a : Addr} (e : S[n]? = some (some (.dct kvs))) (f : φ[n]? = some a) : ∃ ws, H a = some (.dT ws) ∧ RTs K H φ (uni (Lv φ S) F) kvs ws := by
  obtain ⟨b, ho, h1, h2, h3⟩ := w.live n _ e
  rw [f] at h1
  cases h1
  cases h3 with
  | dT r => exact ⟨_, h2, r⟩
def isDct : PV → AS → Bool := fun p S => match p with
  | .ref n => match S[n]? with
    | some (some (.dct _)) => true
    | _ => false
  | _ => false
def setdG (p k d : PV) : AS → R PV := fun S => match p with
  | .ref n => match S[n]?, tupKey k with
    | some (some (.dct kvs)), some ks => if kvs.length < 1000000 then match findT ks kvs with
        | some v => .ok v S
        | none => .ok d (S.set n (some (.dct (kvs ++ [(k, d)]))))
      else .stuck
    | _, _ => .stuck
  | _ => .stuck
def setdF (o a b : FE) : FE := fun η S => (o η S).bind fun p S => if isDct p S = true then (a η S).bind fun k S => (b η S).bind fun d S => setdG p k d S else .stuck
theorem isDct_ok {p : PV} {x : V} (w : WF K H φ S F) (r : RV K H φ M p x) (e : isDct p S = true) : ∃ a, x = .ref a ∧ IsD H a := by
  unfold isDct at e
  split at e
  · split at e
    · rename_i e0
      cases r with
      | ref ha =>
        obtain ⟨ws, h1, _⟩ := w.dct e0 ha
        exact ⟨_, rfl, .inr ⟨ws, .inl h1⟩⟩
    · cases e
  · cases e
theorem se_setd {td ty tx : TE} {fo fa fb : FE} (o : SimE K E td fo) (a : SimE K E ty fa) (b : SimE K E tx fb) : SimE K E (tDSetdT td ty tx) (setdF fo fa fb) := fun H φ S F O η σ Q w hO re h => by
  refine o H φ S F O η σ _ w hO re (h.bind.imp fun p φ1 S1 H1 e1 w1 h1 x rx => ?_)
  split at h1
  · rename_i hd
    obtain ⟨ad, rfl, hi⟩ := isDct_ok w1 rx hd
    refine ⟨ad, rfl, hi, a H1 φ1 S1 F O η σ _ w1 hO (re.mono w hO e1) (h1.bind.imp fun k φ2 S2 H2 e2 w2 h2 y ry => ?_)⟩
    refine b H2 φ2 S2 F O η σ _ w2 hO ((re.mono w hO e1).mono w1 hO e2) (h2.bind.imp fun d φ3 S3 H3 e3 w3 h3 z rz => ?_)
    have rx3 := e3.rv (e2.rv rx)
    have ry3 := e3.rv ry
    unfold setdG at h3
    split at h3
    · split at h3
      · split at h3
        · rename_i n kvs ks e0 ek hl
          cases rx3 with
          | ref ha =>
            obtain ⟨ws, hw, rs⟩ := w3.dct e0 ha
            obtain ⟨bd, rfl, hb⟩ := tupKey_ok ry3 ek
            refine ⟨ws, ks, bd, hw, rfl, hb, by rw [rs.len, sizeLine_eq]; omega, fun v hv => ?_, fun hv => ?_⟩
            · rcases rs.find (k := ks) with ⟨q1, q2⟩ | ⟨p', v', q1, q2, q3⟩
              · rw [q2] at hv; cases hv
              · rw [q2] at hv
                cases hv
                rw [q1] at h3
                exact h3.ok w3 _ q3
            · rcases rs.find (k := ks) with ⟨q1, q2⟩ | ⟨p', v', q1, q2, q3⟩
              · rw [q1] at h3
                obtain ⟨w4, e4⟩ := w3.put (o' := .dct (kvs ++ [(k, d)])) e0 ha (.dT (rs.snoc ek rz))
                rw [putK_new _ hv]
                exact h3 φ3 _ e4 w4 _ (e4.rv rz)
              · rw [q2] at hv; cases hv
        · exact h3.elim
      · exact h3.elim
    · exact h3.elim
  · exact h1.elim
def getdG (p k d : PV) : AS → R PV := fun S => match p with
  | .ref n => match S[n]?, tupKey k with
    | some (some (.dct kvs)), some ks => .ok ((findT ks kvs).getD d) S
    | _, _ => .stuck
  | _ => .stuck
def getdF (o a b : FE) : FE := fun η S => (o η S).bind fun p S => if isDct p S = true then (a η S).bind fun k S => (b η S).bind fun d S => getdG p k d S else .stuck
theorem se_getd {td ty tx : TE} {fo fa fb : FE} (o : SimE K E td fo) (a : SimE K E ty fa) (b : SimE K E tx fb) : SimE K E (tDGet2 td ty tx) (getdF fo fa fb) := fun H φ S F O η σ Q w hO re h => by
  refine o H φ S F O η σ _ w hO re (h.bind.imp fun p φ1 S1 H1 e1 w1 h1 x rx => ?_)
  split at h1
  · rename_i hd
    obtain ⟨ad, rfl, hi⟩ := isDct_ok w1 rx hd
    refine ⟨ad, rfl, hi, a H1 φ1 S1 F O η σ _ w1 hO (re.mono w hO e1) (h1.bind.imp fun k φ2 S2 H2 e2 w2 h2 y ry => ?_)⟩
    refine b H2 φ2 S2 F O η σ _ w2 hO ((re.mono w hO e1).mono w1 hO e2) (h2.bind.imp fun d φ3 S3 H3 e3 w3 h3 z rz => ?_)
    have rx3 := e3.rv (e2.rv rx)
    have ry3 := e3.rv ry
    unfold getdG at h3
    split at h3
    · split at h3
      · rename_i n kvs ks e0 ek
        cases rx3 with
        | ref ha =>
          obtain ⟨ws, hw, rs⟩ := w3.dct e0 ha
          obtain ⟨bd, rfl, hb⟩ := tupKey_ok ry3 ek
          refine ⟨valV ws ks, DGet.t hw hb, ?_⟩
          rcases rs.find (k := ks) with ⟨q1, q2⟩ | ⟨p', v', q1, q2, q3⟩
          · rw [q1] at h3; rw [q2]; exact h3.ok w3 _ rz
          · rw [q1] at h3; rw [q2]; exact h3.ok w3 _ q3
      · exact h3.elim
    · exact h3.elim
  · exact h1.elim
end
end Fu

end
section
set_option Elab.async false
set_option linter.all false
set_option maxRecDepth 100000
set_option maxHeartbeats 4000000
namespace Fu
open PySem PySem.Spec PyProof.Rows L2 RZ
open He (ga)
/-! ### zip of a tuple and a list -/
section
variable {prog : Program} {w : World} {A : Around} {E : Value → Shared → Prop} {s : Shared} {z TI TO i1 i2 l1 l2 : Addr} {k : Nat} {xs ys : Array Value} {x y a b : Value}
/-- what the objects of such a zip are at a turn -/
structure ZM (h : Heap) (z TI TO i1 i2 l1 l2 : Addr) (k : Nat) (a b : Value) (xs ys : Array Value) : Prop where
  ti : IsPair h TI (.ref i1) (.ref i2)
  to : IsPair h TO a b
  h1 : h.IsTupleIter i1 l1 k
  h2 : h.IsListIter i2 l2 k
  t1 : h.IsTuple l1 xs
  t2 : h.IsList l2 ys
abbrev Keeps4 (h h' : Heap) (z TO i1 i2 : Addr) : Prop := ∀ c o, c ≠ z → c ≠ TO → c ≠ i1 → c ≠ i2 → h.get? c = some o → h'.get? c = some o
theorem zm_item {Q : Value → Shared → Prop} (D : ZipApart z TI TO i1 i2 l1 l2) (hz : IsZip s.heap z TI TO .none) (m : ZM s.heap z TI TO i1 i2 l1 l2 k a b xs ys) (hx : xs[k]? = some x) (hy : ys[k]? = some y)
    (hQ : ∀ h', IsZip h' z TI TO (rawInt s.heap.objs.size) ∧ IsPair h' TO x y ∧ h'.IsTupleIter i1 l1 (k + 1) ∧ h'.IsListIter i2 l2 (k + 1) ∧ IsPair h' s.heap.objs.size x y → Keeps4 s.heap h' z TO i1 i2 → Q (.ref s.heap.objs.size) { s with heap := h' }) :
    wpAny (model prog w) A (Builtin.«zip.__next__» ⟨[.ref z], []⟩) (fun fin s' => ∃ v, fin = .done (.ret v) ∧ Q v s') E s := by
  show wpAny _ _ (field (.ref z) 2 >>= _) _ _ _
  refine wpAny_bind (wpAny_field hz rfl (x := .bool false) rfl (show wpAny _ _ (field (.ref z) 3 >>= _) _ _ _ from wpAny_bind (wpAny_field hz rfl (x := .ref TI) rfl (wpAny_bind (wpAny_seqItems m.ti rfl (show wpAny _ _ (Builtin.SmallTypes.ownedTupleIsFree (.ref z) >>= _) _ _ _ from wpAny_bind ?_))))))
  unfold Builtin.SmallTypes.ownedTupleIsFree
  refine wpAny_bind (wpAny_field hz rfl (x := .none) rfl (wpAny_pure ?_))
  rw [if_pos (by rfl)]
  refine wpAny_bind (wpAny_rule (wpAny_bind (wpAny_field hz rfl (x := .ref TO) rfl (wpAny_bind (wpAny_setField_rec hz (by simp) fun g1 z1 q1 => ?_)))))
  have Z1 : IsZip g1 z TI TO .ellipsis := z1
  refine wpAny_bind ?_
  simp only [List.zipIdx_cons, List.zipIdx_nil, List.forIn_cons, List.forIn_nil]
  refine wpAny_bind (wpAny_bind (wpAny_onRaise (show wpAny _ _ (Builtin.SmallTypes.nextOf (.ref i1) >>= _) _ _ _ from wpAny_bind (nextOf_tuple_item (m.h1.extBut q1.extBut D.i1z) (m.t1.extBut q1.extBut D.l1z) hx fun g2 n1 q2 => wpAny_pure ?_))))
  have p2 : IsPair g2 TO a b := q2.extBut _ _ D.TOi1 (q1.extBut _ _ D.TOz m.to)
  refine wpAny_bind (wpAny_seqItems p2 rfl (wpAny_bind (wpAny_updateSeq_pair p2 fun g3 p3 q3 => wpAny_bind (wpAny_letGo (wpAny_pure ?_)))))
  have P3 : IsPair g3 TO x b := p3
  have r1 : g3.IsListIter i2 l2 k := ((m.h2.extBut q1.extBut D.i2z).extBut q2.extBut D.i12.symm).extBut q3.extBut D.TOi2.symm
  have r2 : g3.IsList l2 ys := ((m.t2.extBut q1.extBut D.l2z).extBut q2.extBut D.l2i1).extBut q3.extBut D.l2TO
  refine wpAny_bind (wpAny_bind (wpAny_onRaise (show wpAny _ _ (Builtin.SmallTypes.nextOf (.ref i2) >>= _) _ _ _ from wpAny_bind (wpAny_nextOf_list_item r1 r2 hy fun g4 n2 q4 => wpAny_pure ?_))))
  have p4 : IsPair g4 TO x b := q4.extBut _ _ D.TOi2 P3
  refine wpAny_bind (wpAny_seqItems p4 rfl (wpAny_bind (wpAny_updateSeq_pair p4 fun g5 p5 q5 => wpAny_bind (wpAny_letGo (wpAny_pure (wpAny_pure ?_))))))
  have P5 : IsPair g5 TO x y := p5
  refine wpAny_bind (wpAny_seqItems P5 rfl (wpAny_bind (wpAny_newTuple ?_)))
  have sz : g5.objs.size = s.heap.objs.size := by rw [q5.1, q4.1, q3.1, q2.1, q1.1]
  have k5 : Keeps4 s.heap g5 z TO i1 i2 := fun c o c1 c2 c3 c4 e => q5.extBut _ _ c2 (q4.extBut _ _ c4 (q3.extBut _ _ c2 (q2.extBut _ _ c3 (q1.extBut _ _ c1 e))))
  have Z5 : IsZip g5 z TI TO .ellipsis := q5.extBut _ _ D.TOz.symm (q4.extBut _ _ D.i2z.symm (q3.extBut _ _ D.TOz.symm (q2.extBut _ _ D.i1z.symm Z1)))
  have m1 : g5.IsTupleIter i1 l1 (k + 1) := ((n1.extBut q3.extBut D.TOi1.symm).extBut q4.extBut D.i12).extBut q5.extBut D.TOi1.symm
  have m2 : g5.IsListIter i2 l2 (k + 1) := n2.extBut q5.extBut D.TOi2.symm
  have zl : z < g5.objs.size := Heap.lt_size Z5
  refine show wpAny _ _ (Builtin.SmallTypes.ownedTupleHandOut (.ref z) (.ref g5.objs.size) >>= _) _ _ _ from wpAny_bind ?_
  unfold Builtin.SmallTypes.ownedTupleHandOut
  have Z6 : IsZip (g5.push { cls := .type "tuple", data := .seq #[x, y] }) z TI TO .ellipsis := Heap.get?_push_of_some _ Z5
  refine wpAny_bind (wpAny_setField_rec Z6 (by simp) fun g7 z7 q7 => wpAny_setField_rec (show IsZip g7 z TI TO (rawInt g5.objs.size) from z7) (by simp) fun g8 z8 q8 => ?_)
  have up : ∀ c o, c ≠ z → g5.get? c = some o → g8.get? c = some o := fun c o c1 e => q8.extBut _ _ c1 (q7.extBut _ _ c1 (Heap.get?_push_of_some _ e))
  have T8 : IsPair g8 g5.objs.size x y := q8.extBut _ _ (Nat.ne_of_gt zl) (q7.extBut _ _ (Nat.ne_of_gt zl) (Heap.get?_push_size _ rfl))
  have Z8 : IsZip g8 z TI TO (rawInt g5.objs.size) := z8
  rw [sz] at T8 Z8
  refine wpAny_pure ⟨_, rfl, ?_⟩
  show Q (.ref g5.objs.size) _
  rw [sz]
  exact hQ g8 ⟨Z8, up _ _ D.TOz P5, m1.at fun o e => up _ o D.i1z e, m2.at fun o e => up _ o D.i2z e, T8⟩ fun c o c1 c2 c3 c4 e => up c o c1 (k5 c o c1 c2 c3 c4 e)
theorem zm_end {Q : Fin → Shared → Prop} (hh : A.handled = none) (D : ZipApart z TI TO i1 i2 l1 l2) (hz : IsZip s.heap z TI TO .none) (m : ZM s.heap z TI TO i1 i2 l1 l2 k a b xs ys) (hend : xs[k]? = none ∨ ys[k]? = none)
    (hE : ∀ h' e, Keeps4 s.heap h' z TO i1 i2 → (∃ o, h'.get? e = some o ∧ o.cls = .type "StopIteration") → E (.ref e) { s with heap := h' }) : wpAny (model prog w) A (Builtin.«zip.__next__» ⟨[.ref z], []⟩) Q E s := by
  show wpAny _ _ (field (.ref z) 2 >>= _) _ _ _
  refine wpAny_bind (wpAny_field hz rfl (x := .bool false) rfl (show wpAny _ _ (field (.ref z) 3 >>= _) _ _ _ from wpAny_bind (wpAny_field hz rfl (x := .ref TI) rfl (wpAny_bind (wpAny_seqItems m.ti rfl (show wpAny _ _ (Builtin.SmallTypes.ownedTupleIsFree (.ref z) >>= _) _ _ _ from wpAny_bind ?_))))))
  unfold Builtin.SmallTypes.ownedTupleIsFree
  refine wpAny_bind (wpAny_field hz rfl (x := .none) rfl (wpAny_pure ?_))
  rw [if_pos (by rfl)]
  refine wpAny_bind (wpAny_rule (wpAny_bind (wpAny_field hz rfl (x := .ref TO) rfl (wpAny_bind (wpAny_setField_rec hz (by simp) fun g1 z1 q1 => ?_)))))
  have Z1 : IsZip g1 z TI TO .ellipsis := z1
  refine wpAny_bind ?_
  simp only [List.zipIdx_cons, List.zipIdx_nil, List.forIn_cons, List.forIn_nil]
  refine wpAny_bind (wpAny_bind (wpAny_onRaise (show wpAny _ _ (Builtin.SmallTypes.nextOf (.ref i1) >>= _) _ _ _ from ?_)))
  have u1 := m.h1.extBut q1.extBut D.i1z
  have u2 := m.t1.extBut q1.extBut D.l1z
  cases hx : xs[k]? with
  | none =>
    refine wpAny_bind (nextOf_tuple_end hh u1 u2 hx fun g2 e q2 ⟨oe, he, ce⟩ => ?_)
    have Z2 : IsZip g2 z TI TO .ellipsis := q2 _ _ D.i1z.symm Z1
    have ez : e ≠ z := fun x => by subst x; rw [Z2] at he; cases he; simp at ce
    exact wpAny_setField_rec Z2 (by simp) fun g3 _ q3 => hE g3 e (fun c o c1 _ c3 _ x => q3.extBut _ _ c1 (q2 _ _ c3 (q1.extBut _ _ c1 x))) ⟨oe, q3.extBut _ _ ez he, ce⟩
  | some x =>
    have hy : ys[k]? = none := hend.elim (fun h => by rw [hx] at h; cases h) id
    refine wpAny_bind (nextOf_tuple_item u1 u2 hx fun g2 n1 q2 => wpAny_pure ?_)
    have p2 : IsPair g2 TO a b := q2.extBut _ _ D.TOi1 (q1.extBut _ _ D.TOz m.to)
    refine wpAny_bind (wpAny_seqItems p2 rfl (wpAny_bind (wpAny_updateSeq_pair p2 fun g3 p3 q3 => wpAny_bind (wpAny_letGo (wpAny_pure (wpAny_bind (wpAny_bind (wpAny_onRaise (show wpAny _ _ (Builtin.SmallTypes.nextOf (.ref i2) >>= _) _ _ _ from ?_)))))))))
    have r1 : g3.IsListIter i2 l2 k := ((m.h2.extBut q1.extBut D.i2z).extBut q2.extBut D.i12.symm).extBut q3.extBut D.TOi2.symm
    have r2 : g3.IsList l2 ys := ((m.t2.extBut q1.extBut D.l2z).extBut q2.extBut D.l2i1).extBut q3.extBut D.l2TO
    refine wpAny_bind (wpAny_nextOf_list_end hh r1 r2 hy fun g4 e q4 ⟨oe, he, ce⟩ => ?_)
    have Z4 : IsZip g4 z TI TO .ellipsis := q4 _ _ D.i2z.symm (q3.extBut _ _ D.TOz.symm (q2.extBut _ _ D.i1z.symm Z1))
    have ez : e ≠ z := fun x => by subst x; rw [Z4] at he; cases he; simp at ce
    exact wpAny_setField_rec Z4 (by simp) fun g5 _ q5 => hE g5 e (fun c o c1 c2 c3 c4 x => q5.extBut _ _ c1 (q4 _ _ c4 (q3.extBut _ _ c2 (q2.extBut _ _ c3 (q1.extBut _ _ c1 x))))) ⟨oe, q5.extBut _ _ ez he, ce⟩
/-- a new one -/
def zmHeap (h : Heap) (l1 l2 : Addr) : Heap :=
  ((((h.push { cls := .type "tuple_iterator", data := .fields #[.ref l1, .int 0 0] }).push { cls := .type "list_iterator", data := .fields #[.ref l2, .int 0 0] }).push { cls := .type "tuple", data := .seq #[.ref h.objs.size, .ref (h.objs.size + 1)] }).push { cls := .type "tuple", data := .seq #[.none, .none] }).push
    { cls := .type "zip", data := .fields #[.none, .bool false, .bool false, .ref (h.objs.size + 2), .ref (h.objs.size + 3)] }
theorem zm_meets (l1 l2 : Addr) (xs ys : Array Value) : Meets (Builtin.«zip.__new__» ⟨[.type "zip", .ref l1, .ref l2], []⟩) (fun _ R s => s.heap.IsTuple l1 xs ∧ s.heap.IsList l2 ys ∧ R (.ok (.ret (.ref (s.heap.objs.size + 4)))) { s with heap := zmHeap s.heap l1 l2 }) :=
  .of_wp fun prog w A R s h => by
    obtain ⟨hp, g, d, tk, os⟩ := s
    obtain ⟨hl1, hl2, h⟩ := h
    have hsub := sub_zip
    have L1 : Heap.IsTuple (Shared.heap ⟨hp, g, d, tk, os⟩) l1 xs := hl1
    have L2 : Heap.IsList (Shared.heap ⟨hp.push { cls := .type "tuple_iterator", data := .fields #[.ref l1, .int 0 0] }, g, d, tk, os⟩) l2 ys := hl2.at fun o e => Heap.get?_push_of_some _ e
    wp_walk using wpAny_pyIter_tuple L1, wpAny_pyIter_list L2
    refine ⟨_, rfl, ?_⟩
    unfold zmHeap at h
    simp only [Heap.size_push]
    exact h
theorem zm_call {Q : Value → Shared → Prop} (hl1 : s.heap.IsTuple l1 xs) (hl2 : s.heap.IsList l2 ys)
    (h : ∀ h', IsZip h' (s.heap.objs.size + 4) (s.heap.objs.size + 2) (s.heap.objs.size + 3) .none → IsPair h' (s.heap.objs.size + 2) (.ref s.heap.objs.size) (.ref (s.heap.objs.size + 1)) → IsPair h' (s.heap.objs.size + 3) .none .none →
      h'.IsTupleIter s.heap.objs.size l1 0 → h'.IsListIter (s.heap.objs.size + 1) l2 0 → (∀ c o, s.heap.get? c = some o → h'.get? c = some o) → Q (.ref (s.heap.objs.size + 4)) { s with heap := h' }) : wpAny (model prog w) A (call (.type "zip") [.ref l1, .ref l2]) Q E s := by
  refine callType_new F.called_zip (by decide) (F.typeCall_zip_2 _ _) (F.newCall_zip_2 _ _) (fun obj => F.args_object_init_3 obj _ _) F.entry_zip_new (zm_meets l1 l2 xs ys) ⟨hl1, hl2, ?_⟩
  have g : ∀ (h0 : Heap) (o : Obj) (n : Nat), o.isFreed = false → h0.objs.size = n → (h0.push o).get? n = some o ∧ (h0.push o).objs.size = n + 1 := fun h0 o n f e => ⟨by subst e; exact Heap.get?_push_size _ f, by rw [Heap.size_push, e]⟩
  obtain ⟨a1, b1⟩ := g s.heap { cls := .type "tuple_iterator", data := .fields #[.ref l1, .int 0 0] } _ rfl rfl
  obtain ⟨a2, b2⟩ := g _ { cls := .type "list_iterator", data := .fields #[.ref l2, .int 0 0] } _ rfl b1
  obtain ⟨a3, b3⟩ := g _ { cls := .type "tuple", data := .seq #[.ref s.heap.objs.size, .ref (s.heap.objs.size + 1)] } _ rfl b2
  obtain ⟨a4, b4⟩ := g _ { cls := .type "tuple", data := .seq #[.none, .none] } _ rfl b3
  obtain ⟨a5, b5⟩ := g _ { cls := .type "zip", data := .fields #[.none, .bool false, .bool false, .ref (s.heap.objs.size + 2), .ref (s.heap.objs.size + 3)] } _ rfl b4
  have up : ∀ {h0 : Heap} {o u : Obj} {c : Addr}, h0.get? c = some u → (h0.push o).get? c = some u := fun e => Heap.get?_push_of_some _ e
  exact ⟨⟨_, a5, rfl⟩, h _ a5 (up (up a3)) (up a4) ⟨_, up (up (up (up a1))), rfl, rfl⟩ ⟨_, up (up (up a2)), rfl, rfl⟩ fun c o x => up (up (up (up (up x))))⟩
end
/-- the tuple at a and the list at b as they stand at each turn, the items in new pairs -/
def ItzM (K : PySem.W.Frag) (a b : Addr) : It :=
  ⟨fun i H => ∃ (xs ys : List V) (x y : V), SqT K H a xs ∧ SqL K H b ys ∧ xs[i]? = some x ∧ ys[i]? = some y,
    fun i H v H' => ∃ T x y, v = .ref T ∧ H T = none ∧ H' = upd H T (.tup [x, y]) ∧ (∀ xs, SqT K H a xs → xs[i]? = some x) ∧ ∀ ys, SqL K H b ys → ys[i]? = some y,
    fun i H => ∃ xs ys : List V, SqT K H a xs ∧ SqL K H b ys ∧ (xs.length ≤ i ∨ ys.length ≤ i)⟩
theorem zm_turn {P : Program} {w : World} {K : PySem.W.Frag} {elts : List Expr} {kk : Nat} {tpos : Pos} {a b z TI TO i1 i2 : Addr} (D : ZipApart z TI TO i1 i2 a b) :
    Turn P w K (.Tuple elts kk tpos) (ItzM K a b) [z, TI, TO, i1, i2] z (fun i h => IsZip h z TI TO .none ∧ IsPair h TI (.ref i1) (.ref i2) ∧ (∃ x y, IsPair h TO x y) ∧ h.IsTupleIter i1 a i ∧ h.IsListIter i2 b i) where
  mem := List.mem_cons_self
  obj := fun i h ⟨hz, hTI, ⟨x, y, hTO⟩, ⟨o1, e1, _, d1⟩, ⟨o2, e2, _, d2⟩⟩ c hc => by
    simp only [List.mem_cons, List.not_mem_nil, or_false] at hc
    rcases hc with rfl | rfl | rfl | rfl | rfl
    · exact ⟨_, hz, nofun⟩
    · exact ⟨_, hTI, nofun⟩
    · exact ⟨_, hTO, nofun⟩
    · exact ⟨o1, e1, fun v q => by rw [d1] at q; cases q⟩
    · exact ⟨o2, e2, fun v q => by rw [d2] at q; cases q⟩
  keep := fun i h h' ⟨hz, hTI, ⟨x, y, hTO⟩, h1, h2⟩ k => ⟨k z (by simp) _ hz, k TI (by simp) _ hTI, ⟨x, y, k TO (by simp) _ hTO⟩, h1.at fun o q => k i1 (by simp) o q, h2.at fun o q => k i2 (by simp) o q⟩
  item := by
    intro X hP hw hK hc i pins s σ H E I hf st hg
    subst hP hw hK
    obtain ⟨hz, hTI, ⟨x0, y0, hTO⟩, h1, h2⟩ := st
    obtain ⟨xs, ys, x, y, qx, qy, ex, ey⟩ := hg
    obtain ⟨its, rv, p, _⟩ := I.tuple qx
    obtain ⟨jts, rw', pl, _⟩ := I.list qy
    obtain ⟨u, hu, ru⟩ := rv.get ex
    obtain ⟨t, ht, rt⟩ := rw'.get ey
    have zl : z < s.heap.objs.size := Heap.lt_size hz
    have zt : s.TypeIs (.ref z) "zip" := ⟨_, hz, rfl⟩
    have m : ZM s.heap z TI TO i1 i2 a b i x0 y0 its.toArray jts.toArray := ⟨hTI, hTO, h1, h2, p, pl.isList⟩
    unfold pyNext
    refine wpAny_bind (wpAny_attempt (wpAny_callSpecial?_slot (name := Str.ofString "__next__") zt F.slot_zip_next (wpAny_call_entry F.slot_zip_next zt F.entry_zip_next (zm_item D hz m (x := u) (y := t) (by simpa using hu) (by simpa using ht) fun g ⟨gz, gTO, g1, g2, gT⟩ gk => wpAny_pure ?_) (F.args_zip_next_1 _))))
    refine ⟨_, rfl, wpAny_letOwnedTupleGo_zip (s := { s with heap := g }) gz fun g' gz' sb => ?_⟩
    have T2 : g'.get? s.heap.objs.size = some { cls := .type "tuple", data := .seq #[u, t] } := (sb.2 _ (Nat.ne_of_gt zl)).trans gT
    have J := I.turnedNew (t' := s.toks) (ch := [z, TI, TO, i1, i2]) (ob := .tup [x, y]) (h' := g') (fun c o hb q => (sb.2 c (fun e => hb (by simp [e]))).trans (gk c o (fun e => hb (by simp [e])) (fun e => hb (by simp [e])) (fun e => hb (by simp [e])) (fun e => hb (by simp [e])) q)) hf (Nat.le_refl _)
      ⟨(show 2 ≤ sizeLine by decide), [u, t], .cons ru (.cons rt .nil), _, T2, rfl, _, rfl⟩
    refine ⟨.ref s.heap.objs.size, _, J, rfl, ⟨_, x, y, rfl, I.hok.fresh (Nat.le_refl _), rfl, fun l hl => by rw [I.tuple_inj hl qx]; exact ex, fun l hl => by rw [I.list_inj hl qy]; exact ey⟩, ⟨gz', (sb.2 _ D.TIz).trans (gk _ _ D.TIz D.TITO D.TIi1 D.TIi2 hTI), ⟨u, t, (sb.2 _ D.TOz).trans gTO⟩, g1.at fun o q => (sb.2 _ D.i1z).trans q, g2.at fun o q => (sb.2 _ D.i2z).trans q⟩, fun c hcm => ?_⟩
    rw [upd_ne fun e => ?_]
    · exact (hf c hcm).1
    have lt : c < s.heap.objs.size := by
      simp only [List.mem_cons, List.not_mem_nil, or_false] at hcm
      rcases hcm with q | q | q | q | q
      · rw [q]; exact zl
      · rw [q]; exact Heap.lt_size hTI
      · rw [q]; exact Heap.lt_size hTO
      · obtain ⟨_, e1, _⟩ := h1; rw [q]; exact Heap.lt_size e1
      · obtain ⟨_, e2, _⟩ := h2; rw [q]; exact Heap.lt_size e2
    exact Nat.lt_irrefl _ (e ▸ lt)
  done := by
    intro X hP hw hK hc i pins s σ H E I hf st hg
    subst hP hw hK
    obtain ⟨hz, hTI, ⟨x0, y0, hTO⟩, h1, h2⟩ := st
    obtain ⟨xs, ys, qx, qy, hend⟩ := hg
    obtain ⟨its, rv, p, _⟩ := I.tuple qx
    obtain ⟨jts, rw', pl, _⟩ := I.list qy
    have l1 := rv.length
    have l2 := rw'.length
    have he : its.toArray[i]? = none ∨ jts.toArray[i]? = none := hend.imp (fun q => by simp; omega) fun q => by simp; omega
    have zt : s.TypeIs (.ref z) "zip" := ⟨_, hz, rfl⟩
    unfold pyNext
    refine wpAny_bind (wpAny_attempt (wpAny_callSpecial?_slot (name := Str.ofString "__next__") zt F.slot_zip_next (wpAny_call_entry F.slot_zip_next zt F.entry_zip_next (zm_end (I.ok.hd hc) D hz ⟨hTI, hTO, h1, h2, p, pl.isList⟩ he fun g e gk ⟨o, ho, co⟩ => ?_) (F.args_zip_next_1 _))))
    exact wpAny_bind (wpAny_isInstance (T := "StopIteration") (b := true) ⟨o, ho, co⟩ isSubtype_stop (wpAny_pure ⟨rfl, I.turnedL (t' := s.toks) (ch := [z, TI, TO, i1, i2]) (fun c o hb q => gk c o (fun e => hb (by simp [e])) (fun e => hb (by simp [e])) (fun e => hb (by simp [e])) (fun e => hb (by simp [e])) q) hf⟩))
  self := fun A i s Q E st h => wpAny_pyIter_zip st.1 h
def iZipM (K : PySem.W.Frag) (ta : TA) : TI := fun σ H R => ta σ H fun vs H1 => ∃ a b xs ys, vs = [.ref a, .ref b] ∧ SqT K H1 a xs ∧ SqL K H1 b ys ∧ R (ItzM K a b) H1
theorem pi_zipM {X : Cx} {K : PySem.W.Frag} {e e2 : Expr} {ta : TA} {p pos tpos : Pos} {elts : List Expr} {kk : Nat} (hg : Gl X "zip") (hm : X.mg "zip" = none) (ha : PA X [e, e2] ta) (hK : X.K = K := by rfl)
    (hs : starEach [e, e2] X.env = (false, eval e X.env) :: starEach [e2] X.env := by rfl) (hpl : (backTo pos (starEach [e2] X.env)).any (·.1) = false := by rfl) : PI X (.Tuple elts kk tpos) (.Call (.Name "zip" p) [e, e2] [] pos) (iZipM K ta) := by
  subst hK
  refine ⟨fun pins s σ H R I h => Call_ (ld_blt I hg hm PyProof.Rows.boot_zip (PyProof.Rows.callWith_type1 (thn (ha.run pos pins s σ H _ I h) fun us s1 ⟨vs, H1, I1, r1, a, b, xs, ys, ex, hqx, hqy, q⟩ => ?_) hs hpl))⟩
  subst ex
  obtain ⟨u1, u2, rfl, ru1, ru2⟩ := vals2 r1
  cases (show u1 = Value.ref a from ru1)
  cases (show u2 = Value.ref b from ru2)
  obtain ⟨its, rv, p1, _⟩ := I1.tuple hqx
  obtain ⟨jts, rv2, p2, _⟩ := I1.list hqy
  obtain ⟨o1, ho1, _⟩ := id p1
  refine zm_call (show s1.heap.IsTuple a its.toArray from p1) p2.isList fun g gz gTI gTO g1 g2 gk => wpAny_pyIter_zip gz ?_
  refine ⟨s1.heap.objs.size + 4, [s1.heap.objs.size + 4, s1.heap.objs.size + 2, s1.heap.objs.size + 3, s1.heap.objs.size, s1.heap.objs.size + 1], _, _, H1, rfl, I1.kept (t' := s1.toks) gk, zm_turn (PySem.W.ktu_apart s1.heap.objs.size a b (Heap.lt_size ho1) p2.lt), ⟨gz, gTI, ⟨_, _, gTO⟩, g1, g2⟩, fun c hc => ?_, q⟩
  have le : s1.heap.objs.size ≤ c := by
    simp only [List.mem_cons, List.not_mem_nil, or_false] at hc
    rcases hc with q | q | q | q | q <;> rw [q] <;> first | exact Nat.le_add_right _ _ | exact Nat.le_refl _
  exact I1.fpOk le (I1.hok.fresh le)
/-! ### .. walked -/
section
variable {K : PySem.W.Frag} {E : XW} {F O : Addr → Prop} {H H' H1 H3 : Hp} {φ φ' φ1 : List Addr} {S S' S1 : AS} {M : Addr → Prop} {η : Sls} {σ : L2.St}
def pairs (xs ys : List PV) : List PV := (xs.zip ys).map fun p => .tup [p.1, p.2]
def tupItems : PV → Option (List PV)
  | .tup xs => some xs
  | .ktu xs => some xs
  | _ => none
def zipI (f : FA) : FI := fun η S => (f η S).bind fun ps S => match ps with
  | [p, .lst ys] => match tupItems p with
    | some xs => .ok (pairs xs ys) S
    | none => .stuck
  | _ => .stuck
theorem zip_at {α β : Type} : ∀ {xs : List α} {ys : List β} {i : Nat} {p : α × β}, (xs.zip ys)[i]? = some p → xs[i]? = some p.1 ∧ ys[i]? = some p.2
  | x :: xs, y :: ys, 0, p, h => by simp at h; subst h; exact ⟨rfl, rfl⟩
  | x :: xs, y :: ys, i + 1, p, h => by simpa using zip_at (xs := xs) (ys := ys) (i := i) (p := p) (by simpa using h)
  | [], _, _, _, h => by simp at h
  | _ :: _, [], _, _, h => by simp at h
theorem walks_zip {a b : Addr} {ps qs : List PV} {vs us : List V} (r : RVs K H φ M ps vs) (r2 : RVs K H φ M qs us) (h1 : ∀ H', (∀ a, H a ≠ none → ¬ M a → H' a = H a) → SqT K H' a vs) (h2 : ∀ H', (∀ a, H a ≠ none → ¬ M a → H' a = H a) → SqL K H' b us) : Walks K (ItzM K a b) (pairs ps qs) H φ M := fun H' φ' M' k g hm => by
  have k' : ∀ a, H a ≠ none → ¬ M a → H' a = H a := fun a x m => (k a x m).1
  have q1 := h1 H' k'
  have q2 := h2 H' k'
  refine ⟨fun i p e => ?_, vs, us, q1, q2, ?_⟩
  · unfold pairs at e
    rw [List.getElem?_map] at e
    cases ez : (ps.zip qs)[i]? with
    | none => rw [ez] at e; cases e
    | some pr =>
      rw [ez] at e
      cases e
      obtain ⟨z1, z2⟩ := zip_at ez
      obtain ⟨v, ev, rv⟩ := r.get z1
      obtain ⟨u, eu, ru⟩ := r2.get z2
      refine ⟨⟨vs, us, v, u, q1, q2, ev, eu⟩, fun x H3 ⟨T, x1, y1, ex, hT, e3, f1, f2⟩ => ?_⟩
      have w1 := f1 vs q1
      have w2 := f2 us q2
      rw [ev] at w1
      rw [eu] at w2
      cases w1
      cases w2
      subst ex e3
      have up : ∀ a, H' a ≠ none → upd H' T (.tup [v, u]) a = H' a := fun a h => upd_ne fun z => h (by rw [z]; exact hT)
      have kk : ∀ a, H a ≠ none → ¬ M a → upd H' T (.tup [v, u]) a = H a ∧ ¬ M' a := fun a h m => by
        obtain ⟨z1, z2⟩ := k a h m
        exact ⟨(up a (by rw [z1]; exact h)).trans z1, z2⟩
      exact ⟨up, .tup ⟨upd_same, fun z => hm T z hT⟩ (.cons (rv.mono kk g) (.cons (ru.mono kk g) .nil))⟩
  · unfold pairs
    rw [List.length_map, List.length_zip, r.len, r2.len]
    omega
theorem si_zip {t : TA} {f : FA} (s : SimA K E t f) : SimI K E (iZipM K t) (zipI f) := fun H φ S F O η σ R w hO re h => by
  refine s H φ S F O η σ _ w hO re (h.bind.imp fun ps φ1 S1 H1 e1 w1 h1 vs rs => ?_)
  split at h1
  · split at h1
    · rename_i p ys xs e
      cases rs with
      | cons r rs =>
        cases rs with
        | cons r2 rs =>
          cases rs
          cases r2 with
          | lst hl rl =>
            unfold tupItems at e
            split at e
            · cases e
              cases r with
              | tup ht rt => exact ⟨_, _, _, _, rfl, ht.sq, hl.sq, h1.ok w1 _ (walks_zip rt rl (fun H' k => tpI_at ht k) fun H' k => lsI_at hl k)⟩
            · cases e
              cases r with
              | ktu ht rt => exact ⟨_, _, _, _, rfl, ht.sq, hl.sq, h1.ok w1 _ (walks_zip rt rl (fun H' k => ktI_at ht k) fun H' k => lsI_at hl k)⟩
            · cases e
    · exact h1.elim
  · exact h1.elim
end
end Fu

end
section
set_option Elab.async false
set_option linter.all false
set_option maxRecDepth 100000
set_option maxHeartbeats 4000000
namespace Fu
open PySem PySem.Spec PyProof.Rows L2
open He (ga)
section
variable {K : PySem.W.Frag} {E : XW} {F O : Addr → Prop} {H H' H1 H3 : Hp} {φ φ' φ1 : List Addr} {S S' S1 : AS} {M M' : Addr → Prop} {η : Sls} {σ : L2.St}
/-- x[i] = e, x a slot's own list -/
def ownSet (i : Nat) (fi fe : FE) : FS := fun η S => lift (fe η S) η fun p S => match η[i]? with
  | some (.own xs) => lift (fi η S) η fun q S => match q with
    | .int k => match ixN xs.length k with
      | some j => .nx (η.set i (.own (xs.set j p))) S
      | none => .stuck
    | _ => .stuck
  | _ => .stuck
theorem ss_ownSet {i : Nat} {te ti : TE} {fe fi : FE} (a : SimE K E te fe) (b : SimB K E ti fi) : SimS K E (tAsg te (gSub (tVar i) ti rSetL)) (ownSet i fi fe) := fun H φ S F η σ D w h => by
  refine a H φ S _ _ η σ _ w.wf (fun _ z => .inr z) w.re ((GoS.lift w h).imp fun p φ1 S1 H1 e1 w1 h1 v rv => ?_)
  obtain ⟨h1, ws⟩ := h1
  split at h1
  · rename_i xs e
    obtain ⟨ad, us, q1, q2, q3, _⟩ := ws.re.own i xs e
    refine ⟨_, q1, ?_⟩
    refine b H1 φ1 S1 _ _ η σ _ ws.wf (fun _ z => .inr z) ws.re ((GoS.lift ws h1).imp fun q φ2 S2 H2 e2 w2 h2 y ry => ?_)
    obtain ⟨h2, ws2⟩ := h2
    split at h2
    · split at h2
      · rename_i k j ej
        obtain rfl := ry.int
        obtain ⟨ad', us', f1, f2, f3, _⟩ := ws2.re.own i xs e
        rw [q1] at f1
        cases f1
        obtain ⟨ws3, ev3⟩ := ws2.own (ys := xs.set j p) (ws := us'.set j v) e q1 f2 (f3.set (e2.rv rv) j)
        exact ⟨ad, us', _, j, rfl, rfl, f2, by rw [f3.len]; exact ej, h2 φ2 _ σ ev3 ws3⟩
      · exact h2.elim
    · exact h2.elim
  · exact (show False from h1).elim
/-! ### what a def leaves behind, forgotten -/
mutual
def lt (n : Nat) : PV → Bool
  | .ref m => decide (m < n)
  | .tup xs => lts n xs
  | .ktu xs => lts n xs
  | .lst xs => lts n xs
  | .kls xs => lts n xs
  | _ => true
def lts (n : Nat) : List PV → Bool
  | [] => true
  | p :: ps => lt n p && lts n ps
end
mutual
theorem RV.lt {p : PV} {v : V} (r : RV K H φ M p v) : Fu.lt φ.length p = true := by
  cases r with
  | ref h => unfold Fu.lt; exact decide_eq_true (List.getElem?_eq_some_iff.mp h).1
  | tup _ rs => unfold Fu.lt; exact rs.lts
  | ktu _ rs => unfold Fu.lt; exact rs.lts
  | lst _ rs => unfold Fu.lt; exact rs.lts
  | kls _ rs => unfold Fu.lt; exact rs.lts
  | _ => rfl
theorem RVs.lts {ps : List PV} {vs : List V} (r : RVs K H φ M ps vs) : Fu.lts φ.length ps = true := by
  cases r with
  | nil => rfl
  | cons r rs => unfold Fu.lts; rw [r.lt, rs.lts] <;> rfl
end
mutual
theorem RV.cut {n : Nat} {p : PV} {v : V} (hm : ∀ a, M' a → M a) (r : RV K H φ M p v) (h : Fu.lt n p = true) : RV K H (φ.take n) M' p v := by
  cases r with
  | non => exact .non
  | bl => exact .bl
  | int => exact .int
  | str => exact .str
  | ty => exact .ty
  | con => exact .con
  | ref e => unfold Fu.lt at h; exact .ref (by rw [List.getElem?_take, if_pos (of_decide_eq_true h)]; exact e)
  | tup e rs => unfold Fu.lt at h; exact .tup ⟨e.1, fun z => e.2 (hm _ z)⟩ (rs.cut' hm h)
  | ktu e rs => unfold Fu.lt at h; exact .ktu (e.imp (fun z => ⟨z.1, fun y => z.2 (hm _ y)⟩) id) (rs.cut' hm h)
  | lst e rs => unfold Fu.lt at h; exact .lst ⟨e.1, fun z => e.2 (hm _ z)⟩ (rs.cut' hm h)
  | kls e rs => unfold Fu.lt at h; exact .kls (e.imp (fun z => ⟨z.1, fun y => z.2 (hm _ y)⟩) id) (rs.cut' hm h)
theorem RVs.cut' {n : Nat} {ps : List PV} {vs : List V} (hm : ∀ a, M' a → M a) (r : RVs K H φ M ps vs) (h : Fu.lts n ps = true) : RVs K H (φ.take n) M' ps vs := by
  cases r with
  | nil => exact .nil
  | cons r rs =>
    unfold Fu.lts at h
    rw [Bool.and_eq_true] at h
    exact .cons (r.cut hm h.1) (rs.cut' hm h.2)
end
def ltO (n : Nat) : AO → Bool
  | .lst xs => lts n xs
  | .dic kvs => kvs.all fun kv => lt n kv.2
  | .dct kvs => kvs.all fun kv => lt n kv.2
  | .ins _ fs => fs.all fun f => lt n f.2
theorem RFs.cut {n : Nat} (hm : ∀ a, M' a → M a) : ∀ {p q}, RFs K H φ M p q → (p.all fun f => Fu.lt n f.2) = true → RFs K H (φ.take n) M' p q
  | _, _, .nil, _ => .nil
  | _, _, .cons r rs, h => by
    rw [List.all_cons, Bool.and_eq_true] at h
    exact .cons (r.cut hm h.1) (rs.cut hm h.2)
theorem RKs.cut {n : Nat} (hm : ∀ a, M' a → M a) : ∀ {p q}, RKs K H φ M p q → (p.all fun f => Fu.lt n f.2) = true → RKs K H (φ.take n) M' p q
  | _, _, .nil, _ => .nil
  | _, _, .cons e r rs, h => by
    rw [List.all_cons, Bool.and_eq_true] at h
    exact .cons e (r.cut hm h.1) (rs.cut hm h.2)
theorem RTs.cut {n : Nat} (hm : ∀ a, M' a → M a) : ∀ {p q}, RTs K H φ M p q → (p.all fun f => Fu.lt n f.2) = true → RTs K H (φ.take n) M' p q
  | _, _, .nil, _ => .nil
  | _, _, .cons e r rs, h => by
    rw [List.all_cons, Bool.and_eq_true] at h
    exact .cons e (r.cut hm h.1) (rs.cut hm h.2)
theorem RO.cut {n : Nat} (hm : ∀ a, M' a → M a) {o : AO} {ho : HO} (r : RO K H φ M o ho) (h : ltO n o = true) : RO K H (φ.take n) M' o ho := by
  cases r with
  | lst r => exact .lst (r.cut' hm h)
  | dK r => exact .dK (r.cut hm h)
  | dT r => exact .dT (r.cut hm h)
  | ins r => exact .ins (r.cut hm h)
theorem RFs.lts : ∀ {p q}, RFs K H φ M p q → (p.all fun f => Fu.lt φ.length f.2) = true
  | _, _, .nil => rfl
  | _, _, .cons r rs => by rw [List.all_cons, r.lt, rs.lts] <;> rfl
theorem RKs.lts : ∀ {p q}, RKs K H φ M p q → (p.all fun f => Fu.lt φ.length f.2) = true
  | _, _, .nil => rfl
  | _, _, .cons _ r rs => by rw [List.all_cons, r.lt, rs.lts] <;> rfl
theorem RTs.lts : ∀ {p q}, RTs K H φ M p q → (p.all fun f => Fu.lt φ.length f.2) = true
  | _, _, .nil => rfl
  | _, _, .cons _ r rs => by rw [List.all_cons, r.lt, rs.lts] <;> rfl
theorem RO.lt {o : AO} {ho : HO} (r : RO K H φ M o ho) : ltO φ.length o = true := by
  cases r with
  | lst r => exact r.lts
  | dK r => exact r.lts
  | dT r => exact r.lts
  | ins r => exact r.lts
/-- what was there ahead of a call names nothing that came later -/
def Cuts (S S' : AS) (p : PV) : Prop := lt S.length p = true ∧ S.length ≤ S'.length ∧ ∀ m, m < S.length → S'[m]? = S[m]? ∨ ∃ o, S'[m]? = some (some o) ∧ ltO S.length o = true
open Classical in
noncomputable def trim (f : Fn) : Fn := fun ps S => match f ps S with
  | .ok p S' => if Cuts S S' p then .ok p (S'.take S.length) else .ok p S'
  | r => r
theorem trim_ok {f : Fn} {ps : List PV} {S S' : AS} {p : PV} (e : f ps S = .ok p S') (c : Cuts S S' p) : trim f ps S = .ok p (S'.take S.length) := by
  unfold trim
  rw [e]
  exact if_pos c
theorem trim_sp {n : Nat} {f : Fn} {vs : List V} {Q : VK} {X : XK} (h : spF K n (trim f) vs H Q X) : spF K n f vs H Q X := by
  obtain ⟨φ, S, F, ps, e, w, rs, g⟩ := h
  refine ⟨φ, S, F, ps, e, w, rs, ?_⟩
  unfold trim at g
  cases q : f ps S with
  | exc c fs S' => rw [q] at g; exact g
  | stuck => rw [q] at g; exact g
  | ok p S' =>
    rw [q] at g
    dsimp only at g
    split at g
    · rename_i c
      obtain ⟨c1, c2, c3⟩ := c
      intro φ1 H1 ev w1 v rv
      have hS : ∀ (m : Nat) (o : AO), (S'.take S.length)[m]? = some (some o) → m < S.length ∧ S'[m]? = some (some o) := fun m o e => by
        rw [List.getElem?_take] at e
        split at e
        · exact ⟨by assumption, e⟩
        · cases e
      have hφ : ∀ (m : Nat) a, (φ1.take S.length)[m]? = some a → φ1[m]? = some a := fun m a e => by
        rw [List.getElem?_take] at e
        split at e
        · exact e
        · cases e
      have hl : ∀ a, Lv (φ1.take S.length) (S'.take S.length) a → Lv φ1 S' a := fun a ⟨m, o, e1, e2⟩ => ⟨m, o, (hS m o e1).2, hφ m a e2⟩
      have hm : ∀ a, uni (Lv (φ1.take S.length) (S'.take S.length)) F a → uni (Lv φ1 S') F a := fun a z => z.imp (hl a) id
      refine g (φ1.take S.length) H1 ⟨ev.stay, fun a h m => ?_, fun m a z => ?_⟩ ⟨?_, fun m o z => ?_, fun m l a o u z1 z2 z3 z4 => ?_, fun a z => ?_⟩ v (rv.cut hm c1)
      · obtain ⟨q1, q2⟩ := ev.keep a h m
        exact ⟨q1, fun z => q2 (hl a z)⟩
      · have lt : m < S.length := by rw [← w.len]; exact (List.getElem?_eq_some_iff.mp z).1
        rw [List.getElem?_take, if_pos lt]
        exact ev.pre m a z
      · rw [List.length_take, List.length_take, w1.len]
      · obtain ⟨lt, z⟩ := hS m o z
        obtain ⟨a, ho, q1, q2, q3⟩ := w1.live m o z
        refine ⟨a, ho, by rw [List.getElem?_take, if_pos lt]; exact q1, q2, q3.cut hm ?_⟩
        rcases c3 m lt with q | ⟨o', q, ql⟩
        · rw [z] at q
          obtain ⟨_, _, _, _, r⟩ := w.live m o q.symm
          rw [← w.len]
          exact r.lt
        · rw [z] at q
          cases q
          exact ql
      · exact w1.inj m l a o u (hS m o z1).2 (hS l u z2).2 (hφ m a z3) (hφ l a z4)
      · obtain ⟨q1, q2⟩ := w1.away a z
        exact ⟨q1, fun z => q2 (hl a z)⟩
    · exact g
/-! ### the law's own def -/
theorem rvs_ints : ∀ ns : List Int, RVs K H φ M (ns.map .int) (ns.map V.int)
  | [] => .nil
  | _ :: ns => .cons .int (rvs_ints ns)
theorem no_lv {a : Addr} : ¬ uni (Lv [] []) (fun _ => False) a := fun z => z.elim (fun ⟨n, o, e, _⟩ => by cases e) id
theorem law_sp {fn : Fn} (hf : ∀ (ns : List Int) (p : PV), ns.length ≤ 63 → items p [] = some (ns.map .int) → ∃ S', fn [p] [] = .ok (.bl true) S') {vs : List V} {Q : VK} {a : Addr} {ns : List Int} (e : vs = [V.ref a]) (hs : SqL K H a (ns.map V.int)) (hn : ns.length ≤ 63) (q : ∀ H', Q (.bl true) H') :
    spF K 1 fn vs H Q (fun _ _ _ => False) := by
  subst e
  have w : WF K H [] [] (fun _ => False) := ⟨rfl, fun n o e => (by cases e), fun n m a o u e => (by cases e), fun _ z => z.elim⟩
  obtain ⟨p, ep, rp⟩ : ∃ p, items p [] = some (ns.map .int) ∧ RV K H [] (uni (Lv [] []) (fun _ => False)) p (.ref a) := by
    rcases hs with (hs | ⟨o, hs⟩) | hs
    · exact ⟨.lst (ns.map .int), rfl, .lst ⟨hs, no_lv⟩ (rvs_ints ns)⟩
    · exact ⟨.kls (ns.map .int), rfl, .kls (.inl ⟨⟨o, hs⟩, no_lv⟩) (rvs_ints ns)⟩
    · exact ⟨.kls (ns.map .int), rfl, .kls (.inr hs) (rvs_ints ns)⟩
  obtain ⟨S', e⟩ := hf ns p hn ep
  refine ⟨[], [], fun _ => False, [p], rfl, w, .cons rp .nil, ?_⟩
  rw [e]
  intro φ' H' _ _ v rv
  cases rv
  exact q H'
theorem law_of {P : Program} {w : World} {mg : Str → Option Value} {base : Heap} {k : Nat} {f : Addr} {fd : FuncData} {fn : Fn} (G : FnOk P w K mg base (L2N.CX P w) k f fd ["_law_script"] (spF K 1 fn))
    (hf : ∀ (ns : List Int) (p : PV), ns.length ≤ 63 → items p [] = some (ns.map .int) → ∃ S', fn [p] [] = .ok (.bl true) S') :
    FnOk P w K mg base CX0 k f fd ["_law_script"] (fun vs H Q _ => ∃ (a : Addr) (ns : List Int), vs = [.ref a] ∧ SqL K H a (ns.map V.int) ∧ ns.length ≤ 63 ∧ ∀ H', Q (.bl true) H') where
  len := fun vs H Q E ⟨a, ns, e, _⟩ => by rw [e]; rfl
  run := fun A outer s H args us vs Q E hr e0 hb hv ⟨a, ns, e, hs, hn, q⟩ => by
    refine codeAny_mono (G.run A outer s H args us vs Q (fun _ _ _ => False) hr e0 hb hv (law_sp hf e hs hn q)) fun r s' hq => ?_
    cases r with
    | ok fl => cases fl <;> exact hq
    | error er =>
      obtain ⟨_, _, _, _, _, _, _, _, _, _, _, z⟩ := (show L2N.CX P w outer H s (fun _ _ _ => False) er s' from hq)
      obtain ⟨_, z⟩ := z
      first | exact z.elim | exact z.2.elim
end
end Fu

end
section
set_option Elab.async false
set_option linter.all false
set_option maxRecDepth 100000
set_option maxHeartbeats 4000000
/-! The functions evaluated by simp. -/
namespace Fu
open PySem PySem.Spec PyProof.Rows L2
/-- an opaque guard: the kernel must not count up to it -/
structure RngP (j : Int) : Prop where
  lo : -(2 ^ 62) ≤ j
  hi : j < 2 ^ 62
noncomputable instance {j : Int} : Decidable (RngP j) := Classical.propDecidable _
@[simp] theorem rng_ok {j : Int} (h : -1000000000 ≤ j ∧ j ≤ 1000000000) : RngP j := ⟨by omega, by omega⟩
section
variable {η η' : Sls} {S S' : AS} {i j n : Nat} {p q : PV} {α : Type}
@[simp] theorem pureR_ok {a : α} : pureR (.ok a S) = .ok a S := rfl
@[simp] theorem pureR_stuck : pureR (.stuck : R α) = .stuck := rfl
@[simp] theorem pureR_exc {c : Str} {fs : List (Str × PV)} : pureR (.exc c fs S : R α) = .stuck := rfl
@[simp] theorem ofO_none : (ofO none S : R α) = .stuck := rfl
@[simp] theorem e_var : varF i η S = (match η[i]? with | some (.val p) => .ok p S | _ => .stuck) := rfl
@[simp] theorem e_bvar : bvarF i η S = (match η[i]? with | some (.val p) => .ok p S | some (.own xs) => .ok (.lst xs) S | _ => .stuck) := rfl
@[simp] theorem e_c : cF p η S = .ok p S := rfl
@[simp] theorem e_op {g : PV → PV → AS → R PV} {a b : FE} : opF g a b η S = (a η S).bind fun p S => (b η S).bind fun q S => pureR (g p q S) := rfl
@[simp] theorem e_un {g : PV → AS → R PV} {a : FE} : unF g a η S = (a η S).bind fun p S => pureR (g p S) := rfl
@[simp] theorem e_cb {g : List PV → AS → R PV} {a : FA} : callB g a η S = (a η S).bind fun p S => pureR (g p S) := rfl
@[simp] theorem e_toB {b : Bool} : toB (.bl b) S = .ok b S := rfl
@[simp] theorem e_tst {f : FE} : tstF f η S = (f η S).bind toB := rfl
@[simp] theorem e_andT {a b : FT} : andT a b η S = (a η S).bind fun c S => if c = true then b η S else .ok false S := rfl
@[simp] theorem e_orT {a b : FT} : orT a b η S = (a η S).bind fun c S => if c = true then .ok true S else b η S := rfl
@[simp] theorem e_notT {a : FT} : notT a η S = (a η S).bind fun c S => .ok (!c) S := rfl
@[simp] theorem e_and {a b : FE} : andF a b η S = (a η S).bind fun p S => (toB p S).bind fun c S => if c = true then b η S else .ok (.bl false) S := rfl
@[simp] theorem e_or {a b : FE} : orF a b η S = (a η S).bind fun p S => (toB p S).bind fun c S => if c = true then .ok (.bl true) S else b η S := rfl
@[simp] theorem e_not {a : FE} : notF a η S = (a η S).bind fun p S => (toB p S).bind fun c S => .ok (.bl (!c)) S := rfl
@[simp] theorem e_if {c : FT} {a b : FE} : ifF c a b η S = (c η S).bind fun d S => if d = true then a η S else b η S := rfl
@[simp] theorem e_nilA : nilA η S = .ok [] S := rfl
@[simp] theorem e_consA {a : FE} {r : FA} : consA a r η S = (a η S).bind fun p S => (r η S).bind fun ps S => .ok (p :: ps) S := rfl
@[simp] theorem e_tup {a : FA} : tupF a η S = (a η S).bind fun ps S => if ps.length ≤ 1000000 then .ok (.tup ps) S else .stuck := rfl
@[simp] theorem e_lstN {a : FA} : lstN a η S = (a η S).bind fun ps S => if ps.length ≤ 1000000 then .ok ps S else .stuck := rfl
@[simp] theorem e_valN {f : FN} : valN f η S = (f η S).bind fun xs S => .ok (.lst xs) S := rfl
@[simp] theorem e_liveF {f : FN} : liveF f η S = (match f η S with | .ok xs S' => .ok (.ref S'.length) (S' ++ [some (.lst xs)]) | .exc c fs S' => .exc c fs S' | .stuck => .stuck) := rfl
@[simp] theorem e_addN {f g : FE} : addN f g η S = (f η S).bind fun p S => (g η S).bind fun q S => match p, q with | .lst xs, .lst ys => if xs.length + ys.length ≤ 1000000 then .ok (xs ++ ys) S else .stuck | _, _ => .stuck := rfl
@[simp] theorem e_listN {f : FA} : listN f η S = (f η S).bind fun ps S => match ps with | [p] => ofO (items p S) S | _ => .stuck := rfl
@[simp] theorem e_compN {fi : FI} {vs : List Nat} {g : FGx} {t : FT} {e : FE} : compN fi vs g t e η S = (fi η S).bind fun ps S => compL g t e ps [] (wipeS η vs) S := rfl
@[simp] theorem e_noneO : noneO η S = .ok none S := rfl
@[simp] theorem e_someO {a : FE} : someO a η S = (a η S).bind fun p S => match p with | .int i => .ok (some i) S | _ => .stuck := rfl
@[simp] theorem e_sl {g : PV → Option Int → Option Int → AS → R PV} {a : FE} {l h : FO} : slF g a l h η S = (a η S).bind fun p S => (l η S).bind fun l S => (h η S).bind fun u S => pureR (g p l u S) := rfl
@[simp] theorem e_callN {f : Fn} {a : FA} : callN n f a η S = (a η S).bind fun ps S => if ps.length = n then f ps S else .stuck := rfl
@[simp] theorem e_fld {c f : Str} {a : FE} : fldF c f a η S = (a η S).bind fun p S => fldG c f p S := rfl
@[simp] theorem e_seq {f g : FS} : seqS f g η S = (match f η S with | .nx η S => g η S | r => r) := rfl
@[simp] theorem e_next : nextS η S = .nx η S := rfl
@[simp] theorem e_asg {f : FE} {g : FG} : asgS f g η S = lift (f η S) η fun p S => onlyNx (g p η S) fun η S => .nx η S := rfl
@[simp] theorem e_ifS {c : FT} {f g : FS} : ifS c f g η S = lift (c η S) η fun b S => if b = true then f η S else g η S := rfl
@[simp] theorem e_ret {f : FE} : retS f η S = lift (f η S) η fun p S => .rt p S := rfl
@[simp] theorem e_retN : retN η S = .rt .non S := rfl
@[simp] theorem e_expr {f : FE} : exprS f η S = lift (f η S) η fun _ S => .nx η S := rfl
@[simp] theorem e_forS {fi : FI} {g : FG} {b : FS} : forS fi g b η S = lift (fi η S) η fun ps S => forL g b ps η S := rfl
@[simp] theorem e_nameG : nameG i p η S = .nx (η.set i (.val p)) S := rfl
@[simp] theorem e_nilG : nilG [] η S = .nx η S := rfl
@[simp] theorem e_consG {g : FG} {r : List PV → Sls → AS → RF} {ps : List PV} : consG g r (p :: ps) η S = onlyNx (g p η S) fun η S => r ps η S := rfl
@[simp] theorem e_tupG {g : List PV → Sls → AS → RF} {ps : List PV} : tupG n g (.tup ps) η S = if ps.length = n then g ps η S else .stuck := rfl
@[simp] theorem e_ktuG {g : List PV → Sls → AS → RF} {ps : List PV} : tupG n g (.ktu ps) η S = if ps.length = n then g ps η S else .stuck := rfl
@[simp] theorem e_ownS {f : FN} : ownS i f η S = lift (f η S) η fun xs S => .nx (η.set i (.own xs)) S := rfl
@[simp] theorem e_ownApp {f : FE} : ownApp i f η S = (match η[i]? with | some (.own xs) => lift (f η S) η fun p S => if xs.length < 1000000 then .nx (η.set i (.own (xs ++ [p]))) S else .stuck | _ => .stuck) := rfl
@[simp] theorem e_ownSet {fi fe : FE} : ownSet i fi fe η S = lift (fe η S) η fun p S => (match η[i]? with | some (.own xs) => (lift (fi η S) η fun q S => (match q with | .int k => (match ixN xs.length k with | some j => .nx (η.set i (.own (xs.set j p))) S | none => .stuck) | _ => .stuck)) | _ => .stuck) := rfl
@[simp] theorem e_frzS {f : FS} : frzS i f η S = (match η[i]? with | some (.own xs) => f (η.set i (.val (.lst xs))) S | _ => f η S) := rfl
@[simp] theorem e_anyI {f : FE} : anyI f η S = (f η S).bind fun p S => ofO (witems p) S := rfl
@[simp] theorem e_range1 {f : FA} : range1I f η S = (f η S).bind fun ps S => match ps with | [.int j] => if RngP j then .ok (rangeL 0 j.toNat) S else .stuck | _ => .stuck := by
  unfold range1I
  congr 1
  funext ps S
  rcases ps with _ | ⟨p, _ | ⟨q, r⟩⟩
  · rfl
  · cases p <;> try rfl
    rename_i j
    dsimp only
    by_cases h : -(2 ^ 62) ≤ j ∧ j < 2 ^ 62
    · rw [if_pos h, if_pos ⟨h.1, h.2⟩]
    · rw [if_neg h, if_neg (fun z => h ⟨z.lo, z.hi⟩)]
  · cases p <;> rfl
@[simp] theorem e_zipI {f : FA} : zipI f η S = (f η S).bind fun ps S => match ps with | [p, .lst ys] => (match tupItems p with | some xs => .ok (pairs xs ys) S | none => .stuck) | _ => .stuck := rfl
@[simp] theorem e_lm {g : PV → List PV → AS → R PV} {o : FE} {a : FA} : lmF g o a η S = (o η S).bind fun p S => if isLst p S = true then (a η S).bind fun ps S => pureR (g p ps S) else .stuck := rfl
@[simp] theorem e_nameX : nameX i p η = some (η.set i (.val p)) := rfl
@[simp] theorem e_yes : yesT η S = .ok true S := rfl
@[simp] theorem e_dnewT : dnewT η S = .ok (.ref S.length) (S ++ [some (.dct [])]) := rfl
@[simp] theorem e_setd {o a b : FE} : setdF o a b η S = (o η S).bind fun p S => if isDct p S = true then (a η S).bind fun k S => (b η S).bind fun d S => setdG p k d S else .stuck := rfl
@[simp] theorem e_getd {o a b : FE} : getdF o a b η S = (o η S).bind fun p S => if isDct p S = true then (a η S).bind fun k S => (b η S).bind fun d S => getdG p k d S else .stuck := rfl
@[simp] theorem e_breakS : breakS η S = .bk η S := rfl
@[simp] theorem e_contS : contS η S = .ct η S := rfl
@[simp] theorem e_stuckS : stuckS η S = .stuck := rfl
-- by values
@[simp] theorem g_addI {a b : Int} : addG (.int a) (.int b) S = .ok (.int (a + b)) S := rfl
@[simp] theorem g_addS {a b : Str} : addG (.str a) (.str b) S = if a.length + b.length ≤ 1000000 then .ok (.str (a ++ b)) S else .stuck := rfl
@[simp] theorem g_addT {a b : List PV} : addG (.tup a) (.tup b) S = if a.length + b.length ≤ 1000000 then .ok (.tup (a ++ b)) S else .stuck := rfl
@[simp] theorem g_addL {a b : List PV} : addG (.lst a) (.lst b) S = if a.length + b.length ≤ 1000000 then .ok (.lst (a ++ b)) S else .stuck := rfl
@[simp] theorem g_int {C : Int → Int → Bool} {g : Int → Int → PV} {a b : Int} : intG C g (.int a) (.int b) S = if C a b = true then .ok (g a b) S else .stuck := rfl
@[simp] theorem g_int0 {g : Int → Int → PV} {a b : Int} : int0G g (.int a) (.int b) S = .ok (g a b) S := rfl
@[simp] theorem g_eqI {g : Bool → Bool} {a b : Int} : eqG g (.int a) (.int b) S = .ok (.bl (g (decide (a = b)))) S := rfl
@[simp] theorem g_eqS {g : Bool → Bool} {a b : Str} : eqG g (.str a) (.str b) S = .ok (.bl (g (decide (a = b)))) S := rfl
@[simp] theorem g_eqB {g : Bool → Bool} {a b : Bool} : eqG g (.bl a) (.bl b) S = .ok (.bl (g (decide (a = b)))) S := rfl
@[simp] theorem g_isN {g : Bool → Bool} : isG g p .non S = .ok (.bl (g (isNon p))) S := rfl
@[simp] theorem g_isB {g : Bool → Bool} {b : Bool} : isG g p (.bl b) S = .ok (.bl (g (isBl b p))) S := rfl
@[simp] theorem g_notN : notNG p .non S = .ok (.bl (!isNon p)) S := rfl
@[simp] theorem g_ixL {xs : List PV} {k : Int} : ixG (.lst xs) (.int k) S = ofO (atI xs k) S := rfl
@[simp] theorem g_ixT {xs : List PV} {k : Int} : ixG (.tup xs) (.int k) S = ofO (atI xs k) S := rfl
@[simp] theorem g_ixK {xs : List PV} {k : Int} : ixG (.ktu xs) (.int k) S = ofO (atI xs k) S := rfl
@[simp] theorem g_ixR {k : Int} : ixG (.ref n) (.int k) S = (match S[n]? with | some (some (.lst xs)) => ofO (atI xs k) S | _ => .stuck) := rfl
@[simp] theorem g_lenL {xs : List PV} : lenG [.lst xs] S = .ok (.int xs.length) S := rfl
@[simp] theorem g_lenT {xs : List PV} : lenG [.tup xs] S = .ok (.int xs.length) S := rfl
@[simp] theorem g_lenK {xs : List PV} : lenG [.ktu xs] S = .ok (.int xs.length) S := rfl
@[simp] theorem g_lenS {z : Str} : lenG [.str z] S = if z.length ≤ 1000000 then .ok (.int z.length) S else .stuck := rfl
@[simp] theorem g_abs {a : Int} : absG [.int a] S = .ok (.int (if a < 0 then -a else a)) S := rfl
@[simp] theorem g_intI {a : Int} : intC [.int a] S = .ok (.int a) S := rfl
@[simp] theorem g_intB {b : Bool} : intC [.bl b] S = .ok (.int (if b then 1 else 0)) S := rfl
theorem at_nat {α : Type} (xs : List α) (k : Nat) : atI xs (k : Int) = xs[k]? := by
  unfold atI ixN
  rw [if_pos (Int.natCast_nonneg k)]
  split
  · rfl
  · rename_i h
    rw [List.getElem?_eq_none (by omega)]
    rfl
@[simp] theorem at_0 {α : Type} (xs : List α) : atI xs 0 = xs[0]? := at_nat xs 0
@[simp] theorem at_1 {α : Type} (xs : List α) : atI xs 1 = xs[1]? := at_nat xs 1
@[simp] theorem at_2 {α : Type} (xs : List α) : atI xs 2 = xs[2]? := at_nat xs 2
@[simp] theorem at_3 {α : Type} (xs : List α) : atI xs 3 = xs[3]? := at_nat xs 3
@[simp] theorem at_4 {α : Type} (xs : List α) : atI xs 4 = xs[4]? := at_nat xs 4
@[simp] theorem at_5 {α : Type} (xs : List α) : atI xs 5 = xs[5]? := at_nat xs 5
@[simp] theorem at_6 {α : Type} (xs : List α) : atI xs 6 = xs[6]? := at_nat xs 6
@[simp] theorem at_7 {α : Type} (xs : List α) : atI xs 7 = xs[7]? := at_nat xs 7
theorem at_int {α : Type} (xs : List α) {k : Int} (h0 : 0 ≤ k) : atI xs k = xs[k.toNat]? := by
  have e : k = (k.toNat : Int) := by omega
  rw [e, at_nat, Int.toNat_natCast]
end
/-! ### loops -/
theorem forL_ok {g : FG} {b : FS} (I : Nat → Sls → AS → Prop) (Rt : PV → AS → Prop) : ∀ (ps : List PV) (η : Sls) (S : AS) (k : Nat), (∀ (i : Nat) p η S, ps[i]? = some p → I (k + i) η S → ∃ η1 S1, g p η S = .nx η1 S1 ∧ ((∃ η2 S2, b η1 S1 = .nx η2 S2 ∧ I (k + i + 1) η2 S2) ∨ ∃ v S2, b η1 S1 = .rt v S2 ∧ Rt v S2)) → I k η S →
    (∃ η' S', forL g b ps η S = .nx η' S' ∧ I (k + ps.length) η' S') ∨ ∃ v S', forL g b ps η S = .rt v S' ∧ Rt v S'
  | [], η, S, k, _, h => .inl ⟨η, S, rfl, h⟩
  | p :: ps, η, S, k, hs, h => by
    obtain ⟨η1, S1, e1, h1⟩ := hs 0 p η S rfl h
    unfold forL
    rw [e1]
    dsimp only [onlyNx]
    rcases h1 with ⟨η2, S2, e2, h2⟩ | ⟨v, S2, e2, h2⟩
    · rw [e2]
      dsimp only
      have := forL_ok I Rt ps η2 S2 (k + 1) (fun i p η S e hi => by
        have := hs (i + 1) p η S (by simpa using e) (by rw [show k + (i + 1) = k + 1 + i by omega]; exact hi)
        rw [show k + (i + 1) + 1 = k + 1 + i + 1 by omega] at this
        exact this) h2
      rw [show k + 1 + ps.length = k + (p :: ps).length by simp; omega] at this
      exact this
    · rw [e2]
      exact .inr ⟨v, S2, rfl, h2⟩
/-- a loop that goes to its end -/
theorem forL_nx {g : FG} {b : FS} (I : Nat → Sls → AS → Prop) (ps : List PV) (η : Sls) (S : AS) (hs : ∀ (i : Nat) p η S, ps[i]? = some p → I i η S → ∃ η1 S1, g p η S = .nx η1 S1 ∧ ∃ η2 S2, b η1 S1 = .nx η2 S2 ∧ I (i + 1) η2 S2) (h : I 0 η S) :
    ∃ η' S', forL g b ps η S = .nx η' S' ∧ I ps.length η' S' := by
  rcases forL_ok I (fun _ _ => False) ps η S 0 (fun i p η S e hi => by
    rw [Nat.zero_add] at hi ⊢
    obtain ⟨η1, S1, a, b⟩ := hs i p η S e hi
    exact ⟨η1, S1, a, .inl b⟩) h with h | ⟨_, _, _, z⟩
  · rw [Nat.zero_add] at h
    exact h
  · exact z.elim
theorem compL_ok {g : FGx} {t : FT} {e : FE} {η : Sls} (I : Nat → List PV → AS → Prop) : ∀ (ps acc : List PV) (S : AS) (k : Nat), (∀ (i : Nat) p acc S, ps[i]? = some p → I (k + i) acc S → ∃ η2, g p η = some η2 ∧ ((∃ S1, t η2 S = .ok false S1 ∧ I (k + i + 1) acc S1) ∨ ∃ S1 q S2, t η2 S = .ok true S1 ∧ e η2 S1 = .ok q S2 ∧ acc.length < 1000000 ∧ I (k + i + 1) (acc ++ [q]) S2)) → I k acc S →
    ∃ xs S', compL g t e ps acc η S = .ok xs S' ∧ I (k + ps.length) xs S'
  | [], acc, S, k, _, h => ⟨acc, S, rfl, h⟩
  | p :: ps, acc, S, k, hs, h => by
    obtain ⟨η2, e1, h1⟩ := hs 0 p acc S rfl h
    have step : ∀ acc' S', I (k + 1) acc' S' → ∃ xs S'', compL g t e ps acc' η S' = .ok xs S'' ∧ I (k + (p :: ps).length) xs S'' := fun acc' S' hi => by
      have := compL_ok I ps acc' S' (k + 1) (fun i p acc S e hi => by
        have := hs (i + 1) p acc S (by simpa using e) (by rw [show k + (i + 1) = k + 1 + i by omega]; exact hi)
        rw [show k + (i + 1) + 1 = k + 1 + i + 1 by omega] at this
        exact this) hi
      rw [show k + 1 + ps.length = k + (p :: ps).length by simp; omega] at this
      exact this
    unfold compL
    rw [e1]
    dsimp only
    rcases h1 with ⟨S1, e2, h2⟩ | ⟨S1, q, S2, e2, e3, hl, h2⟩
    · rw [e2]
      exact step acc S1 h2
    · rw [e2]
      dsimp only [pureR, R.bind_ok]
      rw [if_pos rfl, e3]
      dsimp only [pureR, R.bind_ok]
      rw [if_pos hl]
      exact step _ S2 h2
/-- a comprehension whose parts change nothing -/
theorem compL_map {g : FGx} {t : FT} {e : FE} {η : Sls} {S : AS} (c : PV → Bool) (h : PV → PV) : ∀ (ps acc : List PV), (∀ p ∈ ps, ∃ η2, g p η = some η2 ∧ t η2 S = .ok (c p) S ∧ (c p = true → e η2 S = .ok (h p) S)) → acc.length + ps.length ≤ 1000000 → compL g t e ps acc η S = .ok (acc ++ (ps.filter c).map h) S
  | [], acc, _, _ => by
    show R.ok acc S = _
    simp
  | p :: ps, acc, hs, hl => by
    obtain ⟨η2, e1, e2, e3⟩ := hs p List.mem_cons_self
    have ih := fun acc' hl' => compL_map c h ps acc' (fun q hq => hs q (List.mem_cons_of_mem _ hq)) hl'
    have hl' : acc.length + (ps.length + 1) ≤ 1000000 := by simpa using hl
    unfold compL
    rw [e1]
    dsimp only
    rw [e2]
    dsimp only [pureR, R.bind_ok]
    cases hc : c p with
    | false =>
      rw [if_neg Bool.false_ne_true, ih acc (by omega), List.filter_cons_of_neg (by rw [hc]; exact Bool.false_ne_true)]
    | true =>
      rw [if_pos rfl, e3 hc]
      dsimp only [pureR, R.bind_ok]
      rw [if_pos (by omega), ih (acc ++ [h p]) (by simp; omega), List.filter_cons_of_pos hc]
      simp
end Fu

end
section
set_option Elab.async false
set_option linter.all false
set_option maxRecDepth 100000
set_option maxHeartbeats 4000000
/-! A comprehension over a list that others hold, and that stays. -/
namespace Fu
open PySem PySem.Spec PyProof.Rows L2
open He (ga)
open Classical in
noncomputable def compLR (n : Nat) (us : List PV) (g : FGx) (t : FT) (e : FE) : List PV → List PV → Sls → AS → R (List PV)
  | [], acc, _, S => if S[n]? = some (some (.lst us)) then .ok acc S else .stuck
  | p :: ps, acc, η, S => if S[n]? = some (some (.lst us)) then match g p η with
    | some η2 => (pureR (t η2 S)).bind fun b S1 => if b = true then (pureR (e η2 S1)).bind fun q S2 => if acc.length < 1000000 then compLR n us g t e ps (acc ++ [q]) η S2 else .stuck else compLR n us g t e ps acc η S1
    | none => .stuck else .stuck
noncomputable def compR (f : FE) (vs : List Nat) (g : FGx) (t : FT) (e : FE) : FN := fun η S => (f η S).bind fun p S => match p with
  | .ref n => match S[n]? with
    | some (some (.lst ps)) => compLR n ps g t e ps [] (wipeS η vs) S
    | _ => .stuck
  | _ => .stuck
section
variable {K : PySem.W.Frag} {E : XW} {F O : Addr → Prop} {H H' H1 H3 : Hp} {φ φ' φ1 : List Addr} {S S' S1 : AS} {η η' η1 : Sls} {σ σ' σ1 : L2.St} {D : Ends}
theorem sn_lcR {ti : TE} {g : TG} {tt : TT} {te : TE} {vs : List Nat} {fi : FE} {fg : FGx} {ft : FT} {fe : FE} (hi : SimE K E ti fi) (hg : SimGx K vs g fg) (ht : SimT K (fun _ _ _ _ => False) tt ft) (he : SimE K (fun _ _ _ _ => False) te fe) :
    SimN K E (tLc (iAny K ti) g tt te vs) (compR fi vs fg ft fe) := fun H φ S F O η σ Q w hO re h => by
  refine hi H φ S F O η σ _ w hO re (h.bind.imp fun pl φ1 S1 H1 e1 w1 h1 v rv => ?_)
  split at h1
  case h_2 => exact h1.elim
  rename_i n
  have hv : ∃ a, v = V.ref a := by cases rv; exact ⟨_, rfl⟩
  obtain ⟨a, rfl⟩ := hv
  have en : φ1[n]? = some a := by cases rv; assumption
  split at h1
  case h_2 => exact h1.elim
  rename_i ps eps
  obtain ⟨a', ho, ea, eh, ro⟩ := w1.live n _ eps
  have e' : a' = a := by rw [en] at ea; exact (Option.some.inj ea).symm
  rw [e'] at eh
  have hl : ∃ vs0, ho = .lst vs0 := by cases ro; exact ⟨_, rfl⟩
  obtain ⟨vs0, rfl⟩ := hl
  refine .inl ⟨_, rfl, .inl ⟨⟨_, .inl (.inl eh)⟩, fun D hD => ?_⟩⟩
  have nD : H D = none := by
    cases q : H D with
    | none => rfl
    | some o => exact (e1.stay D (by rw [q]; nofun) hD).elim
  -- the state while the list grows: F with D
  have k0 : ∀ a, H1 a ≠ none → ¬ uni (Lv φ1 S1) F a → upd H1 D (.lst []) a = H1 a ∧ ¬ uni (Lv φ1 S1) (uni F (at1 D)) a := fun a ha m => by
    have ne : a ≠ D := fun z => ha (by rw [z]; exact hD)
    exact ⟨upd_ne ne, fun z => z.elim (fun z => m (.inl z)) fun z => z.elim (fun z => m (.inr z)) ne⟩
  have w0 : WF K (upd H1 D (.lst [])) φ1 S1 (uni F (at1 D)) := by
    have w2 := w1.new (o := .lst []) hD
    refine ⟨w2.len, fun n u e => ?_, w2.inj, fun a z => z.elim (w2.away a) fun z => ?_⟩
    · obtain ⟨a, ho, e1, e2, r⟩ := w1.live n u e
      exact ⟨a, ho, e1, (upd_ne fun z => by rw [z, hD] at e2; cases e2).trans e2, r.mono k0 fun _ _ h => h⟩
    · rw [show a = D from z]
      exact ⟨by rw [upd_same]; nofun, lv_none w1 hD⟩
  have re1 := re.mono w hO e1
  have re0 : RE K (upd H1 D (.lst [])) φ1 (uni (Lv φ1 S1) (uni F (at1 D))) O η σ := ⟨re1.len, fun i p h => let ⟨v, h1, h2⟩ := re1.val i p h; ⟨v, h1, h2.mono k0 fun _ _ h => h⟩, fun i xs h => by
    obtain ⟨a, vs, h1, h2, h3, h4⟩ := re1.own i xs h
    have ne : a ≠ D := fun z => by rw [z, hD] at h2; cases h2
    exact ⟨a, vs, h1, (upd_ne ne).trans h2, h3.mono k0 fun _ _ h => h, h4⟩⟩
  generalize hr0 : compLR n ps fg ft fe ps [] (wipeS η vs) S1 = r0 at h1
  have inD : ∀ {H2 : Hp} {φ2 : List Addr} {S2 : AS} {H4 : Hp} {φ4 : List Addr} {S4 : AS}, WF K H2 φ2 S2 (uni F (at1 D)) → Ev H2 φ2 (Lv φ2 S2) H4 φ4 (Lv φ4 S4) → ∀ {us : List V}, H2 D = some (.lst us) → H4 D = some (.lst us) := fun w e us hl => (e.keep D (by rw [hl]; nofun) (w.away D (.inr rfl)).2).1.trans hl
  refine ⟨fun i m H' => m = ps.length - i ∧ i ≤ ps.length ∧ ∃ φ' S' acc us, r0 = compLR n ps fg ft fe (ps.drop i) acc (wipeS η vs) S' ∧ Ev H1 φ1 (Lv φ1 S1) H' φ' (Lv φ' S') ∧ WF K H' φ' S' (uni F (at1 D)) ∧ H' D = some (.lst us) ∧ RVs K H' φ' (uni (Lv φ' S') (uni F (at1 D))) acc us,
    ⟨_, rfl, Nat.zero_le _, φ1, S1, [], [], by rw [List.drop_zero]; exact hr0.symm, ev_new hD, w0, upd_same, .nil⟩, ?_⟩
  rintro i m H' ⟨rfl, hi, φ', S', acc, us, eq, ev, ws, hl, hr⟩
  have kk : ∀ a, H1 a ≠ none → ¬ uni (Lv φ1 S1) F a → H' a = H1 a ∧ ¬ uni (Lv φ' S') (uni F (at1 D)) a := fun a h m => by
    obtain ⟨q2, m2⟩ := ev.keep a h fun z => m (.inl z)
    have ne : a ≠ D := fun z => h (by rw [z]; exact hD)
    exact ⟨q2, fun z => z.elim m2 fun z => z.elim (fun z => m (.inr z)) ne⟩
  have hst : S'[n]? = some (some (.lst ps)) := by
    rw [eq] at h1
    by_cases q : S'[n]? = some (some (.lst ps))
    · exact q
    · cases hd : ps.drop i with
      | nil => rw [hd] at h1; unfold compLR at h1; rw [if_neg q] at h1; exact (show False from h1).elim
      | cons _ _ => rw [hd] at h1; unfold compLR at h1; rw [if_neg q] at h1; exact (show False from h1).elim
  have hw : (∀ (i : Nat) p, ps[i]? = some p → (Itl K a).go i H' ∧ ∀ x H3, (Itl K a).yld i H' x H3 → (∀ a, H' a ≠ none → H3 a = H' a) ∧ RV K H3 φ' (uni (Lv φ' S') (uni F (at1 D))) p x) ∧ (Itl K a).stop ps.length H' := by
    obtain ⟨b, ho2, eb, eh2, ro2⟩ := ws.live n _ hst
    have e' : b = a := by rw [ev.pre n a en] at eb; exact (Option.some.inj eb).symm
    rw [e'] at eh2
    cases ro2 with
    | lst rv2 =>
      have sq : SqL K H' a _ := .inl (.inl eh2)
      refine ⟨fun i p e => ?_, ⟨_, sq, by rw [← rv2.len]; exact Nat.le_refl _⟩⟩
      obtain ⟨v, e1, rv⟩ := rv2.get e
      refine ⟨⟨_, v, sq, e1⟩, fun x H3 hy => ?_⟩
      obtain ⟨rfl, hy⟩ := hy
      have := hy _ sq
      rw [e1] at this
      cases this
      exact ⟨fun _ _ => rfl, rv⟩
  by_cases hlt : i < ps.length
  · have e : ps[i]? = some ps[i] := List.getElem?_eq_getElem hlt
    obtain ⟨hgo, hy⟩ := hw.1 i _ e
    rw [List.drop_eq_getElem_cons hlt] at eq
    refine .inr ⟨hgo, fun H2 => ∃ φ2 S2 acc us, r0 = compLR n ps fg ft fe (ps.drop (i + 1)) acc (wipeS η vs) S2 ∧ Ev H1 φ1 (Lv φ1 S1) H2 φ2 (Lv φ2 S2) ∧ WF K H2 φ2 S2 (uni F (at1 D)) ∧ H2 D = some (.lst us) ∧ RVs K H2 φ2 (uni (Lv φ2 S2) (uni F (at1 D))) acc us,
      fun H2 ⟨φ2, S2, acc, us, a, b, c, d, g⟩ => ⟨_, by omega, rfl, hlt, φ2, S2, acc, us, a, b, c, d, g⟩, fun x H3 hx => ?_⟩
    obtain ⟨ext, rv⟩ := hy x H3 hx
    have w3 := ws.ext ext
    have e3 : Ev H' φ' (Lv φ' S') H3 φ' (Lv φ' S') := ev_ext ext
    have hO' : ∀ a, O a → uni F (at1 D) a := fun a z => .inl (hO a z)
    have re3 : RE K H3 φ' (uni (Lv φ' S') (uni F (at1 D))) O η σ := ⟨re1.len, fun i p h => by
      obtain ⟨v, h1, h2⟩ := re1.val i p h
      refine ⟨v, h1, h2.mono (fun a h m => ?_) ev.pre⟩
      obtain ⟨q1, m1⟩ := kk a h m
      exact ⟨(ext a (by rw [q1]; exact h)).trans q1, m1⟩, fun i xs h => by
      obtain ⟨a, vs, h1, h2, h3, h4⟩ := re1.own i xs h
      have q1 := (ev.keep a (by rw [h2]; nofun) (w1.away a (hO a h4)).2).1
      refine ⟨a, vs, h1, (ext a (by rw [q1, h2]; nofun)).trans (q1.trans h2), h3.mono (fun a h m => ?_) ev.pre, h4⟩
      obtain ⟨q1, m1⟩ := kk a h m
      exact ⟨(ext a (by rw [q1]; exact h)).trans q1, m1⟩⟩
    have hl3 : H3 D = some (.lst us) := (ext D (by rw [hl]; nofun)).trans hl
    have hr3 := hr.mono (fun a h m => ⟨ext a h, m⟩) fun _ _ h => h
    rw [eq] at h1
    unfold compLR at eq h1
    rw [if_pos hst] at eq h1
    cases q : fg ps[i] (wipeS η vs) with
    | none => rw [q] at h1; exact (show False from h1).elim
    | some η2 =>
      rw [q] at eq h1
      dsimp only at eq h1
      refine hg H3 φ' _ O _ η2 _ _ x _ (re3.wipe vs) rv q fun σ2 re2 hwi => ⟨hwi.trans (wipe_idem σ vs vs fun _ h => h), ?_⟩
      refine ht H3 φ' S' (uni F (at1 D)) O η2 σ2 _ w3 hO' re2 ?_
      cases q2 : ft η2 S' with
      | exc c fs S4 => rw [q2] at h1; exact (show False from h1).elim
      | stuck => rw [q2] at h1; exact (show False from h1).elim
      | ok b S4 =>
        rw [q2] at eq h1
        dsimp only [pureR, R.bind_ok] at eq h1
        intro φ4 H4 ev4 w4
        have l4 := inD w3 ev4 hl3
        have r4 := ev4.rvs hr3
        have ev14 := (ev.trans e3).trans ev4
        cases b with
        | false =>
          rw [if_neg Bool.false_ne_true] at eq ⊢
          exact ⟨φ4, S4, acc, us, eq, ev14, w4, l4, r4⟩
        | true =>
          rw [if_pos rfl] at eq h1 ⊢
          have re4 := re2.mono w3 hO' ev4
          refine he H4 φ4 S4 (uni F (at1 D)) O η2 σ2 _ w4 hO' re4 ?_
          cases q5 : fe η2 S4 with
          | exc c fs S5 => rw [q5] at h1; exact (show False from h1).elim
          | stuck => rw [q5] at h1; exact (show False from h1).elim
          | ok y S5 =>
            rw [q5] at eq h1
            dsimp only [pureR, R.bind_ok] at eq h1
            intro φ5 H5 ev5 w5 yv ry
            split at h1
            · rename_i hsz
              rw [if_pos hsz] at eq
              have l5 := inD w4 ev5 l4
              have r5 := ev5.rvs r4
              refine ⟨us, l5, ?_, ?_⟩
              · rw [r5.len, sizeLine_eq]
                omega
              have ev15 := ev14.trans ev5
              have hlD : ¬ Lv φ5 S5 D := (w5.away D (.inr rfl)).2
              have kw : ∀ a, H5 a ≠ none → ¬ uni (Lv φ5 S5) (uni F (at1 D)) a → upd H5 D (.lst (us ++ [yv])) a = H5 a ∧ ¬ uni (Lv φ5 S5) (uni F (at1 D)) a := fun a h m => ⟨upd_ne fun z => m (.inr (.inr z)), m⟩
              have sw : ∀ a, H5 a ≠ none → upd H5 D (.lst (us ++ [yv])) a ≠ none := fun a h => by
                by_cases e : a = D
                · subst e; rw [upd_same]; nofun
                · rw [upd_ne e]; exact h
              have w6 : WF K (upd H5 D (.lst (us ++ [yv]))) φ5 S5 (uni F (at1 D)) := by
                refine ⟨w5.len, fun n u e => ?_, w5.inj, fun a z => ?_⟩
                · obtain ⟨a, ho, e1, e2, r⟩ := w5.live n u e
                  exact ⟨a, ho, e1, (upd_ne fun z => hlD ⟨n, u, e, by rw [← z]; exact e1⟩).trans e2, r.mono kw fun _ _ h => h⟩
                · obtain ⟨h1, h2⟩ := w5.away a z
                  exact ⟨sw a h1, h2⟩
              refine ⟨φ5, S5, acc ++ [y], us ++ [yv], eq, ⟨fun a h => sw a (ev15.stay a h), fun a h m => ?_, ev15.pre⟩, w6, upd_same, (r5.append (.cons ry .nil)).mono kw fun _ _ h => h⟩
              obtain ⟨q, m'⟩ := ev15.keep a h m
              exact ⟨(upd_ne fun z => h (by rw [z]; exact hD)).trans q, m'⟩
            · exact h1.elim
  · have e : i = ps.length := by omega
    subst e
    rw [List.drop_length] at eq
    refine .inl ⟨hw.2, ?_⟩
    rw [eq] at h1
    unfold compLR at h1
    rw [if_pos hst] at h1
    exact h1 φ' H' ev (ws.less fun a z => .inl z) D us nD ws hl hr
end
/-- such a comprehension whose parts change nothing -/
theorem compLR_map {g : FGx} {t : FT} {e : FE} {η : Sls} {S : AS} {n : Nat} {us : List PV} (hS : S[n]? = some (some (.lst us))) (c : PV → Bool) (h : PV → PV) : ∀ (ps acc : List PV), (∀ p ∈ ps, ∃ η2, g p η = some η2 ∧ t η2 S = .ok (c p) S ∧ (c p = true → e η2 S = .ok (h p) S)) → acc.length + ps.length ≤ 1000000 → compLR n us g t e ps acc η S = .ok (acc ++ (ps.filter c).map h) S
  | [], acc, _, _ => by
    unfold compLR
    rw [if_pos hS]
    simp
  | p :: ps, acc, hs, hl => by
    obtain ⟨η2, e1, e2, e3⟩ := hs p List.mem_cons_self
    have ih := fun acc' hl' => compLR_map hS c h ps acc' (fun q hq => hs q (List.mem_cons_of_mem _ hq)) hl'
    have hl' : acc.length + (ps.length + 1) ≤ 1000000 := by simpa using hl
    unfold compLR
    rw [if_pos hS, e1]
    dsimp only
    rw [e2]
    dsimp only [pureR, R.bind_ok]
    cases hc : c p with
    | false =>
      rw [if_neg Bool.false_ne_true, ih acc (by omega), List.filter_cons_of_neg (by rw [hc]; exact Bool.false_ne_true)]
    | true =>
      rw [if_pos rfl, e3 hc]
      dsimp only [pureR, R.bind_ok]
      rw [if_pos (by omega), ih (acc ++ [h p]) (by simp; omega), List.filter_cons_of_pos hc]
      simp
end Fu

end
section
set_option Elab.async false
set_option linter.all false
set_option maxRecDepth 100000
set_option maxHeartbeats 4000000
namespace K24
open PySem PySem.Spec PyProof.Rows L2
open He (ga ma ba)
def top (i : Nat) : Stmt := PySem.Challenge.pw_bookstogether_k24_needs_and_modes.main.body.getD i (.Pass ⟨0, 0, 0, 0⟩)
abbrev s_wall : Stmt := top 0
abbrev s_compatible : Stmt := top 4
abbrev s_meet : Stmt := top 5
abbrev s_read_needs : Stmt := top 6
abbrev s_road_needs : Stmt := top 7
abbrev s_write_needs : Stmt := top 8
abbrev s_InvalidBook_init : Stmt := inClass (top 11) 0
abbrev s_check_option : Stmt := top 13
abbrev s_LockBook_init : Stmt := inClass (top 17) 0
abbrev s_LockBook_chosen : Stmt := inClass (top 17) 1
abbrev s_LockBook_check : Stmt := inClass (top 17) 2
abbrev s_LockBook_lines : Stmt := inClass (top 17) 3
abbrev s_LockBook_from_lines : Stmt := inClass (top 17) 4
abbrev s_box : Stmt := top 19
abbrev s_draw : Stmt := top 20
abbrev s_pick : Stmt := top 21
abbrev s_names : Stmt := top 22
abbrev s_alike : Stmt := top 23
abbrev s_lock_words : Stmt := top 24
abbrev s_lock_book : Stmt := top 25
abbrev s_lock_needs : Stmt := top 26
abbrev s_fit : Stmt := top 27
abbrev s_needs_meet : Stmt := top 28
abbrev s_modes : Stmt := top 29
abbrev s_due_read : Stmt := top 30
abbrev s_due_write : Stmt := top 31
abbrev s_numbers : Stmt := top 32
abbrev s_nodes : Stmt := top 33
abbrev s_keys : Stmt := top 34
abbrev s_read_told : Stmt := top 35
abbrev s_write_told : Stmt := top 36
abbrev s_all_meet : Stmt := top 37
abbrev s_law : Stmt := top 38
theorem sc_wall : FnScope ["k"] ["k"] (defScope s_wall) := ⟨rfl, rfl, rfl, by decide +kernel, rfl, by decide +kernel, by decide +kernel⟩
theorem sc_compatible : FnScope ["mode", "other"] ["mode", "other"] (defScope s_compatible) := ⟨rfl, rfl, rfl, by decide +kernel, rfl, by decide +kernel, by decide +kernel⟩
theorem sc_meet : FnScope ["needs", "other", "modes", "node", "mode", "held"] ["needs", "other"] (defScope s_meet) := ⟨rfl, rfl, rfl, by decide +kernel, rfl, by decide +kernel, by decide +kernel⟩
theorem sc_read_needs : FnScope ["book", "table", "road", "numbers"] ["book", "table", "road", "numbers"] (defScope s_read_needs) := ⟨rfl, rfl, rfl, by decide +kernel, rfl, by decide +kernel, by decide +kernel⟩
theorem sc_road_needs : FnScope ["book", "table", "road", "numbers", "node", "way", "by_index", "found", "number"] ["book", "table", "road", "numbers"] (defScope s_road_needs) := ⟨rfl, rfl, rfl, by decide +kernel, rfl, by decide +kernel, by decide +kernel⟩
theorem sc_write_needs : FnScope ["book", "table", "number", "nodes", "keys", "node", "marked", "checked", "mark", "key"] ["book", "table", "number", "nodes", "keys"] (defScope s_write_needs) := ⟨rfl, rfl, rfl, by decide +kernel, rfl, by decide +kernel, by decide +kernel⟩
theorem sc_InvalidBook_init : FnScope ["self", "part"] ["self", "part"] (defScope s_InvalidBook_init) := ⟨rfl, rfl, rfl, by decide +kernel, rfl, by decide +kernel, by decide +kernel⟩
theorem sc_check_option : FnScope ["part", "word", "words"] ["part", "word", "words"] (defScope s_check_option) := ⟨rfl, rfl, rfl, by decide +kernel, rfl, by decide +kernel, by decide +kernel⟩
theorem sc_LockBook_init : FnScope ["self", "read", "write", "marks", "checks", "kept", "asks", "lasts", "clash", "_", "words", "chosen"] ["self", "read", "write", "marks", "checks", "kept", "asks", "lasts", "clash"] (defScope s_LockBook_init) := ⟨rfl, rfl, rfl, by decide +kernel, rfl, by decide +kernel, by decide +kernel⟩
theorem sc_LockBook_chosen : FnScope ["self"] ["self"] (defScope s_LockBook_chosen) := ⟨rfl, rfl, rfl, by decide +kernel, rfl, by decide +kernel, by decide +kernel⟩
theorem sc_LockBook_check : FnScope ["self", "world"] ["self", "world"] (defScope s_LockBook_check) := ⟨rfl, rfl, rfl, by decide +kernel, rfl, by decide +kernel, by decide +kernel⟩
theorem sc_LockBook_lines : FnScope ["self"] ["self"] (defScope s_LockBook_lines) := ⟨rfl, rfl, rfl, by decide +kernel, rfl, by decide +kernel, by decide +kernel⟩
theorem sc_LockBook_from_lines : FnScope ["cls", "lines"] ["cls", "lines"] (defScope s_LockBook_from_lines) := ⟨rfl, rfl, rfl, by decide +kernel, rfl, by decide +kernel, by decide +kernel⟩
theorem sc_box : FnScope ["_law_script"] ["_law_script"] (defScope s_box) := ⟨rfl, rfl, rfl, by decide +kernel, rfl, by decide +kernel, by decide +kernel⟩
theorem sc_draw : FnScope ["_law_box_here", "_law_size", "_law_drawn", "_law_mixed"] ["_law_box_here", "_law_size"] (defScope s_draw) := ⟨rfl, rfl, rfl, by decide +kernel, rfl, by decide +kernel, by decide +kernel⟩
theorem sc_pick : FnScope ["_law_box_here", "_law_menu"] ["_law_box_here", "_law_menu"] (defScope s_pick) := ⟨rfl, rfl, rfl, by decide +kernel, rfl, by decide +kernel, by decide +kernel⟩
theorem sc_names : FnScope ["_law_box_here", "_law_many", "_law_letters", "_law_names_here", "_law_k", "_law_stem", "_law_j", "_law_free", "_law_sign"] ["_law_box_here", "_law_many"] (defScope s_names) := ⟨rfl, rfl, rfl, by decide +kernel, rfl, by decide +kernel, by decide +kernel⟩
theorem sc_alike : FnScope ["_law_actual", "_law_due", "_law_k"] ["_law_actual", "_law_due"] (defScope s_alike) := ⟨rfl, rfl, rfl, by decide +kernel, rfl, by decide +kernel, by decide +kernel⟩
theorem sc_lock_words : FnScope ["_law_box_here", "_law_menus", "_law_words", "_law_menu"] ["_law_box_here"] (defScope s_lock_words) := ⟨rfl, rfl, rfl, by decide +kernel, rfl, by decide +kernel, by decide +kernel⟩
theorem sc_lock_book : FnScope ["_law_words"] ["_law_words"] (defScope s_lock_book) := ⟨rfl, rfl, rfl, by decide +kernel, rfl, by decide +kernel, by decide +kernel⟩
theorem sc_lock_needs : FnScope ["_law_box_here", "_law_names_here", "_law_needs", "_law_k", "_law_kind", "_law_node"] ["_law_box_here", "_law_names_here"] (defScope s_lock_needs) := ⟨rfl, rfl, rfl, by decide +kernel, rfl, by decide +kernel, by decide +kernel⟩
theorem sc_fit : FnScope ["_law_mode", "_law_other"] ["_law_mode", "_law_other"] (defScope s_fit) := ⟨rfl, rfl, rfl, by decide +kernel, rfl, by decide +kernel, by decide +kernel⟩
theorem sc_needs_meet : FnScope ["_law_needs", "_law_other", "_law_need", "_law_held"] ["_law_needs", "_law_other"] (defScope s_needs_meet) := ⟨rfl, rfl, rfl, by decide +kernel, rfl, by decide +kernel, by decide +kernel⟩
theorem sc_modes : FnScope ["_law_mode", "_law_other"] [] (defScope s_modes) := ⟨rfl, rfl, rfl, by decide +kernel, rfl, by decide +kernel, by decide +kernel⟩
theorem sc_due_read : FnScope ["_law_words", "_law_table", "_law_road", "_law_numbers_here", "_law_node", "_law_needs", "_law_number"] ["_law_words", "_law_table", "_law_road", "_law_numbers_here"] (defScope s_due_read) := ⟨rfl, rfl, rfl, by decide +kernel, rfl, by decide +kernel, by decide +kernel⟩
theorem sc_due_write : FnScope ["_law_words", "_law_table", "_law_number", "_law_nodes_here", "_law_keys_here", "_law_needs", "_law_node", "_law_key"] ["_law_words", "_law_table", "_law_number", "_law_nodes_here", "_law_keys_here"] (defScope s_due_write) := ⟨rfl, rfl, rfl, by decide +kernel, rfl, by decide +kernel, by decide +kernel⟩
theorem sc_numbers : FnScope ["_law_box_here", "_law_numbers_here", "_law_k"] ["_law_box_here"] (defScope s_numbers) := ⟨rfl, rfl, rfl, by decide +kernel, rfl, by decide +kernel, by decide +kernel⟩
theorem sc_nodes : FnScope ["_law_box_here", "_law_names_here", "_law_menu", "_law_nodes_here", "_law_k"] ["_law_box_here", "_law_names_here"] (defScope s_nodes) := ⟨rfl, rfl, rfl, by decide +kernel, rfl, by decide +kernel, by decide +kernel⟩
theorem sc_keys : FnScope ["_law_box_here", "_law_names_here", "_law_keys_here", "_law_k"] ["_law_box_here", "_law_names_here"] (defScope s_keys) := ⟨rfl, rfl, rfl, by decide +kernel, rfl, by decide +kernel, by decide +kernel⟩
theorem sc_read_told : FnScope ["_law_book", "_law_words", "_law_table", "_law_road", "_law_numbers_here", "_law_given", "_law_told"] ["_law_book", "_law_words", "_law_table", "_law_road", "_law_numbers_here"] (defScope s_read_told) := ⟨rfl, rfl, rfl, by decide +kernel, rfl, by decide +kernel, by decide +kernel⟩
theorem sc_write_told : FnScope ["_law_book", "_law_words", "_law_table", "_law_number", "_law_nodes_here", "_law_keys_here", "_law_marked", "_law_locked", "_law_told"] ["_law_book", "_law_words", "_law_table", "_law_number", "_law_nodes_here", "_law_keys_here"] (defScope s_write_told) := ⟨rfl, rfl, rfl, by decide +kernel, rfl, by decide +kernel, by decide +kernel⟩
theorem sc_all_meet : FnScope ["_law_lists", "_law_needs", "_law_other", "_law_mine"] ["_law_lists"] (defScope s_all_meet) := ⟨rfl, rfl, rfl, by decide +kernel, rfl, by decide +kernel, by decide +kernel⟩
theorem sc_law : FnScope ["_law_script", "_law_box_here", "_law_words", "_law_others", "_law_names_here", "_law_numbers_here", "_law_nodes_here", "_law_keys_here", "_law_number", "_law_book", "_law_beside", "_law_lists", "_law_road"] ["_law_script"] (defScope s_law) := ⟨rfl, rfl, rfl, by decide +kernel, rfl, by decide +kernel, by decide +kernel⟩
/-! ### the facts -/
def d_compatible : He5.DefA := ⟨fun K => ga K "compatible", "compatible", "compatible", defArgs s_compatible, defBody s_compatible, defScope s_compatible, [], []⟩
def d_meet : He5.DefA := ⟨fun K => ga K "meet", "meet", "meet", defArgs s_meet, defBody s_meet, defScope s_meet, [], []⟩
def d_read_needs : He5.DefA := ⟨fun K => ga K "read_needs", "read_needs", "read_needs", defArgs s_read_needs, defBody s_read_needs, defScope s_read_needs, [], []⟩
def d_road_needs : He5.DefA := ⟨fun K => ga K "_road_needs", "_road_needs", "_road_needs", defArgs s_road_needs, defBody s_road_needs, defScope s_road_needs, [], []⟩
def d_write_needs : He5.DefA := ⟨fun K => ga K "write_needs", "write_needs", "write_needs", defArgs s_write_needs, defBody s_write_needs, defScope s_write_needs, [], []⟩
def d_InvalidBook_init : He5.DefA := ⟨fun K => Hk.mt K "InvalidBook" "__init__", "__init__", "InvalidBook.__init__", defArgs s_InvalidBook_init, defBody s_InvalidBook_init, defScope s_InvalidBook_init, [], []⟩
def d_check_option : He5.DefA := ⟨fun K => ga K "check_option", "check_option", "check_option", defArgs s_check_option, defBody s_check_option, defScope s_check_option, [], []⟩
def d_LockBook_init : He5.DefA := ⟨fun K => Hk.mt K "LockBook" "__init__", "__init__", "LockBook.__init__", defArgs s_LockBook_init, defBody s_LockBook_init, defScope s_LockBook_init, [], [("read", .str "alone"), ("write", .str "store"), ("marks", .str "holding"), ("checks", .str "key"), ("kept", .str "node"), ("asks", .str "ahead"), ("lasts", .str "end"), ("clash", .str "wait")]⟩
def d_LockBook_chosen : He5.DefA := ⟨fun K => Hk.mt K "LockBook" "_chosen", "_chosen", "LockBook._chosen", defArgs s_LockBook_chosen, defBody s_LockBook_chosen, defScope s_LockBook_chosen, [], []⟩
def d_box : He5.DefA := ⟨fun K => ga K "_law_box", "_law_box", "_law_box", defArgs s_box, defBody s_box, defScope s_box, [], []⟩
def d_draw : He5.DefA := ⟨fun K => ga K "_law_draw", "_law_draw", "_law_draw", defArgs s_draw, defBody s_draw, defScope s_draw, [], []⟩
def d_pick : He5.DefA := ⟨fun K => ga K "_law_pick", "_law_pick", "_law_pick", defArgs s_pick, defBody s_pick, defScope s_pick, [], []⟩
def d_names : He5.DefA := ⟨fun K => ga K "_law_names", "_law_names", "_law_names", defArgs s_names, defBody s_names, defScope s_names, [], []⟩
def d_alike : He5.DefA := ⟨fun K => ga K "_law_alike", "_law_alike", "_law_alike", defArgs s_alike, defBody s_alike, defScope s_alike, [], []⟩
def d_lock_words : He5.DefA := ⟨fun K => ga K "_law_lock_words", "_law_lock_words", "_law_lock_words", defArgs s_lock_words, defBody s_lock_words, defScope s_lock_words, [], []⟩
def d_lock_book : He5.DefA := ⟨fun K => ga K "_law_lock_book", "_law_lock_book", "_law_lock_book", defArgs s_lock_book, defBody s_lock_book, defScope s_lock_book, [], []⟩
def d_lock_needs : He5.DefA := ⟨fun K => ga K "_law_lock_needs", "_law_lock_needs", "_law_lock_needs", defArgs s_lock_needs, defBody s_lock_needs, defScope s_lock_needs, [], []⟩
def d_fit : He5.DefA := ⟨fun K => ga K "_law_fit", "_law_fit", "_law_fit", defArgs s_fit, defBody s_fit, defScope s_fit, [], []⟩
def d_needs_meet : He5.DefA := ⟨fun K => ga K "_law_needs_meet", "_law_needs_meet", "_law_needs_meet", defArgs s_needs_meet, defBody s_needs_meet, defScope s_needs_meet, [], []⟩
def d_modes : He5.DefA := ⟨fun K => ga K "_law_modes", "_law_modes", "_law_modes", defArgs s_modes, defBody s_modes, defScope s_modes, [], []⟩
def d_due_read : He5.DefA := ⟨fun K => ga K "_law_due_read", "_law_due_read", "_law_due_read", defArgs s_due_read, defBody s_due_read, defScope s_due_read, [], []⟩
def d_due_write : He5.DefA := ⟨fun K => ga K "_law_due_write", "_law_due_write", "_law_due_write", defArgs s_due_write, defBody s_due_write, defScope s_due_write, [], []⟩
def d_numbers : He5.DefA := ⟨fun K => ga K "_law_numbers", "_law_numbers", "_law_numbers", defArgs s_numbers, defBody s_numbers, defScope s_numbers, [], []⟩
def d_nodes : He5.DefA := ⟨fun K => ga K "_law_nodes", "_law_nodes", "_law_nodes", defArgs s_nodes, defBody s_nodes, defScope s_nodes, [], []⟩
def d_keys : He5.DefA := ⟨fun K => ga K "_law_keys", "_law_keys", "_law_keys", defArgs s_keys, defBody s_keys, defScope s_keys, [], []⟩
def d_read_told : He5.DefA := ⟨fun K => ga K "_law_read_told", "_law_read_told", "_law_read_told", defArgs s_read_told, defBody s_read_told, defScope s_read_told, [], []⟩
def d_write_told : He5.DefA := ⟨fun K => ga K "_law_write_told", "_law_write_told", "_law_write_told", defArgs s_write_told, defBody s_write_told, defScope s_write_told, [], []⟩
def d_all_meet : He5.DefA := ⟨fun K => ga K "_law_all_meet", "_law_all_meet", "_law_all_meet", defArgs s_all_meet, defBody s_all_meet, defScope s_all_meet, [], []⟩
def d_law : He5.DefA := ⟨fun K => ga K "law", "law", "law", defArgs s_law, defBody s_law, defScope s_law, [], []⟩
def fn : List He5.DefA := [d_compatible, d_meet, d_read_needs, d_road_needs, d_write_needs, d_InvalidBook_init, d_check_option, d_LockBook_init, d_LockBook_chosen, d_box, d_draw, d_pick, d_names, d_alike, d_lock_words, d_lock_book, d_lock_needs, d_fit, d_needs_meet, d_modes, d_due_read, d_due_write, d_numbers, d_nodes, d_keys, d_read_told, d_write_told, d_all_meet, d_law]
def exl : List (PySem.W.Frag → Bool) := [
  fun K => (He.Fa.free "all").ok K,
  fun K => (He.Fa.free "zip").ok K,
  fun K => (He.Fa.free "list").ok K,
  fun K => (He.Fa.free "len").ok K,
  fun K => (He.Fa.free "abs").ok K,
  fun K => (He.Fa.free "int").ok K,
  fun K => (He.Fa.free "range").ok K,
  fun K => (He.Fa.free "isinstance").ok K,
  fun K => (He.Fa.free "bool").ok K,
  fun K => (He.Fa.free "str").ok K,
  fun K => (He.Fa.free "tuple").ok K,
  fun K => (He.Fa.glo "_wall").ok K,
  fun K => (He.Fa.glo "STORE").ok K,
  fun K => Hk.tupO K "STORE",
  fun K => He.tupB K "STORE" [.str "store"],
  fun K => (He.Fa.glo "COMPATIBLE").ok K,
  fun K => Hk.keyB K "COMPATIBLE" "s",
  fun K => Hk.tupAB K (Hk.pa K "COMPATIBLE" "s") [.str "s", .str "is"],
  fun K => Hk.keyB K "COMPATIBLE" "x",
  fun K => Hk.tupAB K (Hk.pa K "COMPATIBLE" "x") [],
  fun K => Hk.keyB K "COMPATIBLE" "is",
  fun K => Hk.tupAB K (Hk.pa K "COMPATIBLE" "is") [.str "s", .str "is", .str "ix"],
  fun K => Hk.keyB K "COMPATIBLE" "ix",
  fun K => Hk.tupAB K (Hk.pa K "COMPATIBLE" "ix") [.str "is", .str "ix"],
  fun K => (He.Fa.glo "compatible").ok K,
  fun K => (He.Fa.glo "meet").ok K,
  fun K => (He.Fa.glo "read_needs").ok K,
  fun K => (He.Fa.glo "_road_needs").ok K,
  fun K => (He.Fa.glo "write_needs").ok K,
  fun K => (He.Fa.glo "BookError").ok K,
  fun K => (He.Fa.glo "InvalidBook").ok K,
  fun K => (He.Fa.glo "check_option").ok K,
  fun K => (He.Fa.str "PART" "locks").ok K,
  fun K => (He.Fa.glo "OPTIONS").ok K,
  fun K => (He.Fa.glo "LockBook").ok K,
  fun K => (He.Fa.glo "_law_box").ok K,
  fun K => (He.Fa.glo "_law_draw").ok K,
  fun K => (He.Fa.glo "_law_pick").ok K,
  fun K => (He.Fa.glo "_law_names").ok K,
  fun K => (He.Fa.glo "_law_alike").ok K,
  fun K => (He.Fa.glo "_law_lock_words").ok K,
  fun K => (He.Fa.glo "_law_lock_book").ok K,
  fun K => (He.Fa.glo "_law_lock_needs").ok K,
  fun K => (He.Fa.glo "_law_fit").ok K,
  fun K => (He.Fa.glo "_law_needs_meet").ok K,
  fun K => (He.Fa.glo "_law_modes").ok K,
  fun K => (He.Fa.glo "_law_due_read").ok K,
  fun K => (He.Fa.glo "_law_due_write").ok K,
  fun K => (He.Fa.glo "_law_numbers").ok K,
  fun K => (He.Fa.glo "_law_nodes").ok K,
  fun K => (He.Fa.glo "_law_keys").ok K,
  fun K => (He.Fa.glo "_law_read_told").ok K,
  fun K => (He.Fa.glo "_law_write_told").ok K,
  fun K => (He.Fa.glo "_law_all_meet").ok K,
  fun K => (He.Fa.glo "law").ok K,
  fun K => Hk.kitB K "BookError" "BookError" true,
  fun K => (He.Fa.exm "BookError" "BookError" true).ok K,
  fun K => Hk.kitB K "BookError" "InvalidBook" false,
  fun K => (He.Fa.exm "BookError" "InvalidBook" false).ok K,
  fun K => Hk.excCB K "BookError",
  fun K => Hk.excB K "BookError" [.type "ValueError", .type "Exception", .type "BaseException", .type "object"],
  fun K => Hk.kitB K "InvalidBook" "BookError" true,
  fun K => (He.Fa.exm "InvalidBook" "BookError" true).ok K,
  fun K => Hk.kitB K "InvalidBook" "InvalidBook" true,
  fun K => (He.Fa.exm "InvalidBook" "InvalidBook" true).ok K,
  fun K => Hk.excCB K "InvalidBook",
  fun K => Hk.oexB K "InvalidBook",
  fun K => Hk.xinB K "InvalidBook",
  fun K => xfB K (ga K "InvalidBook"),
  fun K => Hk.noxB K "InvalidBook" "part",
  fun K => (He.Fa.cls "LockBook").ok K,
  fun K => Hk.isiB K "LockBook",
  fun K => Hk.kitB K "LockBook" "LockBook" true,
  fun K => (He.Fa.mkr "LockBook").ok K,
  fun K => (He.Fa.noat "LockBook" "read").ok K,
  fun K => (He.Fa.noat "LockBook" "write").ok K,
  fun K => (He.Fa.noat "LockBook" "marks").ok K,
  fun K => (He.Fa.noat "LockBook" "checks").ok K,
  fun K => (He.Fa.noat "LockBook" "kept").ok K,
  fun K => (He.Fa.noat "LockBook" "asks").ok K,
  fun K => (He.Fa.noat "LockBook" "lasts").ok K,
  fun K => (He.Fa.noat "LockBook" "clash").ok K,
  fun K => Hk.readB K "LockBook",
  fun K => (He.Fa.meth "LockBook" "_chosen").ok K,
  fun K => (He.Fa.meth "LockBook" "check").ok K,
  fun K => (He.Fa.meth "LockBook" "lines").ok K,
  fun K => Fu.ktB K (.ktu [(.str "store")]) (.ref (ga K "STORE")),
  fun K => Fu.keyTB K (ga K "COMPATIBLE") "s" (.ktu [(.str "s"), (.str "is")]),
  fun K => Fu.keyTB K (ga K "COMPATIBLE") "x" (.ktu []),
  fun K => Fu.keyTB K (ga K "COMPATIBLE") "is" (.ktu [(.str "s"), (.str "is"), (.str "ix")]),
  fun K => Fu.keyTB K (ga K "COMPATIBLE") "ix" (.ktu [(.str "is"), (.str "ix")]),
  fun K => Fu.ktB K (.ktu [(.ktu [(.str "read"), (.ktu [(.str "alone"), (.str "store"), (.str "table"), (.str "road"), (.str "rows")])]), (.ktu [(.str "write"), (.ktu [(.str "store"), (.str "table"), (.str "row")])]), (.ktu [(.str "marks"), (.ktu [(.str "holding"), (.str "written")])]), (.ktu [(.str "checks"), (.ktu [(.str "key"), (.str "none")])]), (.ktu [(.str "kept"), (.ktu [(.str "node"), (.str "none")])]), (.ktu [(.str "asks"), (.ktu [(.str "ahead"), (.str "behind")])]), (.ktu [(.str "lasts"), (.ktu [(.str "end"), (.str "turn")])]), (.ktu [(.str "clash"), (.ktu [(.str "wait"), (.str "age"), (.str "back")])])]) (.ref (ga K "OPTIONS"))]
def ex (K : PySem.W.Frag) : Bool := exl.all fun f => f K
def tabs : List He.Tab := [(fun K => ga K "COMPATIBLE", ["s", "x", "is", "ix"])]
structure Txt (w : World) (K : PySem.W.Frag) (mg : Str → Option Value) : Prop where
  saysW : Hk.SaysW ex fn tabs w K
  ns : Hk.NsAll K mg
section
variable {P : Program} {w : World} {K : PySem.W.Frag} {mg : Str → Option Value} {base : Heap}
theorem Txt.says (T : Txt w K mg) : Hk.SaysE ex fn K := T.saysW.e
theorem Txt.e (T : Txt w K mg) (i : Nat) {f : PySem.W.Frag → Bool} (h : exl[i]? = some f) : f K = true := List.all_eq_true.mp (show (exl.all fun f => f K) = true from T.says.more) f (List.mem_of_getElem? h)
theorem Txt.d (T : Txt w K mg) (i : Nat) {d : He5.DefA} (h : fn[i]? = some d) : ∃ fd, FunD K d.name d.qual d.params d.body d.scope (d.dvs K) (d.kws K) (d.at_ K) fd := T.says.def_ i h
theorem Txt.tb_COMPATIBLE (T : Txt w K mg) : Hk.TabF K w (ga K "COMPATIBLE") ["s", "x", "is", "ix"] := Hk.tab_ok (T.saysW.keys 0 (t := (fun K => ga K "COMPATIBLE", ["s", "x", "is", "ix"])) rfl)
theorem Txt.z_all (T : Txt w K mg) : mg "all" = none := Hk.free_ok T.ns (T.e 0 (f := fun K => (He.Fa.free "all").ok K) rfl)
theorem Txt.z_zip (T : Txt w K mg) : mg "zip" = none := Hk.free_ok T.ns (T.e 1 (f := fun K => (He.Fa.free "zip").ok K) rfl)
theorem Txt.z_list (T : Txt w K mg) : mg "list" = none := Hk.free_ok T.ns (T.e 2 (f := fun K => (He.Fa.free "list").ok K) rfl)
theorem Txt.z_len (T : Txt w K mg) : mg "len" = none := Hk.free_ok T.ns (T.e 3 (f := fun K => (He.Fa.free "len").ok K) rfl)
theorem Txt.z_abs (T : Txt w K mg) : mg "abs" = none := Hk.free_ok T.ns (T.e 4 (f := fun K => (He.Fa.free "abs").ok K) rfl)
theorem Txt.z_int (T : Txt w K mg) : mg "int" = none := Hk.free_ok T.ns (T.e 5 (f := fun K => (He.Fa.free "int").ok K) rfl)
theorem Txt.z_range (T : Txt w K mg) : mg "range" = none := Hk.free_ok T.ns (T.e 6 (f := fun K => (He.Fa.free "range").ok K) rfl)
theorem Txt.z_isinstance (T : Txt w K mg) : mg "isinstance" = none := Hk.free_ok T.ns (T.e 7 (f := fun K => (He.Fa.free "isinstance").ok K) rfl)
theorem Txt.z_bool (T : Txt w K mg) : mg "bool" = none := Hk.free_ok T.ns (T.e 8 (f := fun K => (He.Fa.free "bool").ok K) rfl)
theorem Txt.z_str (T : Txt w K mg) : mg "str" = none := Hk.free_ok T.ns (T.e 9 (f := fun K => (He.Fa.free "str").ok K) rfl)
theorem Txt.z_tuple (T : Txt w K mg) : mg "tuple" = none := Hk.free_ok T.ns (T.e 10 (f := fun K => (He.Fa.free "tuple").ok K) rfl)
theorem Txt.g__wall (T : Txt w K mg) : mg "_wall" = some (.ref (ga K "_wall")) := Hk.glo_ok T.ns (T.e 11 (f := fun K => (He.Fa.glo "_wall").ok K) rfl)
theorem Txt.g_STORE (T : Txt w K mg) : mg "STORE" = some (.ref (ga K "STORE")) := Hk.glo_ok T.ns (T.e 12 (f := fun K => (He.Fa.glo "STORE").ok K) rfl)
theorem Txt.o_STORE (T : Txt w K mg) : ∀ H, tyV K "tuple" (.ref (ga K "STORE")) H := Hk.tupO_ok (T.e 13 (f := fun K => Hk.tupO K "STORE") rfl)
theorem Txt.t_STORE (T : Txt w K mg) : ∀ H, SqT K H (ga K "STORE") [.str "store"] := fun H => He.tupB_ok (T.e 14 (f := fun K => He.tupB K "STORE" [.str "store"]) rfl) H
theorem Txt.g_COMPATIBLE (T : Txt w K mg) : mg "COMPATIBLE" = some (.ref (ga K "COMPATIBLE")) := Hk.glo_ok T.ns (T.e 15 (f := fun K => (He.Fa.glo "COMPATIBLE").ok K) rfl)
theorem Txt.kv_COMPATIBLE_0 (T : Txt w K mg) : PySem.W.nsIn K (ga K "COMPATIBLE") "s" = some (some (.ref (Hk.pa K "COMPATIBLE" "s"))) := He.eqO_ok (T.e 16 (f := fun K => Hk.keyB K "COMPATIBLE" "s") rfl)
theorem Txt.kt_COMPATIBLE_0 (T : Txt w K mg) : ∀ H, SqT K H (Hk.pa K "COMPATIBLE" "s") [.str "s", .str "is"] := fun H => Hk.tupA_ok (T.e 17 (f := fun K => Hk.tupAB K (Hk.pa K "COMPATIBLE" "s") [.str "s", .str "is"]) rfl) H
theorem Txt.kv_COMPATIBLE_1 (T : Txt w K mg) : PySem.W.nsIn K (ga K "COMPATIBLE") "x" = some (some (.ref (Hk.pa K "COMPATIBLE" "x"))) := He.eqO_ok (T.e 18 (f := fun K => Hk.keyB K "COMPATIBLE" "x") rfl)
theorem Txt.kt_COMPATIBLE_1 (T : Txt w K mg) : ∀ H, SqT K H (Hk.pa K "COMPATIBLE" "x") [] := fun H => Hk.tupA_ok (T.e 19 (f := fun K => Hk.tupAB K (Hk.pa K "COMPATIBLE" "x") []) rfl) H
theorem Txt.kv_COMPATIBLE_2 (T : Txt w K mg) : PySem.W.nsIn K (ga K "COMPATIBLE") "is" = some (some (.ref (Hk.pa K "COMPATIBLE" "is"))) := He.eqO_ok (T.e 20 (f := fun K => Hk.keyB K "COMPATIBLE" "is") rfl)
theorem Txt.kt_COMPATIBLE_2 (T : Txt w K mg) : ∀ H, SqT K H (Hk.pa K "COMPATIBLE" "is") [.str "s", .str "is", .str "ix"] := fun H => Hk.tupA_ok (T.e 21 (f := fun K => Hk.tupAB K (Hk.pa K "COMPATIBLE" "is") [.str "s", .str "is", .str "ix"]) rfl) H
theorem Txt.kv_COMPATIBLE_3 (T : Txt w K mg) : PySem.W.nsIn K (ga K "COMPATIBLE") "ix" = some (some (.ref (Hk.pa K "COMPATIBLE" "ix"))) := He.eqO_ok (T.e 22 (f := fun K => Hk.keyB K "COMPATIBLE" "ix") rfl)
theorem Txt.kt_COMPATIBLE_3 (T : Txt w K mg) : ∀ H, SqT K H (Hk.pa K "COMPATIBLE" "ix") [.str "is", .str "ix"] := fun H => Hk.tupA_ok (T.e 23 (f := fun K => Hk.tupAB K (Hk.pa K "COMPATIBLE" "ix") [.str "is", .str "ix"]) rfl) H
theorem Txt.g_compatible (T : Txt w K mg) : mg "compatible" = some (.ref (ga K "compatible")) := Hk.glo_ok T.ns (T.e 24 (f := fun K => (He.Fa.glo "compatible").ok K) rfl)
theorem Txt.g_meet (T : Txt w K mg) : mg "meet" = some (.ref (ga K "meet")) := Hk.glo_ok T.ns (T.e 25 (f := fun K => (He.Fa.glo "meet").ok K) rfl)
theorem Txt.g_read_needs (T : Txt w K mg) : mg "read_needs" = some (.ref (ga K "read_needs")) := Hk.glo_ok T.ns (T.e 26 (f := fun K => (He.Fa.glo "read_needs").ok K) rfl)
theorem Txt.g__road_needs (T : Txt w K mg) : mg "_road_needs" = some (.ref (ga K "_road_needs")) := Hk.glo_ok T.ns (T.e 27 (f := fun K => (He.Fa.glo "_road_needs").ok K) rfl)
theorem Txt.g_write_needs (T : Txt w K mg) : mg "write_needs" = some (.ref (ga K "write_needs")) := Hk.glo_ok T.ns (T.e 28 (f := fun K => (He.Fa.glo "write_needs").ok K) rfl)
theorem Txt.g_BookError (T : Txt w K mg) : mg "BookError" = some (.ref (ga K "BookError")) := Hk.glo_ok T.ns (T.e 29 (f := fun K => (He.Fa.glo "BookError").ok K) rfl)
theorem Txt.g_InvalidBook (T : Txt w K mg) : mg "InvalidBook" = some (.ref (ga K "InvalidBook")) := Hk.glo_ok T.ns (T.e 30 (f := fun K => (He.Fa.glo "InvalidBook").ok K) rfl)
theorem Txt.g_check_option (T : Txt w K mg) : mg "check_option" = some (.ref (ga K "check_option")) := Hk.glo_ok T.ns (T.e 31 (f := fun K => (He.Fa.glo "check_option").ok K) rfl)
theorem Txt.c_PART (T : Txt w K mg) : ∃ t, mg "PART" = some (.str "locks" t) := Hk.str_ok T.ns (T.e 32 (f := fun K => (He.Fa.str "PART" "locks").ok K) rfl)
theorem Txt.g_OPTIONS (T : Txt w K mg) : mg "OPTIONS" = some (.ref (ga K "OPTIONS")) := Hk.glo_ok T.ns (T.e 33 (f := fun K => (He.Fa.glo "OPTIONS").ok K) rfl)
theorem Txt.g_LockBook (T : Txt w K mg) : mg "LockBook" = some (.ref (ga K "LockBook")) := Hk.glo_ok T.ns (T.e 34 (f := fun K => (He.Fa.glo "LockBook").ok K) rfl)
theorem Txt.g__law_box (T : Txt w K mg) : mg "_law_box" = some (.ref (ga K "_law_box")) := Hk.glo_ok T.ns (T.e 35 (f := fun K => (He.Fa.glo "_law_box").ok K) rfl)
theorem Txt.g__law_draw (T : Txt w K mg) : mg "_law_draw" = some (.ref (ga K "_law_draw")) := Hk.glo_ok T.ns (T.e 36 (f := fun K => (He.Fa.glo "_law_draw").ok K) rfl)
theorem Txt.g__law_pick (T : Txt w K mg) : mg "_law_pick" = some (.ref (ga K "_law_pick")) := Hk.glo_ok T.ns (T.e 37 (f := fun K => (He.Fa.glo "_law_pick").ok K) rfl)
theorem Txt.g__law_names (T : Txt w K mg) : mg "_law_names" = some (.ref (ga K "_law_names")) := Hk.glo_ok T.ns (T.e 38 (f := fun K => (He.Fa.glo "_law_names").ok K) rfl)
theorem Txt.g__law_alike (T : Txt w K mg) : mg "_law_alike" = some (.ref (ga K "_law_alike")) := Hk.glo_ok T.ns (T.e 39 (f := fun K => (He.Fa.glo "_law_alike").ok K) rfl)
theorem Txt.g__law_lock_words (T : Txt w K mg) : mg "_law_lock_words" = some (.ref (ga K "_law_lock_words")) := Hk.glo_ok T.ns (T.e 40 (f := fun K => (He.Fa.glo "_law_lock_words").ok K) rfl)
theorem Txt.g__law_lock_book (T : Txt w K mg) : mg "_law_lock_book" = some (.ref (ga K "_law_lock_book")) := Hk.glo_ok T.ns (T.e 41 (f := fun K => (He.Fa.glo "_law_lock_book").ok K) rfl)
theorem Txt.g__law_lock_needs (T : Txt w K mg) : mg "_law_lock_needs" = some (.ref (ga K "_law_lock_needs")) := Hk.glo_ok T.ns (T.e 42 (f := fun K => (He.Fa.glo "_law_lock_needs").ok K) rfl)
theorem Txt.g__law_fit (T : Txt w K mg) : mg "_law_fit" = some (.ref (ga K "_law_fit")) := Hk.glo_ok T.ns (T.e 43 (f := fun K => (He.Fa.glo "_law_fit").ok K) rfl)
theorem Txt.g__law_needs_meet (T : Txt w K mg) : mg "_law_needs_meet" = some (.ref (ga K "_law_needs_meet")) := Hk.glo_ok T.ns (T.e 44 (f := fun K => (He.Fa.glo "_law_needs_meet").ok K) rfl)
theorem Txt.g__law_modes (T : Txt w K mg) : mg "_law_modes" = some (.ref (ga K "_law_modes")) := Hk.glo_ok T.ns (T.e 45 (f := fun K => (He.Fa.glo "_law_modes").ok K) rfl)
theorem Txt.g__law_due_read (T : Txt w K mg) : mg "_law_due_read" = some (.ref (ga K "_law_due_read")) := Hk.glo_ok T.ns (T.e 46 (f := fun K => (He.Fa.glo "_law_due_read").ok K) rfl)
theorem Txt.g__law_due_write (T : Txt w K mg) : mg "_law_due_write" = some (.ref (ga K "_law_due_write")) := Hk.glo_ok T.ns (T.e 47 (f := fun K => (He.Fa.glo "_law_due_write").ok K) rfl)
theorem Txt.g__law_numbers (T : Txt w K mg) : mg "_law_numbers" = some (.ref (ga K "_law_numbers")) := Hk.glo_ok T.ns (T.e 48 (f := fun K => (He.Fa.glo "_law_numbers").ok K) rfl)
theorem Txt.g__law_nodes (T : Txt w K mg) : mg "_law_nodes" = some (.ref (ga K "_law_nodes")) := Hk.glo_ok T.ns (T.e 49 (f := fun K => (He.Fa.glo "_law_nodes").ok K) rfl)
theorem Txt.g__law_keys (T : Txt w K mg) : mg "_law_keys" = some (.ref (ga K "_law_keys")) := Hk.glo_ok T.ns (T.e 50 (f := fun K => (He.Fa.glo "_law_keys").ok K) rfl)
theorem Txt.g__law_read_told (T : Txt w K mg) : mg "_law_read_told" = some (.ref (ga K "_law_read_told")) := Hk.glo_ok T.ns (T.e 51 (f := fun K => (He.Fa.glo "_law_read_told").ok K) rfl)
theorem Txt.g__law_write_told (T : Txt w K mg) : mg "_law_write_told" = some (.ref (ga K "_law_write_told")) := Hk.glo_ok T.ns (T.e 52 (f := fun K => (He.Fa.glo "_law_write_told").ok K) rfl)
theorem Txt.g__law_all_meet (T : Txt w K mg) : mg "_law_all_meet" = some (.ref (ga K "_law_all_meet")) := Hk.glo_ok T.ns (T.e 53 (f := fun K => (He.Fa.glo "_law_all_meet").ok K) rfl)
theorem Txt.g_law (T : Txt w K mg) : mg "law" = some (.ref (ga K "law")) := Hk.glo_ok T.ns (T.e 54 (f := fun K => (He.Fa.glo "law").ok K) rfl)
theorem Txt.kt_BookError_BookError (T : Txt w K mg) : PySem.W.kitOne K (.ref (ga K "BookError")) (.ref (ga K "BookError")) = some true := of_decide_eq_true (T.e 55 (f := fun K => Hk.kitB K "BookError" "BookError" true) rfl)
theorem Txt.k_BookError_BookError (T : Txt w K mg) : PySem.W.exmOne K (.ref (ga K "BookError")) (.ref (ga K "BookError")) = some true := He.exm_ok (T.e 56 (f := fun K => (He.Fa.exm "BookError" "BookError" true).ok K) rfl)
theorem Txt.kt_BookError_InvalidBook (T : Txt w K mg) : PySem.W.kitOne K (.ref (ga K "BookError")) (.ref (ga K "InvalidBook")) = some false := of_decide_eq_true (T.e 57 (f := fun K => Hk.kitB K "BookError" "InvalidBook" false) rfl)
theorem Txt.k_BookError_InvalidBook (T : Txt w K mg) : PySem.W.exmOne K (.ref (ga K "BookError")) (.ref (ga K "InvalidBook")) = some false := He.exm_ok (T.e 58 (f := fun K => (He.Fa.exm "BookError" "InvalidBook" false).ok K) rfl)
theorem Txt.ec_BookError (T : Txt w K mg) : ExcC K (ga K "BookError") := Hk.excC_ok (T.e 59 (f := fun K => Hk.excCB K "BookError") rfl)
theorem Txt.x_BookError (T : Txt w K mg) : Hk.ExcF K "BookError" [.type "ValueError", .type "Exception", .type "BaseException", .type "object"] := Hk.exc_ok (T.e 60 (f := fun K => Hk.excB K "BookError" [.type "ValueError", .type "Exception", .type "BaseException", .type "object"]) rfl)
theorem Txt.kt_InvalidBook_BookError (T : Txt w K mg) : PySem.W.kitOne K (.ref (ga K "InvalidBook")) (.ref (ga K "BookError")) = some true := of_decide_eq_true (T.e 61 (f := fun K => Hk.kitB K "InvalidBook" "BookError" true) rfl)
theorem Txt.k_InvalidBook_BookError (T : Txt w K mg) : PySem.W.exmOne K (.ref (ga K "InvalidBook")) (.ref (ga K "BookError")) = some true := He.exm_ok (T.e 62 (f := fun K => (He.Fa.exm "InvalidBook" "BookError" true).ok K) rfl)
theorem Txt.kt_InvalidBook_InvalidBook (T : Txt w K mg) : PySem.W.kitOne K (.ref (ga K "InvalidBook")) (.ref (ga K "InvalidBook")) = some true := of_decide_eq_true (T.e 63 (f := fun K => Hk.kitB K "InvalidBook" "InvalidBook" true) rfl)
theorem Txt.k_InvalidBook_InvalidBook (T : Txt w K mg) : PySem.W.exmOne K (.ref (ga K "InvalidBook")) (.ref (ga K "InvalidBook")) = some true := He.exm_ok (T.e 64 (f := fun K => (He.Fa.exm "InvalidBook" "InvalidBook" true).ok K) rfl)
theorem Txt.ec_InvalidBook (T : Txt w K mg) : ExcC K (ga K "InvalidBook") := Hk.excC_ok (T.e 65 (f := fun K => Hk.excCB K "InvalidBook") rfl)
theorem Txt.oe_InvalidBook (T : Txt w K mg) : OexC K (ga K "InvalidBook") := Hk.oex_ok (T.e 66 (f := fun K => Hk.oexB K "InvalidBook") rfl)
theorem Txt.xi_InvalidBook (T : Txt w K mg) : Hk.XIn K "InvalidBook" := Hk.xin_ok (T.e 67 (f := fun K => Hk.xinB K "InvalidBook") rfl)
theorem Txt.xf_InvalidBook (T : Txt w K mg) : XfC K (ga K "InvalidBook") := xfB_ok (T.e 68 (f := fun K => xfB K (ga K "InvalidBook")) rfl)
theorem Txt.nx_InvalidBook_part (T : Txt w K mg) : PySem.W.findIn K (.ref (ga K "InvalidBook")) "part" = some none := He.eqO_ok (T.e 69 (f := fun K => Hk.noxB K "InvalidBook" "part") rfl)
theorem Txt.cl_LockBook (T : Txt w K mg) : Cls K (ga K "LockBook") := He.cls_ok (T.e 70 (f := fun K => (He.Fa.cls "LockBook").ok K) rfl)
theorem Txt.i_LockBook (T : Txt w K mg) : Hk.IsiF K (ga K "LockBook") := Hk.isi_ok (T.e 71 (f := fun K => Hk.isiB K "LockBook") rfl)
theorem Txt.kt_LockBook_LockBook (T : Txt w K mg) : PySem.W.kitOne K (.ref (ga K "LockBook")) (.ref (ga K "LockBook")) = some true := of_decide_eq_true (T.e 72 (f := fun K => Hk.kitB K "LockBook" "LockBook" true) rfl)
theorem Txt.mk_LockBook (T : Txt w K mg) : Mk K (ga K "LockBook") (Hk.mt K "LockBook" "__init__") := He.mkr_ok (T.e 73 (f := fun K => (He.Fa.mkr "LockBook").ok K) rfl)
theorem Txt.n_LockBook_read (T : Txt w K mg) : NoAttr K (ga K "LockBook") "read" := He.noat_ok (T.e 74 (f := fun K => (He.Fa.noat "LockBook" "read").ok K) rfl)
theorem Txt.n_LockBook_write (T : Txt w K mg) : NoAttr K (ga K "LockBook") "write" := He.noat_ok (T.e 75 (f := fun K => (He.Fa.noat "LockBook" "write").ok K) rfl)
theorem Txt.n_LockBook_marks (T : Txt w K mg) : NoAttr K (ga K "LockBook") "marks" := He.noat_ok (T.e 76 (f := fun K => (He.Fa.noat "LockBook" "marks").ok K) rfl)
theorem Txt.n_LockBook_checks (T : Txt w K mg) : NoAttr K (ga K "LockBook") "checks" := He.noat_ok (T.e 77 (f := fun K => (He.Fa.noat "LockBook" "checks").ok K) rfl)
theorem Txt.n_LockBook_kept (T : Txt w K mg) : NoAttr K (ga K "LockBook") "kept" := He.noat_ok (T.e 78 (f := fun K => (He.Fa.noat "LockBook" "kept").ok K) rfl)
theorem Txt.n_LockBook_asks (T : Txt w K mg) : NoAttr K (ga K "LockBook") "asks" := He.noat_ok (T.e 79 (f := fun K => (He.Fa.noat "LockBook" "asks").ok K) rfl)
theorem Txt.n_LockBook_lasts (T : Txt w K mg) : NoAttr K (ga K "LockBook") "lasts" := He.noat_ok (T.e 80 (f := fun K => (He.Fa.noat "LockBook" "lasts").ok K) rfl)
theorem Txt.n_LockBook_clash (T : Txt w K mg) : NoAttr K (ga K "LockBook") "clash" := He.noat_ok (T.e 81 (f := fun K => (He.Fa.noat "LockBook" "clash").ok K) rfl)
theorem Txt.r_LockBook (T : Txt w K mg) : Hk.readB K "LockBook" = true := (T.e 82 (f := fun K => Hk.readB K "LockBook") rfl)
theorem Txt.m_LockBook_chosen (T : Txt w K mg) : Meth K (ga K "LockBook") "_chosen" (Hk.mt K "LockBook" "_chosen") := He.meth_ok (T.e 83 (f := fun K => (He.Fa.meth "LockBook" "_chosen").ok K) rfl)
theorem Txt.m_LockBook_check (T : Txt w K mg) : Meth K (ga K "LockBook") "check" (Hk.mt K "LockBook" "check") := He.meth_ok (T.e 84 (f := fun K => (He.Fa.meth "LockBook" "check").ok K) rfl)
theorem Txt.m_LockBook_lines (T : Txt w K mg) : Meth K (ga K "LockBook") "lines" (Hk.mt K "LockBook" "lines") := He.meth_ok (T.e 85 (f := fun K => (He.Fa.meth "LockBook" "lines").ok K) rfl)
theorem Txt.ku_STORE (T : Txt w K mg) : Fu.ktB K (.ktu [(.str "store")]) (.ref (ga K "STORE")) = true := (T.e 86 (f := fun K => Fu.ktB K (.ktu [(.str "store")]) (.ref (ga K "STORE"))) rfl)
theorem Txt.kd_COMPATIBLE_0 (T : Txt w K mg) : Fu.keyTB K (ga K "COMPATIBLE") "s" (.ktu [(.str "s"), (.str "is")]) = true := (T.e 87 (f := fun K => Fu.keyTB K (ga K "COMPATIBLE") "s" (.ktu [(.str "s"), (.str "is")])) rfl)
theorem Txt.kd_COMPATIBLE_1 (T : Txt w K mg) : Fu.keyTB K (ga K "COMPATIBLE") "x" (.ktu []) = true := (T.e 88 (f := fun K => Fu.keyTB K (ga K "COMPATIBLE") "x" (.ktu [])) rfl)
theorem Txt.kd_COMPATIBLE_2 (T : Txt w K mg) : Fu.keyTB K (ga K "COMPATIBLE") "is" (.ktu [(.str "s"), (.str "is"), (.str "ix")]) = true := (T.e 89 (f := fun K => Fu.keyTB K (ga K "COMPATIBLE") "is" (.ktu [(.str "s"), (.str "is"), (.str "ix")])) rfl)
theorem Txt.kd_COMPATIBLE_3 (T : Txt w K mg) : Fu.keyTB K (ga K "COMPATIBLE") "ix" (.ktu [(.str "is"), (.str "ix")]) = true := (T.e 90 (f := fun K => Fu.keyTB K (ga K "COMPATIBLE") "ix" (.ktu [(.str "is"), (.str "ix")])) rfl)
theorem Txt.ku_OPTIONS (T : Txt w K mg) : Fu.ktB K (.ktu [(.ktu [(.str "read"), (.ktu [(.str "alone"), (.str "store"), (.str "table"), (.str "road"), (.str "rows")])]), (.ktu [(.str "write"), (.ktu [(.str "store"), (.str "table"), (.str "row")])]), (.ktu [(.str "marks"), (.ktu [(.str "holding"), (.str "written")])]), (.ktu [(.str "checks"), (.ktu [(.str "key"), (.str "none")])]), (.ktu [(.str "kept"), (.ktu [(.str "node"), (.str "none")])]), (.ktu [(.str "asks"), (.ktu [(.str "ahead"), (.str "behind")])]), (.ktu [(.str "lasts"), (.ktu [(.str "end"), (.str "turn")])]), (.ktu [(.str "clash"), (.ktu [(.str "wait"), (.str "age"), (.str "back")])])]) (.ref (ga K "OPTIONS")) = true := (T.e 91 (f := fun K => Fu.ktB K (.ktu [(.ktu [(.str "read"), (.ktu [(.str "alone"), (.str "store"), (.str "table"), (.str "road"), (.str "rows")])]), (.ktu [(.str "write"), (.ktu [(.str "store"), (.str "table"), (.str "row")])]), (.ktu [(.str "marks"), (.ktu [(.str "holding"), (.str "written")])]), (.ktu [(.str "checks"), (.ktu [(.str "key"), (.str "none")])]), (.ktu [(.str "kept"), (.ktu [(.str "node"), (.str "none")])]), (.ktu [(.str "asks"), (.ktu [(.str "ahead"), (.str "behind")])]), (.ktu [(.str "lasts"), (.ktu [(.str "end"), (.str "turn")])]), (.ktu [(.str "clash"), (.ktu [(.str "wait"), (.str "age"), (.str "back")])])]) (.ref (ga K "OPTIONS"))) rfl)
theorem Txt.f_compatible (T : Txt w K mg) : ∃ fd, FunD K "compatible" "compatible" (defArgs s_compatible) (defBody s_compatible) (defScope s_compatible) [] [] (ga K "compatible") fd := T.d 0 (d := d_compatible) rfl
theorem Txt.f_meet (T : Txt w K mg) : ∃ fd, FunD K "meet" "meet" (defArgs s_meet) (defBody s_meet) (defScope s_meet) [] [] (ga K "meet") fd := T.d 1 (d := d_meet) rfl
theorem Txt.f_read_needs (T : Txt w K mg) : ∃ fd, FunD K "read_needs" "read_needs" (defArgs s_read_needs) (defBody s_read_needs) (defScope s_read_needs) [] [] (ga K "read_needs") fd := T.d 2 (d := d_read_needs) rfl
theorem Txt.f_road_needs (T : Txt w K mg) : ∃ fd, FunD K "_road_needs" "_road_needs" (defArgs s_road_needs) (defBody s_road_needs) (defScope s_road_needs) [] [] (ga K "_road_needs") fd := T.d 3 (d := d_road_needs) rfl
theorem Txt.f_write_needs (T : Txt w K mg) : ∃ fd, FunD K "write_needs" "write_needs" (defArgs s_write_needs) (defBody s_write_needs) (defScope s_write_needs) [] [] (ga K "write_needs") fd := T.d 4 (d := d_write_needs) rfl
theorem Txt.f_InvalidBook_init (T : Txt w K mg) : ∃ fd, FunD K "__init__" "InvalidBook.__init__" (defArgs s_InvalidBook_init) (defBody s_InvalidBook_init) (defScope s_InvalidBook_init) [] [] (Hk.mt K "InvalidBook" "__init__") fd := T.d 5 (d := d_InvalidBook_init) rfl
theorem Txt.f_check_option (T : Txt w K mg) : ∃ fd, FunD K "check_option" "check_option" (defArgs s_check_option) (defBody s_check_option) (defScope s_check_option) [] [] (ga K "check_option") fd := T.d 6 (d := d_check_option) rfl
theorem Txt.f_LockBook_init (T : Txt w K mg) : ∃ fd, FunD K "__init__" "LockBook.__init__" (defArgs s_LockBook_init) (defBody s_LockBook_init) (defScope s_LockBook_init) [] [("read", V.str "alone"), ("write", V.str "store"), ("marks", V.str "holding"), ("checks", V.str "key"), ("kept", V.str "node"), ("asks", V.str "ahead"), ("lasts", V.str "end"), ("clash", V.str "wait")] (Hk.mt K "LockBook" "__init__") fd := T.d 7 (d := d_LockBook_init) rfl
theorem Txt.f_LockBook_chosen (T : Txt w K mg) : ∃ fd, FunD K "_chosen" "LockBook._chosen" (defArgs s_LockBook_chosen) (defBody s_LockBook_chosen) (defScope s_LockBook_chosen) [] [] (Hk.mt K "LockBook" "_chosen") fd := T.d 8 (d := d_LockBook_chosen) rfl
theorem Txt.f_box (T : Txt w K mg) : ∃ fd, FunD K "_law_box" "_law_box" (defArgs s_box) (defBody s_box) (defScope s_box) [] [] (ga K "_law_box") fd := T.d 9 (d := d_box) rfl
theorem Txt.f_draw (T : Txt w K mg) : ∃ fd, FunD K "_law_draw" "_law_draw" (defArgs s_draw) (defBody s_draw) (defScope s_draw) [] [] (ga K "_law_draw") fd := T.d 10 (d := d_draw) rfl
theorem Txt.f_pick (T : Txt w K mg) : ∃ fd, FunD K "_law_pick" "_law_pick" (defArgs s_pick) (defBody s_pick) (defScope s_pick) [] [] (ga K "_law_pick") fd := T.d 11 (d := d_pick) rfl
theorem Txt.f_names (T : Txt w K mg) : ∃ fd, FunD K "_law_names" "_law_names" (defArgs s_names) (defBody s_names) (defScope s_names) [] [] (ga K "_law_names") fd := T.d 12 (d := d_names) rfl
theorem Txt.f_alike (T : Txt w K mg) : ∃ fd, FunD K "_law_alike" "_law_alike" (defArgs s_alike) (defBody s_alike) (defScope s_alike) [] [] (ga K "_law_alike") fd := T.d 13 (d := d_alike) rfl
theorem Txt.f_lock_words (T : Txt w K mg) : ∃ fd, FunD K "_law_lock_words" "_law_lock_words" (defArgs s_lock_words) (defBody s_lock_words) (defScope s_lock_words) [] [] (ga K "_law_lock_words") fd := T.d 14 (d := d_lock_words) rfl
theorem Txt.f_lock_book (T : Txt w K mg) : ∃ fd, FunD K "_law_lock_book" "_law_lock_book" (defArgs s_lock_book) (defBody s_lock_book) (defScope s_lock_book) [] [] (ga K "_law_lock_book") fd := T.d 15 (d := d_lock_book) rfl
theorem Txt.f_lock_needs (T : Txt w K mg) : ∃ fd, FunD K "_law_lock_needs" "_law_lock_needs" (defArgs s_lock_needs) (defBody s_lock_needs) (defScope s_lock_needs) [] [] (ga K "_law_lock_needs") fd := T.d 16 (d := d_lock_needs) rfl
theorem Txt.f_fit (T : Txt w K mg) : ∃ fd, FunD K "_law_fit" "_law_fit" (defArgs s_fit) (defBody s_fit) (defScope s_fit) [] [] (ga K "_law_fit") fd := T.d 17 (d := d_fit) rfl
theorem Txt.f_needs_meet (T : Txt w K mg) : ∃ fd, FunD K "_law_needs_meet" "_law_needs_meet" (defArgs s_needs_meet) (defBody s_needs_meet) (defScope s_needs_meet) [] [] (ga K "_law_needs_meet") fd := T.d 18 (d := d_needs_meet) rfl
theorem Txt.f_modes (T : Txt w K mg) : ∃ fd, FunD K "_law_modes" "_law_modes" (defArgs s_modes) (defBody s_modes) (defScope s_modes) [] [] (ga K "_law_modes") fd := T.d 19 (d := d_modes) rfl
theorem Txt.f_due_read (T : Txt w K mg) : ∃ fd, FunD K "_law_due_read" "_law_due_read" (defArgs s_due_read) (defBody s_due_read) (defScope s_due_read) [] [] (ga K "_law_due_read") fd := T.d 20 (d := d_due_read) rfl
theorem Txt.f_due_write (T : Txt w K mg) : ∃ fd, FunD K "_law_due_write" "_law_due_write" (defArgs s_due_write) (defBody s_due_write) (defScope s_due_write) [] [] (ga K "_law_due_write") fd := T.d 21 (d := d_due_write) rfl
theorem Txt.f_numbers (T : Txt w K mg) : ∃ fd, FunD K "_law_numbers" "_law_numbers" (defArgs s_numbers) (defBody s_numbers) (defScope s_numbers) [] [] (ga K "_law_numbers") fd := T.d 22 (d := d_numbers) rfl
theorem Txt.f_nodes (T : Txt w K mg) : ∃ fd, FunD K "_law_nodes" "_law_nodes" (defArgs s_nodes) (defBody s_nodes) (defScope s_nodes) [] [] (ga K "_law_nodes") fd := T.d 23 (d := d_nodes) rfl
theorem Txt.f_keys (T : Txt w K mg) : ∃ fd, FunD K "_law_keys" "_law_keys" (defArgs s_keys) (defBody s_keys) (defScope s_keys) [] [] (ga K "_law_keys") fd := T.d 24 (d := d_keys) rfl
theorem Txt.f_read_told (T : Txt w K mg) : ∃ fd, FunD K "_law_read_told" "_law_read_told" (defArgs s_read_told) (defBody s_read_told) (defScope s_read_told) [] [] (ga K "_law_read_told") fd := T.d 25 (d := d_read_told) rfl
theorem Txt.f_write_told (T : Txt w K mg) : ∃ fd, FunD K "_law_write_told" "_law_write_told" (defArgs s_write_told) (defBody s_write_told) (defScope s_write_told) [] [] (ga K "_law_write_told") fd := T.d 26 (d := d_write_told) rfl
theorem Txt.f_all_meet (T : Txt w K mg) : ∃ fd, FunD K "_law_all_meet" "_law_all_meet" (defArgs s_all_meet) (defBody s_all_meet) (defScope s_all_meet) [] [] (ga K "_law_all_meet") fd := T.d 27 (d := d_all_meet) rfl
theorem Txt.f_law (T : Txt w K mg) : ∃ fd, FunD K "law" "law" (defArgs s_law) (defBody s_law) (defScope s_law) [] [] (ga K "law") fd := T.d 28 (d := d_law) rfl
end
/-! ### the head -/
abbrev R : PySem.W.OpenRow := PySem.W.OpenLaw.row PySem.Challenge.rw_bookstogether_k24_needs_and_modes
abbrev hk : PySem.W.Hook := Hk.hookW 5 ex fn tabs
def ob (s : PySem.W.SharedT) : Hk.AlE := Hk.obsWG 5 ex fn tabs (HandSHeadRun.getT s)
theorem ob_eq (s : PySem.W.SharedT) : ob s = hk.obs s.abs := Hk.obsWG_eq (HandSHeadRun.getT_eq s)
def loose : List PySem.Str := ((["_wall", "STORE", "COMPATIBLE", "compatible", "meet", "read_needs", "_road_needs", "write_needs", "BookError", "InvalidBook", "check_option", "PART", "OPTIONS", "LockBook", "_law_box", "_law_draw", "_law_pick", "_law_names", "_law_alike", "_law_lock_words", "_law_lock_book", "_law_lock_needs", "_law_fit", "_law_needs_meet", "_law_modes", "_law_due_read", "_law_due_write", "_law_numbers", "_law_nodes", "_law_keys"] : List PySem.Str) ++ (["_law_read_told", "_law_write_told", "_law_all_meet"] : List PySem.Str))
set_option maxHeartbeats 0 in
theorem run (w : World) : HandSHeadRun.RunEq R (PySem.W.view R.prog [38]) hk ob 8000 loose w := by
  obtain ⟨dr, p⟩ := w
  rw [Hk.row_eq p]
  generalize p.followText "special-get-raises" = b
  cases b
  · intro os
    kernel_rfl
  · intro os
    kernel_rfl
end K24

end
section
set_option Elab.async false
set_option linter.all false
set_option maxRecDepth 100000
set_option maxHeartbeats 4000000
namespace K24
open PySem PySem.Spec PyProof.Rows L2 Fu
open He (ga ma ba)
noncomputable section
variable {P : Program} {w : World} {K : PySem.W.Frag} {mg : Str → Option Value} {base : Heap}
def tab_COMPATIBLE : List (Str × PV) := [("s", (.ktu [(.str "s"), (.str "is")])), ("x", (.ktu [])), ("is", (.ktu [(.str "s"), (.str "is"), (.str "ix")])), ("ix", (.ktu [(.str "is"), (.str "ix")]))]
theorem tabok_COMPATIBLE (T : Txt w K mg) : ∀ z p, tab_COMPATIBLE.lookup z = some p → keyTB K (ga K "COMPATIBLE") z p = true := tab_at (tab_cons T.kd_COMPATIBLE_0 (tab_cons T.kd_COMPATIBLE_1 (tab_cons T.kd_COMPATIBLE_2 (tab_cons T.kd_COMPATIBLE_3 tab_nil))))
def b_compatible : FS := (retS (opF (inG false) (bvarF 1) (unF (tabG tab_COMPATIBLE) (bvarF 0))))
def F_compatible : Fn := fnOf 2 b_compatible
theorem ok_compatible (T : Txt w K mg) : Hk.GOk P w K mg base (L2N.CX P w) 1 "compatible" ["mode", "other"] (spF K 2 F_compatible) := by
  refine Hk.mkGX T.g_compatible T.f_compatible (fun _ _ _ _ _ _ us hl => match us, hl with | [_, _], _ => rfl) sc_compatible (fun vs H Q E h => spF_len h) (fun cdv A outer s H vs Q E hr h => ?_)
  exact ⟨_, (pss_one (ps_ret (pe_cmpR op_inU (pv 1) (pe_ix ix_kdict (pe_glob (v := .ref (ga K "COMPATIBLE")) (by rfl) T.g_COMPATIBLE rfl) (pv 0) (fun _ _ => rfl)) rfl))), fn_go (N := ["mode", "other"]) (ss_ret (SimE.b (se_op sr_in sb_var (SimE.b (se_tab T.tb_COMPATIBLE.d (tabok_COMPATIBLE T) sb_var))))) h⟩
def b_road_needs : FS := (seqS (asgS (tupF (consA (cF (.str "table")) (consA (varF 1) nilA))) (nameG 4))
      (seqS (asgS (slF slG (bvarF 2) noneO (someO (cF (.int 2)))) (nameG 5))
      (seqS (ifS (tstF (opF (eqG id) (opF ixG (bvarF 2) (cF (.int 0))) (cF (.str "summary"))))
        (retS (opF addG (valN (lstN (consA (tupF (consA (varF 4) (consA (cF (.str "is")) nilA))) nilA))) (ifF (tstF (opF (eqG id) (fldF "LockBook" "kept" (varF 0)) (cF (.str "node")))) (valN (lstN (consA (tupF (consA (varF 5) (consA (cF (.str "s")) nilA))) nilA))) (valN (lstN nilA)))))
        nextS)
      (seqS (asgS (opF (eqG id) (opF ixG (bvarF 2) (cF (.int 0))) (cF (.str "index"))) (nameG 6))
      (seqS (ifS (orT (tstF (opF (eqG id) (fldF "LockBook" "read" (varF 0)) (cF (.str "table")))) (andT (tstF (opF (eqG id) (fldF "LockBook" "read" (varF 0)) (cF (.str "road")))) (notT (tstF (bvarF 6)))))
        (retS (valN (lstN (consA (tupF (consA (varF 4) (consA (cF (.str "s")) nilA))) nilA))))
        nextS)
      (seqS (ifS (tstF (opF (eqG id) (fldF "LockBook" "read" (varF 0)) (cF (.str "road"))))
        (retS (valN (lstN (consA (tupF (consA (varF 4) (consA (cF (.str "is")) nilA))) (consA (tupF (consA (varF 5) (consA (cF (.str "s")) nilA))) nilA)))))
        nextS)
      (seqS (asgS (valN (compN (anyI (varF 3)) [8] (nameX 8) yesT (tupF (consA (tupF (consA (cF (.str "row")) (consA (varF 8) nilA))) (consA (cF (.str "s")) nilA))))) (nameG 7))
      (retS (opF addG (opF addG (valN (lstN (consA (tupF (consA (varF 4) (consA (cF (.str "is")) nilA))) nilA))) (ifF (tstF (bvarF 6)) (valN (lstN (consA (tupF (consA (varF 5) (consA (cF (.str "is")) nilA))) nilA))) (valN (lstN nilA)))) (bvarF 7))))))))))
def F_road_needs : Fn := fnOf 9 b_road_needs
theorem ok_road_needs (T : Txt w K mg) : Hk.GOk P w K mg base (L2N.CX P w) 1 "_road_needs" ["book", "table", "road", "numbers"] (spF K 4 F_road_needs) := by
  refine Hk.mkGX T.g__road_needs T.f_road_needs (fun _ _ _ _ _ _ us hl => match us, hl with | [_, _, _, _], _ => rfl) sc_road_needs (fun vs H Q E h => spF_len h) (fun cdv A outer s H vs Q E hr h => ?_)
  exact ⟨_, (pss_cons (ps_set (i := 4) sc_road_needs.nd rfl (.inl rfl) (pe_tup (pa_cons pe_str (pa_cons (pv 1) pa_nil))))
      (pss_cons (ps_set (i := 5) sc_road_needs.nd rfl (.inl rfl) (pe_slice sl_U (pv 2) po_none (po_some pe_int)))
      (pss_cons (ps_if (pt_cmpR (op_eqU hr.units) (pe_ix ix_U (pv 2) pe_int (fun _ _ => rfl)) pe_str (nomark _))
        (pss_one (ps_ret (pe_op op_addU (pe_lst (pa_cons (pe_tup (pa_cons (pv 4) (pa_cons pe_str pa_nil))) pa_nil)) (pe_ifExp (pt_cmpR (op_eqU hr.units) (pe_fld (pv 0) rfl) pe_str (nomark _)) (pe_lst (pa_cons (pe_tup (pa_cons (pv 5) (pa_cons pe_str pa_nil))) pa_nil)) (pe_lst pa_nil)))))
        pss_nil)
      (pss_cons (ps_set (i := 6) sc_road_needs.nd rfl (.inl rfl) (pe_cmpR (op_eqU hr.units) (pe_ix ix_U (pv 2) pe_int (fun _ _ => rfl)) pe_str (nomark _)))
      (pss_cons (ps_if (PW.pt (pw_or (pt_cmpR (op_eqU hr.units) (pe_fld (pv 0) rfl) pe_str (nomark _)) (pw_or1 (PW.pt (pw_and (pt_cmpR (op_eqU hr.units) (pe_fld (pv 0) rfl) pe_str (nomark _)) (pw_and1 (pt_not (pt_val (pv 6)))))))))
        (pss_one (ps_ret (pe_lst (pa_cons (pe_tup (pa_cons (pv 4) (pa_cons pe_str pa_nil))) pa_nil))))
        pss_nil)
      (pss_cons (ps_if (pt_cmpR (op_eqU hr.units) (pe_fld (pv 0) rfl) pe_str (nomark _))
        (pss_one (ps_ret (pe_lst (pa_cons (pe_tup (pa_cons (pv 4) (pa_cons pe_str pa_nil))) (pa_cons (pe_tup (pa_cons (pv 5) (pa_cons pe_str pa_nil))) pa_nil)))))
        pss_nil)
      (pss_cons (ps_setLc (i := 7) (own := [("number", 8)]) rfl sc_road_needs.nd rfl rfl (sw_true rfl rfl rfl (by decide +kernel)) (pi_any (pv 3)) (blkOk_by (own := [("number", 8)]) (N := ["book", "table", "road", "numbers", "node", "way", "by_index", "found", "number"]) (sc := defScope s_road_needs) (by decide +kernel)) (fun _ _ _ _ _ => pg_name (i := 8) sc_road_needs.nd rfl (Or.inl rfl)) (fun _ _ _ _ _ => pts_nil) (fun _ _ _ _ _ => (pe_tup (pa_cons (pe_tup (pa_cons pe_str (pa_cons (pv 8) pa_nil))) (pa_cons pe_str pa_nil)))))
      (pss_one (ps_ret (pe_op op_addU (pe_op op_addU (pe_lst (pa_cons (pe_tup (pa_cons (pv 4) (pa_cons pe_str pa_nil))) pa_nil)) (pe_ifExp (pt_val (pv 6)) (pe_lst (pa_cons (pe_tup (pa_cons (pv 5) (pa_cons pe_str pa_nil))) pa_nil)) (pe_lst pa_nil))) (pv 7))))))))))), fn_go (N := ["book", "table", "road", "numbers", "node", "way", "by_index", "found", "number"]) (ss_seq (ss_asg (se_tup (sa_cons se_str (sa_cons se_var sa_nil))) sg_name)
      (ss_seq (ss_asg (se_sl ssl_U sb_var so_none (so_some (SimE.b se_int))) sg_name)
      (ss_seq (ss_if (st_tst (SimE.b (se_op sr_eq (SimE.b (se_op sr_ix sb_var (SimE.b se_int))) (SimE.b se_str))))
        (ss_ret (SimE.b (se_op sr_add (SimE.b (SimN.e (sn_lst (sa_cons (se_tup (sa_cons se_var (sa_cons se_str sa_nil))) sa_nil)))) (SimE.b (se_if (st_tst (SimE.b (se_op sr_eq (SimE.b (se_fld T.cl_LockBook T.n_LockBook_kept se_var)) (SimE.b se_str)))) (SimN.e (sn_lst (sa_cons (se_tup (sa_cons se_var (sa_cons se_str sa_nil))) sa_nil))) (SimN.e (sn_lst sa_nil)))))))
        ss_next)
      (ss_seq (ss_asg (se_op sr_eq (SimE.b (se_op sr_ix sb_var (SimE.b se_int))) (SimE.b se_str)) sg_name)
      (ss_seq (ss_if (st_or (st_tst (SimE.b (se_op sr_eq (SimE.b (se_fld T.cl_LockBook T.n_LockBook_read se_var)) (SimE.b se_str)))) (st_and (st_tst (SimE.b (se_op sr_eq (SimE.b (se_fld T.cl_LockBook T.n_LockBook_read se_var)) (SimE.b se_str)))) (st_not (st_tB sb_var))))
        (ss_ret (SimE.b (SimN.e (sn_lst (sa_cons (se_tup (sa_cons se_var (sa_cons se_str sa_nil))) sa_nil)))))
        ss_next)
      (ss_seq (ss_if (st_tst (SimE.b (se_op sr_eq (SimE.b (se_fld T.cl_LockBook T.n_LockBook_read se_var)) (SimE.b se_str))))
        (ss_ret (SimE.b (SimN.e (sn_lst (sa_cons (se_tup (sa_cons se_var (sa_cons se_str sa_nil))) (sa_cons (se_tup (sa_cons se_var (sa_cons se_str sa_nil))) sa_nil))))))
        ss_next)
      (ss_seq (ss_asg (SimN.e (sn_lc (si_any se_var) sx_name st_yes (se_tup (sa_cons (se_tup (sa_cons se_str (sa_cons se_var sa_nil))) (sa_cons se_str sa_nil))))) sg_name)
      (ss_ret (SimE.b (se_op sr_add (SimE.b (se_op sr_add (SimE.b (SimN.e (sn_lst (sa_cons (se_tup (sa_cons se_var (sa_cons se_str sa_nil))) sa_nil)))) (SimE.b (se_if (st_tB sb_var) (SimN.e (sn_lst (sa_cons (se_tup (sa_cons se_var (sa_cons se_str sa_nil))) sa_nil))) (SimN.e (sn_lst sa_nil)))))) sb_var)))))))))) h⟩
def b_write_needs : FS := (seqS (asgS (tupF (consA (cF (.str "table")) (consA (varF 1) nilA))) (nameG 5))
      (seqS (ifS (tstF (opF (eqG id) (fldF "LockBook" "write" (varF 0)) (cF (.str "store"))))
        (retS (liveF (lstN (consA (tupF (consA (cF (.ktu [(.str "store")])) (consA (cF (.str "x")) nilA))) nilA))))
        nextS)
      (seqS (ifS (tstF (opF (eqG id) (fldF "LockBook" "write" (varF 0)) (cF (.str "table"))))
        (retS (liveF (lstN (consA (tupF (consA (cF (.ktu [(.str "store")])) (consA (cF (.str "ix")) nilA))) (consA (tupF (consA (varF 5) (consA (cF (.str "x")) nilA))) nilA)))))
        nextS)
      (seqS (asgS (valN (compN (anyI (varF 3)) [8] (nameX 8) yesT (tupF (consA (varF 8) (consA (cF (.str "ix")) nilA))))) (nameG 6))
      (seqS (asgS (ifF (tstF (opF (eqG id) (fldF "LockBook" "checks" (varF 0)) (cF (.str "key")))) (valN (compN (anyI (varF 4)) [9] (nameX 9) yesT (tupF (consA (varF 9) (consA (cF (.str "x")) nilA))))) (valN (lstN nilA))) (nameG 7))
      (retS (liveF (addN (opF addG (opF addG (valN (lstN (consA (tupF (consA (cF (.ktu [(.str "store")])) (consA (cF (.str "ix")) nilA))) (consA (tupF (consA (varF 5) (consA (cF (.str "ix")) nilA))) nilA)))) (bvarF 6)) (valN (lstN (consA (tupF (consA (tupF (consA (cF (.str "row")) (consA (varF 2) nilA))) (consA (cF (.str "x")) nilA))) nilA)))) (bvarF 7)))))))))
def F_write_needs : Fn := fnOf 10 b_write_needs
theorem ok_write_needs (T : Txt w K mg) : Hk.GOk P w K mg base (L2N.CX P w) 1 "write_needs" ["book", "table", "number", "nodes", "keys"] (spF K 5 F_write_needs) := by
  refine Hk.mkGX T.g_write_needs T.f_write_needs (fun _ _ _ _ _ _ us hl => match us, hl with | [_, _, _, _, _], _ => rfl) sc_write_needs (fun vs H Q E h => spF_len h) (fun cdv A outer s H vs Q E hr h => ?_)
  exact ⟨_, (pss_cons (ps_set (i := 5) sc_write_needs.nd rfl (.inl rfl) (pe_tup (pa_cons pe_str (pa_cons (pv 1) pa_nil))))
      (pss_cons (ps_if (pt_cmpR (op_eqU hr.units) (pe_fld (pv 0) rfl) pe_str (nomark _))
        (pss_one (ps_ret (pe_lst (pa_cons (pe_tup (pa_cons (pe_glob (v := .ref (ga K "STORE")) (by rfl) T.g_STORE rfl) (pa_cons pe_str pa_nil))) pa_nil))))
        pss_nil)
      (pss_cons (ps_if (pt_cmpR (op_eqU hr.units) (pe_fld (pv 0) rfl) pe_str (nomark _))
        (pss_one (ps_ret (pe_lst (pa_cons (pe_tup (pa_cons (pe_glob (v := .ref (ga K "STORE")) (by rfl) T.g_STORE rfl) (pa_cons pe_str pa_nil))) (pa_cons (pe_tup (pa_cons (pv 5) (pa_cons pe_str pa_nil))) pa_nil)))))
        pss_nil)
      (pss_cons (ps_setLc (i := 6) (own := [("mark", 8)]) rfl sc_write_needs.nd rfl rfl (sw_true rfl rfl rfl (by decide +kernel)) (pi_any (pv 3)) (blkOk_by (own := [("mark", 8)]) (N := ["book", "table", "number", "nodes", "keys", "node", "marked", "checked", "mark", "key"]) (sc := defScope s_write_needs) (by decide +kernel)) (fun _ _ _ _ _ => pg_name (i := 8) sc_write_needs.nd rfl (Or.inl rfl)) (fun _ _ _ _ _ => pts_nil) (fun _ _ _ _ _ => (pe_tup (pa_cons (pv 8) (pa_cons pe_str pa_nil)))))
      (pss_cons (ps_set (i := 7) sc_write_needs.nd rfl (.inl rfl) (pe_ifExp (pt_cmpR (op_eqU hr.units) (pe_fld (pv 0) rfl) pe_str (nomark _)) (pe_lc (own := [("key", 9)]) rfl sc_write_needs.nd (pi_any (pv 4)) (blkOk_by (own := [("key", 9)]) (N := ["book", "table", "number", "nodes", "keys", "node", "marked", "checked", "mark", "key"]) (sc := defScope s_write_needs) (by decide +kernel)) (fun _ _ _ _ _ => pg_name (i := 9) sc_write_needs.nd rfl (Or.inl rfl)) (fun _ _ _ _ _ => pts_nil) (fun _ _ _ _ _ => (pe_tup (pa_cons (pv 9) (pa_cons pe_str pa_nil))))) (pe_lst pa_nil)))
      (pss_one (ps_ret (pe_op op_addU (pe_op op_addU (pe_op op_addU (pe_lst (pa_cons (pe_tup (pa_cons (pe_glob (v := .ref (ga K "STORE")) (by rfl) T.g_STORE rfl) (pa_cons pe_str pa_nil))) (pa_cons (pe_tup (pa_cons (pv 5) (pa_cons pe_str pa_nil))) pa_nil))) (pv 6)) (pe_lst (pa_cons (pe_tup (pa_cons (pe_tup (pa_cons pe_str (pa_cons (pv 2) pa_nil))) (pa_cons pe_str pa_nil))) pa_nil))) (pv 7))))))))), fn_go (N := ["book", "table", "number", "nodes", "keys", "node", "marked", "checked", "mark", "key"]) (ss_seq (ss_asg (se_tup (sa_cons se_str (sa_cons se_var sa_nil))) sg_name)
      (ss_seq (ss_if (st_tst (SimE.b (se_op sr_eq (SimE.b (se_fld T.cl_LockBook T.n_LockBook_write se_var)) (SimE.b se_str))))
        (ss_ret (SimE.b (se_live (sn_lst (sa_cons (se_tup (sa_cons (se_ktup T.ku_STORE) (sa_cons se_str sa_nil))) sa_nil)))))
        ss_next)
      (ss_seq (ss_if (st_tst (SimE.b (se_op sr_eq (SimE.b (se_fld T.cl_LockBook T.n_LockBook_write se_var)) (SimE.b se_str))))
        (ss_ret (SimE.b (se_live (sn_lst (sa_cons (se_tup (sa_cons (se_ktup T.ku_STORE) (sa_cons se_str sa_nil))) (sa_cons (se_tup (sa_cons se_var (sa_cons se_str sa_nil))) sa_nil))))))
        ss_next)
      (ss_seq (ss_asg (SimN.e (sn_lc (si_any se_var) sx_name st_yes (se_tup (sa_cons se_var (sa_cons se_str sa_nil))))) sg_name)
      (ss_seq (ss_asg (se_if (st_tst (SimE.b (se_op sr_eq (SimE.b (se_fld T.cl_LockBook T.n_LockBook_checks se_var)) (SimE.b se_str)))) (SimN.e (sn_lc (si_any se_var) sx_name st_yes (se_tup (sa_cons se_var (sa_cons se_str sa_nil))))) (SimN.e (sn_lst sa_nil))) sg_name)
      (ss_ret (SimE.b (se_live (sn_add (SimE.b (se_op sr_add (SimE.b (se_op sr_add (SimE.b (SimN.e (sn_lst (sa_cons (se_tup (sa_cons (se_ktup T.ku_STORE) (sa_cons se_str sa_nil))) (sa_cons (se_tup (sa_cons se_var (sa_cons se_str sa_nil))) sa_nil))))) sb_var)) (SimE.b (SimN.e (sn_lst (sa_cons (se_tup (sa_cons (se_tup (sa_cons se_str (sa_cons se_var sa_nil))) (sa_cons se_str sa_nil))) sa_nil)))))) sb_var))))))))) h⟩
def b_check_option : FS := (ifS (tstF (opF (inG true) (bvarF 1) (bvarF 2)))
        stuckS
        nextS)
def F_check_option : Fn := fnOf 3 b_check_option
theorem ok_check_option (T : Txt w K mg) : Hk.GOk P w K mg base (L2N.CX P w) 1 "check_option" ["part", "word", "words"] (spF K 3 F_check_option) := by
  refine Hk.mkGX T.g_check_option T.f_check_option (fun _ _ _ _ _ _ us hl => match us, hl with | [_, _, _], _ => rfl) sc_check_option (fun vs H Q E h => spF_len h) (fun cdv A outer s H vs Q E hr h => ?_)
  exact ⟨_, (pss_one (ps_if (pt_cmpR op_notInU (pv 1) (pv 2) rfl)
        (pss_one ps_never)
        pss_nil)), fn_go (N := ["part", "word", "words"]) (ss_if (st_tst (SimE.b (se_op sr_in sb_var sb_var)))
        ss_never
        ss_next) h⟩
def b_LockBook_chosen : FS := (retS (valN (lstN (consA (fldF "LockBook" "read" (varF 0)) (consA (fldF "LockBook" "write" (varF 0)) (consA (fldF "LockBook" "marks" (varF 0)) (consA (fldF "LockBook" "checks" (varF 0)) (consA (fldF "LockBook" "kept" (varF 0)) (consA (fldF "LockBook" "asks" (varF 0)) (consA (fldF "LockBook" "lasts" (varF 0)) (consA (fldF "LockBook" "clash" (varF 0)) nilA)))))))))))
def F_LockBook_chosen : Fn := fnOf 1 b_LockBook_chosen
theorem ok_LockBook_chosen (T : Txt w K mg) : Hk.AOk P w K mg base (L2N.CX P w) 1 (Hk.mt K "LockBook" "_chosen") ["self"] (spF K 1 F_LockBook_chosen) := by
  refine Hk.mkAX T.f_LockBook_chosen (fun _ _ _ _ _ _ us hl => match us, hl with | [_], _ => rfl) sc_LockBook_chosen (fun vs H Q E h => spF_len h) (fun cdv A outer s H vs Q E hr h => ?_)
  exact ⟨_, (pss_one (ps_ret (pe_lst (pa_cons (pe_fld (pv 0) rfl) (pa_cons (pe_fld (pv 0) rfl) (pa_cons (pe_fld (pv 0) rfl) (pa_cons (pe_fld (pv 0) rfl) (pa_cons (pe_fld (pv 0) rfl) (pa_cons (pe_fld (pv 0) rfl) (pa_cons (pe_fld (pv 0) rfl) (pa_cons (pe_fld (pv 0) rfl) pa_nil))))))))))), fn_go (N := ["self"]) (ss_ret (SimE.b (SimN.e (sn_lst (sa_cons (se_fld T.cl_LockBook T.n_LockBook_read se_var) (sa_cons (se_fld T.cl_LockBook T.n_LockBook_write se_var) (sa_cons (se_fld T.cl_LockBook T.n_LockBook_marks se_var) (sa_cons (se_fld T.cl_LockBook T.n_LockBook_checks se_var) (sa_cons (se_fld T.cl_LockBook T.n_LockBook_kept se_var) (sa_cons (se_fld T.cl_LockBook T.n_LockBook_asks se_var) (sa_cons (se_fld T.cl_LockBook T.n_LockBook_lasts se_var) (sa_cons (se_fld T.cl_LockBook T.n_LockBook_clash se_var) sa_nil)))))))))))) h⟩
def b_box : FS := (retS (liveF (lstN (consA (valN (listN (consA (bvarF 0) nilA))) (consA (cF (.int 0)) (consA (cF (.int 0)) (consA (cF (.int 0)) (consA (cF (.int 0)) nilA))))))))
def F_box : Fn := fnOf 1 b_box
theorem ok_box (T : Txt w K mg) : Hk.GOk P w K mg base (L2N.CX P w) 1 "_law_box" ["_law_script"] (spF K 1 F_box) := by
  refine Hk.mkGX T.g__law_box T.f_box (fun _ _ _ _ _ _ us hl => match us, hl with | [_], _ => rfl) sc_box (fun vs H Q E h => spF_len h) (fun cdv A outer s H vs Q E hr h => ?_)
  exact ⟨_, (pss_one (ps_ret (pe_lst (pa_cons (pe_callTy call_listU (by rfl) T.z_list (by decide +kernel) (pa_cons (pv 0) pa_nil)) (pa_cons pe_int (pa_cons pe_int (pa_cons pe_int (pa_cons pe_int pa_nil)))))))), fn_go (N := ["_law_script"]) (ss_ret (SimE.b (se_live (sn_lst (sa_cons (SimN.e (sn_list (sab_cons sb_var sab_nil))) (sa_cons se_int (sa_cons se_int (sa_cons se_int (sa_cons se_int sa_nil))))))))) h⟩
def b_draw : FS := (seqS (ifS (tstF (opF (eqG id) (opF ixG (bvarF 0) (cF (.int 3))) (cF (.int 0))))
        (seqS (ifS (tstF (opF geG (opF ixG (bvarF 0) (cF (.int 1))) (callB lenG (consA (opF ixG (bvarF 0) (cF (.int 0))) nilA))))
          (retS (cF (.int 0)))
          nextS)
        (seqS (asgS (callB absG (consA (callB intC (consA (opF ixG (opF ixG (bvarF 0) (cF (.int 0))) (opF ixG (bvarF 0) (cF (.int 1)))) nilA)) nilA)) (subsG (varF 0) (cF (.int 2))))
        (seqS (asgS (opF addG (opF ixG (bvarF 0) (cF (.int 1))) (cF (.int 1))) (subsG (varF 0) (cF (.int 1))))
        (seqS (asgS (callB intC (consA (opF geG (opF ixG (bvarF 0) (cF (.int 2))) (opF powG (cF (.int 10)) (cF (.int 18)))) nilA)) (subsG (varF 0) (cF (.int 4))))
        (asgS (opF addG (cF (.int 12)) (opF mulG (cF (.int 48)) (opF ixG (bvarF 0) (cF (.int 4))))) (subsG (varF 0) (cF (.int 3))))))))
        nextS)
      (seqS (asgS (opF subG (opF ixG (bvarF 0) (cF (.int 3))) (cF (.int 1))) (subsG (varF 0) (cF (.int 3))))
      (seqS (ifS (tstF (opF (eqG id) (opF ixG (bvarF 0) (cF (.int 4))) (cF (.int 1))))
        (seqS (asgS (opF modG (callB intC (consA (opF ixG (bvarF 0) (cF (.int 2))) nilA)) (bvarF 1)) (nameG 2))
        (seqS (asgS (opF divG (callB intC (consA (opF ixG (bvarF 0) (cF (.int 2))) nilA)) (bvarF 1)) (subsG (varF 0) (cF (.int 2))))
        (seqS (ifS (tstF (opF (eqG id) (opF ixG (bvarF 0) (cF (.int 2))) (cF (.int 0))))
          (asgS (cF (.int 0)) (subsG (varF 0) (cF (.int 3))))
          nextS)
        (retS (bvarF 2)))))
        nextS)
      (seqS (asgS (opF modG (callB intC (consA (opF addG (opF addG (opF mulG (callB intC (consA (opF ixG (bvarF 0) (cF (.int 2))) nilA)) (cF (.int 48271))) (opF mulG (opF ixG (bvarF 0) (cF (.int 3))) (cF (.int 69621)))) (cF (.int 13))) nilA)) (cF (.int 2147483647))) (nameG 3))
      (seqS (asgS (opF modG (callB intC (consA (opF addG (opF addG (opF mulG (bvarF 3) (cF (.int 16807))) (opF mulG (opF ixG (bvarF 0) (cF (.int 3))) (cF (.int 40692)))) (cF (.int 7))) nilA)) (cF (.int 2147483629))) (nameG 3))
      (retS (opF modG (callB intC (consA (bvarF 3) nilA)) (bvarF 1))))))))
def F_draw : Fn := fnOf 4 b_draw
theorem ok_draw (T : Txt w K mg) : Hk.GOk P w K mg base (L2N.CX P w) 1 "_law_draw" ["_law_box_here", "_law_size"] (spF K 2 F_draw) := by
  refine Hk.mkGX T.g__law_draw T.f_draw (fun _ _ _ _ _ _ us hl => match us, hl with | [_, _], _ => rfl) sc_draw (fun vs H Q E h => spF_len h) (fun cdv A outer s H vs Q E hr h => ?_)
  exact ⟨_, (pss_cons (ps_if (pt_cmpR (op_eqU hr.units) (pe_ix ix_U (pv 0) pe_int (fun _ _ => rfl)) pe_int (nomark _))
        (pss_cons (ps_if (pt_cmpR op_ge (pe_ix ix_U (pv 0) pe_int (fun _ _ => rfl)) (pe_callB call_lenU (by rfl) T.z_len (by decide +kernel) (pa_cons (pe_ix ix_U (pv 0) pe_int (fun _ _ => rfl)) pa_nil)) (nomark _))
          (pss_one (ps_ret pe_int))
          pss_nil)
        (pss_cons (ps_asg (pe_callB call_abs (by rfl) T.z_abs (by decide +kernel) (pa_cons (pe_callTy call_int1 (by rfl) T.z_int (by decide +kernel) (pa_cons (pe_ix ix_U (pe_ix ix_U (pv 0) pe_int (fun _ _ => rfl)) (pe_ix ix_U (pv 0) pe_int (fun _ _ => rfl)) (fun _ _ => rfl)) pa_nil)) pa_nil)) (pg_sub (pv 0) pe_int set_list))
        (pss_cons (ps_asg (pe_op op_addU (pe_ix ix_U (pv 0) pe_int (fun _ _ => rfl)) pe_int) (pg_sub (pv 0) pe_int set_list))
        (pss_cons (ps_asg (pe_callTy call_int1 (by rfl) T.z_int (by decide +kernel) (pa_cons (pe_cmpR op_ge (pe_ix ix_U (pv 0) pe_int (fun _ _ => rfl)) (pe_op op_pow pe_int pe_int) (nomark _)) pa_nil)) (pg_sub (pv 0) pe_int set_list))
        (pss_one (ps_asg (pe_op op_addU pe_int (pe_op op_mul pe_int (pe_ix ix_U (pv 0) pe_int (fun _ _ => rfl)))) (pg_sub (pv 0) pe_int set_list)))))))
        pss_nil)
      (pss_cons (ps_asg (pe_op op_sub (pe_ix ix_U (pv 0) pe_int (fun _ _ => rfl)) pe_int) (pg_sub (pv 0) pe_int set_list))
      (pss_cons (ps_if (pt_cmpR (op_eqU hr.units) (pe_ix ix_U (pv 0) pe_int (fun _ _ => rfl)) pe_int (nomark _))
        (pss_cons (ps_set (i := 2) sc_draw.nd rfl (.inl rfl) (pe_op op_modN (pe_callTy call_int1 (by rfl) T.z_int (by decide +kernel) (pa_cons (pe_ix ix_U (pv 0) pe_int (fun _ _ => rfl)) pa_nil)) (pv 1)))
        (pss_cons (ps_asg (pe_op op_fdivN (pe_callTy call_int1 (by rfl) T.z_int (by decide +kernel) (pa_cons (pe_ix ix_U (pv 0) pe_int (fun _ _ => rfl)) pa_nil)) (pv 1)) (pg_sub (pv 0) pe_int set_list))
        (pss_cons (ps_if (pt_cmpR (op_eqU hr.units) (pe_ix ix_U (pv 0) pe_int (fun _ _ => rfl)) pe_int (nomark _))
          (pss_one (ps_asg pe_int (pg_sub (pv 0) pe_int set_list)))
          pss_nil)
        (pss_one (ps_ret (pv 2))))))
        pss_nil)
      (pss_cons (ps_set (i := 3) sc_draw.nd rfl (.inl rfl) (pe_op op_modN (pe_callTy call_int1 (by rfl) T.z_int (by decide +kernel) (pa_cons (pe_op op_addU (pe_op op_addU (pe_op op_mul (pe_callTy call_int1 (by rfl) T.z_int (by decide +kernel) (pa_cons (pe_ix ix_U (pv 0) pe_int (fun _ _ => rfl)) pa_nil)) pe_int) (pe_op op_mul (pe_ix ix_U (pv 0) pe_int (fun _ _ => rfl)) pe_int)) pe_int) pa_nil)) pe_int))
      (pss_cons (ps_set (i := 3) sc_draw.nd rfl (.inl rfl) (pe_op op_modN (pe_callTy call_int1 (by rfl) T.z_int (by decide +kernel) (pa_cons (pe_op op_addU (pe_op op_addU (pe_op op_mul (pv 3) pe_int) (pe_op op_mul (pe_ix ix_U (pv 0) pe_int (fun _ _ => rfl)) pe_int)) pe_int) pa_nil)) pe_int))
      (pss_one (ps_ret (pe_op op_modN (pe_callTy call_int1 (by rfl) T.z_int (by decide +kernel) (pa_cons (pv 3) pa_nil)) (pv 1))))))))), fn_go (N := ["_law_box_here", "_law_size", "_law_drawn", "_law_mixed"]) (ss_seq (ss_if (st_tst (SimE.b (se_op sr_eq (SimE.b (se_op sr_ix sb_var (SimE.b se_int))) (SimE.b se_int))))
        (ss_seq (ss_if (st_tst (SimE.b (se_op sr_cmp (SimE.b (se_op sr_ix sb_var (SimE.b se_int))) (SimE.b (se_cb sc_len (sab_cons (SimE.b (se_op sr_ix sb_var (SimE.b se_int))) sab_nil))))))
          (ss_ret (SimE.b se_int))
          ss_next)
        (ss_seq (ss_asg (se_cb sc_abs (sab_cons (SimE.b (se_cb sc_int (sab_cons (SimE.b (se_op sr_ix (SimE.b (se_op sr_ix sb_var (SimE.b se_int))) (SimE.b (se_op sr_ix sb_var (SimE.b se_int))))) sab_nil))) sab_nil)) (sg_sub se_var (SimE.b se_int)))
        (ss_seq (ss_asg (se_op sr_add (SimE.b (se_op sr_ix sb_var (SimE.b se_int))) (SimE.b se_int)) (sg_sub se_var (SimE.b se_int)))
        (ss_seq (ss_asg (se_cb sc_int (sab_cons (SimE.b (se_op sr_cmp (SimE.b (se_op sr_ix sb_var (SimE.b se_int))) (SimE.b (se_op sr_pow (SimE.b se_int) (SimE.b se_int))))) sab_nil)) (sg_sub se_var (SimE.b se_int)))
        (ss_asg (se_op sr_add (SimE.b se_int) (SimE.b (se_op sr_mul (SimE.b se_int) (SimE.b (se_op sr_ix sb_var (SimE.b se_int)))))) (sg_sub se_var (SimE.b se_int)))))))
        ss_next)
      (ss_seq (ss_asg (se_op sr_int0 (SimE.b (se_op sr_ix sb_var (SimE.b se_int))) (SimE.b se_int)) (sg_sub se_var (SimE.b se_int)))
      (ss_seq (ss_if (st_tst (SimE.b (se_op sr_eq (SimE.b (se_op sr_ix sb_var (SimE.b se_int))) (SimE.b se_int))))
        (ss_seq (ss_asg (se_op sr_mod (SimE.b (se_cb sc_int (sab_cons (SimE.b (se_op sr_ix sb_var (SimE.b se_int))) sab_nil))) sb_var) sg_name)
        (ss_seq (ss_asg (se_op sr_div (SimE.b (se_cb sc_int (sab_cons (SimE.b (se_op sr_ix sb_var (SimE.b se_int))) sab_nil))) sb_var) (sg_sub se_var (SimE.b se_int)))
        (ss_seq (ss_if (st_tst (SimE.b (se_op sr_eq (SimE.b (se_op sr_ix sb_var (SimE.b se_int))) (SimE.b se_int))))
          (ss_asg se_int (sg_sub se_var (SimE.b se_int)))
          ss_next)
        (ss_ret sb_var))))
        ss_next)
      (ss_seq (ss_asg (se_op sr_mod (SimE.b (se_cb sc_int (sab_cons (SimE.b (se_op sr_add (SimE.b (se_op sr_add (SimE.b (se_op sr_mul (SimE.b (se_cb sc_int (sab_cons (SimE.b (se_op sr_ix sb_var (SimE.b se_int))) sab_nil))) (SimE.b se_int))) (SimE.b (se_op sr_mul (SimE.b (se_op sr_ix sb_var (SimE.b se_int))) (SimE.b se_int))))) (SimE.b se_int))) sab_nil))) (SimE.b se_int)) sg_name)
      (ss_seq (ss_asg (se_op sr_mod (SimE.b (se_cb sc_int (sab_cons (SimE.b (se_op sr_add (SimE.b (se_op sr_add (SimE.b (se_op sr_mul sb_var (SimE.b se_int))) (SimE.b (se_op sr_mul (SimE.b (se_op sr_ix sb_var (SimE.b se_int))) (SimE.b se_int))))) (SimE.b se_int))) sab_nil))) (SimE.b se_int)) sg_name)
      (ss_ret (SimE.b (se_op sr_mod (SimE.b (se_cb sc_int (sab_cons sb_var sab_nil))) sb_var)))))))) h⟩
def b_alike (F_rec : Fn) : FS := (seqS (ifS (tstF (opF (isG id) (bvarF 1) (cF .non)))
        (retS (opF (isG id) (bvarF 0) (cF .non)))
        nextS)
      (seqS (ifS (orT (tstF (opF (isG id) (bvarF 1) (cF (.bl true)))) (tstF (opF (isG id) (bvarF 1) (cF (.bl false)))))
        (retS (andF (callB isiG (consA (bvarF 0) (consA (cF (.ty "bool")) nilA))) (opF (eqG id) (bvarF 0) (bvarF 1))))
        nextS)
      (seqS (ifS (tstF (callB isiG (consA (bvarF 1) (consA (cF (.ty "int")) nilA))))
        (retS (andF (callB isiG (consA (bvarF 0) (consA (cF (.ty "int")) nilA))) (andF (notF (callB isiG (consA (bvarF 0) (consA (cF (.ty "bool")) nilA)))) (opF (eqG id) (bvarF 0) (bvarF 1)))))
        nextS)
      (seqS (ifS (tstF (callB isiG (consA (bvarF 1) (consA (cF (.ty "str")) nilA))))
        (retS (andF (callB isiG (consA (bvarF 0) (consA (cF (.ty "str")) nilA))) (opF (eqG id) (bvarF 0) (bvarF 1))))
        nextS)
      (seqS (ifS (tstF (callB isiG (consA (bvarF 1) (consA (cF (.ty "tuple")) nilA))))
        (ifS (orT (notT (tstF (callB isiG (consA (bvarF 0) (consA (cF (.ty "tuple")) nilA))))) (tstF (opF (eqG not) (callB lenG (consA (bvarF 0) nilA)) (callB lenG (consA (bvarF 1) nilA)))))
          (retS (cF (.bl false)))
          nextS)
        (ifS (orT (notT (tstF (callB isiG (consA (bvarF 0) (consA (cF (.ty "list")) nilA))))) (tstF (opF (eqG not) (callB lenG (consA (bvarF 0) nilA)) (callB lenG (consA (bvarF 1) nilA)))))
          (retS (cF (.bl false)))
          nextS))
      (seqS (forS (range1I (consA (callB lenG (consA (bvarF 1) nilA)) nilA)) (nameG 2)
        (ifS (notT (tstF (callN 2 F_rec (consA (opF ixG (bvarF 0) (bvarF 2)) (consA (opF ixG (bvarF 1) (bvarF 2)) nilA)))))
          (retS (cF (.bl false)))
          nextS))
      (retS (cF (.bl true)))))))))
def F_alike : Nat → Fn
  | 0 => fun _ _ => .stuck
  | k + 1 => fnOf 3 (b_alike (F_alike k))
theorem ok_alike (T : Txt w K mg) : ∀ k, Hk.GOk P w K mg base (L2N.CX P w) (k + 1) "_law_alike" ["_law_actual", "_law_due"] (spF K 2 (F_alike k))
  | 0 => go_zero T.g__law_alike T.f_alike (fun _ _ _ _ _ _ us hl => match us, hl with | [_, _], _ => rfl) (fun vs H Q E h => spF_len h) (fun vs H Q E h => spF_zero h)
  | k + 1 => by
    have G := ok_alike T k
    refine Hk.mkGX T.g__law_alike T.f_alike (fun _ _ _ _ _ _ us hl => match us, hl with | [_, _], _ => rfl) sc_alike (fun vs H Q E h => spF_len h) (fun cdv A outer s H vs Q E hr h => ?_)
    exact ⟨_, (pss_cons (ps_if (pt_cmpR op_isU (pv 1) pe_non (nomark _))
        (pss_one (ps_ret (pe_cmpR op_isU (pv 0) pe_non (nomark _))))
        pss_nil)
      (pss_cons (ps_if (PW.pt (pw_or (pt_cmpR op_isU (pv 1) pe_bl (nomark _)) (pw_or1 (pt_cmpR op_isU (pv 1) pe_bl (nomark _)))))
        (pss_one (ps_ret (pe_and (pe_callB call_isi (by rfl) T.z_isinstance (by decide +kernel) (pa_cons (pv 0) (pa_cons (pe_bltn (v := .ty "bool") (by rfl) T.z_bool (by decide +kernel) rfl) pa_nil))) (pe_one (pe_cmpR (op_eqU hr.units) (pv 0) (pv 1) (nomark _))))))
        pss_nil)
      (pss_cons (ps_if (pt_val (pe_callB call_isi (by rfl) T.z_isinstance (by decide +kernel) (pa_cons (pv 1) (pa_cons (pe_bltn (v := .ty "int") (by rfl) T.z_int (by decide +kernel) rfl) pa_nil))))
        (pss_one (ps_ret (pe_and (pe_callB call_isi (by rfl) T.z_isinstance (by decide +kernel) (pa_cons (pv 0) (pa_cons (pe_bltn (v := .ty "int") (by rfl) T.z_int (by decide +kernel) rfl) pa_nil))) (pe_and (pe_not (pe_callB call_isi (by rfl) T.z_isinstance (by decide +kernel) (pa_cons (pv 0) (pa_cons (pe_bltn (v := .ty "bool") (by rfl) T.z_bool (by decide +kernel) rfl) pa_nil)))) (pe_one (pe_cmpR (op_eqU hr.units) (pv 0) (pv 1) (nomark _)))))))
        pss_nil)
      (pss_cons (ps_if (pt_val (pe_callB call_isi (by rfl) T.z_isinstance (by decide +kernel) (pa_cons (pv 1) (pa_cons (pe_bltn (v := .ty "str") (by rfl) T.z_str (by decide +kernel) rfl) pa_nil))))
        (pss_one (ps_ret (pe_and (pe_callB call_isi (by rfl) T.z_isinstance (by decide +kernel) (pa_cons (pv 0) (pa_cons (pe_bltn (v := .ty "str") (by rfl) T.z_str (by decide +kernel) rfl) pa_nil))) (pe_one (pe_cmpR (op_eqU hr.units) (pv 0) (pv 1) (nomark _))))))
        pss_nil)
      (pss_cons (ps_if (pt_val (pe_callB call_isi (by rfl) T.z_isinstance (by decide +kernel) (pa_cons (pv 1) (pa_cons (pe_bltn (v := .ty "tuple") (by rfl) T.z_tuple (by decide +kernel) rfl) pa_nil))))
        (pss_one (ps_if (PW.pt (pw_or (pt_not (pt_val (pe_callB call_isi (by rfl) T.z_isinstance (by decide +kernel) (pa_cons (pv 0) (pa_cons (pe_bltn (v := .ty "tuple") (by rfl) T.z_tuple (by decide +kernel) rfl) pa_nil))))) (pw_or1 (pt_cmpR (op_neU hr.units) (pe_callB call_lenU (by rfl) T.z_len (by decide +kernel) (pa_cons (pv 0) pa_nil)) (pe_callB call_lenU (by rfl) T.z_len (by decide +kernel) (pa_cons (pv 1) pa_nil)) (nomark _)))))
          (pss_one (ps_ret pe_bl))
          pss_nil))
        (pss_one (ps_if (PW.pt (pw_or (pt_not (pt_val (pe_callB call_isi (by rfl) T.z_isinstance (by decide +kernel) (pa_cons (pv 0) (pa_cons (pe_bltn (v := .ty "list") (by rfl) T.z_list (by decide +kernel) rfl) pa_nil))))) (pw_or1 (pt_cmpR (op_neU hr.units) (pe_callB call_lenU (by rfl) T.z_len (by decide +kernel) (pa_cons (pv 0) pa_nil)) (pe_callB call_lenU (by rfl) T.z_len (by decide +kernel) (pa_cons (pv 1) pa_nil)) (nomark _)))))
          (pss_one (ps_ret pe_bl))
          pss_nil)))
      (pss_cons (ps_for (passes_of rfl) rfl (pi_range1 (by rfl) T.z_range (pa_cons (pe_callB call_lenU (by rfl) T.z_len (by decide +kernel) (pa_cons (pv 1) pa_nil)) pa_nil)) (pg_name (i := 2) sc_alike.nd rfl (.inl rfl))
        (pss_one (ps_if (pt_not (pt_val (Hk.pe_g (G) (hr.mono (by omega)) (L2N.passes_call (L2N.takes_of rfl rfl rfl rfl) (fun _ _ _ _ h => h)) (pa_cons (pe_ix ix_U (pv 0) (pv 2) (fun _ _ => rfl)) (pa_cons (pe_ix ix_U (pv 1) (pv 2) (fun _ _ => rfl)) pa_nil)))))
          (pss_one (ps_ret pe_bl))
          pss_nil)))
      (pss_one (ps_ret pe_bl)))))))), fn_go (N := ["_law_actual", "_law_due", "_law_k"]) (ss_seq (ss_if (st_tst (SimE.b (se_op sr_is sb_var (SimE.b se_non))))
        (ss_ret (SimE.b (se_op sr_is sb_var (SimE.b se_non))))
        ss_next)
      (ss_seq (ss_if (st_or (st_tst (SimE.b (se_op sr_is sb_var (SimE.b se_bl)))) (st_tst (SimE.b (se_op sr_is sb_var (SimE.b se_bl)))))
        (ss_ret (SimE.b (se_and (SimE.b (se_cb sc_isi (sab_cons sb_var (sab_cons (SimE.b se_ty) sab_nil)))) (se_op sr_eq sb_var sb_var))))
        ss_next)
      (ss_seq (ss_if (st_tB (SimE.b (se_cb sc_isi (sab_cons sb_var (sab_cons (SimE.b se_ty) sab_nil)))))
        (ss_ret (SimE.b (se_and (SimE.b (se_cb sc_isi (sab_cons sb_var (sab_cons (SimE.b se_ty) sab_nil)))) (se_and (SimE.b (se_not (SimE.b (se_cb sc_isi (sab_cons sb_var (sab_cons (SimE.b se_ty) sab_nil)))))) (se_op sr_eq sb_var sb_var)))))
        ss_next)
      (ss_seq (ss_if (st_tB (SimE.b (se_cb sc_isi (sab_cons sb_var (sab_cons (SimE.b se_ty) sab_nil)))))
        (ss_ret (SimE.b (se_and (SimE.b (se_cb sc_isi (sab_cons sb_var (sab_cons (SimE.b se_ty) sab_nil)))) (se_op sr_eq sb_var sb_var))))
        ss_next)
      (ss_seq (ss_if (st_tB (SimE.b (se_cb sc_isi (sab_cons sb_var (sab_cons (SimE.b se_ty) sab_nil)))))
        (ss_if (st_or (st_not (st_tB (SimE.b (se_cb sc_isi (sab_cons sb_var (sab_cons (SimE.b se_ty) sab_nil)))))) (st_tst (SimE.b (se_op sr_ne (SimE.b (se_cb sc_len (sab_cons sb_var sab_nil))) (SimE.b (se_cb sc_len (sab_cons sb_var sab_nil)))))))
          (ss_ret (SimE.b se_bl))
          ss_next)
        (ss_if (st_or (st_not (st_tB (SimE.b (se_cb sc_isi (sab_cons sb_var (sab_cons (SimE.b se_ty) sab_nil)))))) (st_tst (SimE.b (se_op sr_ne (SimE.b (se_cb sc_len (sab_cons sb_var sab_nil))) (SimE.b (se_cb sc_len (sab_cons sb_var sab_nil)))))))
          (ss_ret (SimE.b se_bl))
          ss_next))
      (ss_seq (ss_for (si_range1 (sab_cons (SimE.b (se_cb sc_len (sab_cons sb_var sab_nil))) sab_nil)) sg_name
        (ss_if (st_not (st_tB (SimE.b (se_call (sa_cons (se_op sr_ix sb_var sb_var) (sa_cons (se_op sr_ix sb_var sb_var) sa_nil))))))
          (ss_ret (SimE.b se_bl))
          ss_next))
      (ss_ret (SimE.b se_bl)))))))) h⟩
def b_fit : FS := (seqS (ifS (orT (tstF (opF (eqG id) (bvarF 0) (cF (.str "x")))) (tstF (opF (eqG id) (bvarF 1) (cF (.str "x")))))
        (retS (cF (.bl false)))
        nextS)
      (retS (orF (opF (eqG id) (bvarF 0) (cF (.str "is"))) (orF (opF (eqG id) (bvarF 1) (cF (.str "is"))) (opF (eqG id) (bvarF 0) (bvarF 1))))))
def F_fit : Fn := fnOf 2 b_fit
theorem ok_fit (T : Txt w K mg) : Hk.GOk P w K mg base (L2N.CX P w) 1 "_law_fit" ["_law_mode", "_law_other"] (spF K 2 F_fit) := by
  refine Hk.mkGX T.g__law_fit T.f_fit (fun _ _ _ _ _ _ us hl => match us, hl with | [_, _], _ => rfl) sc_fit (fun vs H Q E h => spF_len h) (fun cdv A outer s H vs Q E hr h => ?_)
  exact ⟨_, (pss_cons (ps_if (PW.pt (pw_or (pt_cmpR (op_eqU hr.units) (pv 0) pe_str (nomark _)) (pw_or1 (pt_cmpR (op_eqU hr.units) (pv 1) pe_str (nomark _)))))
        (pss_one (ps_ret pe_bl))
        pss_nil)
      (pss_one (ps_ret (pe_or (pe_cmpR (op_eqU hr.units) (pv 0) pe_str (nomark _)) (pe_or (pe_cmpR (op_eqU hr.units) (pv 1) pe_str (nomark _)) (pe_one (pe_cmpR (op_eqU hr.units) (pv 0) (pv 1) (nomark _)))))))), fn_go (N := ["_law_mode", "_law_other"]) (ss_seq (ss_if (st_or (st_tst (SimE.b (se_op sr_eq sb_var (SimE.b se_str)))) (st_tst (SimE.b (se_op sr_eq sb_var (SimE.b se_str)))))
        (ss_ret (SimE.b se_bl))
        ss_next)
      (ss_ret (SimE.b (se_or (SimE.b (se_op sr_eq sb_var (SimE.b se_str))) (se_or (SimE.b (se_op sr_eq sb_var (SimE.b se_str))) (se_op sr_eq sb_var sb_var)))))) h⟩
def b_due_read : FS := (seqS (asgS (tupF (consA (cF (.str "table")) (consA (varF 1) nilA))) (nameG 4))
      (seqS (ifS (tstF (opF (eqG id) (opF ixG (bvarF 0) (cF (.int 0))) (cF (.str "alone"))))
        (retS (valN (lstN (consA (tupF (consA (tupF (consA (cF (.str "store")) nilA)) (consA (cF (.str "x")) nilA))) nilA))))
        nextS)
      (seqS (ifS (tstF (opF (eqG id) (opF ixG (bvarF 0) (cF (.int 0))) (cF (.str "store"))))
        (retS (valN (lstN (consA (tupF (consA (tupF (consA (cF (.str "store")) nilA)) (consA (cF (.str "s")) nilA))) nilA))))
        nextS)
      (seqS (ownS 5 (lstN (consA (tupF (consA (tupF (consA (cF (.str "store")) nilA)) (consA (cF (.str "is")) nilA))) nilA)))
      (seqS (ifS (tstF (opF (eqG id) (opF ixG (bvarF 2) (cF (.int 0))) (cF (.str "summary"))))
        (seqS (ownApp 5 (tupF (consA (varF 4) (consA (cF (.str "is")) nilA))))
        (seqS (ifS (tstF (opF (eqG id) (opF ixG (bvarF 0) (cF (.int 4))) (cF (.str "node"))))
          (ownApp 5 (tupF (consA (varF 2) (consA (cF (.str "s")) nilA))))
          nextS)
        (retS (bvarF 5))))
        nextS)
      (seqS (ifS (orT (tstF (opF (eqG id) (opF ixG (bvarF 0) (cF (.int 0))) (cF (.str "table")))) (andT (tstF (opF (eqG id) (opF ixG (bvarF 0) (cF (.int 0))) (cF (.str "road")))) (tstF (opF (eqG id) (opF ixG (bvarF 2) (cF (.int 0))) (cF (.str "table"))))))
        (retS (opF addG (bvarF 5) (valN (lstN (consA (tupF (consA (varF 4) (consA (cF (.str "s")) nilA))) nilA)))))
        nextS)
      (seqS (ifS (tstF (opF (eqG id) (opF ixG (bvarF 0) (cF (.int 0))) (cF (.str "road"))))
        (retS (opF addG (bvarF 5) (valN (lstN (consA (tupF (consA (varF 4) (consA (cF (.str "is")) nilA))) (consA (tupF (consA (varF 2) (consA (cF (.str "s")) nilA))) nilA))))))
        nextS)
      (seqS (ownApp 5 (tupF (consA (varF 4) (consA (cF (.str "is")) nilA))))
      (seqS (ifS (tstF (opF (eqG id) (opF ixG (bvarF 2) (cF (.int 0))) (cF (.str "index"))))
        (ownApp 5 (tupF (consA (varF 2) (consA (cF (.str "is")) nilA))))
        nextS)
      (frzS 5 (retS (opF addG (bvarF 5) (valN (compN (anyI (varF 3)) [6] (nameX 6) yesT (tupF (consA (tupF (consA (cF (.str "row")) (consA (varF 6) nilA))) (consA (cF (.str "s")) nilA)))))))))))))))))
def F_due_read : Fn := fnOf 7 b_due_read
theorem ok_due_read (T : Txt w K mg) : Hk.GOk P w K mg base (L2N.CX P w) 1 "_law_due_read" ["_law_words", "_law_table", "_law_road", "_law_numbers_here"] (spF K 4 F_due_read) := by
  refine Hk.mkGX T.g__law_due_read T.f_due_read (fun _ _ _ _ _ _ us hl => match us, hl with | [_, _, _, _], _ => rfl) sc_due_read (fun vs H Q E h => spF_len h) (fun cdv A outer s H vs Q E hr h => ?_)
  exact ⟨_, (pss_cons (ps_set (i := 4) sc_due_read.nd rfl (.inl rfl) (pe_tup (pa_cons pe_str (pa_cons (pv 1) pa_nil))))
      (pss_cons (ps_if (pt_cmpR (op_eqU hr.units) (pe_ix ix_U (pv 0) pe_int (fun _ _ => rfl)) pe_str (nomark _))
        (pss_one (ps_ret (pe_lst (pa_cons (pe_tup (pa_cons (pe_tup (pa_cons pe_str pa_nil)) (pa_cons pe_str pa_nil))) pa_nil))))
        pss_nil)
      (pss_cons (ps_if (pt_cmpR (op_eqU hr.units) (pe_ix ix_U (pv 0) pe_int (fun _ _ => rfl)) pe_str (nomark _))
        (pss_one (ps_ret (pe_lst (pa_cons (pe_tup (pa_cons (pe_tup (pa_cons pe_str pa_nil)) (pa_cons pe_str pa_nil))) pa_nil))))
        pss_nil)
      (pss_cons (ps_set (i := 5) sc_due_read.nd rfl (.inl rfl) (pe_lst (pa_cons (pe_tup (pa_cons (pe_tup (pa_cons pe_str pa_nil)) (pa_cons pe_str pa_nil))) pa_nil)))
      (pss_cons (ps_if (pt_cmpR (op_eqU hr.units) (pe_ix ix_U (pv 2) pe_int (fun _ _ => rfl)) pe_str (nomark _))
        (pss_cons (ps_expr (pe_bm PySem.F.plainAttrs_list PySem.F.slot_list_append PySem.F.type_list_append mt_append (pv 5) (pa_cons (pe_tup (pa_cons (pv 4) (pa_cons pe_str pa_nil))) pa_nil)))
        (pss_cons (ps_if (pt_cmpR (op_eqU hr.units) (pe_ix ix_U (pv 0) pe_int (fun _ _ => rfl)) pe_str (nomark _))
          (pss_one (ps_expr (pe_bm PySem.F.plainAttrs_list PySem.F.slot_list_append PySem.F.type_list_append mt_append (pv 5) (pa_cons (pe_tup (pa_cons (pv 2) (pa_cons pe_str pa_nil))) pa_nil))))
          pss_nil)
        (pss_one (ps_ret (pv 5)))))
        pss_nil)
      (pss_cons (ps_if (PW.pt (pw_or (pt_cmpR (op_eqU hr.units) (pe_ix ix_U (pv 0) pe_int (fun _ _ => rfl)) pe_str (nomark _)) (pw_or1 (PW.pt (pw_and (pt_cmpR (op_eqU hr.units) (pe_ix ix_U (pv 0) pe_int (fun _ _ => rfl)) pe_str (nomark _)) (pw_and1 (pt_cmpR (op_eqU hr.units) (pe_ix ix_U (pv 2) pe_int (fun _ _ => rfl)) pe_str (nomark _))))))))
        (pss_one (ps_ret (pe_op op_addU (pv 5) (pe_lst (pa_cons (pe_tup (pa_cons (pv 4) (pa_cons pe_str pa_nil))) pa_nil)))))
        pss_nil)
      (pss_cons (ps_if (pt_cmpR (op_eqU hr.units) (pe_ix ix_U (pv 0) pe_int (fun _ _ => rfl)) pe_str (nomark _))
        (pss_one (ps_ret (pe_op op_addU (pv 5) (pe_lst (pa_cons (pe_tup (pa_cons (pv 4) (pa_cons pe_str pa_nil))) (pa_cons (pe_tup (pa_cons (pv 2) (pa_cons pe_str pa_nil))) pa_nil))))))
        pss_nil)
      (pss_cons (ps_expr (pe_bm PySem.F.plainAttrs_list PySem.F.slot_list_append PySem.F.type_list_append mt_append (pv 5) (pa_cons (pe_tup (pa_cons (pv 4) (pa_cons pe_str pa_nil))) pa_nil)))
      (pss_cons (ps_if (pt_cmpR (op_eqU hr.units) (pe_ix ix_U (pv 2) pe_int (fun _ _ => rfl)) pe_str (nomark _))
        (pss_one (ps_expr (pe_bm PySem.F.plainAttrs_list PySem.F.slot_list_append PySem.F.type_list_append mt_append (pv 5) (pa_cons (pe_tup (pa_cons (pv 2) (pa_cons pe_str pa_nil))) pa_nil))))
        pss_nil)
      (pss_one (ps_ret (pe_op op_addU (pv 5) (pe_lc (own := [("_law_number", 6)]) rfl sc_due_read.nd (pi_any (pv 3)) (blkOk_by (own := [("_law_number", 6)]) (N := ["_law_words", "_law_table", "_law_road", "_law_numbers_here", "_law_node", "_law_needs", "_law_number"]) (sc := defScope s_due_read) (by decide +kernel)) (fun _ _ _ _ _ => pg_name (i := 6) sc_due_read.nd rfl (Or.inl rfl)) (fun _ _ _ _ _ => pts_nil) (fun _ _ _ _ _ => (pe_tup (pa_cons (pe_tup (pa_cons pe_str (pa_cons (pv 6) pa_nil))) (pa_cons pe_str pa_nil))))))))))))))))), fn_go (N := ["_law_words", "_law_table", "_law_road", "_law_numbers_here", "_law_node", "_law_needs", "_law_number"]) (ss_seq (ss_asg (se_tup (sa_cons se_str (sa_cons se_var sa_nil))) sg_name)
      (ss_seq (ss_if (st_tst (SimE.b (se_op sr_eq (SimE.b (se_op sr_ix sb_var (SimE.b se_int))) (SimE.b se_str))))
        (ss_ret (SimE.b (SimN.e (sn_lst (sa_cons (se_tup (sa_cons (se_tup (sa_cons se_str sa_nil)) (sa_cons se_str sa_nil))) sa_nil)))))
        ss_next)
      (ss_seq (ss_if (st_tst (SimE.b (se_op sr_eq (SimE.b (se_op sr_ix sb_var (SimE.b se_int))) (SimE.b se_str))))
        (ss_ret (SimE.b (SimN.e (sn_lst (sa_cons (se_tup (sa_cons (se_tup (sa_cons se_str sa_nil)) (sa_cons se_str sa_nil))) sa_nil)))))
        ss_next)
      (ss_seq (ss_own (sn_lst (sa_cons (se_tup (sa_cons (se_tup (sa_cons se_str sa_nil)) (sa_cons se_str sa_nil))) sa_nil)))
      (ss_seq (ss_if (st_tst (SimE.b (se_op sr_eq (SimE.b (se_op sr_ix sb_var (SimE.b se_int))) (SimE.b se_str))))
        (ss_seq (ss_ownApp (se_tup (sa_cons se_var (sa_cons se_str sa_nil))))
        (ss_seq (ss_if (st_tst (SimE.b (se_op sr_eq (SimE.b (se_op sr_ix sb_var (SimE.b se_int))) (SimE.b se_str))))
          (ss_ownApp (se_tup (sa_cons se_var (sa_cons se_str sa_nil))))
          ss_next)
        (ss_ret sb_var)))
        ss_next)
      (ss_seq (ss_if (st_or (st_tst (SimE.b (se_op sr_eq (SimE.b (se_op sr_ix sb_var (SimE.b se_int))) (SimE.b se_str)))) (st_and (st_tst (SimE.b (se_op sr_eq (SimE.b (se_op sr_ix sb_var (SimE.b se_int))) (SimE.b se_str)))) (st_tst (SimE.b (se_op sr_eq (SimE.b (se_op sr_ix sb_var (SimE.b se_int))) (SimE.b se_str))))))
        (ss_ret (SimE.b (se_op sr_add sb_var (SimE.b (SimN.e (sn_lst (sa_cons (se_tup (sa_cons se_var (sa_cons se_str sa_nil))) sa_nil)))))))
        ss_next)
      (ss_seq (ss_if (st_tst (SimE.b (se_op sr_eq (SimE.b (se_op sr_ix sb_var (SimE.b se_int))) (SimE.b se_str))))
        (ss_ret (SimE.b (se_op sr_add sb_var (SimE.b (SimN.e (sn_lst (sa_cons (se_tup (sa_cons se_var (sa_cons se_str sa_nil))) (sa_cons (se_tup (sa_cons se_var (sa_cons se_str sa_nil))) sa_nil))))))))
        ss_next)
      (ss_seq (ss_ownApp (se_tup (sa_cons se_var (sa_cons se_str sa_nil))))
      (ss_seq (ss_if (st_tst (SimE.b (se_op sr_eq (SimE.b (se_op sr_ix sb_var (SimE.b se_int))) (SimE.b se_str))))
        (ss_ownApp (se_tup (sa_cons se_var (sa_cons se_str sa_nil))))
        ss_next)
      (ss_frz (ss_ret (SimE.b (se_op sr_add sb_var (SimE.b (SimN.e (sn_lc (si_any se_var) sx_name st_yes (se_tup (sa_cons (se_tup (sa_cons se_str (sa_cons se_var sa_nil))) (sa_cons se_str sa_nil))))))))))))))))))) h⟩
def b_due_write : FS := (seqS (ifS (tstF (opF (eqG id) (opF ixG (bvarF 0) (cF (.int 1))) (cF (.str "store"))))
        (retS (valN (lstN (consA (tupF (consA (tupF (consA (cF (.str "store")) nilA)) (consA (cF (.str "x")) nilA))) nilA))))
        nextS)
      (seqS (ifS (tstF (opF (eqG id) (opF ixG (bvarF 0) (cF (.int 1))) (cF (.str "table"))))
        (retS (valN (lstN (consA (tupF (consA (tupF (consA (cF (.str "store")) nilA)) (consA (cF (.str "ix")) nilA))) (consA (tupF (consA (tupF (consA (cF (.str "table")) (consA (varF 1) nilA))) (consA (cF (.str "x")) nilA))) nilA)))))
        nextS)
      (seqS (ownS 5 (addN (valN (lstN (consA (tupF (consA (tupF (consA (cF (.str "store")) nilA)) (consA (cF (.str "ix")) nilA))) (consA (tupF (consA (tupF (consA (cF (.str "table")) (consA (varF 1) nilA))) (consA (cF (.str "ix")) nilA))) nilA)))) (valN (compN (anyI (varF 3)) [6] (nameX 6) yesT (tupF (consA (varF 6) (consA (cF (.str "ix")) nilA)))))))
      (seqS (ownApp 5 (tupF (consA (tupF (consA (cF (.str "row")) (consA (varF 2) nilA))) (consA (cF (.str "x")) nilA))))
      (frzS 5 (seqS (ifS (tstF (opF (eqG id) (opF ixG (bvarF 0) (cF (.int 3))) (cF (.str "key"))))
        (asgS (opF addG (bvarF 5) (valN (compN (anyI (varF 4)) [7] (nameX 7) yesT (tupF (consA (varF 7) (consA (cF (.str "x")) nilA)))))) (nameG 5))
        nextS)
      (retS (bvarF 5))))))))
def F_due_write : Fn := fnOf 8 b_due_write
theorem ok_due_write (T : Txt w K mg) : Hk.GOk P w K mg base (L2N.CX P w) 1 "_law_due_write" ["_law_words", "_law_table", "_law_number", "_law_nodes_here", "_law_keys_here"] (spF K 5 F_due_write) := by
  refine Hk.mkGX T.g__law_due_write T.f_due_write (fun _ _ _ _ _ _ us hl => match us, hl with | [_, _, _, _, _], _ => rfl) sc_due_write (fun vs H Q E h => spF_len h) (fun cdv A outer s H vs Q E hr h => ?_)
  exact ⟨_, (pss_cons (ps_if (pt_cmpR (op_eqU hr.units) (pe_ix ix_U (pv 0) pe_int (fun _ _ => rfl)) pe_str (nomark _))
        (pss_one (ps_ret (pe_lst (pa_cons (pe_tup (pa_cons (pe_tup (pa_cons pe_str pa_nil)) (pa_cons pe_str pa_nil))) pa_nil))))
        pss_nil)
      (pss_cons (ps_if (pt_cmpR (op_eqU hr.units) (pe_ix ix_U (pv 0) pe_int (fun _ _ => rfl)) pe_str (nomark _))
        (pss_one (ps_ret (pe_lst (pa_cons (pe_tup (pa_cons (pe_tup (pa_cons pe_str pa_nil)) (pa_cons pe_str pa_nil))) (pa_cons (pe_tup (pa_cons (pe_tup (pa_cons pe_str (pa_cons (pv 1) pa_nil))) (pa_cons pe_str pa_nil))) pa_nil)))))
        pss_nil)
      (pss_cons (ps_set (i := 5) sc_due_write.nd rfl (.inl rfl) (pe_op op_addU (pe_lst (pa_cons (pe_tup (pa_cons (pe_tup (pa_cons pe_str pa_nil)) (pa_cons pe_str pa_nil))) (pa_cons (pe_tup (pa_cons (pe_tup (pa_cons pe_str (pa_cons (pv 1) pa_nil))) (pa_cons pe_str pa_nil))) pa_nil))) (pe_lc (own := [("_law_node", 6)]) rfl sc_due_write.nd (pi_any (pv 3)) (blkOk_by (own := [("_law_node", 6)]) (N := ["_law_words", "_law_table", "_law_number", "_law_nodes_here", "_law_keys_here", "_law_needs", "_law_node", "_law_key"]) (sc := defScope s_due_write) (by decide +kernel)) (fun _ _ _ _ _ => pg_name (i := 6) sc_due_write.nd rfl (Or.inl rfl)) (fun _ _ _ _ _ => pts_nil) (fun _ _ _ _ _ => (pe_tup (pa_cons (pv 6) (pa_cons pe_str pa_nil)))))))
      (pss_cons (ps_expr (pe_bm PySem.F.plainAttrs_list PySem.F.slot_list_append PySem.F.type_list_append mt_append (pv 5) (pa_cons (pe_tup (pa_cons (pe_tup (pa_cons pe_str (pa_cons (pv 2) pa_nil))) (pa_cons pe_str pa_nil))) pa_nil)))
      (pss_cons (ps_if (pt_cmpR (op_eqU hr.units) (pe_ix ix_U (pv 0) pe_int (fun _ _ => rfl)) pe_str (nomark _))
        (pss_one (ps_set (i := 5) sc_due_write.nd rfl (.inl rfl) (pe_op op_addU (pv 5) (pe_lc (own := [("_law_key", 7)]) rfl sc_due_write.nd (pi_any (pv 4)) (blkOk_by (own := [("_law_key", 7)]) (N := ["_law_words", "_law_table", "_law_number", "_law_nodes_here", "_law_keys_here", "_law_needs", "_law_node", "_law_key"]) (sc := defScope s_due_write) (by decide +kernel)) (fun _ _ _ _ _ => pg_name (i := 7) sc_due_write.nd rfl (Or.inl rfl)) (fun _ _ _ _ _ => pts_nil) (fun _ _ _ _ _ => (pe_tup (pa_cons (pv 7) (pa_cons pe_str pa_nil))))))))
        pss_nil)
      (pss_one (ps_ret (pv 5)))))))), fn_go (N := ["_law_words", "_law_table", "_law_number", "_law_nodes_here", "_law_keys_here", "_law_needs", "_law_node", "_law_key"]) (ss_seq (ss_if (st_tst (SimE.b (se_op sr_eq (SimE.b (se_op sr_ix sb_var (SimE.b se_int))) (SimE.b se_str))))
        (ss_ret (SimE.b (SimN.e (sn_lst (sa_cons (se_tup (sa_cons (se_tup (sa_cons se_str sa_nil)) (sa_cons se_str sa_nil))) sa_nil)))))
        ss_next)
      (ss_seq (ss_if (st_tst (SimE.b (se_op sr_eq (SimE.b (se_op sr_ix sb_var (SimE.b se_int))) (SimE.b se_str))))
        (ss_ret (SimE.b (SimN.e (sn_lst (sa_cons (se_tup (sa_cons (se_tup (sa_cons se_str sa_nil)) (sa_cons se_str sa_nil))) (sa_cons (se_tup (sa_cons (se_tup (sa_cons se_str (sa_cons se_var sa_nil))) (sa_cons se_str sa_nil))) sa_nil))))))
        ss_next)
      (ss_seq (ss_own (sn_add (SimE.b (SimN.e (sn_lst (sa_cons (se_tup (sa_cons (se_tup (sa_cons se_str sa_nil)) (sa_cons se_str sa_nil))) (sa_cons (se_tup (sa_cons (se_tup (sa_cons se_str (sa_cons se_var sa_nil))) (sa_cons se_str sa_nil))) sa_nil))))) (SimE.b (SimN.e (sn_lc (si_any se_var) sx_name st_yes (se_tup (sa_cons se_var (sa_cons se_str sa_nil))))))))
      (ss_seq (ss_ownApp (se_tup (sa_cons (se_tup (sa_cons se_str (sa_cons se_var sa_nil))) (sa_cons se_str sa_nil))))
      (ss_frz (ss_seq (ss_if (st_tst (SimE.b (se_op sr_eq (SimE.b (se_op sr_ix sb_var (SimE.b se_int))) (SimE.b se_str))))
        (ss_asg (se_op sr_add sb_var (SimE.b (SimN.e (sn_lc (si_any se_var) sx_name st_yes (se_tup (sa_cons se_var (sa_cons se_str sa_nil))))))) sg_name)
        ss_next)
      (ss_ret sb_var))))))) h⟩
def b_meet : FS := (seqS (asgS dnewT (nameG 2))
      (seqS (forS (anyI (varF 1)) (tupG 2 (consG (nameG 3) (consG (nameG 4) nilG)))
        (exprS (lmF appG (setdF (varF 2) (varF 3) (liveF (lstN nilA))) (consA (varF 4) nilA))))
      (seqS (forS (anyI (varF 0)) (tupG 2 (consG (nameG 3) (consG (nameG 4) nilG)))
        (ifS (notT (tstF (callB allG (consA (valN (compR (getdF (varF 2) (varF 3) (liveF (lstN nilA))) [5] (nameX 5) yesT (callN 2 F_compatible (consA (varF 4) (consA (varF 5) nilA))))) nilA))))
          (retS (cF (.bl true)))
          nextS))
      (retS (cF (.bl false))))))
noncomputable def F_meet : Fn := trim (fnOf 6 b_meet)
theorem ok0_meet (T : Txt w K mg) : Hk.GOk P w K mg base (L2N.CX P w) 2 "meet" ["needs", "other"] (spF K 2 (fnOf 6 b_meet)) := by
  refine Hk.mkGX T.g_meet T.f_meet (fun _ _ _ _ _ _ us hl => match us, hl with | [_, _], _ => rfl) sc_meet (fun vs H Q E h => spF_len h) (fun cdv A outer s H vs Q E hr h => ?_)
  exact ⟨_, (pss_cons (ps_set (i := 2) sc_meet.nd rfl (.inl rfl) pe_dnewT)
      (pss_cons (ps_for (passes_of rfl) rfl (pi_any (pv 1)) (pg_tup rfl (pgs_cons (pg_name (i := 3) sc_meet.nd rfl (.inl rfl)) (pgs_cons (pg_name (i := 4) sc_meet.nd rfl (.inr rfl)) pgs_nil)))
        (pss_one (ps_expr (pe_bm PySem.F.plainAttrs_list PySem.F.slot_list_append PySem.F.type_list_append mt_append (pe_dsetdT (hu_of hr) (pv 2) (pv 3) (pe_lst pa_nil) (by exact ⟨rfl, rfl, rfl, rfl⟩)) (pa_cons (pv 4) pa_nil)))))
      (pss_cons (ps_for (passes_of rfl) rfl (pi_any (pv 0)) (pg_tup rfl (pgs_cons (pg_name (i := 3) sc_meet.nd rfl (.inl rfl)) (pgs_cons (pg_name (i := 4) sc_meet.nd rfl (.inr rfl)) pgs_nil)))
        (pss_one (ps_if (pt_not (pt_val (pe_callB (cr_allU rfl) (by rfl) T.z_all (by decide +kernel) (pa_cons (pe_lc (own := [("held", 5)]) rfl sc_meet.nd (pi_any (pe_dget2 (hu_of hr) (pv 2) (pv 3) (pe_lst pa_nil) (by exact ⟨rfl, rfl, rfl, rfl⟩))) (blkOk_by (own := [("held", 5)]) (N := ["needs", "other", "modes", "node", "mode", "held"]) (sc := defScope s_meet) (by decide +kernel)) (fun _ _ _ _ _ => pg_name (i := 5) sc_meet.nd rfl (Or.inl rfl)) (fun _ _ _ _ _ => pts_nil) (fun _ _ _ _ _ => (Hk.pe_g (ok_compatible T) (hr.mono (by decide)) passN0 (pa_cons (pv 4) (pa_cons (pv 5) pa_nil))))) pa_nil))))
          (pss_one (ps_ret pe_bl))
          pss_nil)))
      (pss_one (ps_ret pe_bl))))), fn_go (N := ["needs", "other", "modes", "node", "mode", "held"]) (ss_seq (ss_asg se_dnewT sg_name)
      (ss_seq (ss_for (si_any se_var) (sg_tup (sgs_cons sg_name (sgs_cons sg_name sgs_nil)))
        (ss_expr (SimE.b (se_lm sm_app (se_setd se_var se_var (se_live (sn_lst sa_nil))) (sa_cons se_var sa_nil)))))
      (ss_seq (ss_for (si_any se_var) (sg_tup (sgs_cons sg_name (sgs_cons sg_name sgs_nil)))
        (ss_if (st_not (st_tB (SimE.b (se_cb sc_all (sab_cons (SimE.b (SimN.e (sn_lcR (se_getd se_var se_var (se_live (sn_lst sa_nil))) sx_name st_yes (se_call (sa_cons se_var (sa_cons se_var sa_nil)))))) sab_nil)))))
          (ss_ret (SimE.b se_bl))
          ss_next))
      (ss_ret (SimE.b se_bl))))) h⟩
theorem ok_meet (T : Txt w K mg) : Hk.GOk P w K mg base (L2N.CX P w) 2 "meet" ["needs", "other"] (spF K 2 F_meet) := (ok0_meet T).imp fun vs H Q E h => trim_sp h
def b_read_needs : FS := (seqS (ifS (tstF (opF (eqG id) (fldF "LockBook" "read" (varF 0)) (cF (.str "alone"))))
        (retS (liveF (lstN (consA (tupF (consA (cF (.ktu [(.str "store")])) (consA (cF (.str "x")) nilA))) nilA))))
        nextS)
      (seqS (ifS (tstF (opF (eqG id) (fldF "LockBook" "read" (varF 0)) (cF (.str "store"))))
        (retS (liveF (lstN (consA (tupF (consA (cF (.ktu [(.str "store")])) (consA (cF (.str "s")) nilA))) nilA))))
        nextS)
      (retS (liveF (addN (valN (lstN (consA (tupF (consA (cF (.ktu [(.str "store")])) (consA (cF (.str "is")) nilA))) nilA))) (callN 4 F_road_needs (consA (varF 0) (consA (varF 1) (consA (varF 2) (consA (varF 3) nilA))))))))))
def F_read_needs : Fn := fnOf 4 b_read_needs
theorem ok_read_needs (T : Txt w K mg) : Hk.GOk P w K mg base (L2N.CX P w) 2 "read_needs" ["book", "table", "road", "numbers"] (spF K 4 F_read_needs) := by
  refine Hk.mkGX T.g_read_needs T.f_read_needs (fun _ _ _ _ _ _ us hl => match us, hl with | [_, _, _, _], _ => rfl) sc_read_needs (fun vs H Q E h => spF_len h) (fun cdv A outer s H vs Q E hr h => ?_)
  exact ⟨_, (pss_cons (ps_if (pt_cmpR (op_eqU hr.units) (pe_fld (pv 0) rfl) pe_str (nomark _))
        (pss_one (ps_ret (pe_lst (pa_cons (pe_tup (pa_cons (pe_glob (v := .ref (ga K "STORE")) (by rfl) T.g_STORE rfl) (pa_cons pe_str pa_nil))) pa_nil))))
        pss_nil)
      (pss_cons (ps_if (pt_cmpR (op_eqU hr.units) (pe_fld (pv 0) rfl) pe_str (nomark _))
        (pss_one (ps_ret (pe_lst (pa_cons (pe_tup (pa_cons (pe_glob (v := .ref (ga K "STORE")) (by rfl) T.g_STORE rfl) (pa_cons pe_str pa_nil))) pa_nil))))
        pss_nil)
      (pss_one (ps_ret (pe_op op_addU (pe_lst (pa_cons (pe_tup (pa_cons (pe_glob (v := .ref (ga K "STORE")) (by rfl) T.g_STORE rfl) (pa_cons pe_str pa_nil))) pa_nil)) (Hk.pe_g (ok_road_needs T) (hr.mono (by decide)) (L2N.passes_call (L2N.takes_of rfl rfl rfl rfl) (fun _ _ _ _ h => h)) (pa_cons (pv 0) (pa_cons (pv 1) (pa_cons (pv 2) (pa_cons (pv 3) pa_nil)))))))))), fn_go (N := ["book", "table", "road", "numbers"]) (ss_seq (ss_if (st_tst (SimE.b (se_op sr_eq (SimE.b (se_fld T.cl_LockBook T.n_LockBook_read se_var)) (SimE.b se_str))))
        (ss_ret (SimE.b (se_live (sn_lst (sa_cons (se_tup (sa_cons (se_ktup T.ku_STORE) (sa_cons se_str sa_nil))) sa_nil)))))
        ss_next)
      (ss_seq (ss_if (st_tst (SimE.b (se_op sr_eq (SimE.b (se_fld T.cl_LockBook T.n_LockBook_read se_var)) (SimE.b se_str))))
        (ss_ret (SimE.b (se_live (sn_lst (sa_cons (se_tup (sa_cons (se_ktup T.ku_STORE) (sa_cons se_str sa_nil))) sa_nil)))))
        ss_next)
      (ss_ret (SimE.b (se_live (sn_add (SimE.b (SimN.e (sn_lst (sa_cons (se_tup (sa_cons (se_ktup T.ku_STORE) (sa_cons se_str sa_nil))) sa_nil)))) (SimE.b (se_call (sa_cons se_var (sa_cons se_var (sa_cons se_var (sa_cons se_var sa_nil)))))))))))) h⟩
def b_LockBook_init : FS := (seqS (fldS "LockBook" "read" (varF 0) (varF 1))
      (seqS (fldS "LockBook" "write" (varF 0) (varF 2))
      (seqS (fldS "LockBook" "marks" (varF 0) (varF 3))
      (seqS (fldS "LockBook" "checks" (varF 0) (varF 4))
      (seqS (fldS "LockBook" "kept" (varF 0) (varF 5))
      (seqS (fldS "LockBook" "asks" (varF 0) (varF 6))
      (seqS (fldS "LockBook" "lasts" (varF 0) (varF 7))
      (seqS (fldS "LockBook" "clash" (varF 0) (varF 8))
      (seqS (forS (zipI (consA (cF (.ktu [(.ktu [(.str "read"), (.ktu [(.str "alone"), (.str "store"), (.str "table"), (.str "road"), (.str "rows")])]), (.ktu [(.str "write"), (.ktu [(.str "store"), (.str "table"), (.str "row")])]), (.ktu [(.str "marks"), (.ktu [(.str "holding"), (.str "written")])]), (.ktu [(.str "checks"), (.ktu [(.str "key"), (.str "none")])]), (.ktu [(.str "kept"), (.ktu [(.str "node"), (.str "none")])]), (.ktu [(.str "asks"), (.ktu [(.str "ahead"), (.str "behind")])]), (.ktu [(.str "lasts"), (.ktu [(.str "end"), (.str "turn")])]), (.ktu [(.str "clash"), (.ktu [(.str "wait"), (.str "age"), (.str "back")])])])) (consA (methF "LockBook" 1 "_chosen" F_LockBook_chosen (varF 0) nilA) nilA))) (tupG 2 (consG (tupG 2 (consG (nameG 9) (consG (nameG 10) nilG))) (consG (nameG 11) nilG)))
        (exprS (callN 3 F_check_option (consA (cF (.str "locks")) (consA (varF 11) (consA (varF 10) nilA))))))
      (ifS (andT (tstF (opF (eqG id) (bvarF 1) (cF (.str "alone")))) (tstF (opF (eqG not) (bvarF 2) (cF (.str "store")))))
        stuckS
        nextS))))))))))
def F_LockBook_init : Fn := fnOf 12 b_LockBook_init
theorem fn_LockBook_init (T : Txt w K mg) {fd : FuncData} (F : FunD K "__init__" "LockBook.__init__" (defArgs s_LockBook_init) (defBody s_LockBook_init) (defScope s_LockBook_init) [] [("read", V.str "alone"), ("write", V.str "store"), ("marks", V.str "holding"), ("checks", V.str "key"), ("kept", V.str "node"), ("asks", V.str "ahead"), ("lasts", V.str "end"), ("clash", V.str "wait")] (Hk.mt K "LockBook" "__init__") fd) : FnOk P w K mg base (L2N.CX P w) 2 (Hk.mt K "LockBook" "__init__") fd ["self", "read", "write", "marks", "checks", "kept", "asks", "lasts", "clash"] (spF K 9 F_LockBook_init) := by
  refine F.ok sc_LockBook_init (fun vs H Q E h => spF_len h) (fun cdv A outer s H vs Q E hr h => ?_)
  exact ⟨_, (pss_cons (ps_fld (pv 0) (pv 1) rfl)
      (pss_cons (ps_fld (pv 0) (pv 2) rfl)
      (pss_cons (ps_fld (pv 0) (pv 3) rfl)
      (pss_cons (ps_fld (pv 0) (pv 4) rfl)
      (pss_cons (ps_fld (pv 0) (pv 5) rfl)
      (pss_cons (ps_fld (pv 0) (pv 6) rfl)
      (pss_cons (ps_fld (pv 0) (pv 7) rfl)
      (pss_cons (ps_fld (pv 0) (pv 8) rfl)
      (pss_cons (ps_for (passes_of rfl) rfl (pi_zipM (by rfl) T.z_zip (pa_cons (pe_glob (v := .ref (ga K "OPTIONS")) (by rfl) T.g_OPTIONS rfl) (pa_cons (pe_m0 (ok_LockBook_chosen T) T.cl_LockBook T.m_LockBook_chosen (hr.mono (by decide)) (L2N.passes_call (L2N.takes_of rfl rfl rfl rfl) (fun _ _ _ _ h => h)) (pv 0)) pa_nil))) (pg_tup rfl (pgs_cons (pg_tup rfl (pgs_cons (pg_name (i := 9) sc_LockBook_init.nd rfl (.inl rfl)) (pgs_cons (pg_name (i := 10) sc_LockBook_init.nd rfl (.inl rfl)) pgs_nil))) (pgs_cons (pg_name (i := 11) sc_LockBook_init.nd rfl (.inl rfl)) pgs_nil)))
        (pss_one (ps_expr (Hk.pe_g (ok_check_option T) (hr.mono (by decide)) (L2N.passes_call (L2N.takes_of rfl rfl rfl rfl) (fun _ _ _ _ h => h)) (pa_cons (pe_glob (v := .str "locks") (by rfl) T.c_PART.choose_spec ⟨_, rfl⟩) (pa_cons (pv 11) (pa_cons (pv 10) pa_nil)))))))
      (pss_one (ps_if (PW.pt (pw_and (pt_cmpR (op_eqU hr.units) (pv 1) pe_str (nomark _)) (pw_and1 (pt_cmpR (op_neU hr.units) (pv 2) pe_str (nomark _)))))
        (pss_one ps_never)
        pss_nil))))))))))), fn_go (N := ["self", "read", "write", "marks", "checks", "kept", "asks", "lasts", "clash", "_", "words", "chosen"]) (ss_seq (ss_fld T.cl_LockBook T.n_LockBook_read se_var se_var)
      (ss_seq (ss_fld T.cl_LockBook T.n_LockBook_write se_var se_var)
      (ss_seq (ss_fld T.cl_LockBook T.n_LockBook_marks se_var se_var)
      (ss_seq (ss_fld T.cl_LockBook T.n_LockBook_checks se_var se_var)
      (ss_seq (ss_fld T.cl_LockBook T.n_LockBook_kept se_var se_var)
      (ss_seq (ss_fld T.cl_LockBook T.n_LockBook_asks se_var se_var)
      (ss_seq (ss_fld T.cl_LockBook T.n_LockBook_lasts se_var se_var)
      (ss_seq (ss_fld T.cl_LockBook T.n_LockBook_clash se_var se_var)
      (ss_seq (ss_for (si_zip (sa_cons (se_ktup T.ku_OPTIONS) (sa_cons (se_meth se_var sa_nil) sa_nil))) (sg_tup (sgs_cons (sg_tup (sgs_cons sg_name (sgs_cons sg_name sgs_nil))) (sgs_cons sg_name sgs_nil)))
        (ss_expr (SimE.b (se_call (sa_cons se_str (sa_cons se_var (sa_cons se_var sa_nil)))))))
      (ss_if (st_and (st_tst (SimE.b (se_op sr_eq sb_var (SimE.b se_str)))) (st_tst (SimE.b (se_op sr_ne sb_var (SimE.b se_str)))))
        ss_never
        ss_next)))))))))) h⟩
theorem ok_LockBook_init_read_write_marks_checks_kept_asks_lasts_clash (T : Txt w K mg) : KOk P w K mg base (L2N.CX P w) 2 (Hk.mt K "LockBook" "__init__") ["self", "read", "write", "marks", "checks", "kept", "asks", "lasts", "clash"] 1 ["read", "write", "marks", "checks", "kept", "asks", "lasts", "clash"] (fun vs zs => vs ++ zs) (spF K 9 F_LockBook_init) := by
  obtain ⟨fd, F⟩ := T.f_LockBook_init
  obtain ⟨mv, hk⟩ := FunD.kbinds0 (ps := ["self", "read", "write", "marks", "checks", "kept", "asks", "lasts", "clash"]) F 1 ["read", "write", "marks", "checks", "kept", "asks", "lasts", "clash"] [] (fun us _ ws => us ++ ws) (by decide) (fun q h => by simp at h) (fun r1 _ r3 => r1.append r3) (fun D doc pm an cdv ct us mv ws l1 l2 l3 => by
    match us, mv, ws, l1, l2, l3 with
    | [_], [], [_, _, _, _, _, _, _, _], _, _, _ => rfl)
  exact ⟨fd, _, hk, fn_LockBook_init T F⟩
def b_pick : FS := (retS (opF ixG (bvarF 1) (callN 2 F_draw (consA (varF 0) (consA (callB lenG (consA (bvarF 1) nilA)) nilA)))))
def F_pick : Fn := fnOf 2 b_pick
theorem ok_pick (T : Txt w K mg) : Hk.GOk P w K mg base (L2N.CX P w) 2 "_law_pick" ["_law_box_here", "_law_menu"] (spF K 2 F_pick) := by
  refine Hk.mkGX T.g__law_pick T.f_pick (fun _ _ _ _ _ _ us hl => match us, hl with | [_, _], _ => rfl) sc_pick (fun vs H Q E h => spF_len h) (fun cdv A outer s H vs Q E hr h => ?_)
  exact ⟨_, (pss_one (ps_ret (pe_ix ix_U (pv 1) (Hk.pe_g (ok_draw T) (hr.mono (by decide)) (L2N.passes_call (L2N.takes_of rfl rfl rfl rfl) (fun _ _ _ _ h => h)) (pa_cons (pv 0) (pa_cons (pe_callB call_lenU (by rfl) T.z_len (by decide +kernel) (pa_cons (pv 1) pa_nil)) pa_nil))) (fun _ _ => rfl)))), fn_go (N := ["_law_box_here", "_law_menu"]) (ss_ret (SimE.b (se_op sr_ix sb_var (SimE.b (se_call (sa_cons se_var (sa_cons (se_cb sc_len (sab_cons sb_var sab_nil)) sa_nil))))))) h⟩
def b_names : FS := (seqS (asgS (cF (.str "abcdefghijklmnopqrstuvwxyz")) (nameG 2))
      (seqS (ownS 3 (lstN nilA))
      (seqS (forS (range1I (consA (bvarF 1) nilA)) (nameG 4)
        (seqS (asgS (cF (.str "")) (nameG 5))
        (seqS (forS (range1I (consA (callN 2 F_draw (consA (varF 0) (consA (cF (.int 8)) nilA))) nilA)) (nameG 6)
          (asgS (opF addG (bvarF 5) (opF ixG (bvarF 2) (callN 2 F_draw (consA (varF 0) (consA (cF (.int 26)) nilA))))) (nameG 5)))
        (seqS (asgS (valN (compN (anyI (varF 2)) [8] (nameX 8) (tstF (opF (inG true) (opF addG (bvarF 5) (bvarF 8)) (opF addG (bvarF 3) (valN (lstN (consA (cF (.str "on")) (consA (cF (.str "set")) (consA (cF (.str "new")) nilA)))))))) (varF 8))) (nameG 7))
        (ownApp 3 (opF addG (bvarF 5) (opF ixG (bvarF 7) (callN 2 F_draw (consA (varF 0) (consA (callB lenG (consA (bvarF 7) nilA)) nilA))))))))))
      (frzS 3 (retS (bvarF 3))))))
def F_names : Fn := fnOf 9 b_names
theorem ok_names (T : Txt w K mg) : Hk.GOk P w K mg base (L2N.CX P w) 2 "_law_names" ["_law_box_here", "_law_many"] (spF K 2 F_names) := by
  refine Hk.mkGX T.g__law_names T.f_names (fun _ _ _ _ _ _ us hl => match us, hl with | [_, _], _ => rfl) sc_names (fun vs H Q E h => spF_len h) (fun cdv A outer s H vs Q E hr h => ?_)
  exact ⟨_, (pss_cons (ps_set (i := 2) sc_names.nd rfl (.inl rfl) pe_str)
      (pss_cons (ps_set (i := 3) sc_names.nd rfl (.inr rfl) (pe_lst pa_nil))
      (pss_cons (ps_for (passes_of rfl) rfl (pi_range1 (by rfl) T.z_range (pa_cons (pv 1) pa_nil)) (pg_name (i := 4) sc_names.nd rfl (.inl rfl))
        (pss_cons (ps_set (i := 5) sc_names.nd rfl (.inr rfl) pe_str)
        (pss_cons (ps_for (passes_of rfl) rfl (pi_range1 (by rfl) T.z_range (pa_cons (Hk.pe_g (ok_draw T) (hr.mono (by decide)) (L2N.passes_call (L2N.takes_of rfl rfl rfl rfl) (fun _ _ _ _ h => h)) (pa_cons (pv 0) (pa_cons pe_int pa_nil))) pa_nil)) (pg_name (i := 6) sc_names.nd rfl (.inl rfl))
          (pss_one (ps_set (i := 5) sc_names.nd rfl (.inr rfl) (pe_op op_addU (pv 5) (pe_ix ix_U (pv 2) (Hk.pe_g (ok_draw T) (hr.mono (by decide)) (L2N.passes_call (L2N.takes_of rfl rfl rfl rfl) (fun _ _ _ _ h => h)) (pa_cons (pv 0) (pa_cons pe_int pa_nil))) (fun _ _ => rfl))))))
        (pss_cons (ps_setLc (i := 7) (own := [("_law_sign", 8)]) rfl sc_names.nd rfl rfl (sw_true rfl rfl rfl (by decide +kernel)) (pi_any (pv 2)) (blkOk_by (own := [("_law_sign", 8)]) (N := ["_law_box_here", "_law_many", "_law_letters", "_law_names_here", "_law_k", "_law_stem", "_law_j", "_law_free", "_law_sign"]) (sc := defScope s_names) (by decide +kernel)) (fun _ _ _ _ _ => pg_name (i := 8) sc_names.nd rfl (Or.inl rfl)) (fun _ _ _ _ _ => pts_one (pt_cmpR op_notInU (pe_op op_addU (pv 5) (pv 8)) (pe_op op_addU (pv 3) (pe_lst (pa_cons pe_str (pa_cons pe_str (pa_cons pe_str pa_nil))))) rfl)) (fun _ _ _ _ _ => (pv 8)))
        (pss_one (ps_expr (pe_bm PySem.F.plainAttrs_list PySem.F.slot_list_append PySem.F.type_list_append mt_append (pv 3) (pa_cons (pe_op op_addU (pv 5) (pe_ix ix_U (pv 7) (Hk.pe_g (ok_draw T) (hr.mono (by decide)) (L2N.passes_call (L2N.takes_of rfl rfl rfl rfl) (fun _ _ _ _ h => h)) (pa_cons (pv 0) (pa_cons (pe_callB call_lenU (by rfl) T.z_len (by decide +kernel) (pa_cons (pv 7) pa_nil)) pa_nil))) (fun _ _ => rfl))) pa_nil))))))))
      (pss_one (ps_ret (pv 3)))))), fn_go (N := ["_law_box_here", "_law_many", "_law_letters", "_law_names_here", "_law_k", "_law_stem", "_law_j", "_law_free", "_law_sign"]) (ss_seq (ss_asg se_str sg_name)
      (ss_seq (ss_own (sn_lst sa_nil))
      (ss_seq (ss_for (si_range1 (sab_cons sb_var sab_nil)) sg_name
        (ss_seq (ss_asg se_str sg_name)
        (ss_seq (ss_for (si_range1 (sab_cons (SimE.b (se_call (sa_cons se_var (sa_cons se_int sa_nil)))) sab_nil)) sg_name
          (ss_asg (se_op sr_add sb_var (SimE.b (se_op sr_ix sb_var (SimE.b (se_call (sa_cons se_var (sa_cons se_int sa_nil))))))) sg_name))
        (ss_seq (ss_asg (SimN.e (sn_lc (si_any se_var) sx_name (st_tst (SimE.b (se_op sr_in (SimE.b (se_op sr_add sb_var sb_var)) (SimE.b (se_op sr_add sb_var (SimE.b (SimN.e (sn_lst (sa_cons se_str (sa_cons se_str (sa_cons se_str sa_nil))))))))))) se_var)) sg_name)
        (ss_ownApp (se_op sr_add sb_var (SimE.b (se_op sr_ix sb_var (SimE.b (se_call (sa_cons se_var (sa_cons (se_cb sc_len (sab_cons sb_var sab_nil)) sa_nil))))))))))))
      (ss_frz (ss_ret sb_var))))) h⟩
def b_needs_meet : FS := (seqS (forS (anyI (varF 0)) (nameG 2)
        (forS (anyI (varF 1)) (nameG 3)
          (ifS (andT (tstF (opF (eqG id) (opF ixG (bvarF 2) (cF (.int 0))) (opF ixG (bvarF 3) (cF (.int 0))))) (notT (tstF (callN 2 F_fit (consA (opF ixG (bvarF 2) (cF (.int 1))) (consA (opF ixG (bvarF 3) (cF (.int 1))) nilA))))))
            (retS (cF (.bl true)))
            nextS)))
      (retS (cF (.bl false))))
def F_needs_meet : Fn := fnOf 4 b_needs_meet
theorem ok_needs_meet (T : Txt w K mg) : Hk.GOk P w K mg base (L2N.CX P w) 2 "_law_needs_meet" ["_law_needs", "_law_other"] (spF K 2 F_needs_meet) := by
  refine Hk.mkGX T.g__law_needs_meet T.f_needs_meet (fun _ _ _ _ _ _ us hl => match us, hl with | [_, _], _ => rfl) sc_needs_meet (fun vs H Q E h => spF_len h) (fun cdv A outer s H vs Q E hr h => ?_)
  exact ⟨_, (pss_cons (ps_for (passes_of rfl) rfl (pi_any (pv 0)) (pg_name (i := 2) sc_needs_meet.nd rfl (.inl rfl))
        (pss_one (ps_for (passes_of rfl) rfl (pi_any (pv 1)) (pg_name (i := 3) sc_needs_meet.nd rfl (.inl rfl))
          (pss_one (ps_if (PW.pt (pw_and (pt_cmpR (op_eqU hr.units) (pe_ix ix_U (pv 2) pe_int (fun _ _ => rfl)) (pe_ix ix_U (pv 3) pe_int (fun _ _ => rfl)) (nomark _)) (pw_and1 (pt_not (pt_val (Hk.pe_g (ok_fit T) (hr.mono (by decide)) (L2N.passes_call (L2N.takes_of rfl rfl rfl rfl) (fun _ _ _ _ h => h)) (pa_cons (pe_ix ix_U (pv 2) pe_int (fun _ _ => rfl)) (pa_cons (pe_ix ix_U (pv 3) pe_int (fun _ _ => rfl)) pa_nil))))))))
            (pss_one (ps_ret pe_bl))
            pss_nil)))))
      (pss_one (ps_ret pe_bl))), fn_go (N := ["_law_needs", "_law_other", "_law_need", "_law_held"]) (ss_seq (ss_for (si_any se_var) sg_name
        (ss_for (si_any se_var) sg_name
          (ss_if (st_and (st_tst (SimE.b (se_op sr_eq (SimE.b (se_op sr_ix sb_var (SimE.b se_int))) (SimE.b (se_op sr_ix sb_var (SimE.b se_int)))))) (st_not (st_tB (SimE.b (se_call (sa_cons (se_op sr_ix sb_var (SimE.b se_int)) (sa_cons (se_op sr_ix sb_var (SimE.b se_int)) sa_nil)))))))
            (ss_ret (SimE.b se_bl))
            ss_next)))
      (ss_ret (SimE.b se_bl))) h⟩
def b_lock_words : FS := (seqS (asgS (valN (lstN (consA (valN (lstN (consA (cF (.str "road")) (consA (cF (.str "alone")) (consA (cF (.str "store")) (consA (cF (.str "table")) (consA (cF (.str "rows")) nilA))))))) (consA (valN (lstN (consA (cF (.str "row")) (consA (cF (.str "table")) (consA (cF (.str "store")) nilA))))) (consA (valN (lstN (consA (cF (.str "holding")) (consA (cF (.str "written")) nilA)))) (consA (valN (lstN (consA (cF (.str "key")) (consA (cF (.str "none")) nilA)))) (consA (valN (lstN (consA (cF (.str "node")) (consA (cF (.str "none")) nilA)))) nilA))))))) (nameG 1))
      (seqS (asgS (opF addG (bvarF 1) (valN (lstN (consA (valN (lstN (consA (cF (.str "ahead")) (consA (cF (.str "behind")) nilA)))) (consA (valN (lstN (consA (cF (.str "end")) (consA (cF (.str "end")) (consA (cF (.str "end")) (consA (cF (.str "turn")) nilA)))))) (consA (valN (lstN (consA (cF (.str "wait")) (consA (cF (.str "age")) (consA (cF (.str "back")) nilA))))) nilA)))))) (nameG 1))
      (seqS (ownS 2 (compN (anyI (varF 1)) [3] (nameX 3) yesT (callN 2 F_pick (consA (varF 0) (consA (varF 3) nilA)))))
      (seqS (ifS (tstF (opF (eqG id) (opF ixG (bvarF 2) (cF (.int 0))) (cF (.str "alone"))))
        (ownSet 2 (cF (.int 1)) (cF (.str "store")))
        nextS)
      (frzS 2 (retS (bvarF 2)))))))
def F_lock_words : Fn := fnOf 4 b_lock_words
theorem ok_lock_words (T : Txt w K mg) : Hk.GOk P w K mg base (L2N.CX P w) 3 "_law_lock_words" ["_law_box_here"] (spF K 1 F_lock_words) := by
  refine Hk.mkGX T.g__law_lock_words T.f_lock_words (fun _ _ _ _ _ _ us hl => match us, hl with | [_], _ => rfl) sc_lock_words (fun vs H Q E h => spF_len h) (fun cdv A outer s H vs Q E hr h => ?_)
  exact ⟨_, (pss_cons (ps_set (i := 1) sc_lock_words.nd rfl (.inl rfl) (pe_lst (pa_cons (pe_lst (pa_cons pe_str (pa_cons pe_str (pa_cons pe_str (pa_cons pe_str (pa_cons pe_str pa_nil)))))) (pa_cons (pe_lst (pa_cons pe_str (pa_cons pe_str (pa_cons pe_str pa_nil)))) (pa_cons (pe_lst (pa_cons pe_str (pa_cons pe_str pa_nil))) (pa_cons (pe_lst (pa_cons pe_str (pa_cons pe_str pa_nil))) (pa_cons (pe_lst (pa_cons pe_str (pa_cons pe_str pa_nil))) pa_nil)))))))
      (pss_cons (ps_set (i := 1) sc_lock_words.nd rfl (.inl rfl) (pe_op op_addU (pv 1) (pe_lst (pa_cons (pe_lst (pa_cons pe_str (pa_cons pe_str pa_nil))) (pa_cons (pe_lst (pa_cons pe_str (pa_cons pe_str (pa_cons pe_str (pa_cons pe_str pa_nil))))) (pa_cons (pe_lst (pa_cons pe_str (pa_cons pe_str (pa_cons pe_str pa_nil)))) pa_nil))))))
      (pss_cons (ps_setLc (i := 2) (own := [("_law_menu", 3)]) rfl sc_lock_words.nd rfl rfl (sw_true rfl rfl rfl (by decide +kernel)) (pi_any (pv 1)) (blkOk_by (own := [("_law_menu", 3)]) (N := ["_law_box_here", "_law_menus", "_law_words", "_law_menu"]) (sc := defScope s_lock_words) (by decide +kernel)) (fun _ _ _ _ _ => pg_name (i := 3) sc_lock_words.nd rfl (Or.inl rfl)) (fun _ _ _ _ _ => pts_nil) (fun _ _ _ _ _ => (Hk.pe_g (ok_pick T) (hr.mono (by decide)) passN0 (pa_cons (pv 0) (pa_cons (pv 3) pa_nil)))))
      (pss_cons (ps_if (pt_cmpR (op_eqU hr.units) (pe_ix ix_U (pv 2) pe_int (fun _ _ => rfl)) pe_str (nomark _))
        (pss_one (ps_asg pe_str (pg_sub (pv 2) pe_int set_list)))
        pss_nil)
      (pss_one (ps_ret (pv 2))))))), fn_go (N := ["_law_box_here", "_law_menus", "_law_words", "_law_menu"]) (ss_seq (ss_asg (SimN.e (sn_lst (sa_cons (SimN.e (sn_lst (sa_cons se_str (sa_cons se_str (sa_cons se_str (sa_cons se_str (sa_cons se_str sa_nil))))))) (sa_cons (SimN.e (sn_lst (sa_cons se_str (sa_cons se_str (sa_cons se_str sa_nil))))) (sa_cons (SimN.e (sn_lst (sa_cons se_str (sa_cons se_str sa_nil)))) (sa_cons (SimN.e (sn_lst (sa_cons se_str (sa_cons se_str sa_nil)))) (sa_cons (SimN.e (sn_lst (sa_cons se_str (sa_cons se_str sa_nil)))) sa_nil))))))) sg_name)
      (ss_seq (ss_asg (se_op sr_add sb_var (SimE.b (SimN.e (sn_lst (sa_cons (SimN.e (sn_lst (sa_cons se_str (sa_cons se_str sa_nil)))) (sa_cons (SimN.e (sn_lst (sa_cons se_str (sa_cons se_str (sa_cons se_str (sa_cons se_str sa_nil)))))) (sa_cons (SimN.e (sn_lst (sa_cons se_str (sa_cons se_str (sa_cons se_str sa_nil))))) sa_nil))))))) sg_name)
      (ss_seq (ss_own (sn_lc (si_any se_var) sx_name st_yes (se_call (sa_cons se_var (sa_cons se_var sa_nil)))))
      (ss_seq (ss_if (st_tst (SimE.b (se_op sr_eq (SimE.b (se_op sr_ix sb_var (SimE.b se_int))) (SimE.b se_str))))
        (ss_ownSet se_str (SimE.b se_int))
        ss_next)
      (ss_frz (ss_ret sb_var)))))) h⟩
def b_lock_needs : FS := (seqS (ownS 2 (lstN nilA))
      (seqS (forS (range1I (consA (opF ixG (tupF (consA (cF (.int 1)) (consA (cF (.int 2)) (consA (cF (.int 1)) (consA (cF (.int 3)) (consA (cF (.int 0)) nilA)))))) (callN 2 F_draw (consA (varF 0) (consA (cF (.int 5)) nilA)))) nilA)) (nameG 3)
        (seqS (asgS (callN 2 F_draw (consA (varF 0) (consA (cF (.int 6)) nilA))) (nameG 4))
        (seqS (asgS (tupF (consA (cF (.str "store")) nilA)) (nameG 5))
        (seqS (ifS (tstF (opF ltG (bvarF 4) (cF (.int 3))))
          (asgS (tupF (consA (opF ixG (tupF (consA (cF (.str "table")) (consA (cF (.str "index")) (consA (cF (.str "summary")) nilA)))) (bvarF 4)) (consA (opF ixG (bvarF 1) (callN 2 F_draw (consA (varF 0) (consA (cF (.int 3)) nilA)))) nilA))) (nameG 5))
          nextS)
        (seqS (ifS (tstF (opF (eqG id) (bvarF 4) (cF (.int 3))))
          (asgS (tupF (consA (cF (.str "row")) (consA (callN 2 F_draw (consA (varF 0) (consA (cF (.int 4)) nilA))) nilA))) (nameG 5))
          nextS)
        (seqS (ifS (tstF (opF (eqG id) (bvarF 4) (cF (.int 4))))
          (asgS (tupF (consA (cF (.str "key")) (consA (opF ixG (bvarF 1) (callN 2 F_draw (consA (varF 0) (consA (cF (.int 3)) nilA)))) (consA (callN 2 F_draw (consA (varF 0) (consA (cF (.int 3)) nilA))) nilA)))) (nameG 5))
          nextS)
        (ownApp 2 (tupF (consA (varF 5) (consA (callN 2 F_pick (consA (varF 0) (consA (valN (lstN (consA (cF (.str "x")) (consA (cF (.str "s")) (consA (cF (.str "ix")) (consA (cF (.str "is")) nilA)))))) nilA))) nilA))))))))))
      (frzS 2 (retS (bvarF 2)))))
def F_lock_needs : Fn := fnOf 6 b_lock_needs
theorem ok_lock_needs (T : Txt w K mg) : Hk.GOk P w K mg base (L2N.CX P w) 3 "_law_lock_needs" ["_law_box_here", "_law_names_here"] (spF K 2 F_lock_needs) := by
  refine Hk.mkGX T.g__law_lock_needs T.f_lock_needs (fun _ _ _ _ _ _ us hl => match us, hl with | [_, _], _ => rfl) sc_lock_needs (fun vs H Q E h => spF_len h) (fun cdv A outer s H vs Q E hr h => ?_)
  exact ⟨_, (pss_cons (ps_set (i := 2) sc_lock_needs.nd rfl (.inl rfl) (pe_lst pa_nil))
      (pss_cons (ps_for (passes_of rfl) rfl (pi_range1 (by rfl) T.z_range (pa_cons (pe_ix ix_U (pe_tup (pa_cons pe_int (pa_cons pe_int (pa_cons pe_int (pa_cons pe_int (pa_cons pe_int pa_nil)))))) (Hk.pe_g (ok_draw T) (hr.mono (by decide)) (L2N.passes_call (L2N.takes_of rfl rfl rfl rfl) (fun _ _ _ _ h => h)) (pa_cons (pv 0) (pa_cons pe_int pa_nil))) (fun _ _ => rfl)) pa_nil)) (pg_name (i := 3) sc_lock_needs.nd rfl (.inl rfl))
        (pss_cons (ps_set (i := 4) sc_lock_needs.nd rfl (.inl rfl) (Hk.pe_g (ok_draw T) (hr.mono (by decide)) (L2N.passes_call (L2N.takes_of rfl rfl rfl rfl) (fun _ _ _ _ h => h)) (pa_cons (pv 0) (pa_cons pe_int pa_nil))))
        (pss_cons (ps_set (i := 5) sc_lock_needs.nd rfl (.inl rfl) (pe_tup (pa_cons pe_str pa_nil)))
        (pss_cons (ps_if (pt_cmpR op_lt (pv 4) pe_int (nomark _))
          (pss_one (ps_set (i := 5) sc_lock_needs.nd rfl (.inl rfl) (pe_tup (pa_cons (pe_ix ix_U (pe_tup (pa_cons pe_str (pa_cons pe_str (pa_cons pe_str pa_nil)))) (pv 4) (fun _ _ => rfl)) (pa_cons (pe_ix ix_U (pv 1) (Hk.pe_g (ok_draw T) (hr.mono (by decide)) (L2N.passes_call (L2N.takes_of rfl rfl rfl rfl) (fun _ _ _ _ h => h)) (pa_cons (pv 0) (pa_cons pe_int pa_nil))) (fun _ _ => rfl)) pa_nil)))))
          pss_nil)
        (pss_cons (ps_if (pt_cmpR (op_eqU hr.units) (pv 4) pe_int (nomark _))
          (pss_one (ps_set (i := 5) sc_lock_needs.nd rfl (.inl rfl) (pe_tup (pa_cons pe_str (pa_cons (Hk.pe_g (ok_draw T) (hr.mono (by decide)) (L2N.passes_call (L2N.takes_of rfl rfl rfl rfl) (fun _ _ _ _ h => h)) (pa_cons (pv 0) (pa_cons pe_int pa_nil))) pa_nil)))))
          pss_nil)
        (pss_cons (ps_if (pt_cmpR (op_eqU hr.units) (pv 4) pe_int (nomark _))
          (pss_one (ps_set (i := 5) sc_lock_needs.nd rfl (.inl rfl) (pe_tup (pa_cons pe_str (pa_cons (pe_ix ix_U (pv 1) (Hk.pe_g (ok_draw T) (hr.mono (by decide)) (L2N.passes_call (L2N.takes_of rfl rfl rfl rfl) (fun _ _ _ _ h => h)) (pa_cons (pv 0) (pa_cons pe_int pa_nil))) (fun _ _ => rfl)) (pa_cons (Hk.pe_g (ok_draw T) (hr.mono (by decide)) (L2N.passes_call (L2N.takes_of rfl rfl rfl rfl) (fun _ _ _ _ h => h)) (pa_cons (pv 0) (pa_cons pe_int pa_nil))) pa_nil))))))
          pss_nil)
        (pss_one (ps_expr (pe_bm PySem.F.plainAttrs_list PySem.F.slot_list_append PySem.F.type_list_append mt_append (pv 2) (pa_cons (pe_tup (pa_cons (pv 5) (pa_cons (Hk.pe_g (ok_pick T) (hr.mono (by decide)) (L2N.passes_call (L2N.takes_of rfl rfl rfl rfl) (fun _ _ _ _ h => h)) (pa_cons (pv 0) (pa_cons (pe_lst (pa_cons pe_str (pa_cons pe_str (pa_cons pe_str (pa_cons pe_str pa_nil))))) pa_nil))) pa_nil))) pa_nil))))))))))
      (pss_one (ps_ret (pv 2))))), fn_go (N := ["_law_box_here", "_law_names_here", "_law_needs", "_law_k", "_law_kind", "_law_node"]) (ss_seq (ss_own (sn_lst sa_nil))
      (ss_seq (ss_for (si_range1 (sab_cons (SimE.b (se_op sr_ix (SimE.b (se_tup (sa_cons se_int (sa_cons se_int (sa_cons se_int (sa_cons se_int (sa_cons se_int sa_nil))))))) (SimE.b (se_call (sa_cons se_var (sa_cons se_int sa_nil)))))) sab_nil)) sg_name
        (ss_seq (ss_asg (se_call (sa_cons se_var (sa_cons se_int sa_nil))) sg_name)
        (ss_seq (ss_asg (se_tup (sa_cons se_str sa_nil)) sg_name)
        (ss_seq (ss_if (st_tst (SimE.b (se_op sr_cmp sb_var (SimE.b se_int))))
          (ss_asg (se_tup (sa_cons (se_op sr_ix (SimE.b (se_tup (sa_cons se_str (sa_cons se_str (sa_cons se_str sa_nil))))) sb_var) (sa_cons (se_op sr_ix sb_var (SimE.b (se_call (sa_cons se_var (sa_cons se_int sa_nil))))) sa_nil))) sg_name)
          ss_next)
        (ss_seq (ss_if (st_tst (SimE.b (se_op sr_eq sb_var (SimE.b se_int))))
          (ss_asg (se_tup (sa_cons se_str (sa_cons (se_call (sa_cons se_var (sa_cons se_int sa_nil))) sa_nil))) sg_name)
          ss_next)
        (ss_seq (ss_if (st_tst (SimE.b (se_op sr_eq sb_var (SimE.b se_int))))
          (ss_asg (se_tup (sa_cons se_str (sa_cons (se_op sr_ix sb_var (SimE.b (se_call (sa_cons se_var (sa_cons se_int sa_nil))))) (sa_cons (se_call (sa_cons se_var (sa_cons se_int sa_nil))) sa_nil)))) sg_name)
          ss_next)
        (ss_ownApp (se_tup (sa_cons se_var (sa_cons (se_call (sa_cons se_var (sa_cons (SimN.e (sn_lst (sa_cons se_str (sa_cons se_str (sa_cons se_str (sa_cons se_str sa_nil)))))) sa_nil))) sa_nil))))))))))
      (ss_frz (ss_ret sb_var)))) h⟩
def b_numbers : FS := (seqS (ownS 1 (lstN nilA))
      (seqS (forS (range1I (consA (callN 2 F_pick (consA (varF 0) (consA (valN (lstN (consA (cF (.int 2)) (consA (cF (.int 0)) (consA (cF (.int 3)) (consA (cF (.int 1)) nilA)))))) nilA))) nilA)) (nameG 2)
        (ownApp 1 (opF addG (opF mulG (cF (.int 50)) (bvarF 2)) (callN 2 F_draw (consA (varF 0) (consA (cF (.int 50)) nilA))))))
      (frzS 1 (seqS (ifS (tstF (opF (eqG id) (callN 2 F_draw (consA (varF 0) (consA (cF (.int 2)) nilA))) (cF (.int 1))))
        (asgS (unF revG (bvarF 1)) (nameG 1))
        nextS)
      (retS (bvarF 1))))))
def F_numbers : Fn := fnOf 3 b_numbers
theorem ok_numbers (T : Txt w K mg) : Hk.GOk P w K mg base (L2N.CX P w) 3 "_law_numbers" ["_law_box_here"] (spF K 1 F_numbers) := by
  refine Hk.mkGX T.g__law_numbers T.f_numbers (fun _ _ _ _ _ _ us hl => match us, hl with | [_], _ => rfl) sc_numbers (fun vs H Q E h => spF_len h) (fun cdv A outer s H vs Q E hr h => ?_)
  exact ⟨_, (pss_cons (ps_set (i := 1) sc_numbers.nd rfl (.inl rfl) (pe_lst pa_nil))
      (pss_cons (ps_for (passes_of rfl) rfl (pi_range1 (by rfl) T.z_range (pa_cons (Hk.pe_g (ok_pick T) (hr.mono (by decide)) (L2N.passes_call (L2N.takes_of rfl rfl rfl rfl) (fun _ _ _ _ h => h)) (pa_cons (pv 0) (pa_cons (pe_lst (pa_cons pe_int (pa_cons pe_int (pa_cons pe_int (pa_cons pe_int pa_nil))))) pa_nil))) pa_nil)) (pg_name (i := 2) sc_numbers.nd rfl (.inl rfl))
        (pss_one (ps_expr (pe_bm PySem.F.plainAttrs_list PySem.F.slot_list_append PySem.F.type_list_append mt_append (pv 1) (pa_cons (pe_op op_addU (pe_op op_mul pe_int (pv 2)) (Hk.pe_g (ok_draw T) (hr.mono (by decide)) (L2N.passes_call (L2N.takes_of rfl rfl rfl rfl) (fun _ _ _ _ h => h)) (pa_cons (pv 0) (pa_cons pe_int pa_nil)))) pa_nil)))))
      (pss_cons (ps_if (pt_cmpR (op_eqU hr.units) (Hk.pe_g (ok_draw T) (hr.mono (by decide)) (L2N.passes_call (L2N.takes_of rfl rfl rfl rfl) (fun _ _ _ _ h => h)) (pa_cons (pv 0) (pa_cons pe_int pa_nil))) pe_int (nomark _))
        (pss_one (ps_set (i := 1) sc_numbers.nd rfl (.inl rfl) (pe_revLK (pv 1))))
        pss_nil)
      (pss_one (ps_ret (pv 1)))))), fn_go (N := ["_law_box_here", "_law_numbers_here", "_law_k"]) (ss_seq (ss_own (sn_lst sa_nil))
      (ss_seq (ss_for (si_range1 (sab_cons (SimE.b (se_call (sa_cons se_var (sa_cons (SimN.e (sn_lst (sa_cons se_int (sa_cons se_int (sa_cons se_int (sa_cons se_int sa_nil)))))) sa_nil)))) sab_nil)) sg_name
        (ss_ownApp (se_op sr_add (SimE.b (se_op sr_mul (SimE.b se_int) sb_var)) (SimE.b (se_call (sa_cons se_var (sa_cons se_int sa_nil)))))))
      (ss_frz (ss_seq (ss_if (st_tst (SimE.b (se_op sr_eq (SimE.b (se_call (sa_cons se_var (sa_cons se_int sa_nil)))) (SimE.b se_int))))
        (ss_asg (se_rev sb_var) sg_name)
        ss_next)
      (ss_ret sb_var))))) h⟩
def b_nodes : FS := (seqS (asgS (liveF (lstN (consA (tupF (consA (cF (.str "index")) (consA (opF ixG (bvarF 1) (cF (.int 1))) nilA))) (consA (tupF (consA (cF (.str "summary")) (consA (opF ixG (bvarF 1) (cF (.int 2))) nilA))) (consA (tupF (consA (cF (.str "index")) (consA (opF ixG (bvarF 1) (cF (.int 3))) nilA))) (consA (tupF (consA (cF (.str "summary")) (consA (opF ixG (bvarF 1) (cF (.int 1))) nilA))) nilA)))))) (nameG 2))
      (seqS (ownS 3 (lstN nilA))
      (seqS (forS (range1I (consA (callN 2 F_pick (consA (varF 0) (consA (valN (lstN (consA (cF (.int 2)) (consA (cF (.int 0)) (consA (cF (.int 3)) (consA (cF (.int 1)) nilA)))))) nilA))) nilA)) (nameG 4)
        (ownApp 3 (lmF popG (varF 2) (consA (callN 2 F_draw (consA (varF 0) (consA (callB lenG (consA (bvarF 2) nilA)) nilA))) nilA))))
      (frzS 3 (retS (bvarF 3))))))
noncomputable def F_nodes : Fn := trim (fnOf 5 b_nodes)
theorem ok0_nodes (T : Txt w K mg) : Hk.GOk P w K mg base (L2N.CX P w) 3 "_law_nodes" ["_law_box_here", "_law_names_here"] (spF K 2 (fnOf 5 b_nodes)) := by
  refine Hk.mkGX T.g__law_nodes T.f_nodes (fun _ _ _ _ _ _ us hl => match us, hl with | [_, _], _ => rfl) sc_nodes (fun vs H Q E h => spF_len h) (fun cdv A outer s H vs Q E hr h => ?_)
  exact ⟨_, (pss_cons (ps_set (i := 2) sc_nodes.nd rfl (.inl rfl) (pe_lst (pa_cons (pe_tup (pa_cons pe_str (pa_cons (pe_ix ix_U (pv 1) pe_int (fun _ _ => rfl)) pa_nil))) (pa_cons (pe_tup (pa_cons pe_str (pa_cons (pe_ix ix_U (pv 1) pe_int (fun _ _ => rfl)) pa_nil))) (pa_cons (pe_tup (pa_cons pe_str (pa_cons (pe_ix ix_U (pv 1) pe_int (fun _ _ => rfl)) pa_nil))) (pa_cons (pe_tup (pa_cons pe_str (pa_cons (pe_ix ix_U (pv 1) pe_int (fun _ _ => rfl)) pa_nil))) pa_nil))))))
      (pss_cons (ps_set (i := 3) sc_nodes.nd rfl (.inl rfl) (pe_lst pa_nil))
      (pss_cons (ps_for (passes_of rfl) rfl (pi_range1 (by rfl) T.z_range (pa_cons (Hk.pe_g (ok_pick T) (hr.mono (by decide)) (L2N.passes_call (L2N.takes_of rfl rfl rfl rfl) (fun _ _ _ _ h => h)) (pa_cons (pv 0) (pa_cons (pe_lst (pa_cons pe_int (pa_cons pe_int (pa_cons pe_int (pa_cons pe_int pa_nil))))) pa_nil))) pa_nil)) (pg_name (i := 4) sc_nodes.nd rfl (.inl rfl))
        (pss_one (ps_expr (pe_bm PySem.F.plainAttrs_list PySem.F.slot_list_append PySem.F.type_list_append mt_append (pv 3) (pa_cons (pe_bm PySem.F.plainAttrs_list PySem.F.slot_list_pop PySem.F.type_list_pop mt_popAt (pv 2) (pa_cons (Hk.pe_g (ok_draw T) (hr.mono (by decide)) (L2N.passes_call (L2N.takes_of rfl rfl rfl rfl) (fun _ _ _ _ h => h)) (pa_cons (pv 0) (pa_cons (pe_callB call_lenU (by rfl) T.z_len (by decide +kernel) (pa_cons (pv 2) pa_nil)) pa_nil))) pa_nil)) pa_nil)))))
      (pss_one (ps_ret (pv 3)))))), fn_go (N := ["_law_box_here", "_law_names_here", "_law_menu", "_law_nodes_here", "_law_k"]) (ss_seq (ss_asg (se_live (sn_lst (sa_cons (se_tup (sa_cons se_str (sa_cons (se_op sr_ix sb_var (SimE.b se_int)) sa_nil))) (sa_cons (se_tup (sa_cons se_str (sa_cons (se_op sr_ix sb_var (SimE.b se_int)) sa_nil))) (sa_cons (se_tup (sa_cons se_str (sa_cons (se_op sr_ix sb_var (SimE.b se_int)) sa_nil))) (sa_cons (se_tup (sa_cons se_str (sa_cons (se_op sr_ix sb_var (SimE.b se_int)) sa_nil))) sa_nil)))))) sg_name)
      (ss_seq (ss_own (sn_lst sa_nil))
      (ss_seq (ss_for (si_range1 (sab_cons (SimE.b (se_call (sa_cons se_var (sa_cons (SimN.e (sn_lst (sa_cons se_int (sa_cons se_int (sa_cons se_int (sa_cons se_int sa_nil)))))) sa_nil)))) sab_nil)) sg_name
        (ss_ownApp (se_lm sm_pop se_var (sa_cons (se_call (sa_cons se_var (sa_cons (se_cb sc_len (sab_cons sb_var sab_nil)) sa_nil))) sa_nil))))
      (ss_frz (ss_ret sb_var))))) h⟩
theorem ok_nodes (T : Txt w K mg) : Hk.GOk P w K mg base (L2N.CX P w) 3 "_law_nodes" ["_law_box_here", "_law_names_here"] (spF K 2 F_nodes) := (ok0_nodes T).imp fun vs H Q E h => trim_sp h
def b_keys : FS := (seqS (ownS 2 (lstN nilA))
      (seqS (forS (range1I (consA (callN 2 F_pick (consA (varF 0) (consA (valN (lstN (consA (cF (.int 2)) (consA (cF (.int 0)) (consA (cF (.int 3)) (consA (cF (.int 1)) nilA)))))) nilA))) nilA)) (nameG 3)
        (ownApp 2 (tupF (consA (cF (.str "key")) (consA (opF ixG (bvarF 1) (opF addG (cF (.int 2)) (callN 2 F_draw (consA (varF 0) (consA (cF (.int 2)) nilA))))) (consA (callN 2 F_draw (consA (varF 0) (consA (cF (.int 3)) nilA))) nilA))))))
      (frzS 2 (retS (bvarF 2)))))
def F_keys : Fn := fnOf 4 b_keys
theorem ok_keys (T : Txt w K mg) : Hk.GOk P w K mg base (L2N.CX P w) 3 "_law_keys" ["_law_box_here", "_law_names_here"] (spF K 2 F_keys) := by
  refine Hk.mkGX T.g__law_keys T.f_keys (fun _ _ _ _ _ _ us hl => match us, hl with | [_, _], _ => rfl) sc_keys (fun vs H Q E h => spF_len h) (fun cdv A outer s H vs Q E hr h => ?_)
  exact ⟨_, (pss_cons (ps_set (i := 2) sc_keys.nd rfl (.inl rfl) (pe_lst pa_nil))
      (pss_cons (ps_for (passes_of rfl) rfl (pi_range1 (by rfl) T.z_range (pa_cons (Hk.pe_g (ok_pick T) (hr.mono (by decide)) (L2N.passes_call (L2N.takes_of rfl rfl rfl rfl) (fun _ _ _ _ h => h)) (pa_cons (pv 0) (pa_cons (pe_lst (pa_cons pe_int (pa_cons pe_int (pa_cons pe_int (pa_cons pe_int pa_nil))))) pa_nil))) pa_nil)) (pg_name (i := 3) sc_keys.nd rfl (.inl rfl))
        (pss_one (ps_expr (pe_bm PySem.F.plainAttrs_list PySem.F.slot_list_append PySem.F.type_list_append mt_append (pv 2) (pa_cons (pe_tup (pa_cons pe_str (pa_cons (pe_ix ix_U (pv 1) (pe_op op_addU pe_int (Hk.pe_g (ok_draw T) (hr.mono (by decide)) (L2N.passes_call (L2N.takes_of rfl rfl rfl rfl) (fun _ _ _ _ h => h)) (pa_cons (pv 0) (pa_cons pe_int pa_nil)))) (fun _ _ => rfl)) (pa_cons (Hk.pe_g (ok_draw T) (hr.mono (by decide)) (L2N.passes_call (L2N.takes_of rfl rfl rfl rfl) (fun _ _ _ _ h => h)) (pa_cons (pv 0) (pa_cons pe_int pa_nil))) pa_nil)))) pa_nil)))))
      (pss_one (ps_ret (pv 2))))), fn_go (N := ["_law_box_here", "_law_names_here", "_law_keys_here", "_law_k"]) (ss_seq (ss_own (sn_lst sa_nil))
      (ss_seq (ss_for (si_range1 (sab_cons (SimE.b (se_call (sa_cons se_var (sa_cons (SimN.e (sn_lst (sa_cons se_int (sa_cons se_int (sa_cons se_int (sa_cons se_int sa_nil)))))) sa_nil)))) sab_nil)) sg_name
        (ss_ownApp (se_tup (sa_cons se_str (sa_cons (se_op sr_ix sb_var (SimE.b (se_op sr_add (SimE.b se_int) (SimE.b (se_call (sa_cons se_var (sa_cons se_int sa_nil))))))) (sa_cons (se_call (sa_cons se_var (sa_cons se_int sa_nil))) sa_nil))))))
      (ss_frz (ss_ret sb_var)))) h⟩
def b_lock_book : FS := (retS (mkF "LockBook" 9 F_LockBook_init (consA (opF ixG (bvarF 0) (cF (.int 0))) (consA (opF ixG (bvarF 0) (cF (.int 1))) (consA (opF ixG (bvarF 0) (cF (.int 2))) (consA (opF ixG (bvarF 0) (cF (.int 3))) (consA (opF ixG (bvarF 0) (cF (.int 4))) (consA (opF ixG (bvarF 0) (cF (.int 5))) (consA (opF ixG (bvarF 0) (cF (.int 6))) (consA (opF ixG (bvarF 0) (cF (.int 7))) nilA))))))))))
def F_lock_book : Fn := fnOf 1 b_lock_book
theorem ok_lock_book (T : Txt w K mg) : Hk.GOk P w K mg base (L2N.CX P w) 4 "_law_lock_book" ["_law_words"] (spF K 1 F_lock_book) := by
  refine Hk.mkGX T.g__law_lock_book T.f_lock_book (fun _ _ _ _ _ _ us hl => match us, hl with | [_], _ => rfl) sc_lock_book (fun vs H Q E h => spF_len h) (fun cdv A outer s H vs Q E hr h => ?_)
  exact ⟨_, (pss_one (ps_ret (pe_mkK T.mk_LockBook (ok_LockBook_init_read_write_marks_checks_kept_asks_lasts_clash T) T.g_LockBook (hr.mono (by decide)) (L2N.passes_call (L2N.takes_of rfl rfl rfl rfl) (fun _ _ _ _ h => h)) (pk_cons (pe_ix ix_U (pv 0) pe_int (fun _ _ => rfl)) (pk_cons (pe_ix ix_U (pv 0) pe_int (fun _ _ => rfl)) (pk_cons (pe_ix ix_U (pv 0) pe_int (fun _ _ => rfl)) (pk_cons (pe_ix ix_U (pv 0) pe_int (fun _ _ => rfl)) (pk_cons (pe_ix ix_U (pv 0) pe_int (fun _ _ => rfl)) (pk_cons (pe_ix ix_U (pv 0) pe_int (fun _ _ => rfl)) (pk_cons (pe_ix ix_U (pv 0) pe_int (fun _ _ => rfl)) (pk_cons (pe_ix ix_U (pv 0) pe_int (fun _ _ => rfl)) pk_nil))))))))))), fn_go (N := ["_law_words"]) (ss_ret (SimE.b (se_mkK rfl (sa_cons (se_op sr_ix sb_var (SimE.b se_int)) (sa_cons (se_op sr_ix sb_var (SimE.b se_int)) (sa_cons (se_op sr_ix sb_var (SimE.b se_int)) (sa_cons (se_op sr_ix sb_var (SimE.b se_int)) (sa_cons (se_op sr_ix sb_var (SimE.b se_int)) (sa_cons (se_op sr_ix sb_var (SimE.b se_int)) (sa_cons (se_op sr_ix sb_var (SimE.b se_int)) (sa_cons (se_op sr_ix sb_var (SimE.b se_int)) sa_nil))))))))))) h⟩
def b_modes : FS := (seqS (forS (anyI (valN (lstN (consA (cF (.str "is")) (consA (cF (.str "ix")) (consA (cF (.str "s")) (consA (cF (.str "x")) nilA))))))) (nameG 0)
        (forS (anyI (valN (lstN (consA (cF (.str "is")) (consA (cF (.str "ix")) (consA (cF (.str "s")) (consA (cF (.str "x")) nilA))))))) (nameG 1)
          (ifS (notT (tstF (callN 2 (F_alike 6) (consA (callN 2 F_compatible (consA (varF 0) (consA (varF 1) nilA))) (consA (callN 2 F_fit (consA (varF 0) (consA (varF 1) nilA))) nilA)))))
            (retS (cF (.bl false)))
            nextS)))
      (retS (cF (.bl true))))
def F_modes : Fn := fnOf 2 b_modes
theorem ok_modes (T : Txt w K mg) : Hk.GOk P w K mg base (L2N.CX P w) 8 "_law_modes" [] (spF K 0 F_modes) := by
  refine Hk.mkGX T.g__law_modes T.f_modes (fun _ _ _ _ _ _ us hl => match us, hl with | [], _ => rfl) sc_modes (fun vs H Q E h => spF_len h) (fun cdv A outer s H vs Q E hr h => ?_)
  exact ⟨_, (pss_cons (ps_for (passes_of rfl) rfl (pi_any (pe_lst (pa_cons pe_str (pa_cons pe_str (pa_cons pe_str (pa_cons pe_str pa_nil)))))) (pg_name (i := 0) sc_modes.nd rfl (.inl rfl))
        (pss_one (ps_for (passes_of rfl) rfl (pi_any (pe_lst (pa_cons pe_str (pa_cons pe_str (pa_cons pe_str (pa_cons pe_str pa_nil)))))) (pg_name (i := 1) sc_modes.nd rfl (.inl rfl))
          (pss_one (ps_if (pt_not (pt_val (Hk.pe_g (ok_alike T 6) (hr.mono (by decide)) (L2N.passes_call (L2N.takes_of rfl rfl rfl rfl) (fun _ _ _ _ h => h)) (pa_cons (Hk.pe_g (ok_compatible T) (hr.mono (by decide)) (L2N.passes_call (L2N.takes_of rfl rfl rfl rfl) (fun _ _ _ _ h => h)) (pa_cons (pv 0) (pa_cons (pv 1) pa_nil))) (pa_cons (Hk.pe_g (ok_fit T) (hr.mono (by decide)) (L2N.passes_call (L2N.takes_of rfl rfl rfl rfl) (fun _ _ _ _ h => h)) (pa_cons (pv 0) (pa_cons (pv 1) pa_nil))) pa_nil)))))
            (pss_one (ps_ret pe_bl))
            pss_nil)))))
      (pss_one (ps_ret pe_bl))), fn_go (N := ["_law_mode", "_law_other"]) (ss_seq (ss_for (si_any (SimN.e (sn_lst (sa_cons se_str (sa_cons se_str (sa_cons se_str (sa_cons se_str sa_nil))))))) sg_name
        (ss_for (si_any (SimN.e (sn_lst (sa_cons se_str (sa_cons se_str (sa_cons se_str (sa_cons se_str sa_nil))))))) sg_name
          (ss_if (st_not (st_tB (SimE.b (se_call (sa_cons (se_call (sa_cons se_var (sa_cons se_var sa_nil))) (sa_cons (se_call (sa_cons se_var (sa_cons se_var sa_nil))) sa_nil))))))
            (ss_ret (SimE.b se_bl))
            ss_next)))
      (ss_ret (SimE.b se_bl))) h⟩
def b_read_told : FS := (seqS (asgS (valN (listN (consA (bvarF 4) nilA))) (nameG 5))
      (seqS (asgS (callN 4 F_read_needs (consA (varF 0) (consA (varF 2) (consA (varF 3) (consA (varF 5) nilA))))) (nameG 6))
      (seqS (ifS (orT (notT (tstF (callN 2 (F_alike 6) (consA (varF 6) (consA (callN 4 F_due_read (consA (varF 1) (consA (varF 2) (consA (varF 3) (consA (varF 4) nilA))))) nilA))))) (notT (tstF (callN 2 (F_alike 6) (consA (varF 5) (consA (varF 4) nilA))))))
        (retS (cF (.bl false)))
        nextS)
      (seqS (exprS (lmF appG (varF 6) (consA (tupF (consA (tupF (consA (cF (.str "store")) nilA)) (consA (cF (.str "x")) nilA))) nilA)))
      (retS (callN 2 (F_alike 6) (consA (callN 4 F_read_needs (consA (varF 0) (consA (varF 2) (consA (varF 3) (consA (varF 5) nilA))))) (consA (callN 4 F_due_read (consA (varF 1) (consA (varF 2) (consA (varF 3) (consA (varF 4) nilA))))) nilA))))))))
noncomputable def F_read_told : Fn := trim (fnOf 7 b_read_told)
theorem ok0_read_told (T : Txt w K mg) : Hk.GOk P w K mg base (L2N.CX P w) 8 "_law_read_told" ["_law_book", "_law_words", "_law_table", "_law_road", "_law_numbers_here"] (spF K 5 (fnOf 7 b_read_told)) := by
  refine Hk.mkGX T.g__law_read_told T.f_read_told (fun _ _ _ _ _ _ us hl => match us, hl with | [_, _, _, _, _], _ => rfl) sc_read_told (fun vs H Q E h => spF_len h) (fun cdv A outer s H vs Q E hr h => ?_)
  exact ⟨_, (pss_cons (ps_set (i := 5) sc_read_told.nd rfl (.inl rfl) (pe_callTy call_listU (by rfl) T.z_list (by decide +kernel) (pa_cons (pv 4) pa_nil)))
      (pss_cons (ps_set (i := 6) sc_read_told.nd rfl (.inl rfl) (Hk.pe_g (ok_read_needs T) (hr.mono (by decide)) (L2N.passes_call (L2N.takes_of rfl rfl rfl rfl) (fun _ _ _ _ h => h)) (pa_cons (pv 0) (pa_cons (pv 2) (pa_cons (pv 3) (pa_cons (pv 5) pa_nil))))))
      (pss_cons (ps_if (PW.pt (pw_or (pt_not (pt_val (Hk.pe_g (ok_alike T 6) (hr.mono (by decide)) (L2N.passes_call (L2N.takes_of rfl rfl rfl rfl) (fun _ _ _ _ h => h)) (pa_cons (pv 6) (pa_cons (Hk.pe_g (ok_due_read T) (hr.mono (by decide)) (L2N.passes_call (L2N.takes_of rfl rfl rfl rfl) (fun _ _ _ _ h => h)) (pa_cons (pv 1) (pa_cons (pv 2) (pa_cons (pv 3) (pa_cons (pv 4) pa_nil))))) pa_nil))))) (pw_or1 (pt_not (pt_val (Hk.pe_g (ok_alike T 6) (hr.mono (by decide)) (L2N.passes_call (L2N.takes_of rfl rfl rfl rfl) (fun _ _ _ _ h => h)) (pa_cons (pv 5) (pa_cons (pv 4) pa_nil))))))))
        (pss_one (ps_ret pe_bl))
        pss_nil)
      (pss_cons (ps_expr (pe_bm PySem.F.plainAttrs_list PySem.F.slot_list_append PySem.F.type_list_append mt_append (pv 6) (pa_cons (pe_tup (pa_cons (pe_tup (pa_cons pe_str pa_nil)) (pa_cons pe_str pa_nil))) pa_nil)))
      (pss_one (ps_ret (Hk.pe_g (ok_alike T 6) (hr.mono (by decide)) (L2N.passes_call (L2N.takes_of rfl rfl rfl rfl) (fun _ _ _ _ h => h)) (pa_cons (Hk.pe_g (ok_read_needs T) (hr.mono (by decide)) (L2N.passes_call (L2N.takes_of rfl rfl rfl rfl) (fun _ _ _ _ h => h)) (pa_cons (pv 0) (pa_cons (pv 2) (pa_cons (pv 3) (pa_cons (pv 5) pa_nil))))) (pa_cons (Hk.pe_g (ok_due_read T) (hr.mono (by decide)) (L2N.passes_call (L2N.takes_of rfl rfl rfl rfl) (fun _ _ _ _ h => h)) (pa_cons (pv 1) (pa_cons (pv 2) (pa_cons (pv 3) (pa_cons (pv 4) pa_nil))))) pa_nil))))))))), fn_go (N := ["_law_book", "_law_words", "_law_table", "_law_road", "_law_numbers_here", "_law_given", "_law_told"]) (ss_seq (ss_asg (SimN.e (sn_list (sab_cons sb_var sab_nil))) sg_name)
      (ss_seq (ss_asg (se_call (sa_cons se_var (sa_cons se_var (sa_cons se_var (sa_cons se_var sa_nil))))) sg_name)
      (ss_seq (ss_if (st_or (st_not (st_tB (SimE.b (se_call (sa_cons se_var (sa_cons (se_call (sa_cons se_var (sa_cons se_var (sa_cons se_var (sa_cons se_var sa_nil))))) sa_nil)))))) (st_not (st_tB (SimE.b (se_call (sa_cons se_var (sa_cons se_var sa_nil)))))))
        (ss_ret (SimE.b se_bl))
        ss_next)
      (ss_seq (ss_expr (SimE.b (se_lm sm_app se_var (sa_cons (se_tup (sa_cons (se_tup (sa_cons se_str sa_nil)) (sa_cons se_str sa_nil))) sa_nil))))
      (ss_ret (SimE.b (se_call (sa_cons (se_call (sa_cons se_var (sa_cons se_var (sa_cons se_var (sa_cons se_var sa_nil))))) (sa_cons (se_call (sa_cons se_var (sa_cons se_var (sa_cons se_var (sa_cons se_var sa_nil))))) sa_nil))))))))) h⟩
theorem ok_read_told (T : Txt w K mg) : Hk.GOk P w K mg base (L2N.CX P w) 8 "_law_read_told" ["_law_book", "_law_words", "_law_table", "_law_road", "_law_numbers_here"] (spF K 5 F_read_told) := (ok0_read_told T).imp fun vs H Q E h => trim_sp h
def b_write_told : FS := (seqS (asgS (valN (listN (consA (bvarF 4) nilA))) (nameG 6))
      (seqS (asgS (valN (listN (consA (bvarF 5) nilA))) (nameG 7))
      (seqS (asgS (callN 5 F_write_needs (consA (varF 0) (consA (varF 2) (consA (varF 3) (consA (varF 6) (consA (varF 7) nilA)))))) (nameG 8))
      (seqS (ifS (notT (tstF (callN 2 (F_alike 6) (consA (varF 8) (consA (callN 5 F_due_write (consA (varF 1) (consA (varF 2) (consA (varF 3) (consA (varF 4) (consA (varF 5) nilA)))))) nilA)))))
        (retS (cF (.bl false)))
        nextS)
      (seqS (exprS (lmF appG (varF 8) (consA (tupF (consA (tupF (consA (cF (.str "store")) nilA)) (consA (cF (.str "x")) nilA))) nilA)))
      (seqS (ifS (orT (notT (tstF (callN 2 (F_alike 6) (consA (varF 6) (consA (varF 4) nilA))))) (notT (tstF (callN 2 (F_alike 6) (consA (varF 7) (consA (varF 5) nilA))))))
        (retS (cF (.bl false)))
        nextS)
      (retS (callN 2 (F_alike 6) (consA (callN 5 F_write_needs (consA (varF 0) (consA (varF 2) (consA (varF 3) (consA (varF 6) (consA (varF 7) nilA)))))) (consA (callN 5 F_due_write (consA (varF 1) (consA (varF 2) (consA (varF 3) (consA (varF 4) (consA (varF 5) nilA)))))) nilA))))))))))
noncomputable def F_write_told : Fn := trim (fnOf 9 b_write_told)
theorem ok0_write_told (T : Txt w K mg) : Hk.GOk P w K mg base (L2N.CX P w) 8 "_law_write_told" ["_law_book", "_law_words", "_law_table", "_law_number", "_law_nodes_here", "_law_keys_here"] (spF K 6 (fnOf 9 b_write_told)) := by
  refine Hk.mkGX T.g__law_write_told T.f_write_told (fun _ _ _ _ _ _ us hl => match us, hl with | [_, _, _, _, _, _], _ => rfl) sc_write_told (fun vs H Q E h => spF_len h) (fun cdv A outer s H vs Q E hr h => ?_)
  exact ⟨_, (pss_cons (ps_set (i := 6) sc_write_told.nd rfl (.inl rfl) (pe_callTy call_listU (by rfl) T.z_list (by decide +kernel) (pa_cons (pv 4) pa_nil)))
      (pss_cons (ps_set (i := 7) sc_write_told.nd rfl (.inl rfl) (pe_callTy call_listU (by rfl) T.z_list (by decide +kernel) (pa_cons (pv 5) pa_nil)))
      (pss_cons (ps_set (i := 8) sc_write_told.nd rfl (.inl rfl) (Hk.pe_g (ok_write_needs T) (hr.mono (by decide)) (L2N.passes_call (L2N.takes_of rfl rfl rfl rfl) (fun _ _ _ _ h => h)) (pa_cons (pv 0) (pa_cons (pv 2) (pa_cons (pv 3) (pa_cons (pv 6) (pa_cons (pv 7) pa_nil)))))))
      (pss_cons (ps_if (pt_not (pt_val (Hk.pe_g (ok_alike T 6) (hr.mono (by decide)) (L2N.passes_call (L2N.takes_of rfl rfl rfl rfl) (fun _ _ _ _ h => h)) (pa_cons (pv 8) (pa_cons (Hk.pe_g (ok_due_write T) (hr.mono (by decide)) (L2N.passes_call (L2N.takes_of rfl rfl rfl rfl) (fun _ _ _ _ h => h)) (pa_cons (pv 1) (pa_cons (pv 2) (pa_cons (pv 3) (pa_cons (pv 4) (pa_cons (pv 5) pa_nil)))))) pa_nil)))))
        (pss_one (ps_ret pe_bl))
        pss_nil)
      (pss_cons (ps_expr (pe_bm PySem.F.plainAttrs_list PySem.F.slot_list_append PySem.F.type_list_append mt_append (pv 8) (pa_cons (pe_tup (pa_cons (pe_tup (pa_cons pe_str pa_nil)) (pa_cons pe_str pa_nil))) pa_nil)))
      (pss_cons (ps_if (PW.pt (pw_or (pt_not (pt_val (Hk.pe_g (ok_alike T 6) (hr.mono (by decide)) (L2N.passes_call (L2N.takes_of rfl rfl rfl rfl) (fun _ _ _ _ h => h)) (pa_cons (pv 6) (pa_cons (pv 4) pa_nil))))) (pw_or1 (pt_not (pt_val (Hk.pe_g (ok_alike T 6) (hr.mono (by decide)) (L2N.passes_call (L2N.takes_of rfl rfl rfl rfl) (fun _ _ _ _ h => h)) (pa_cons (pv 7) (pa_cons (pv 5) pa_nil))))))))
        (pss_one (ps_ret pe_bl))
        pss_nil)
      (pss_one (ps_ret (Hk.pe_g (ok_alike T 6) (hr.mono (by decide)) (L2N.passes_call (L2N.takes_of rfl rfl rfl rfl) (fun _ _ _ _ h => h)) (pa_cons (Hk.pe_g (ok_write_needs T) (hr.mono (by decide)) (L2N.passes_call (L2N.takes_of rfl rfl rfl rfl) (fun _ _ _ _ h => h)) (pa_cons (pv 0) (pa_cons (pv 2) (pa_cons (pv 3) (pa_cons (pv 6) (pa_cons (pv 7) pa_nil)))))) (pa_cons (Hk.pe_g (ok_due_write T) (hr.mono (by decide)) (L2N.passes_call (L2N.takes_of rfl rfl rfl rfl) (fun _ _ _ _ h => h)) (pa_cons (pv 1) (pa_cons (pv 2) (pa_cons (pv 3) (pa_cons (pv 4) (pa_cons (pv 5) pa_nil)))))) pa_nil))))))))))), fn_go (N := ["_law_book", "_law_words", "_law_table", "_law_number", "_law_nodes_here", "_law_keys_here", "_law_marked", "_law_locked", "_law_told"]) (ss_seq (ss_asg (SimN.e (sn_list (sab_cons sb_var sab_nil))) sg_name)
      (ss_seq (ss_asg (SimN.e (sn_list (sab_cons sb_var sab_nil))) sg_name)
      (ss_seq (ss_asg (se_call (sa_cons se_var (sa_cons se_var (sa_cons se_var (sa_cons se_var (sa_cons se_var sa_nil)))))) sg_name)
      (ss_seq (ss_if (st_not (st_tB (SimE.b (se_call (sa_cons se_var (sa_cons (se_call (sa_cons se_var (sa_cons se_var (sa_cons se_var (sa_cons se_var (sa_cons se_var sa_nil)))))) sa_nil))))))
        (ss_ret (SimE.b se_bl))
        ss_next)
      (ss_seq (ss_expr (SimE.b (se_lm sm_app se_var (sa_cons (se_tup (sa_cons (se_tup (sa_cons se_str sa_nil)) (sa_cons se_str sa_nil))) sa_nil))))
      (ss_seq (ss_if (st_or (st_not (st_tB (SimE.b (se_call (sa_cons se_var (sa_cons se_var sa_nil)))))) (st_not (st_tB (SimE.b (se_call (sa_cons se_var (sa_cons se_var sa_nil)))))))
        (ss_ret (SimE.b se_bl))
        ss_next)
      (ss_ret (SimE.b (se_call (sa_cons (se_call (sa_cons se_var (sa_cons se_var (sa_cons se_var (sa_cons se_var (sa_cons se_var sa_nil)))))) (sa_cons (se_call (sa_cons se_var (sa_cons se_var (sa_cons se_var (sa_cons se_var (sa_cons se_var sa_nil)))))) sa_nil))))))))))) h⟩
theorem ok_write_told (T : Txt w K mg) : Hk.GOk P w K mg base (L2N.CX P w) 8 "_law_write_told" ["_law_book", "_law_words", "_law_table", "_law_number", "_law_nodes_here", "_law_keys_here"] (spF K 6 F_write_told) := (ok0_write_told T).imp fun vs H Q E h => trim_sp h
def b_all_meet : FS := (seqS (forS (anyI (varF 0)) (nameG 1)
        (forS (anyI (varF 0)) (nameG 2)
          (seqS (asgS (valN (listN (consA (bvarF 1) nilA))) (nameG 3))
          (ifS (orT (notT (tstF (callN 2 (F_alike 6) (consA (callN 2 F_meet (consA (varF 3) (consA (varF 2) nilA))) (consA (callN 2 F_needs_meet (consA (varF 1) (consA (varF 2) nilA))) nilA))))) (notT (tstF (callN 2 (F_alike 6) (consA (varF 3) (consA (varF 1) nilA))))))
            (retS (cF (.bl false)))
            nextS))))
      (retS (cF (.bl true))))
def F_all_meet : Fn := fnOf 4 b_all_meet
theorem ok_all_meet (T : Txt w K mg) : Hk.GOk P w K mg base (L2N.CX P w) 8 "_law_all_meet" ["_law_lists"] (spF K 1 F_all_meet) := by
  refine Hk.mkGX T.g__law_all_meet T.f_all_meet (fun _ _ _ _ _ _ us hl => match us, hl with | [_], _ => rfl) sc_all_meet (fun vs H Q E h => spF_len h) (fun cdv A outer s H vs Q E hr h => ?_)
  exact ⟨_, (pss_cons (ps_for (passes_of rfl) rfl (pi_any (pv 0)) (pg_name (i := 1) sc_all_meet.nd rfl (.inl rfl))
        (pss_one (ps_for (passes_of rfl) rfl (pi_any (pv 0)) (pg_name (i := 2) sc_all_meet.nd rfl (.inl rfl))
          (pss_cons (ps_set (i := 3) sc_all_meet.nd rfl (.inl rfl) (pe_callTy call_listU (by rfl) T.z_list (by decide +kernel) (pa_cons (pv 1) pa_nil)))
          (pss_one (ps_if (PW.pt (pw_or (pt_not (pt_val (Hk.pe_g (ok_alike T 6) (hr.mono (by decide)) (L2N.passes_call (L2N.takes_of rfl rfl rfl rfl) (fun _ _ _ _ h => h)) (pa_cons (Hk.pe_g (ok_meet T) (hr.mono (by decide)) (L2N.passes_call (L2N.takes_of rfl rfl rfl rfl) (fun _ _ _ _ h => h)) (pa_cons (pv 3) (pa_cons (pv 2) pa_nil))) (pa_cons (Hk.pe_g (ok_needs_meet T) (hr.mono (by decide)) (L2N.passes_call (L2N.takes_of rfl rfl rfl rfl) (fun _ _ _ _ h => h)) (pa_cons (pv 1) (pa_cons (pv 2) pa_nil))) pa_nil))))) (pw_or1 (pt_not (pt_val (Hk.pe_g (ok_alike T 6) (hr.mono (by decide)) (L2N.passes_call (L2N.takes_of rfl rfl rfl rfl) (fun _ _ _ _ h => h)) (pa_cons (pv 3) (pa_cons (pv 1) pa_nil))))))))
            (pss_one (ps_ret pe_bl))
            pss_nil))))))
      (pss_one (ps_ret pe_bl))), fn_go (N := ["_law_lists", "_law_needs", "_law_other", "_law_mine"]) (ss_seq (ss_for (si_any se_var) sg_name
        (ss_for (si_any se_var) sg_name
          (ss_seq (ss_asg (SimN.e (sn_list (sab_cons sb_var sab_nil))) sg_name)
          (ss_if (st_or (st_not (st_tB (SimE.b (se_call (sa_cons (se_call (sa_cons se_var (sa_cons se_var sa_nil))) (sa_cons (se_call (sa_cons se_var (sa_cons se_var sa_nil))) sa_nil)))))) (st_not (st_tB (SimE.b (se_call (sa_cons se_var (sa_cons se_var sa_nil)))))))
            (ss_ret (SimE.b se_bl))
            ss_next))))
      (ss_ret (SimE.b se_bl))) h⟩
def b_law : FS := (seqS (asgS (callN 1 F_box (consA (varF 0) nilA)) (nameG 1))
      (seqS (asgS (callN 1 F_lock_words (consA (varF 1) nilA)) (nameG 2))
      (seqS (asgS (callN 1 F_lock_words (consA (varF 1) nilA)) (nameG 3))
      (seqS (asgS (callN 2 F_names (consA (varF 1) (consA (cF (.int 4)) nilA))) (nameG 4))
      (seqS (asgS (callN 1 F_numbers (consA (varF 1) nilA)) (nameG 5))
      (seqS (asgS (callN 2 F_nodes (consA (varF 1) (consA (varF 4) nilA))) (nameG 6))
      (seqS (asgS (callN 2 F_keys (consA (varF 1) (consA (varF 4) nilA))) (nameG 7))
      (seqS (asgS (callN 2 F_pick (consA (varF 1) (consA (opF addG (bvarF 5) (valN (lstN (consA (opF addG (cF (.int 151)) (callN 2 F_draw (consA (varF 1) (consA (cF (.int 40)) nilA)))) nilA)))) nilA))) (nameG 8))
      (seqS (asgS (callN 1 F_lock_book (consA (varF 2) nilA)) (nameG 9))
      (seqS (asgS (callN 1 F_lock_book (consA (varF 3) nilA)) (nameG 10))
      (seqS (ifS (notT (tstF (callN 0 F_modes nilA)))
        (retS (cF (.bl false)))
        nextS)
      (seqS (ownS 11 (lstN nilA))
      (seqS (forS (anyI (valN (lstN (consA (tupF (consA (cF (.str "table")) nilA)) (consA (tupF (consA (cF (.str "index")) (consA (opF ixG (bvarF 4) (cF (.int 1))) nilA))) (consA (tupF (consA (cF (.str "summary")) (consA (opF ixG (bvarF 4) (cF (.int 2))) nilA))) (consA (tupF (consA (cF (.str "index")) (consA (opF ixG (bvarF 4) (cF (.int 3))) nilA))) nilA))))))) (nameG 12)
        (seqS (ifS (notT (tstF (callN 5 F_read_told (consA (varF 9) (consA (varF 2) (consA (opF ixG (bvarF 4) (cF (.int 0))) (consA (varF 12) (consA (varF 5) nilA))))))))
          (retS (cF (.bl false)))
          nextS)
        (seqS (ifS (notT (tstF (callN 5 F_read_told (consA (varF 10) (consA (varF 3) (consA (opF ixG (bvarF 4) (cF (.int 0))) (consA (varF 12) (consA (varF 5) nilA))))))))
          (retS (cF (.bl false)))
          nextS)
        (ownApp 11 (callN 4 F_due_read (consA (varF 2) (consA (opF ixG (bvarF 4) (cF (.int 0))) (consA (varF 12) (consA (varF 5) nilA)))))))))
      (seqS (ifS (notT (tstF (callN 6 F_write_told (consA (varF 9) (consA (varF 2) (consA (opF ixG (bvarF 4) (cF (.int 0))) (consA (varF 8) (consA (varF 6) (consA (varF 7) nilA)))))))))
        (retS (cF (.bl false)))
        nextS)
      (seqS (ifS (notT (tstF (callN 6 F_write_told (consA (varF 10) (consA (varF 3) (consA (opF ixG (bvarF 4) (cF (.int 0))) (consA (varF 8) (consA (varF 6) (consA (varF 7) nilA)))))))))
        (retS (cF (.bl false)))
        nextS)
      (seqS (ifS (notT (tstF (callN 6 F_write_told (consA (varF 9) (consA (varF 2) (consA (opF ixG (bvarF 4) (cF (.int 3))) (consA (opF addG (bvarF 8) (cF (.int 50))) (consA (valN (lstN nilA)) (consA (slF slG (bvarF 7) noneO (someO (cF (.int 1)))) nilA)))))))))
        (retS (cF (.bl false)))
        nextS)
      (seqS (ownApp 11 (callN 5 F_due_write (consA (varF 2) (consA (opF ixG (bvarF 4) (cF (.int 0))) (consA (varF 8) (consA (varF 6) (consA (varF 7) nilA)))))))
      (seqS (ownApp 11 (callN 5 F_due_write (consA (varF 2) (consA (opF ixG (bvarF 4) (cF (.int 3))) (consA (opF addG (bvarF 8) (cF (.int 50))) (consA (valN (lstN nilA)) (consA (slF slG (bvarF 7) noneO (someO (cF (.int 1)))) nilA)))))))
      (seqS (ownApp 11 (callN 4 F_due_read (consA (varF 3) (consA (opF ixG (bvarF 4) (cF (.int 0))) (consA (tupF (consA (cF (.str "table")) nilA)) (consA (varF 5) nilA))))))
      (seqS (ownApp 11 (opF addG (callN 2 F_lock_needs (consA (varF 1) (consA (varF 4) nilA))) (callN 2 F_lock_needs (consA (varF 1) (consA (varF 4) nilA)))))
      (seqS (ownApp 11 (opF addG (callN 2 F_lock_needs (consA (varF 1) (consA (varF 4) nilA))) (callN 2 F_lock_needs (consA (varF 1) (consA (varF 4) nilA)))))
      (frzS 11 (retS (callN 1 F_all_meet (consA (varF 11) nilA)))))))))))))))))))))))))
def F_law : Fn := fnOf 13 b_law
theorem ok_law (T : Txt w K mg) {fd : FuncData} (F : FunD K "law" "law" (defArgs s_law) (defBody s_law) (defScope s_law) [] [] (ga K "law") fd) : FnOk P w K mg base (L2N.CX P w) 9 (ga K "law") fd ["_law_script"] (spF K 1 F_law) := by
  refine F.ok sc_law (fun vs H Q E h => spF_len h) (fun cdv A outer s H vs Q E hr h => ?_)
  exact ⟨_, (pss_cons (ps_set (i := 1) sc_law.nd rfl (.inl rfl) (Hk.pe_g (ok_box T) (hr.mono (by decide)) (L2N.passes_call (L2N.takes_of rfl rfl rfl rfl) (fun _ _ _ _ h => h)) (pa_cons (pv 0) pa_nil)))
      (pss_cons (ps_set (i := 2) sc_law.nd rfl (.inl rfl) (Hk.pe_g (ok_lock_words T) (hr.mono (by decide)) (L2N.passes_call (L2N.takes_of rfl rfl rfl rfl) (fun _ _ _ _ h => h)) (pa_cons (pv 1) pa_nil)))
      (pss_cons (ps_set (i := 3) sc_law.nd rfl (.inl rfl) (Hk.pe_g (ok_lock_words T) (hr.mono (by decide)) (L2N.passes_call (L2N.takes_of rfl rfl rfl rfl) (fun _ _ _ _ h => h)) (pa_cons (pv 1) pa_nil)))
      (pss_cons (ps_set (i := 4) sc_law.nd rfl (.inl rfl) (Hk.pe_g (ok_names T) (hr.mono (by decide)) (L2N.passes_call (L2N.takes_of rfl rfl rfl rfl) (fun _ _ _ _ h => h)) (pa_cons (pv 1) (pa_cons pe_int pa_nil))))
      (pss_cons (ps_set (i := 5) sc_law.nd rfl (.inl rfl) (Hk.pe_g (ok_numbers T) (hr.mono (by decide)) (L2N.passes_call (L2N.takes_of rfl rfl rfl rfl) (fun _ _ _ _ h => h)) (pa_cons (pv 1) pa_nil)))
      (pss_cons (ps_set (i := 6) sc_law.nd rfl (.inl rfl) (Hk.pe_g (ok_nodes T) (hr.mono (by decide)) (L2N.passes_call (L2N.takes_of rfl rfl rfl rfl) (fun _ _ _ _ h => h)) (pa_cons (pv 1) (pa_cons (pv 4) pa_nil))))
      (pss_cons (ps_set (i := 7) sc_law.nd rfl (.inl rfl) (Hk.pe_g (ok_keys T) (hr.mono (by decide)) (L2N.passes_call (L2N.takes_of rfl rfl rfl rfl) (fun _ _ _ _ h => h)) (pa_cons (pv 1) (pa_cons (pv 4) pa_nil))))
      (pss_cons (ps_set (i := 8) sc_law.nd rfl (.inl rfl) (Hk.pe_g (ok_pick T) (hr.mono (by decide)) (L2N.passes_call (L2N.takes_of rfl rfl rfl rfl) (fun _ _ _ _ h => h)) (pa_cons (pv 1) (pa_cons (pe_op op_addU (pv 5) (pe_lst (pa_cons (pe_op op_addU pe_int (Hk.pe_g (ok_draw T) (hr.mono (by decide)) (L2N.passes_call (L2N.takes_of rfl rfl rfl rfl) (fun _ _ _ _ h => h)) (pa_cons (pv 1) (pa_cons pe_int pa_nil)))) pa_nil))) pa_nil))))
      (pss_cons (ps_set (i := 9) sc_law.nd rfl (.inl rfl) (Hk.pe_g (ok_lock_book T) (hr.mono (by decide)) (L2N.passes_call (L2N.takes_of rfl rfl rfl rfl) (fun _ _ _ _ h => h)) (pa_cons (pv 2) pa_nil)))
      (pss_cons (ps_set (i := 10) sc_law.nd rfl (.inl rfl) (Hk.pe_g (ok_lock_book T) (hr.mono (by decide)) (L2N.passes_call (L2N.takes_of rfl rfl rfl rfl) (fun _ _ _ _ h => h)) (pa_cons (pv 3) pa_nil)))
      (pss_cons (ps_if (pt_not (pt_val (Hk.pe_g0 (ok_modes T) (hr.mono (by decide)) (L2N.passes_call (L2N.takes_of rfl rfl rfl rfl) (fun _ _ _ _ h => h)))))
        (pss_one (ps_ret pe_bl))
        pss_nil)
      (pss_cons (ps_set (i := 11) sc_law.nd rfl (.inl rfl) (pe_lst pa_nil))
      (pss_cons (ps_for (passes_of rfl) rfl (pi_any (pe_lst (pa_cons (pe_tup (pa_cons pe_str pa_nil)) (pa_cons (pe_tup (pa_cons pe_str (pa_cons (pe_ix ix_U (pv 4) pe_int (fun _ _ => rfl)) pa_nil))) (pa_cons (pe_tup (pa_cons pe_str (pa_cons (pe_ix ix_U (pv 4) pe_int (fun _ _ => rfl)) pa_nil))) (pa_cons (pe_tup (pa_cons pe_str (pa_cons (pe_ix ix_U (pv 4) pe_int (fun _ _ => rfl)) pa_nil))) pa_nil)))))) (pg_name (i := 12) sc_law.nd rfl (.inl rfl))
        (pss_cons (ps_if (pt_not (pt_val (Hk.pe_g (ok_read_told T) (hr.mono (by decide)) (L2N.passes_call (L2N.takes_of rfl rfl rfl rfl) (fun _ _ _ _ h => h)) (pa_cons (pv 9) (pa_cons (pv 2) (pa_cons (pe_ix ix_U (pv 4) pe_int (fun _ _ => rfl)) (pa_cons (pv 12) (pa_cons (pv 5) pa_nil))))))))
          (pss_one (ps_ret pe_bl))
          pss_nil)
        (pss_cons (ps_if (pt_not (pt_val (Hk.pe_g (ok_read_told T) (hr.mono (by decide)) (L2N.passes_call (L2N.takes_of rfl rfl rfl rfl) (fun _ _ _ _ h => h)) (pa_cons (pv 10) (pa_cons (pv 3) (pa_cons (pe_ix ix_U (pv 4) pe_int (fun _ _ => rfl)) (pa_cons (pv 12) (pa_cons (pv 5) pa_nil))))))))
          (pss_one (ps_ret pe_bl))
          pss_nil)
        (pss_one (ps_expr (pe_bm PySem.F.plainAttrs_list PySem.F.slot_list_append PySem.F.type_list_append mt_append (pv 11) (pa_cons (Hk.pe_g (ok_due_read T) (hr.mono (by decide)) (L2N.passes_call (L2N.takes_of rfl rfl rfl rfl) (fun _ _ _ _ h => h)) (pa_cons (pv 2) (pa_cons (pe_ix ix_U (pv 4) pe_int (fun _ _ => rfl)) (pa_cons (pv 12) (pa_cons (pv 5) pa_nil))))) pa_nil)))))))
      (pss_cons (ps_if (pt_not (pt_val (Hk.pe_g (ok_write_told T) (hr.mono (by decide)) (L2N.passes_call (L2N.takes_of rfl rfl rfl rfl) (fun _ _ _ _ h => h)) (pa_cons (pv 9) (pa_cons (pv 2) (pa_cons (pe_ix ix_U (pv 4) pe_int (fun _ _ => rfl)) (pa_cons (pv 8) (pa_cons (pv 6) (pa_cons (pv 7) pa_nil)))))))))
        (pss_one (ps_ret pe_bl))
        pss_nil)
      (pss_cons (ps_if (pt_not (pt_val (Hk.pe_g (ok_write_told T) (hr.mono (by decide)) (L2N.passes_call (L2N.takes_of rfl rfl rfl rfl) (fun _ _ _ _ h => h)) (pa_cons (pv 10) (pa_cons (pv 3) (pa_cons (pe_ix ix_U (pv 4) pe_int (fun _ _ => rfl)) (pa_cons (pv 8) (pa_cons (pv 6) (pa_cons (pv 7) pa_nil)))))))))
        (pss_one (ps_ret pe_bl))
        pss_nil)
      (pss_cons (ps_if (pt_not (pt_val (Hk.pe_g (ok_write_told T) (hr.mono (by decide)) (L2N.passes_call (L2N.takes_of rfl rfl rfl rfl) (fun _ _ _ _ h => h)) (pa_cons (pv 9) (pa_cons (pv 2) (pa_cons (pe_ix ix_U (pv 4) pe_int (fun _ _ => rfl)) (pa_cons (pe_op op_addU (pv 8) pe_int) (pa_cons (pe_lst pa_nil) (pa_cons (pe_slice sl_U (pv 7) po_none (po_some pe_int)) pa_nil)))))))))
        (pss_one (ps_ret pe_bl))
        pss_nil)
      (pss_cons (ps_expr (pe_bm PySem.F.plainAttrs_list PySem.F.slot_list_append PySem.F.type_list_append mt_append (pv 11) (pa_cons (Hk.pe_g (ok_due_write T) (hr.mono (by decide)) (L2N.passes_call (L2N.takes_of rfl rfl rfl rfl) (fun _ _ _ _ h => h)) (pa_cons (pv 2) (pa_cons (pe_ix ix_U (pv 4) pe_int (fun _ _ => rfl)) (pa_cons (pv 8) (pa_cons (pv 6) (pa_cons (pv 7) pa_nil)))))) pa_nil)))
      (pss_cons (ps_expr (pe_bm PySem.F.plainAttrs_list PySem.F.slot_list_append PySem.F.type_list_append mt_append (pv 11) (pa_cons (Hk.pe_g (ok_due_write T) (hr.mono (by decide)) (L2N.passes_call (L2N.takes_of rfl rfl rfl rfl) (fun _ _ _ _ h => h)) (pa_cons (pv 2) (pa_cons (pe_ix ix_U (pv 4) pe_int (fun _ _ => rfl)) (pa_cons (pe_op op_addU (pv 8) pe_int) (pa_cons (pe_lst pa_nil) (pa_cons (pe_slice sl_U (pv 7) po_none (po_some pe_int)) pa_nil)))))) pa_nil)))
      (pss_cons (ps_expr (pe_bm PySem.F.plainAttrs_list PySem.F.slot_list_append PySem.F.type_list_append mt_append (pv 11) (pa_cons (Hk.pe_g (ok_due_read T) (hr.mono (by decide)) (L2N.passes_call (L2N.takes_of rfl rfl rfl rfl) (fun _ _ _ _ h => h)) (pa_cons (pv 3) (pa_cons (pe_ix ix_U (pv 4) pe_int (fun _ _ => rfl)) (pa_cons (pe_tup (pa_cons pe_str pa_nil)) (pa_cons (pv 5) pa_nil))))) pa_nil)))
      (pss_cons (ps_expr (pe_bm PySem.F.plainAttrs_list PySem.F.slot_list_append PySem.F.type_list_append mt_append (pv 11) (pa_cons (pe_op op_addU (Hk.pe_g (ok_lock_needs T) (hr.mono (by decide)) (L2N.passes_call (L2N.takes_of rfl rfl rfl rfl) (fun _ _ _ _ h => h)) (pa_cons (pv 1) (pa_cons (pv 4) pa_nil))) (Hk.pe_g (ok_lock_needs T) (hr.mono (by decide)) (L2N.passes_call (L2N.takes_of rfl rfl rfl rfl) (fun _ _ _ _ h => h)) (pa_cons (pv 1) (pa_cons (pv 4) pa_nil)))) pa_nil)))
      (pss_cons (ps_expr (pe_bm PySem.F.plainAttrs_list PySem.F.slot_list_append PySem.F.type_list_append mt_append (pv 11) (pa_cons (pe_op op_addU (Hk.pe_g (ok_lock_needs T) (hr.mono (by decide)) (L2N.passes_call (L2N.takes_of rfl rfl rfl rfl) (fun _ _ _ _ h => h)) (pa_cons (pv 1) (pa_cons (pv 4) pa_nil))) (Hk.pe_g (ok_lock_needs T) (hr.mono (by decide)) (L2N.passes_call (L2N.takes_of rfl rfl rfl rfl) (fun _ _ _ _ h => h)) (pa_cons (pv 1) (pa_cons (pv 4) pa_nil)))) pa_nil)))
      (pss_one (ps_ret (Hk.pe_g (ok_all_meet T) (hr.mono (by decide)) (L2N.passes_call (L2N.takes_of rfl rfl rfl rfl) (fun _ _ _ _ h => h)) (pa_cons (pv 11) pa_nil))))))))))))))))))))))))), fn_go (N := ["_law_script", "_law_box_here", "_law_words", "_law_others", "_law_names_here", "_law_numbers_here", "_law_nodes_here", "_law_keys_here", "_law_number", "_law_book", "_law_beside", "_law_lists", "_law_road"]) (ss_seq (ss_asg (se_call (sa_cons se_var sa_nil)) sg_name)
      (ss_seq (ss_asg (se_call (sa_cons se_var sa_nil)) sg_name)
      (ss_seq (ss_asg (se_call (sa_cons se_var sa_nil)) sg_name)
      (ss_seq (ss_asg (se_call (sa_cons se_var (sa_cons se_int sa_nil))) sg_name)
      (ss_seq (ss_asg (se_call (sa_cons se_var sa_nil)) sg_name)
      (ss_seq (ss_asg (se_call (sa_cons se_var (sa_cons se_var sa_nil))) sg_name)
      (ss_seq (ss_asg (se_call (sa_cons se_var (sa_cons se_var sa_nil))) sg_name)
      (ss_seq (ss_asg (se_call (sa_cons se_var (sa_cons (se_op sr_add sb_var (SimE.b (SimN.e (sn_lst (sa_cons (se_op sr_add (SimE.b se_int) (SimE.b (se_call (sa_cons se_var (sa_cons se_int sa_nil))))) sa_nil))))) sa_nil))) sg_name)
      (ss_seq (ss_asg (se_call (sa_cons se_var sa_nil)) sg_name)
      (ss_seq (ss_asg (se_call (sa_cons se_var sa_nil)) sg_name)
      (ss_seq (ss_if (st_not (st_tB (SimE.b (se_call sa_nil))))
        (ss_ret (SimE.b se_bl))
        ss_next)
      (ss_seq (ss_own (sn_lst sa_nil))
      (ss_seq (ss_for (si_any (SimN.e (sn_lst (sa_cons (se_tup (sa_cons se_str sa_nil)) (sa_cons (se_tup (sa_cons se_str (sa_cons (se_op sr_ix sb_var (SimE.b se_int)) sa_nil))) (sa_cons (se_tup (sa_cons se_str (sa_cons (se_op sr_ix sb_var (SimE.b se_int)) sa_nil))) (sa_cons (se_tup (sa_cons se_str (sa_cons (se_op sr_ix sb_var (SimE.b se_int)) sa_nil))) sa_nil))))))) sg_name
        (ss_seq (ss_if (st_not (st_tB (SimE.b (se_call (sa_cons se_var (sa_cons se_var (sa_cons (se_op sr_ix sb_var (SimE.b se_int)) (sa_cons se_var (sa_cons se_var sa_nil)))))))))
          (ss_ret (SimE.b se_bl))
          ss_next)
        (ss_seq (ss_if (st_not (st_tB (SimE.b (se_call (sa_cons se_var (sa_cons se_var (sa_cons (se_op sr_ix sb_var (SimE.b se_int)) (sa_cons se_var (sa_cons se_var sa_nil)))))))))
          (ss_ret (SimE.b se_bl))
          ss_next)
        (ss_ownApp (se_call (sa_cons se_var (sa_cons (se_op sr_ix sb_var (SimE.b se_int)) (sa_cons se_var (sa_cons se_var sa_nil)))))))))
      (ss_seq (ss_if (st_not (st_tB (SimE.b (se_call (sa_cons se_var (sa_cons se_var (sa_cons (se_op sr_ix sb_var (SimE.b se_int)) (sa_cons se_var (sa_cons se_var (sa_cons se_var sa_nil))))))))))
        (ss_ret (SimE.b se_bl))
        ss_next)
      (ss_seq (ss_if (st_not (st_tB (SimE.b (se_call (sa_cons se_var (sa_cons se_var (sa_cons (se_op sr_ix sb_var (SimE.b se_int)) (sa_cons se_var (sa_cons se_var (sa_cons se_var sa_nil))))))))))
        (ss_ret (SimE.b se_bl))
        ss_next)
      (ss_seq (ss_if (st_not (st_tB (SimE.b (se_call (sa_cons se_var (sa_cons se_var (sa_cons (se_op sr_ix sb_var (SimE.b se_int)) (sa_cons (se_op sr_add sb_var (SimE.b se_int)) (sa_cons (SimN.e (sn_lst sa_nil)) (sa_cons (se_sl ssl_U sb_var so_none (so_some (SimE.b se_int))) sa_nil))))))))))
        (ss_ret (SimE.b se_bl))
        ss_next)
      (ss_seq (ss_ownApp (se_call (sa_cons se_var (sa_cons (se_op sr_ix sb_var (SimE.b se_int)) (sa_cons se_var (sa_cons se_var (sa_cons se_var sa_nil)))))))
      (ss_seq (ss_ownApp (se_call (sa_cons se_var (sa_cons (se_op sr_ix sb_var (SimE.b se_int)) (sa_cons (se_op sr_add sb_var (SimE.b se_int)) (sa_cons (SimN.e (sn_lst sa_nil)) (sa_cons (se_sl ssl_U sb_var so_none (so_some (SimE.b se_int))) sa_nil)))))))
      (ss_seq (ss_ownApp (se_call (sa_cons se_var (sa_cons (se_op sr_ix sb_var (SimE.b se_int)) (sa_cons (se_tup (sa_cons se_str sa_nil)) (sa_cons se_var sa_nil))))))
      (ss_seq (ss_ownApp (se_op sr_add (SimE.b (se_call (sa_cons se_var (sa_cons se_var sa_nil)))) (SimE.b (se_call (sa_cons se_var (sa_cons se_var sa_nil))))))
      (ss_seq (ss_ownApp (se_op sr_add (SimE.b (se_call (sa_cons se_var (sa_cons se_var sa_nil)))) (SimE.b (se_call (sa_cons se_var (sa_cons se_var sa_nil))))))
      (ss_frz (ss_ret (SimE.b (se_call (sa_cons se_var sa_nil)))))))))))))))))))))))))) h⟩
end
end K24

end
section
set_option Elab.async false
set_option linter.all false
set_option maxRecDepth 100000
set_option maxHeartbeats 4000000
namespace Fu
theorem seq_cases {f g : FS} {η : Sls} {S : AS} {J : Sls → AS → Prop} {Q : PV → AS → Prop} (h1 : (∃ v S', f η S = .rt v S' ∧ Q v S') ∨ ∃ η' S', f η S = .nx η' S' ∧ J η' S') (h2 : ∀ η' S', J η' S' → ∃ v S'', g η' S' = .rt v S'' ∧ Q v S'') : ∃ v S', seqS f g η S = .rt v S' ∧ Q v S' := by
  rcases h1 with ⟨v, S', e, q⟩ | ⟨η', S', e, j⟩
  · exact ⟨v, S', by rw [e_seq, e], q⟩
  · obtain ⟨v, S'', e', q⟩ := h2 η' S' j
    exact ⟨v, S'', by rw [e_seq, e]; exact e', q⟩
theorem fn_of {n : Nat} {b : FS} {ps : List PV} {S : AS} {Q : PV → AS → Prop} (h : ∃ v S', b (ps.map .val ++ List.replicate (n - ps.length) .no) S = .rt v S' ∧ Q v S') : ∃ v S', fnOf n b ps S = .ok v S' ∧ Q v S' := by
  obtain ⟨v, S', e, q⟩ := h
  refine ⟨v, S', ?_, q⟩
  unfold fnOf
  rw [e]
end Fu
namespace K24
open PySem PySem.Spec PyProof.Rows L2 Fu
def boxO (ns : List Int) (i m c g : Int) : Option AO := some (.lst [.lst (ns.map .int), .int i, .int m, .int c, .int g])
/-- the box, as it may be -/
def Bx (o : Option AO) : Prop := ∃ ns i m c g, o = boxO ns i m c g ∧ 0 ≤ i
@[simp] theorem mul_c {a b : Int} (h : -(2 ^ 64) < b ∧ b < 2 ^ 64) : cMul a b = true := by
  unfold cMul
  rw [decide_eq_true h, Bool.or_true]
@[simp] theorem mul_c' {a b : Int} (h : -(2 ^ 64) < a ∧ a < 2 ^ 64) : cMul a b = true := by
  unfold cMul
  rw [decide_eq_true h, Bool.true_or]
@[simp] theorem mod_c {a b : Int} (h : b ≠ 0) : cMod a b = true := decide_eq_true h
@[simp] theorem div_c {a b : Int} (h : b ≠ 0 ∧ b.natAbs < 1073741824) : cDiv a b = true := decide_eq_true h
@[simp] theorem subs_box {fo : FE} {fi : FE} {η : Sls} {p : PV} {xs : List PV} {T : AS} {q : PV} (ho : ∀ S, fo η S = .ok (.ref 0) S) (hi : ∀ S, fi η S = .ok q S) :
    subsG fo fi p η (some (.lst xs) :: T) = (match q with | .int k => (match ixN xs.length k with | some j => .nx η (some (.lst (xs.set j p)) :: T) | none => .stuck) | _ => .stuck) := by
  unfold subsG
  rw [ho, pureR_ok]
  dsimp only
  rw [hi, pureR_ok]
  cases q <;> dsimp only [List.getElem?_cons_zero]
  rfl
theorem draw_spec' {o : Option AO} {T : AS} {n : Int} (h : Bx o) (n0 : 0 < n) (n1 : n < 1073741824) : ∃ v S', F_draw [.ref 0, .int n] (o :: T) = .ok v S' ∧ ∃ r o', v = .int r ∧ S' = o' :: T ∧ Bx o' ∧ 0 ≤ r ∧ r < n := by
  obtain ⟨ns, i, m, c, g, rfl, i0⟩ := h
  unfold F_draw
  refine fn_of ?_
  unfold b_draw
  have nz : n ≠ 0 := by omega
  have nn : n.natAbs < 1073741824 := by omega
  refine seq_cases (J := fun η S => η = [.val (.ref 0), .val (.int n), .no, .no] ∧ ∃ i m c g, S = boxO ns i m c g :: T ∧ 0 ≤ i) ?_ ?_
  · by_cases hc : c = 0
    · by_cases hi : (ns.length : Int) ≤ i
      · refine .inl ?_
        simp [boxO, hc, hi]
        exact ⟨_, _, ⟨rfl, rfl⟩, 0, rfl, _, rfl, ⟨ns, i, m, 0, g, rfl, i0⟩, by omega, n0⟩
      · refine .inr ?_
        obtain ⟨k, rfl⟩ : ∃ k : Nat, i = k := ⟨i.toNat, by omega⟩
        have hv : atI (ns.map PV.int) (k : Int) = some (.int (ns[k]'(by omega))) := by
          rw [at_nat, List.getElem?_map, List.getElem?_eq_getElem (by omega)]
          rfl
        have hp : cPow 10 18 = true := by decide
        simp [boxO, hc, hi, hv, hp, ixN, geG]
        exact ⟨_, _, ⟨rfl, rfl⟩, rfl, _, ⟨_, _, _, rfl⟩, by omega⟩
    · refine .inr ?_
      simp [boxO, hc]
      exact ⟨_, _, ⟨rfl, rfl⟩, rfl, i, ⟨_, _, _, rfl⟩, i0⟩
  · rintro η S ⟨rfl, i, m, c, g, rfl, i0⟩
    by_cases hg : g = 1
    · by_cases hd : m.fdiv n = 0
      · simp [boxO, hg, nz, nn, ixN, hd]
        exact ⟨_, _, ⟨rfl, rfl⟩, _, rfl, _, rfl, ⟨ns, i, _, _, _, rfl, i0⟩, Int.fmod_nonneg_of_pos _ n0, Int.fmod_lt_of_pos _ n0⟩
      · simp [boxO, hg, nz, nn, ixN, hd]
        exact ⟨_, _, ⟨rfl, rfl⟩, _, rfl, _, rfl, ⟨ns, i, _, _, _, rfl, i0⟩, Int.fmod_nonneg_of_pos _ n0, Int.fmod_lt_of_pos _ n0⟩
    · simp [boxO, hg, nz, nn, ixN]
      exact ⟨_, _, ⟨rfl, rfl⟩, _, rfl, _, rfl, ⟨ns, i, _, _, _, rfl, i0⟩, Int.fmod_nonneg_of_pos _ n0, Int.fmod_lt_of_pos _ n0⟩
theorem draw_spec {o : Option AO} {T : AS} {n : Int} (h : Bx o) (n0 : 0 < n) (n1 : n < 1073741824) : ∃ r o', F_draw [.ref 0, .int n] (o :: T) = .ok (.int r) (o' :: T) ∧ Bx o' ∧ 0 ≤ r ∧ r < n := by
  obtain ⟨v, S', e, r, o', rfl, rfl, h⟩ := draw_spec' h n0 n1
  exact ⟨r, o', e, h⟩
/-- drawing a place in a list -/
theorem draw_nat {o : Option AO} {T : AS} {n : Nat} (h : Bx o) (n0 : 0 < n) (n1 : n < 1073741824) : ∃ (r : Nat) (o' : Option AO), F_draw [.ref 0, .int n] (o :: T) = .ok (.int r) (o' :: T) ∧ Bx o' ∧ r < n := by
  obtain ⟨r, o', e, b, r0, r1⟩ := draw_spec (n := (n : Int)) (T := T) h (by omega) (by omega)
  refine ⟨r.toNat, o', ?_, b, by omega⟩
  rw [e, Int.toNat_of_nonneg r0]
theorem pick_spec {o : Option AO} {T : AS} {xs : List PV} (h : Bx o) (n0 : 0 < xs.length) (n1 : xs.length < 1073741824) : ∃ p o', F_pick [.ref 0, .lst xs] (o :: T) = .ok p (o' :: T) ∧ Bx o' ∧ p ∈ xs := by
  obtain ⟨r, o', e, b, hr⟩ := draw_nat (T := T) h n0 n1
  refine ⟨xs[r], o', ?_, b, List.getElem_mem _⟩
  unfold F_pick fnOf b_pick
  simp [e, at_nat, hr]
end K24

end
section
set_option Elab.async false
set_option linter.all false
set_option maxRecDepth 100000
set_option maxHeartbeats 4000000
namespace K24
open PySem PySem.Spec PyProof.Rows L2 Fu
def alks (f : PV → PV → Bool) : List PV → List PV → Bool
  | [], [] => true
  | x :: xs, y :: ys => f x y && alks f xs ys
  | _, _ => false
def alk : Nat → PV → PV → Bool
  | 0 => fun _ _ => false
  | k + 1 => fun p q => match p, q with
    | .non, .non => true
    | .bl a, .bl b => a == b
    | .int a, .int b => a == b
    | .str a, .str b => decide (a = b)
    | .tup xs, .tup ys => alks (alk k) xs ys && decide (ys.length < 1000000)
    | .ktu xs, .tup ys => alks (alk k) xs ys && decide (ys.length < 1000000)
    | .lst xs, .lst ys => alks (alk k) xs ys && decide (ys.length < 1000000)
    | _, _ => false
theorem alks_len {f : PV → PV → Bool} : ∀ {xs ys : List PV}, alks f xs ys = true → xs.length = ys.length
  | [], [], _ => rfl
  | x :: xs, y :: ys, h => by
    unfold alks at h
    rw [Bool.and_eq_true] at h
    exact congrArg Nat.succ (alks_len h.2)
  | [], _ :: _, h => by cases h
  | _ :: _, [], h => by cases h
theorem alks_at {f : PV → PV → Bool} : ∀ {xs ys : List PV}, alks f xs ys = true → ∀ (i : Nat) x y, xs[i]? = some x → ys[i]? = some y → f x y = true
  | [], _, _, _, _, _, e, _ => by cases e
  | x :: xs, [], h, _, _, _, _, _ => by cases h
  | x :: xs, y :: ys, h, i, a, b, ea, eb => by
    unfold alks at h
    rw [Bool.and_eq_true] at h
    cases i with
    | zero => cases ea; cases eb; exact h.1
    | succ i => exact alks_at h.2 i a b ea eb
theorem alks_of {f : PV → PV → Bool} : ∀ {xs : List PV}, (∀ x ∈ xs, f x x = true) → alks f xs xs = true
  | [], _ => rfl
  | x :: xs, h => by
    unfold alks
    rw [h x List.mem_cons_self, alks_of fun y hy => h y (List.mem_cons_of_mem _ hy)]
    rfl
theorem alks_app {f : PV → PV → Bool} : ∀ {xs ys us vs : List PV}, alks f xs ys = true → alks f us vs = true → alks f (xs ++ us) (ys ++ vs) = true
  | [], [], _, _, _, h => h
  | x :: xs, y :: ys, us, vs, h, h2 => by
    unfold alks at h
    rw [Bool.and_eq_true] at h
    show (f x y && alks f (xs ++ us) (ys ++ vs)) = true
    rw [h.1, alks_app h.2 h2]
    rfl
  | [], _ :: _, _, _, h, _ => by cases h
  | _ :: _, [], _, _, h, _ => by cases h
theorem alike_loop {fr : Fn} {p q : PV} {xs ys : List PV} {S : AS} {z : Sl} (hx : ∀ k : Int, ixG p (.int k) S = ofO (atI xs k) S) (hy : ∀ k : Int, ixG q (.int k) S = ofO (atI ys k) S) (hl : xs.length = ys.length)
    (h : ∀ (i : Nat) x y, xs[i]? = some x → ys[i]? = some y → fr [x, y] S = .ok (.bl true) S) :
    ∃ η', forL (nameG 2) (ifS (notT (tstF (callN 2 fr (consA (opF ixG (bvarF 0) (bvarF 2)) (consA (opF ixG (bvarF 1) (bvarF 2)) nilA))))) (retS (cF (.bl false))) nextS) (rangeL 0 ys.length) [.val p, .val q, z] S = .nx η' S := by
  obtain ⟨η', S', e, rfl, _⟩ := forL_nx (g := nameG 2) (b := ifS (notT (tstF (callN 2 fr (consA (opF ixG (bvarF 0) (bvarF 2)) (consA (opF ixG (bvarF 1) (bvarF 2)) nilA))))) (retS (cF (.bl false))) nextS) (fun _ η S' => S' = S ∧ ∃ z, η = [.val p, .val q, z]) (rangeL 0 ys.length) [.val p, .val q, z] S (fun i r η S' e hi => by
    obtain ⟨rfl, z, rfl⟩ := hi
    unfold rangeL at e
    rw [List.getElem?_map] at e
    have hi : i < ys.length := by
      by_cases hi : i < ys.length
      · exact hi
      · rw [List.getElem?_eq_none (by simp; omega)] at e
        cases e
    rw [List.getElem?_range hi] at e
    cases e
    refine ⟨_, _, e_nameG, [.val p, .val q, .val (.int (0 + (i : Int)))], _, ?_, rfl, _, rfl⟩
    have ex : xs[i]? = some xs[i] := List.getElem?_eq_getElem (by omega)
    have ey : ys[i]? = some ys[i] := List.getElem?_eq_getElem hi
    simp [hx, hy, at_nat, ex, ey, h i _ _ ex ey]) ⟨rfl, z, rfl⟩
  exact ⟨η', e⟩
theorem _root_.Fu.seq_nx {f g : FS} {η : Sls} {S : AS} (η' : Sls) (S' : AS) (h : f η S = .nx η' S') : seqS f g η S = g η' S' := by rw [e_seq, h]
theorem _root_.Fu.fn_rt {n : Nat} {b : FS} {ps : List PV} {S S' : AS} {v : PV} (h : b (ps.map .val ++ List.replicate (n - ps.length) .no) S = .rt v S') : fnOf n b ps S = .ok v S' := by
  unfold fnOf
  rw [h]
theorem alike_seq {k : Nat} {p q : PV} {xs ys : List PV} {S : AS} {t : String} (ht : t = "tuple" ∨ t = "list") (tp : tyN p S = some t) (tq : tyN q S = some t) (nq : Fu.isNon q = false) (b1 : Fu.isBl true q = false) (b2 : Fu.isBl false q = false) (l1 : lenG [p] S = .ok (.int xs.length) S) (l2 : lenG [q] S = .ok (.int ys.length) S) (hx : ∀ k : Int, ixG p (.int k) S = ofO (atI xs k) S) (hy : ∀ k : Int, ixG q (.int k) S = ofO (atI ys k) S)
    (hl : xs.length = ys.length) (hs : ys.length < 1000000)
    (h : ∀ (i : Nat) x y, xs[i]? = some x → ys[i]? = some y → F_alike k [x, y] S = .ok (.bl true) S) : F_alike (k + 1) [p, q] S = .ok (.bl true) S := by
  obtain ⟨η', e4⟩ := alike_loop (z := .no) hx hy hl h
  have e2 : RngP (ys.length : Int) := rng_ok (by omega)
  unfold F_alike
  refine fn_rt ?_
  unfold b_alike
  refine (seq_nx [.val p, .val q, .no] S (by simp [nq])).trans ?_
  refine (seq_nx [.val p, .val q, .no] S (by simp [b1, b2])).trans ?_
  refine (seq_nx [.val p, .val q, .no] S (by rcases ht with rfl | rfl <;> simp [isiG, tq, Fu.isT])).trans ?_
  refine (seq_nx [.val p, .val q, .no] S (by rcases ht with rfl | rfl <;> simp [isiG, tq, Fu.isT])).trans ?_
  refine (seq_nx [.val p, .val q, .no] S (by rcases ht with rfl | rfl <;> simp [isiG, tq, tp, Fu.isT, l1, l2, hl])).trans ?_
  refine (seq_nx η' S (by simp [e2, e4, l2])).trans ?_
  rfl
theorem alike_step {k : Nat} (ih : ∀ (p q : PV) (S : AS), alk k p q = true → F_alike k [p, q] S = .ok (.bl true) S) (p q : PV) (S : AS) (h : alk (k + 1) p q = true) : F_alike (k + 1) [p, q] S = .ok (.bl true) S := by
  have at2 : ∀ {xs ys : List PV}, (alks (alk k) xs ys && decide (ys.length < 1000000)) = true → xs.length = ys.length ∧ ys.length < 1000000 ∧ ∀ (i : Nat) x y, xs[i]? = some x → ys[i]? = some y → F_alike k [x, y] S = .ok (.bl true) S := fun h => by
    rw [Bool.and_eq_true] at h
    exact ⟨alks_len h.1, of_decide_eq_true h.2, fun i x y ex ey => ih x y S (alks_at h.1 i x y ex ey)⟩
  unfold alk at h
  split at h
  · unfold F_alike fnOf b_alike
    simp [Fu.isNon]
  · rename_i a b
    have h : a = b := by simpa using h
    subst h
    unfold F_alike fnOf b_alike
    cases a <;> simp [Fu.isNon, Fu.isBl, isiG, tyN, Fu.isT]
  · rename_i a b
    have h : a = b := by simpa using h
    subst h
    unfold F_alike fnOf b_alike
    simp [Fu.isNon, Fu.isBl, isiG, tyN, Fu.isT]
  · rename_i a b
    have h : a = b := by simpa using h
    subst h
    unfold F_alike fnOf b_alike
    simp [Fu.isNon, Fu.isBl, isiG, tyN, Fu.isT]
  · obtain ⟨e1, e2, e3⟩ := at2 h
    exact alike_seq (.inl rfl) rfl rfl rfl rfl rfl rfl rfl (fun _ => g_ixT) (fun _ => g_ixT) e1 e2 e3
  · obtain ⟨e1, e2, e3⟩ := at2 h
    exact alike_seq (.inl rfl) rfl rfl rfl rfl rfl rfl rfl (fun _ => g_ixK) (fun _ => g_ixT) e1 e2 e3
  · obtain ⟨e1, e2, e3⟩ := at2 h
    exact alike_seq (.inr rfl) rfl rfl rfl rfl rfl rfl rfl (fun _ => g_ixL) (fun _ => g_ixL) e1 e2 e3
  · cases h
theorem alike_ok : ∀ (k : Nat) (p q : PV) (S : AS), alk k p q = true → F_alike k [p, q] S = .ok (.bl true) S
  | 0, _, _, _, h => by cases h
  | k + 1, p, q, S, h => alike_step (alike_ok k) p q S h
theorem len_ref {n : Nat} {xs : List PV} {S : AS} (hS : S[n]? = some (some (.lst xs))) : lenG [.ref n] S = .ok (.int xs.length) S := by
  unfold lenG
  simp [items, hS]
theorem alike_ref {k n : Nat} {xs ys : List PV} {S : AS} (hS : S[n]? = some (some (.lst xs))) (h : alks (alk k) xs ys = true) (hl : ys.length < 1000000) : F_alike (k + 1) [.ref n, .lst ys] S = .ok (.bl true) S :=
  alike_seq (.inr rfl) (by simp [tyN, hS]) rfl rfl rfl rfl (len_ref hS) rfl (fun k => by rw [g_ixR, hS]) (fun _ => g_ixL) (alks_len h) hl fun i x y ex ey => alike_ok k x y S (alks_at h i x y ex ey)
end K24

end
section
set_option Elab.async false
set_option linter.all false
set_option maxRecDepth 100000
set_option maxHeartbeats 4000000
namespace Fu
open PySem PySem.Spec PyProof.Rows L2
theorem seq_ex {f g : FS} {η : Sls} {S : AS} {J : Sls → AS → Prop} {Q : PV → AS → Prop} (h1 : ∃ η' S', f η S = .nx η' S' ∧ J η' S') (h2 : ∀ η' S', J η' S' → ∃ v S'', g η' S' = .rt v S'' ∧ Q v S'') : ∃ v S', seqS f g η S = .rt v S' ∧ Q v S' := by
  obtain ⟨η', S', e, j⟩ := h1
  obtain ⟨v, S'', e', q⟩ := h2 η' S' j
  exact ⟨v, S'', by rw [e_seq, e]; exact e', q⟩
theorem seq_e1 {f g : FS} {η : Sls} {S : AS} {Q : PV → AS → Prop} (η' : Sls) (S' : AS) (h1 : f η S = .nx η' S') (h2 : ∃ v S'', g η' S' = .rt v S'' ∧ Q v S'') : ∃ v S', seqS f g η S = .rt v S' ∧ Q v S' :=
  seq_ex (J := fun η S => η = η' ∧ S = S') ⟨η', S', h1, rfl, rfl⟩ fun _ _ ⟨a, b⟩ => by subst a; subst b; exact h2
theorem seq_n1 {f g : FS} {η : Sls} {S : AS} {Q : Sls → AS → Prop} (η' : Sls) (S' : AS) (h1 : f η S = .nx η' S') (h2 : ∃ v S'', g η' S' = .nx v S'' ∧ Q v S'') : ∃ v S', seqS f g η S = .nx v S' ∧ Q v S' := by
  rw [seq_nx η' S' h1]
  exact h2
theorem seq_nxs {f g : FS} {η : Sls} {S : AS} {J Q : Sls → AS → Prop} (h1 : ∃ η' S', f η S = .nx η' S' ∧ J η' S') (h2 : ∀ η' S', J η' S' → ∃ v S'', g η' S' = .nx v S'' ∧ Q v S'') : ∃ v S', seqS f g η S = .nx v S' ∧ Q v S' := by
  obtain ⟨η', S', e, j⟩ := h1
  rw [seq_nx η' S' e]
  exact h2 η' S' j
theorem rt_e1 {f : FS} {η : Sls} {S : AS} {Q : PV → AS → Prop} (v : PV) (S' : AS) (h1 : f η S = .rt v S') (h2 : Q v S') : ∃ v S', f η S = .rt v S' ∧ Q v S' := ⟨v, S', h1, h2⟩
theorem for_items {fi : FI} {g : FG} {b : FS} {η : Sls} {S S1 : AS} (ps : List PV) (I : Nat → Sls → AS → Prop) (h : fi η S = .ok ps S1) (hs : ∀ (i : Nat) p η S, ps[i]? = some p → I i η S → ∃ η1 S1, g p η S = .nx η1 S1 ∧ ∃ η2 S2, b η1 S1 = .nx η2 S2 ∧ I (i + 1) η2 S2) (h0 : I 0 η S1) :
    ∃ η' S', forS fi g b η S = .nx η' S' ∧ I ps.length η' S' := by
  rw [e_forS, h]
  exact forL_nx I ps η S1 hs h0
theorem for_range {fa : FA} {g : FG} {b : FS} {η : Sls} {S S1 : AS} (j : Nat) (I : Nat → Sls → AS → Prop) (h : fa η S = .ok [.int j] S1) (hj : j ≤ 1000000000) (hs : ∀ (i : Nat) η S, i < j → I i η S → ∃ η1 S1, g (.int i) η S = .nx η1 S1 ∧ ∃ η2 S2, b η1 S1 = .nx η2 S2 ∧ I (i + 1) η2 S2) (h0 : I 0 η S1) :
    ∃ η' S', forS (range1I fa) g b η S = .nx η' S' ∧ I j η' S' := by
  have hr : range1I fa η S = .ok (rangeL 0 j) S1 := by
    rw [e_range1, h]
    have : RngP (j : Int) := rng_ok (by omega)
    simp [this]
  obtain ⟨η', S', e, hi⟩ := for_items (rangeL 0 j) I hr (fun i p η S e hi => by
    unfold rangeL at e
    rw [List.getElem?_map] at e
    have hi2 : i < j := by
      by_cases hi : i < j
      · exact hi
      · rw [List.getElem?_eq_none (by simp; omega)] at e
        cases e
    rw [List.getElem?_range hi2] at e
    cases e
    have := hs i η S hi2 hi
    simpa using this) h0
  refine ⟨η', S', e, ?_⟩
  unfold rangeL at hi
  simpa using hi
end Fu
namespace K24
open PySem PySem.Spec PyProof.Rows L2 Fu
theorem numbers_spec {o : Option AO} {T : AS} (h : Bx o) : ∃ v S', F_numbers [.ref 0] (o :: T) = .ok v S' ∧ ∃ (o' : Option AO) (xs : List Int), v = .lst (xs.map PV.int) ∧ S' = o' :: T ∧ Bx o' ∧ xs.length ≤ 3 := by
  unfold F_numbers
  refine fn_of ?_
  unfold b_numbers
  refine seq_e1 [.val (.ref 0), .own [], .no] (o :: T) (by simp) ?_
  obtain ⟨p, o1, e1, b1, m1⟩ := pick_spec (xs := [.int 2, .int 0, .int 3, .int 1]) (T := T) h (by simp) (by simp)
  obtain ⟨k, rfl, hk⟩ : ∃ k : Nat, p = .int k ∧ k ≤ 3 := by
    simp at m1
    rcases m1 with rfl | rfl | rfl | rfl
    · exact ⟨2, rfl, by omega⟩
    · exact ⟨0, rfl, by omega⟩
    · exact ⟨3, rfl, by omega⟩
    · exact ⟨1, rfl, by omega⟩
  refine seq_ex (for_range k (fun i η S => ∃ (o : Option AO) (xs : List Int) (z : Sl), η = [.val (.ref 0), .own (xs.map PV.int), z] ∧ S = o :: T ∧ Bx o ∧ xs.length = i) (S1 := o1 :: T) (by simp [e1]) (by omega) (fun i η S hi ⟨o, xs, z, h1, h2, h3, h4⟩ => ?_) ⟨o1, [], .no, rfl, rfl, b1, rfl⟩) ?_
  · subst h1
    subst h2
    obtain ⟨r, o2, e2, b2, r0, r1⟩ := draw_spec (T := T) (n := 50) h3 (by omega) (by omega)
    refine ⟨_, _, e_nameG, [.val (.ref 0), .own (xs.map PV.int ++ [.int (50 * (i : Int) + r)]), .val (.int i)], o2 :: T, (by simp [e2, show xs.length < 1000000 by omega]), o2, xs ++ [50 * (i : Int) + r], .val (.int i), by simp, rfl, b2, by simp [h4]⟩
  · rintro η S ⟨o, xs, z, rfl, rfl, h3, h4⟩
    obtain ⟨r, o2, e2, b2, r0, r1⟩ := draw_spec (T := T) (n := 2) h3 (by omega) (by omega)
    by_cases hr : r = 1
    · refine rt_e1 (.lst (xs.reverse.map PV.int)) (o2 :: T) (by simp [e2, hr, revG, litems]) ⟨o2, _, rfl, rfl, b2, by simp; omega⟩
    · refine rt_e1 (.lst (xs.map PV.int)) (o2 :: T) (by simp [e2, hr]) ⟨o2, _, rfl, rfl, b2, by omega⟩
end K24

end
section
set_option Elab.async false
set_option linter.all false
set_option maxRecDepth 100000
set_option maxHeartbeats 4000000
namespace K24
open PySem PySem.Spec PyProof.Rows L2 Fu
/-- an ordinary text -/
def Gs (z : Str) : Prop := ∀ c ∈ z.cps.toList, c < 0x110000
theorem app_cps (a b : Str) : (a ++ b).cps.toList = a.cps.toList ++ b.cps.toList := by
  show (a.cps ++ b.cps).toList = _
  simp
theorem app_len (a b : Str) : (a ++ b).length = a.length + b.length := by
  show (a.cps ++ b.cps).size = a.cps.size + b.cps.size
  simp
def Tx (x : PV) : Prop := ∃ z : Str, x = .str z ∧ Gs z
def lets : Str := "abcdefghijklmnopqrstuvwxyz"
theorem lets_l : lets.cps.toList = List.range' 97 26 := by decide +kernel
theorem lets_n : lets.length = 26 := by decide +kernel
theorem pigeon {α : Type} [DecidableEq α] : ∀ {l m : List α}, l.Nodup → (∀ x ∈ l, x ∈ m) → l.length ≤ m.length
  | [], _, _, _ => Nat.zero_le _
  | x :: l, m, hn, hs => by
    have hx : x ∈ m := hs x List.mem_cons_self
    rw [List.nodup_cons] at hn
    have := pigeon (l := l) (m := m.erase x) hn.2 fun y hy => (List.mem_erase_of_ne fun e => hn.1 (by rw [← e]; exact hy)).mpr (hs y (List.mem_cons_of_mem _ hy))
    rw [List.length_erase_of_mem hx] at this
    have : 0 < m.length := List.length_pos_of_mem hx
    simp only [List.length_cons]
    omega
theorem mem_iff {z : Str} {xs : List Str} : mem (.str z) (xs.map .str) = decide (z ∈ xs) := by
  unfold mem
  rw [Bool.eq_iff_iff, decide_eq_true_eq, List.any_map, List.any_eq_true]
  constructor
  · rintro ⟨q, hq, e⟩
    simp [eqF] at e
    rw [← e]
    exact hq
  · intro h
    exact ⟨z, h, by simp [eqF]⟩
def one (c : Nat) : Str := ⟨#[c]⟩
theorem free_pos {z : Str} {xs : List Str} (hl : xs.length ≤ 25) : 0 < ((lets.cps.toList.map one).filter fun s => !decide (z ++ s ∈ xs)).length := by
  by_cases h : 0 < ((lets.cps.toList.map one).filter fun s => !decide (z ++ s ∈ xs)).length
  · exact h
  · have h0 : (lets.cps.toList.map one).filter (fun s => !decide (z ++ s ∈ xs)) = [] := List.length_eq_zero_iff.mp (by omega)
    rw [List.filter_eq_nil_iff] at h0
    have : ((lets.cps.toList.map one).map (z ++ ·)).length ≤ xs.length := pigeon (by
      rw [List.map_map, lets_l]
      refine List.Pairwise.map _ (fun a b ne e => ne ?_) (List.nodup_range' (step := 1) (by omega))
      have e2 := congrArg (fun s : Str => s.cps.toList) e
      simp only [Function.comp, app_cps] at e2
      have e3 := List.append_cancel_left e2
      simpa [one] using e3) fun y hy => by
        obtain ⟨s, hs, rfl⟩ := List.mem_map.mp hy
        have := h0 s hs
        simpa using this
    rw [List.length_map, List.length_map, lets_l, List.length_range'] at this
    omega
theorem one_of {x : PV} (h : x ∈ lets.cps.toList.map fun c => PV.str ⟨#[c]⟩) : ∃ c, x = .str (one c) ∧ c < 0x110000 := by
  obtain ⟨c, hc, rfl⟩ := List.mem_map.mp h
  refine ⟨c, rfl, ?_⟩
  rw [lets_l, List.mem_range'] at hc
  omega
theorem names_spec {o : Option AO} {T : AS} (h : Bx o) : ∃ v S', F_names [.ref 0, .int 4] (o :: T) = .ok v S' ∧ ∃ (o' : Option AO) (xs : List Str), v = .lst (xs.map PV.str) ∧ S' = o' :: T ∧ Bx o' ∧ xs.length = 4 ∧ ∀ x ∈ xs, Gs x := by
  unfold F_names
  refine fn_of ?_
  unfold b_names
  show ∃ v S', seqS (asgS (cF (.str lets)) (nameG 2)) _ _ _ = _ ∧ _
  refine seq_e1 [.val (.ref 0), .val (.int 4), .val (.str lets), .no, .no, .no, .no, .no, .no] (o :: T) (by simp) ?_
  refine seq_e1 [.val (.ref 0), .val (.int 4), .val (.str lets), .own [], .no, .no, .no, .no, .no] (o :: T) (by simp) ?_
  refine seq_ex (for_range 4 (fun i η S => ∃ (o : Option AO) (xs : List Str) (z4 z5 z6 z7 z8 : Sl), η = [.val (.ref 0), .val (.int 4), .val (.str lets), .own (xs.map PV.str), z4, z5, z6, z7, z8] ∧ S = o :: T ∧ Bx o ∧ xs.length = i ∧ ∀ x ∈ xs, Gs x) (S1 := o :: T) (by simp) (by omega) (fun i η S hi ⟨o, xs, z4, z5, z6, z7, z8, h1, h2, h3, h4, h5⟩ => ?_) ⟨o, [], _, _, _, _, _, rfl, rfl, h, rfl, by simp⟩) ?_
  · subst h1
    subst h2
    refine ⟨_, _, e_nameG, ?_⟩
    show ∃ η2 S2, seqS _ _ [.val (.ref 0), .val (.int 4), .val (.str lets), .own (xs.map PV.str), .val (.int i), z5, z6, z7, z8] (o :: T) = .nx η2 S2 ∧ _
    refine seq_n1 [.val (.ref 0), .val (.int 4), .val (.str lets), .own (xs.map PV.str), .val (.int i), .val (.str ""), z6, z7, z8] (o :: T) (by simp) ?_
    obtain ⟨m, o1, e1, b1, hm⟩ := draw_nat (T := T) (n := 8) h3 (by omega) (by omega)
    have e1 : F_draw [.ref 0, .int 8] (o :: T) = .ok (.int m) (o1 :: T) := e1
    refine seq_nxs (for_range m (fun j η S => ∃ (o : Option AO) (z : Str) (z6 : Sl), η = [.val (.ref 0), .val (.int 4), .val (.str lets), .own (xs.map PV.str), .val (.int i), .val (.str z), z6, z7, z8] ∧ S = o :: T ∧ Bx o ∧ z.length = j ∧ Gs z) (S1 := o1 :: T) (by simp [e1]) (by omega) (fun j η S hj ⟨o, z, z6, h1, h2, h3, h4, h5⟩ => ?_) ⟨o1, "", _, rfl, rfl, b1, by decide, fun c hc => by simp [show ("" : Str).cps.toList = [] by decide] at hc⟩) ?_
    · subst h1
      subst h2
      obtain ⟨r, o2, e2, b2, hr⟩ := draw_nat (T := T) (n := 26) h3 (by omega) (by omega)
      have hl : r < lets.cps.toList.length := by rw [lets_l, List.length_range']; exact hr
      have hg : lets.cps.toList[r] < 0x110000 := by
        have : lets.cps.toList[r] ∈ lets.cps.toList := List.getElem_mem _
        generalize lets.cps.toList[r] = q at this
        rw [lets_l, List.mem_range'] at this
        omega
      refine ⟨_, _, e_nameG, [.val (.ref 0), .val (.int 4), .val (.str lets), .own (xs.map PV.str), .val (.int i), .val (.str (z ++ one lets.cps.toList[r])), .val (.int j), z7, z8], o2 :: T, ?_, o2, _, _, rfl, rfl, b2, ?_, ?_⟩
      · have e2' : F_draw [.ref 0, .int 26] (o :: T) = .ok (.int r) (o2 :: T) := e2
        have hx : ixG (.str lets) (.int r) (o2 :: T) = .ok (.str (one lets.cps.toList[r])) (o2 :: T) := by
          unfold ixG
          simp only [lets_n, at_nat, List.getElem?_eq_getElem hl]
          rfl
        have hz : z.length + (one lets.cps.toList[r]).length ≤ 1000000 := by
          show z.length + 1 ≤ 1000000
          omega
        generalize lets.cps.toList[r] = q at hx hz
        simp [e2', hx, hz]
      · rw [app_len, h4]
        rfl
      · intro c hc
        rw [app_cps, List.mem_append] at hc
        rcases hc with hc | hc
        · exact h5 c hc
        · simp [one] at hc
          rw [hc]
          exact hg
    · rintro η S ⟨o2, z, z6, rfl, rfl, b2, hz, gz⟩
      have hw : ∀ S, anyI (varF 2) ((([.val (.ref 0), .val (.int 4), .val (.str lets), .own (xs.map PV.str), .val (.int i), .val (.str z), z6, z7, z8] : Sls))) S = .ok (lets.cps.toList.map fun c => .str ⟨#[c]⟩) S := fun S => by simp [witems]
      obtain ⟨ex, hx0⟩ : ∃ ex : List Str, ex = xs ++ (["on", "set", "new"] : List Str) := ⟨_, rfl⟩
      have hex : xs.map PV.str ++ [.str "on", .str "set", .str "new"] = ex.map PV.str := by rw [hx0]; simp
      have hfl : (ex.map PV.str).all flat = true := by simp [flat]
      have hc := compL_map (g := nameX 8) (t := tstF (opF (inG true) (opF addG (bvarF 5) (bvarF 8)) (opF addG (bvarF 3) (valN (lstN (consA (cF (.str "on")) (consA (cF (.str "set")) (consA (cF (.str "new")) nilA)))))))) (e := varF 8) (η := [.val (.ref 0), .val (.int 4), .val (.str lets), .own (xs.map PV.str), .val (.int i), .val (.str z), z6, z7, .no]) (S := o2 :: T)
        (fun p => match p with | .str s => !decide (z ++ s ∈ ex) | _ => false) id (lets.cps.toList.map fun c => .str ⟨#[c]⟩) [] (fun p hp => by
          obtain ⟨c, rfl, hc⟩ := one_of hp
          refine ⟨_, e_nameX, ?_, fun _ => ?_⟩
          · have h1 : z.length + (one c).length ≤ 1000000 := by
              show z.length + 1 ≤ 1000000
              omega
            have h2 : xs.length + 3 ≤ 1000000 := by omega
            simp [h1, h2]
            rw [hex]
            unfold inG
            simp only [flat, hfl, mem_iff]
            simp
          · simp) (by simp [lets_l])
      let cnd : PV → Bool := fun p => match p with | .str s => !decide (z ++ s ∈ ex) | _ => false
      obtain ⟨fs, hfs⟩ : ∃ fs : List Str, fs = (lets.cps.toList.map one).filter fun s => !decide (z ++ s ∈ ex) := ⟨_, rfl⟩
      have hff : ([] : List PV) ++ ((lets.cps.toList.map fun c => PV.str ⟨#[c]⟩).filter cnd).map id = fs.map PV.str := by
        rw [hfs, show (lets.cps.toList.map fun c => PV.str ⟨#[c]⟩) = (lets.cps.toList.map one).map PV.str by rw [List.map_map]; rfl, List.filter_map]
        simp
        rfl
      have hc : compL (nameX 8) (tstF (opF (inG true) (opF addG (bvarF 5) (bvarF 8)) (opF addG (bvarF 3) (valN (lstN (consA (cF (.str "on")) (consA (cF (.str "set")) (consA (cF (.str "new")) nilA)))))))) (varF 8) (lets.cps.toList.map fun c => .str ⟨#[c]⟩) [] [.val (.ref 0), .val (.int 4), .val (.str lets), .own (xs.map PV.str), .val (.int i), .val (.str z), z6, z7, .no] (o2 :: T) = .ok (fs.map PV.str) (o2 :: T) := hc.trans (congrArg (fun l => R.ok l _) hff)
      refine seq_n1 [.val (.ref 0), .val (.int 4), .val (.str lets), .own (xs.map PV.str), .val (.int i), .val (.str z), z6, .val (.lst (fs.map PV.str)), z8] (o2 :: T) (by
        simp only [e_asg, e_valN, e_compN, hw, R.bind_ok]
        show lift ((R.bind (compL _ _ _ _ [] [.val (.ref 0), .val (.int 4), .val (.str lets), .own (xs.map PV.str), .val (.int i), .val (.str z), z6, z7, .no] (o2 :: T)) _)) _ _ = _
        rw [hc]
        simp) ?_
      have hp : 0 < fs.length := by rw [hfs]; exact free_pos (by rw [hx0]; simp; omega)
      have hq : fs.length ≤ 26 := by
        rw [hfs]
        refine Nat.le_trans (List.length_filter_le ..) ?_
        simp [lets_l]
      obtain ⟨r, o3, e3, b3, hr⟩ := draw_nat (T := T) (n := fs.length) b2 hp (by omega)
      have hm : fs[r] ∈ fs := List.getElem_mem _
      have hz2 : z.length + fs[r].length ≤ 1000000 ∧ Gs fs[r] := by
        generalize fs[r] = q at hm
        rw [hfs, List.mem_filter, List.mem_map] at hm
        obtain ⟨⟨c, hc, rfl⟩, _⟩ := hm
        rw [lets_l, List.mem_range'] at hc
        refine ⟨by show z.length + 1 ≤ 1000000; omega, fun d hd => ?_⟩
        simp [one] at hd
        omega
      have hg : (fs.map PV.str)[r]? = some (.str fs[r]) := by rw [List.getElem?_map, List.getElem?_eq_getElem hr]; rfl
      refine ⟨[.val (.ref 0), .val (.int 4), .val (.str lets), .own (xs.map PV.str ++ [.str (z ++ fs[r])]), .val (.int i), .val (.str z), z6, .val (.lst (fs.map PV.str)), z8], o3 :: T, ?_, o3, xs ++ [z ++ fs[r]], .val (.int i), .val (.str z), z6, .val (.lst (fs.map PV.str)), z8, by simp, rfl, b3, by simp [h4], ?_⟩
      · have h1 : z.length + fs[r].length ≤ 1000000 := hz2.1
        generalize fs[r] = q at hg h1
        have e3 : F_draw [.ref 0, .int fs.length] (o2 :: T) = .ok (.int r) (o3 :: T) := e3
        simp [e3, at_nat, hg, h1, show xs.length < 1000000 by omega]
      · intro x hx
        rw [List.mem_append] at hx
        rcases hx with hx | hx
        · exact h5 x hx
        · rw [List.mem_singleton] at hx
          subst hx
          intro c hc
          rw [app_cps, List.mem_append] at hc
          exact hc.elim (gz c) (hz2.2 c)
  · rintro η S ⟨o, xs, z4, z5, z6, z7, z8, rfl, rfl, h3, h4, h5⟩
    exact rt_e1 (.lst (xs.map PV.str)) (o :: T) (by simp) ⟨o, xs, rfl, rfl, h3, h4, h5⟩
end K24

end
section
set_option Elab.async false
set_option linter.all false
set_option maxRecDepth 100000
set_option maxHeartbeats 4000000
namespace K24
open PySem PySem.Spec PyProof.Rows L2 Fu
def Kp (x : PV) : Prop := (∃ i, x = .int i) ∨ Tx x
def Nd (p : PV) : Prop := ∃ xs, p = .tup xs ∧ xs.length ≤ 3 ∧ ∀ x ∈ xs, Kp x
def Md (x : PV) : Prop := x = .str "x" ∨ x = .str "s" ∨ x = .str "ix" ∨ x = .str "is"
def Ne (p : PV) : Prop := ∃ n m, p = .tup [n, m] ∧ Nd n ∧ Md m
/-- an ASCII word of the law -/
theorem gs_w {z : Str} (h : (z.cps.toList.all fun c => decide (c < 0x110000)) = true) : Gs z := fun c hc => by
  rw [List.all_eq_true] at h
  exact of_decide_eq_true (h c hc)
theorem tx_w {z : Str} (h : (z.cps.toList.all fun c => decide (c < 0x110000)) = true) : Tx (.str z) := ⟨z, rfl, gs_w h⟩
structure Nms (n0 n1 n2 n3 : Str) : Prop where
  g0 : Gs n0
  g1 : Gs n1
  g2 : Gs n2
  g3 : Gs n3
abbrev nml (n0 n1 n2 n3 : Str) : List PV := [.str n0, .str n1, .str n2, .str n3]
theorem nm_at {n0 n1 n2 n3 : Str} (h : Nms n0 n1 n2 n3) {r : Nat} (hr : r < 4) : ∃ z, atI (nml n0 n1 n2 n3) (r : Int) = some (.str z) ∧ Gs z := by
  rw [at_nat]
  match r, hr with
  | 0, _ => exact ⟨_, rfl, h.g0⟩
  | 1, _ => exact ⟨_, rfl, h.g1⟩
  | 2, _ => exact ⟨_, rfl, h.g2⟩
  | 3, _ => exact ⟨_, rfl, h.g3⟩
theorem pick_small {o : Option AO} {T : AS} (h : Bx o) : ∃ (k : Nat) (o' : Option AO), F_pick [.ref 0, .lst [.int 2, .int 0, .int 3, .int 1]] (o :: T) = .ok (.int k) (o' :: T) ∧ Bx o' ∧ k ≤ 3 := by
  obtain ⟨p, o1, e1, b1, m1⟩ := pick_spec (xs := [.int 2, .int 0, .int 3, .int 1]) (T := T) h (by simp) (by simp)
  simp at m1
  rcases m1 with rfl | rfl | rfl | rfl
  · exact ⟨2, o1, e1, b1, by omega⟩
  · exact ⟨0, o1, e1, b1, by omega⟩
  · exact ⟨3, o1, e1, b1, by omega⟩
  · exact ⟨1, o1, e1, b1, by omega⟩
theorem keys_spec {o : Option AO} {T : AS} {n0 n1 n2 n3 : Str} (h : Bx o) (hn : Nms n0 n1 n2 n3) : ∃ v S', F_keys [.ref 0, .lst (nml n0 n1 n2 n3)] (o :: T) = .ok v S' ∧ ∃ (o' : Option AO) (xs : List PV), v = .lst xs ∧ S' = o' :: T ∧ Bx o' ∧ xs.length ≤ 3 ∧ ∀ x ∈ xs, Nd x := by
  unfold F_keys
  refine fn_of ?_
  unfold b_keys
  refine seq_e1 [.val (.ref 0), .val (.lst (nml n0 n1 n2 n3)), .own [], .no] (o :: T) (by simp) ?_
  obtain ⟨k, o1, e1, b1, hk⟩ := pick_small (T := T) h
  refine seq_ex (for_range k (fun i η S => ∃ (o : Option AO) (xs : List PV) (z : Sl), η = [.val (.ref 0), .val (.lst (nml n0 n1 n2 n3)), .own xs, z] ∧ S = o :: T ∧ Bx o ∧ xs.length = i ∧ ∀ x ∈ xs, Nd x) (S1 := o1 :: T) (by simp [e1]) (by omega) (fun i η S hi ⟨o, xs, z, h1, h2, h3, h4, h5⟩ => ?_) ⟨o1, [], .no, rfl, rfl, b1, rfl, by simp⟩) ?_
  · subst h1
    subst h2
    obtain ⟨r, o2, e2, b2, hr⟩ := draw_nat (T := T) (n := 2) h3 (by omega) (by omega)
    obtain ⟨q, o3, e3, b3, _⟩ := draw_nat (T := T) (n := 3) b2 (by omega) (by omega)
    have e2 : F_draw [.ref 0, .int 2] (o :: T) = .ok (.int r) (o2 :: T) := e2
    have e3 : F_draw [.ref 0, .int 3] (o2 :: T) = .ok (.int q) (o3 :: T) := e3
    obtain ⟨z', ez, gz⟩ := nm_at hn (r := 2 + r) (by omega)
    have ez : atI (nml n0 n1 n2 n3) (2 + (r : Int)) = some (.str z') := by
      rw [← ez]
      rfl
    refine ⟨_, _, e_nameG, [.val (.ref 0), .val (.lst (nml n0 n1 n2 n3)), .own (xs ++ [.tup [.str "key", .str z', .int q]]), .val (.int i)], o3 :: T, (by simp [e2, e3, ez, show xs.length < 1000000 by omega]), o3, _, _, rfl, rfl, b3, by simp [h4], fun x hx => ?_⟩
    rw [List.mem_append] at hx
    rcases hx with hx | hx
    · exact h5 x hx
    · rw [List.mem_singleton] at hx
      subst hx
      refine ⟨_, rfl, by simp, fun y hy => ?_⟩
      simp at hy
      rcases hy with rfl | rfl | rfl
      · exact .inr (tx_w (by decide +kernel))
      · exact .inr ⟨_, rfl, gz⟩
      · exact .inl ⟨_, rfl⟩
  · rintro η S ⟨o, xs, z, rfl, rfl, h3, h4, h5⟩
    exact rt_e1 (.lst xs) (o :: T) (by simp) ⟨o, _, rfl, rfl, h3, by omega, h5⟩
theorem md_pick {o : Option AO} {T : AS} (h : Bx o) : ∃ p o', F_pick [.ref 0, .lst [.str "x", .str "s", .str "ix", .str "is"]] (o :: T) = .ok p (o' :: T) ∧ Bx o' ∧ Md p := by
  obtain ⟨p, o1, e1, b1, m1⟩ := pick_spec (xs := [.str "x", .str "s", .str "ix", .str "is"]) (T := T) h (by simp) (by simp)
  simp at m1
  exact ⟨p, o1, e1, b1, m1⟩
theorem nd_of {xs : List PV} (hl : xs.length ≤ 3) (h : ∀ x ∈ xs, Kp x) : Nd (.tup xs) := ⟨xs, rfl, hl, h⟩
theorem lock_needs_spec {o : Option AO} {T : AS} {n0 n1 n2 n3 : Str} (h : Bx o) (hn : Nms n0 n1 n2 n3) : ∃ v S', F_lock_needs [.ref 0, .lst (nml n0 n1 n2 n3)] (o :: T) = .ok v S' ∧ ∃ (o' : Option AO) (xs : List PV), v = .lst xs ∧ S' = o' :: T ∧ Bx o' ∧ xs.length ≤ 3 ∧ ∀ x ∈ xs, Ne x := by
  unfold F_lock_needs
  refine fn_of ?_
  unfold b_lock_needs
  refine seq_e1 [.val (.ref 0), .val (.lst (nml n0 n1 n2 n3)), .own [], .no, .no, .no] (o :: T) (by simp) ?_
  obtain ⟨k, o1, e1, b1, hk⟩ := draw_nat (T := T) (n := 5) h (by omega) (by omega)
  have e1 : F_draw [.ref 0, .int 5] (o :: T) = .ok (.int k) (o1 :: T) := e1
  obtain ⟨j, ej, hj⟩ : ∃ j : Nat, atI [.int 1, .int 2, .int 1, .int 3, .int 0] (k : Int) = some (PV.int j) ∧ j ≤ 3 := by
    rw [at_nat]
    match k, hk with
    | 0, _ => exact ⟨1, rfl, by omega⟩
    | 1, _ => exact ⟨2, rfl, by omega⟩
    | 2, _ => exact ⟨1, rfl, by omega⟩
    | 3, _ => exact ⟨3, rfl, by omega⟩
    | 4, _ => exact ⟨0, rfl, by omega⟩
  refine seq_ex (for_range j (fun i η S => ∃ (o : Option AO) (xs : List PV) (z3 z4 z5 : Sl), η = [.val (.ref 0), .val (.lst (nml n0 n1 n2 n3)), .own xs, z3, z4, z5] ∧ S = o :: T ∧ Bx o ∧ xs.length = i ∧ ∀ x ∈ xs, Ne x) (S1 := o1 :: T) (by simp [e1, ej]) (by omega) (fun i η S hi ⟨o, xs, z3, z4, z5, h1, h2, h3, h4, h5⟩ => ?_) ⟨o1, [], .no, .no, .no, rfl, rfl, b1, rfl, by simp⟩) ?_
  · subst h1
    subst h2
    refine ⟨_, _, e_nameG, ?_⟩
    show ∃ η2 S2, seqS _ _ [.val (.ref 0), .val (.lst (nml n0 n1 n2 n3)), .own xs, .val (.int i), z4, z5] (o :: T) = .nx η2 S2 ∧ _
    obtain ⟨k, o2, e2, b2, hk⟩ := draw_nat (T := T) (n := 6) h3 (by omega) (by omega)
    have e2 : F_draw [.ref 0, .int 6] (o :: T) = .ok (.int k) (o2 :: T) := e2
    refine seq_n1 [.val (.ref 0), .val (.lst (nml n0 n1 n2 n3)), .own xs, .val (.int i), .val (.int k), z5] (o2 :: T) (by simp [e2]) ?_
    refine seq_n1 [.val (.ref 0), .val (.lst (nml n0 n1 n2 n3)), .own xs, .val (.int i), .val (.int k), .val (.tup [.str "store"])] (o2 :: T) (by simp) ?_
    -- the node
    have fin : ∀ (o3 : Option AO) (n : PV), Bx o3 → Nd n → ∃ η2 S2, ownApp 2 (tupF (consA (varF 5) (consA (callN 2 F_pick (consA (varF 0) (consA (valN (lstN (consA (cF (.str "x")) (consA (cF (.str "s")) (consA (cF (.str "ix")) (consA (cF (.str "is")) nilA)))))) nilA))) nilA))) [.val (.ref 0), .val (.lst (nml n0 n1 n2 n3)), .own xs, .val (.int i), .val (.int k), .val n] (o3 :: T) = .nx η2 S2 ∧
        ∃ (o : Option AO) (xs : List PV) (z3 z4 z5 : Sl), η2 = [.val (.ref 0), .val (.lst (nml n0 n1 n2 n3)), .own xs, z3, z4, z5] ∧ S2 = o :: T ∧ Bx o ∧ xs.length = i + 1 ∧ ∀ x ∈ xs, Ne x := fun o3 n b3 hn2 => by
      obtain ⟨m, o4, e4, b4, hm⟩ := md_pick (T := T) b3
      refine ⟨[.val (.ref 0), .val (.lst (nml n0 n1 n2 n3)), .own (xs ++ [.tup [n, m]]), .val (.int i), .val (.int k), .val n], o4 :: T, by simp [e4, show xs.length < 1000000 by omega], o4, _, _, _, _, rfl, rfl, b4, by simp [h4], fun x hx => ?_⟩
      rw [List.mem_append] at hx
      rcases hx with hx | hx
      · exact h5 x hx
      · rw [List.mem_singleton] at hx
        exact ⟨n, m, hx, hn2, hm⟩
    by_cases k3 : k < 3
    · obtain ⟨r, o3, e3, b3, hr⟩ := draw_nat (T := T) (n := 3) b2 (by omega) (by omega)
      have e3 : F_draw [.ref 0, .int 3] (o2 :: T) = .ok (.int r) (o3 :: T) := e3
      obtain ⟨z, ez, gz⟩ := nm_at hn (r := r) (by omega)
      obtain ⟨t, et, gt⟩ : ∃ t : Str, atI [.str "table", .str "index", .str "summary"] (k : Int) = some (PV.str t) ∧ Gs t := by
        rw [at_nat]
        match k, k3 with
        | 0, _ => exact ⟨_, rfl, gs_w (by decide +kernel)⟩
        | 1, _ => exact ⟨_, rfl, gs_w (by decide +kernel)⟩
        | 2, _ => exact ⟨_, rfl, gs_w (by decide +kernel)⟩
      refine seq_n1 [.val (.ref 0), .val (.lst (nml n0 n1 n2 n3)), .own xs, .val (.int i), .val (.int k), .val (.tup [.str t, .str z])] (o3 :: T) (by simp [ltG, show (k : Int) < 3 by omega, e3, ez, et]) ?_
      refine seq_n1 _ _ (by simp [show ¬ (k : Int) = 3 by omega]; exact ⟨rfl, rfl⟩) ?_
      refine seq_n1 _ _ (by simp [show ¬ (k : Int) = 4 by omega]; exact ⟨rfl, rfl⟩) ?_
      exact fin o3 _ b3 (nd_of (by simp) (by simp; exact ⟨.inr ⟨_, rfl, gt⟩, .inr ⟨_, rfl, gz⟩⟩))
    · refine seq_n1 [.val (.ref 0), .val (.lst (nml n0 n1 n2 n3)), .own xs, .val (.int i), .val (.int k), .val (.tup [.str "store"])] (o2 :: T) (by simp [ltG, show ¬ (k : Int) < 3 by omega]) ?_
      by_cases k4 : k = 3
      · obtain ⟨r, o3, e3, b3, hr⟩ := draw_nat (T := T) (n := 4) b2 (by omega) (by omega)
        have e3 : F_draw [.ref 0, .int 4] (o2 :: T) = .ok (.int r) (o3 :: T) := e3
        refine seq_n1 [.val (.ref 0), .val (.lst (nml n0 n1 n2 n3)), .own xs, .val (.int i), .val (.int k), .val (.tup [.str "row", .int r])] (o3 :: T) (by simp [k4, e3]) ?_
        refine seq_n1 [.val (.ref 0), .val (.lst (nml n0 n1 n2 n3)), .own xs, .val (.int i), .val (.int k), .val (.tup [.str "row", .int r])] (o3 :: T) (by simp [k4]) ?_
        exact fin o3 _ b3 (nd_of (by simp) (by simp; exact ⟨.inr (tx_w (by decide +kernel)), .inl ⟨_, rfl⟩⟩))
      · refine seq_n1 [.val (.ref 0), .val (.lst (nml n0 n1 n2 n3)), .own xs, .val (.int i), .val (.int k), .val (.tup [.str "store"])] (o2 :: T) (by simp [show ¬ (k : Int) = 3 by omega]) ?_
        by_cases k5 : k = 4
        · obtain ⟨r, o3, e3, b3, hr⟩ := draw_nat (T := T) (n := 3) b2 (by omega) (by omega)
          obtain ⟨q, o4, e4, b4, _⟩ := draw_nat (T := T) (n := 3) b3 (by omega) (by omega)
          have e3 : F_draw [.ref 0, .int 3] (o2 :: T) = .ok (.int r) (o3 :: T) := e3
          have e4 : F_draw [.ref 0, .int 3] (o3 :: T) = .ok (.int q) (o4 :: T) := e4
          obtain ⟨z, ez, gz⟩ := nm_at hn (r := r) (by omega)
          refine seq_n1 [.val (.ref 0), .val (.lst (nml n0 n1 n2 n3)), .own xs, .val (.int i), .val (.int k), .val (.tup [.str "key", .str z, .int q])] (o4 :: T) (by simp [k5, e3, e4, ez]) ?_
          exact fin o4 _ b4 (nd_of (by simp) (by simp; exact ⟨.inr (tx_w (by decide +kernel)), .inr ⟨_, rfl, gz⟩, .inl ⟨_, rfl⟩⟩))
        · refine seq_n1 [.val (.ref 0), .val (.lst (nml n0 n1 n2 n3)), .own xs, .val (.int i), .val (.int k), .val (.tup [.str "store"])] (o2 :: T) (by simp [show ¬ (k : Int) = 4 by omega]) ?_
          exact fin o2 _ b2 (nd_of (by simp) (by simp; exact .inr (tx_w (by decide +kernel))))
  · rintro η S ⟨o, xs, z3, z4, z5, rfl, rfl, h3, h4, h5⟩
    exact rt_e1 (.lst xs) (o :: T) (by simp) ⟨o, _, rfl, rfl, h3, by omega, h5⟩
end K24

end
section
set_option Elab.async false
set_option linter.all false
set_option maxRecDepth 100000
set_option maxHeartbeats 4000000
namespace K24
open PySem PySem.Spec PyProof.Rows L2 Fu
theorem lts_ints (n : Nat) : ∀ ns : List Int, Fu.lts n (ns.map PV.int) = true
  | [] => rfl
  | x :: xs => by
    show (Fu.lt n (.int x) && Fu.lts n (xs.map PV.int)) = true
    rw [lts_ints n xs]
    rfl
theorem box_lt {o : Option AO} (h : Bx o) (n : Nat) : ∃ a, o = some a ∧ Fu.ltO n a = true := by
  obtain ⟨ns, i, m, c, g, rfl, _⟩ := h
  refine ⟨_, rfl, ?_⟩
  simp [Fu.ltO, Fu.lts, Fu.lt, lts_ints]
theorem lts_of {n : Nat} : ∀ {xs : List PV}, (∀ x ∈ xs, Fu.lt n x = true) → Fu.lts n xs = true
  | [], _ => rfl
  | x :: xs, h => by
    unfold Fu.lts
    rw [h x List.mem_cons_self, lts_of fun y hy => h y (List.mem_cons_of_mem _ hy)]
    rfl
theorem lt_kp {n : Nat} {x : PV} (h : Kp x) : Fu.lt n x = true := by
  rcases h with ⟨i, rfl⟩ | ⟨z, rfl, _⟩ <;> rfl
theorem lt_nd {n : Nat} {x : PV} (h : Nd x) : Fu.lt n x = true := by
  obtain ⟨xs, rfl, _, h⟩ := h
  unfold Fu.lt
  exact lts_of fun y hy => lt_kp (h y hy)
theorem trim_box {f : Fn} {ps : List PV} {o o' : Option AO} {T E : AS} {v : PV} (e : f ps (o :: T) = .ok v (o' :: (T ++ E))) (hb : Bx o') (hv : Fu.lt (T.length + 1) v = true) : trim f ps (o :: T) = .ok v (o' :: T) := by
  have := trim_ok e ⟨hv, by simp, fun m hm => by
    cases m with
    | zero =>
      obtain ⟨a, rfl, ha⟩ := box_lt hb (o :: T).length
      exact .inr ⟨a, rfl, ha⟩
    | succ m =>
      refine .inl ?_
      have hm : m < T.length := by simpa using hm
      show (T ++ E)[m]? = T[m]?
      exact List.getElem?_append_left hm⟩
  rw [this]
  simp
theorem pop_at {n k : Nat} {xs : List PV} {S : AS} (hS : S[n]? = some (some (.lst xs))) (hk : k < xs.length) (hl : xs.length ≤ 1000000) : popG (.ref n) [.int k] S = .ok xs[k] (S.set n (some (.lst (xs.eraseIdx k)))) := by
  have hq : seqIndex? (k : Int) xs.length = some k := by
    unfold seqIndex?
    have h0 : ¬ (k : Int) < 0 := by omega
    simp [h0, hk]
  unfold popG
  dsimp only
  rw [hS]
  dsimp only
  rw [if_pos ⟨by omega, by omega⟩, hq]
  dsimp only
  rw [List.getElem?_eq_getElem hk]
theorem last_get (o : Option AO) (T : AS) (x : Option AO) : (o :: (T ++ [x]))[T.length + 1]? = some x := by simp
theorem last_set (o : Option AO) (T : AS) (x y : Option AO) : (o :: (T ++ [x])).set (T.length + 1) y = o :: (T ++ [y]) := by simp
theorem nodes_spec {o : Option AO} {T : AS} {n0 n1 n2 n3 : Str} (h : Bx o) (hn : Nms n0 n1 n2 n3) : ∃ (o' : Option AO) (xs : List PV), F_nodes [.ref 0, .lst (nml n0 n1 n2 n3)] (o :: T) = .ok (.lst xs) (o' :: T) ∧ Bx o' ∧ xs.length ≤ 3 ∧ ∀ x ∈ xs, Nd x := by
  have main : ∃ v S', fnOf 5 b_nodes [.ref 0, .lst (nml n0 n1 n2 n3)] (o :: T) = .ok v S' ∧ ∃ (o' : Option AO) (xs : List PV) (y : Option AO), v = .lst xs ∧ S' = o' :: (T ++ [y]) ∧ Bx o' ∧ xs.length ≤ 3 ∧ ∀ x ∈ xs, Nd x := by
    refine fn_of ?_
    unfold b_nodes
    have nd2 : ∀ (a b : Str), Gs a → Gs b → Nd (.tup [.str a, .str b]) := fun a b ga gb => nd_of (by simp) (by simp; exact ⟨.inr ⟨_, rfl, ga⟩, .inr ⟨_, rfl, gb⟩⟩)
    have gi : Gs "index" := gs_w (by decide +kernel)
    have gs : Gs "summary" := gs_w (by decide +kernel)
    refine seq_e1 [.val (.ref 0), .val (.lst (nml n0 n1 n2 n3)), .val (.ref (T.length + 1)), .no, .no] (o :: (T ++ [some (.lst [.tup [.str "index", .str n1], .tup [.str "summary", .str n2], .tup [.str "index", .str n3], .tup [.str "summary", .str n1]])])) (by simp) ?_
    refine seq_e1 [.val (.ref 0), .val (.lst (nml n0 n1 n2 n3)), .val (.ref (T.length + 1)), .own [], .no] (o :: (T ++ [some (.lst [.tup [.str "index", .str n1], .tup [.str "summary", .str n2], .tup [.str "index", .str n3], .tup [.str "summary", .str n1]])])) (by simp) ?_
    obtain ⟨k, o1, e1, b1, hk⟩ := pick_small (T := T ++ [some (.lst [.tup [.str "index", .str n1], .tup [.str "summary", .str n2], .tup [.str "index", .str n3], .tup [.str "summary", .str n1]])]) h
    refine seq_ex (for_range k (fun i η S => ∃ (o : Option AO) (xs ms : List PV) (z : Sl), η = [.val (.ref 0), .val (.lst (nml n0 n1 n2 n3)), .val (.ref (T.length + 1)), .own xs, z] ∧ S = o :: (T ++ [some (.lst ms)]) ∧ Bx o ∧ xs.length = i ∧ ms.length + i = 4 ∧ (∀ x ∈ xs, Nd x) ∧ ∀ x ∈ ms, Nd x) (S1 := o1 :: (T ++ [some (.lst [.tup [.str "index", .str n1], .tup [.str "summary", .str n2], .tup [.str "index", .str n3], .tup [.str "summary", .str n1]])])) (by simp [e1]) (by omega) (fun i η S hi ⟨o, xs, ms, z, h1, h2, h3, h4, h5, h6, h7⟩ => ?_) ⟨o1, [], _, .no, rfl, rfl, b1, rfl, rfl, by simp, ?_⟩) ?_
    · subst h1
      subst h2
      obtain ⟨r, o2, e2, b2, hr⟩ := draw_nat (T := T ++ [some (.lst ms)]) (n := ms.length) h3 (by omega) (by omega)
      refine ⟨_, _, e_nameG, [.val (.ref 0), .val (.lst (nml n0 n1 n2 n3)), .val (.ref (T.length + 1)), .own (xs ++ [ms[r]]), .val (.int i)], o2 :: (T ++ [some (.lst (ms.eraseIdx r))]), ?_, o2, _, _, _, rfl, rfl, b2, by simp [h4], ?_, ?_, ?_⟩
      · have hp := pop_at (last_get o2 T (some (.lst ms))) hr (by omega)
        rw [last_set] at hp
        have hl : lenG [.ref (T.length + 1)] (o :: (T ++ [some (.lst ms)])) = .ok (.int ms.length) (o :: (T ++ [some (.lst ms)])) := len_ref (last_get ..)
        have hi : isLst (.ref (T.length + 1)) (o :: (T ++ [some (.lst ms)])) = true := by unfold isLst; simp
        generalize ms[r] = q at hp
        simp [hi, hl, e2, hp, show xs.length < 1000000 by omega]
      · rw [List.length_eraseIdx_of_lt hr]
        omega
      · intro x hx
        rw [List.mem_append] at hx
        rcases hx with hx | hx
        · exact h6 x hx
        · rw [List.mem_singleton] at hx
          rw [hx]
          exact h7 _ (List.getElem_mem _)
      · intro x hx
        exact h7 x (List.mem_of_mem_eraseIdx hx)
    · intro x hx
      simp at hx
      rcases hx with rfl | rfl | rfl | rfl
      · exact nd2 _ _ gi hn.g1
      · exact nd2 _ _ gs hn.g2
      · exact nd2 _ _ gi hn.g3
      · exact nd2 _ _ gs hn.g1
    · rintro η S ⟨o, xs, ms, z, rfl, rfl, h3, h4, h5, h6, h7⟩
      exact rt_e1 (.lst xs) _ (by simp; rfl) ⟨o, _, _, rfl, rfl, h3, by omega, h6⟩
  obtain ⟨v, S', e, o', xs, y, rfl, rfl, b, hl, hx⟩ := main
  refine ⟨o', xs, trim_box e b ?_, b, hl, hx⟩
  unfold Fu.lt
  exact lts_of fun y hy => lt_nd (hx y hy)
end K24

end
section
set_option Elab.async false
set_option linter.all false
set_option maxRecDepth 100000
set_option maxHeartbeats 4000000
namespace K24
open PySem PySem.Spec PyProof.Rows L2 Fu
abbrev M0 : List PV := [.str "road", .str "alone", .str "store", .str "table", .str "rows"]
abbrev M1 : List PV := [.str "row", .str "table", .str "store"]
abbrev M2 : List PV := [.str "holding", .str "written"]
abbrev M3 : List PV := [.str "key", .str "none"]
abbrev M4 : List PV := [.str "node", .str "none"]
abbrev M5 : List PV := [.str "ahead", .str "behind"]
abbrev M6 : List PV := [.str "end", .str "end", .str "end", .str "turn"]
abbrev M7 : List PV := [.str "wait", .str "age", .str "back"]
/-- the words of a book of locks -/
structure Wds (x0 x1 x2 x3 x4 x5 x6 x7 : PV) : Prop where
  m0 : x0 ∈ M0
  m1 : x1 ∈ M1
  m2 : x2 ∈ M2
  m3 : x3 ∈ M3
  m4 : x4 ∈ M4
  m5 : x5 ∈ M5
  m6 : x6 ∈ M6
  m7 : x7 ∈ M7
  al : x0 = .str "alone" → x1 = .str "store"
theorem compL_one {g : FGx} {t : FT} {e : FE} {p q : PV} {ps acc : List PV} {η η2 : Sls} {S S1 S2 : AS} (hg : g p η = some η2) (ht : t η2 S = .ok true S1) (he : e η2 S1 = .ok q S2) (hl : acc.length < 1000000) : compL g t e (p :: ps) acc η S = compL g t e ps (acc ++ [q]) η S2 := by
  rw [compL, hg]
  dsimp only
  rw [ht, pureR_ok, R.bind_ok, if_pos rfl, he, pureR_ok, R.bind_ok, if_pos hl]
theorem lock_words_spec {o : Option AO} {T : AS} (h : Bx o) : ∃ v S', F_lock_words [.ref 0] (o :: T) = .ok v S' ∧ ∃ (o' : Option AO) (x0 x1 x2 x3 x4 x5 x6 x7 : PV), v = .lst [x0, x1, x2, x3, x4, x5, x6, x7] ∧ S' = o' :: T ∧ Bx o' ∧ Wds x0 x1 x2 x3 x4 x5 x6 x7 := by
  obtain ⟨x0, o0, e0, b0, m0⟩ := pick_spec (xs := M0) (T := T) h (by simp) (by simp)
  obtain ⟨x1, o1, e1, b1, m1⟩ := pick_spec (xs := M1) (T := T) b0 (by simp) (by simp)
  obtain ⟨x2, o2, e2, b2, m2⟩ := pick_spec (xs := M2) (T := T) b1 (by simp) (by simp)
  obtain ⟨x3, o3, e3, b3, m3⟩ := pick_spec (xs := M3) (T := T) b2 (by simp) (by simp)
  obtain ⟨x4, o4, e4, b4, m4⟩ := pick_spec (xs := M4) (T := T) b3 (by simp) (by simp)
  obtain ⟨x5, o5, e5, b5, m5⟩ := pick_spec (xs := M5) (T := T) b4 (by simp) (by simp)
  obtain ⟨x6, o6, e6, b6, m6⟩ := pick_spec (xs := M6) (T := T) b5 (by simp) (by simp)
  obtain ⟨x7, o7, e7, b7, m7⟩ := pick_spec (xs := M7) (T := T) b6 (by simp) (by simp)
  unfold F_lock_words
  refine fn_of ?_
  unfold b_lock_words
  refine seq_e1 [.val (.ref 0), .val (.lst [.lst M0, .lst M1, .lst M2, .lst M3, .lst M4]), .no, .no] (o :: T) (by simp) ?_
  refine seq_e1 [.val (.ref 0), .val (.lst [.lst M0, .lst M1, .lst M2, .lst M3, .lst M4, .lst M5, .lst M6, .lst M7]), .no, .no] (o :: T) (by simp) ?_
  refine seq_e1 [.val (.ref 0), .val (.lst [.lst M0, .lst M1, .lst M2, .lst M3, .lst M4, .lst M5, .lst M6, .lst M7]), .own [x0, x1, x2, x3, x4, x5, x6, x7], .no] (o7 :: T) (by
    have st : ∀ {M : List PV} {x : PV} {o o' : Option AO}, F_pick [.ref 0, .lst M] (o :: T) = .ok x (o' :: T) → (callN 2 F_pick (consA (varF 0) (consA (varF 3) nilA))) ([.val (.ref 0), .val (.lst [.lst M0, .lst M1, .lst M2, .lst M3, .lst M4, .lst M5, .lst M6, .lst M7]), .no, .val (.lst M)] : Sls) (o :: T) = .ok x (o' :: T) := fun e => by simp [e]
    have hw : anyI (varF 1) ([.val (.ref 0), .val (.lst [.lst M0, .lst M1, .lst M2, .lst M3, .lst M4, .lst M5, .lst M6, .lst M7]), .no, .no] : Sls) (o :: T) = .ok [.lst M0, .lst M1, .lst M2, .lst M3, .lst M4, .lst M5, .lst M6, .lst M7] (o :: T) := by simp [witems]
    rw [e_ownS, e_compN, hw, R.bind_ok]
    show lift (compL _ _ _ _ [] ([.val (.ref 0), .val (.lst [.lst M0, .lst M1, .lst M2, .lst M3, .lst M4, .lst M5, .lst M6, .lst M7]), .no, .no] : Sls) (o :: T)) _ _ = _
    rw [compL_one (η2 := [.val (.ref 0), .val (.lst [.lst M0, .lst M1, .lst M2, .lst M3, .lst M4, .lst M5, .lst M6, .lst M7]), .no, .val (.lst M0)]) rfl e_yes (st e0) (by simp)]
    rw [compL_one (η2 := [.val (.ref 0), .val (.lst [.lst M0, .lst M1, .lst M2, .lst M3, .lst M4, .lst M5, .lst M6, .lst M7]), .no, .val (.lst M1)]) rfl e_yes (st e1) (by simp)]
    rw [compL_one (η2 := [.val (.ref 0), .val (.lst [.lst M0, .lst M1, .lst M2, .lst M3, .lst M4, .lst M5, .lst M6, .lst M7]), .no, .val (.lst M2)]) rfl e_yes (st e2) (by simp)]
    rw [compL_one (η2 := [.val (.ref 0), .val (.lst [.lst M0, .lst M1, .lst M2, .lst M3, .lst M4, .lst M5, .lst M6, .lst M7]), .no, .val (.lst M3)]) rfl e_yes (st e3) (by simp)]
    rw [compL_one (η2 := [.val (.ref 0), .val (.lst [.lst M0, .lst M1, .lst M2, .lst M3, .lst M4, .lst M5, .lst M6, .lst M7]), .no, .val (.lst M4)]) rfl e_yes (st e4) (by simp)]
    rw [compL_one (η2 := [.val (.ref 0), .val (.lst [.lst M0, .lst M1, .lst M2, .lst M3, .lst M4, .lst M5, .lst M6, .lst M7]), .no, .val (.lst M5)]) rfl e_yes (st e5) (by simp)]
    rw [compL_one (η2 := [.val (.ref 0), .val (.lst [.lst M0, .lst M1, .lst M2, .lst M3, .lst M4, .lst M5, .lst M6, .lst M7]), .no, .val (.lst M6)]) rfl e_yes (st e6) (by simp)]
    rw [compL_one (η2 := [.val (.ref 0), .val (.lst [.lst M0, .lst M1, .lst M2, .lst M3, .lst M4, .lst M5, .lst M6, .lst M7]), .no, .val (.lst M7)]) rfl e_yes (st e7) (by simp)]
    rfl) ?_
  have hx : ∃ w : Str, x0 = .str w := by
    simp at m0
    rcases m0 with rfl | rfl | rfl | rfl | rfl <;> exact ⟨_, rfl⟩
  obtain ⟨w, rfl⟩ := hx
  by_cases hw : w = "alone"
  · subst hw
    refine seq_e1 [.val (.ref 0), .val (.lst [.lst M0, .lst M1, .lst M2, .lst M3, .lst M4, .lst M5, .lst M6, .lst M7]), .own [.str "alone", .str "store", x2, x3, x4, x5, x6, x7], .no] (o7 :: T) (by simp [ixN]) ?_
    exact rt_e1 (.lst [.str "alone", .str "store", x2, x3, x4, x5, x6, x7]) (o7 :: T) (by simp) ⟨o7, _, _, _, _, _, _, _, _, rfl, rfl, b7, m0, by simp, m2, m3, m4, m5, m6, m7, fun _ => rfl⟩
  · refine seq_e1 [.val (.ref 0), .val (.lst [.lst M0, .lst M1, .lst M2, .lst M3, .lst M4, .lst M5, .lst M6, .lst M7]), .own [.str w, x1, x2, x3, x4, x5, x6, x7], .no] (o7 :: T) (by simp [hw]) ?_
    exact rt_e1 (.lst [.str w, x1, x2, x3, x4, x5, x6, x7]) (o7 :: T) (by simp) ⟨o7, _, _, _, _, _, _, _, _, rfl, rfl, b7, m0, m1, m2, m3, m4, m5, m6, m7, fun z => absurd (PV.str.inj z) hw⟩
/-! ### the book -/
theorem mem_of {x : PV} {xs : List PV} (h : x ∈ xs) (f : flat x = true) : mem x xs = true := by
  unfold mem
  rw [List.any_eq_true]
  refine ⟨x, h, ?_⟩
  cases x <;> simp [eqF] <;> cases f
theorem check_ok {l : Str} {x : PV} {xs : List PV} {S : AS} (h : x ∈ xs) (f : xs.all flat = true) : F_check_option [.str l, x, .ktu xs] S = .ok .non S := by
  have fx : flat x = true := by
    rw [List.all_eq_true] at f
    exact f x h
  unfold F_check_option fnOf b_check_option
  simp only [List.map_cons, List.map_nil, List.length_cons, List.length_nil, List.cons_append, List.nil_append]
  have hi : inG true x (.ktu xs) S = .ok (.bl false) S := by
    unfold inG
    simp [fx, f, mem_of h fx]
  simp [hi]
def bookO (x0 x1 x2 x3 x4 x5 x6 x7 : PV) : Option AO := some (.ins "LockBook" [("read", x0), ("write", x1), ("marks", x2), ("checks", x3), ("kept", x4), ("asks", x5), ("lasts", x6), ("clash", x7)])
theorem cat_get (S : AS) (x : Option AO) : (S ++ [x])[S.length]? = some x := by simp
theorem cat_set (S : AS) (x y : Option AO) : (S ++ [x]).set S.length y = S ++ [y] := by simp
theorem fld_step {c f : Str} {η : Sls} {S : AS} {o a : FE} {p : PV} {fs : List (Str × PV)} (ha : ∀ S, a η S = .ok p S) (ho : ∀ S', o η S' = .ok (.ref S.length) S') (hl : fs.length < 1000) : fldS c f o a η (S ++ [some (.ins c fs)]) = .nx η (S ++ [some (.ins c (putP f p fs))]) := by
  unfold fldS
  simp [ha, ho, hl]
theorem fld_at {n : Nat} {c f : Str} {fs : List (Str × PV)} {x : PV} {S : AS} (h : S[n]? = some (some (.ins c fs))) (e : fs.lookup f = some x) : fldG c f (.ref n) S = .ok x S := by
  unfold fldG
  dsimp only
  rw [h]
  dsimp only
  rw [if_pos rfl, e]
  rfl
theorem init_spec {S : AS} {x0 x1 x2 x3 x4 x5 x6 x7 : PV} (h : Wds x0 x1 x2 x3 x4 x5 x6 x7) : ∃ v S', F_LockBook_init [.ref S.length, x0, x1, x2, x3, x4, x5, x6, x7] (S ++ [some (.ins "LockBook" [])]) = .ok v S' ∧ v = .non ∧ S' = S ++ [bookO x0 x1 x2 x3 x4 x5 x6 x7] := by
  have key : ∃ η' S', b_LockBook_init [.val (.ref S.length), .val x0, .val x1, .val x2, .val x3, .val x4, .val x5, .val x6, .val x7, .no, .no, .no] (S ++ [some (.ins "LockBook" [])]) = .nx η' S' ∧ S' = S ++ [bookO x0 x1 x2 x3 x4 x5 x6 x7] := by
    unfold b_LockBook_init
    have st : ∀ {f : Str} {i : Nat} {x : PV} {fs : List (Str × PV)}, ([.val (.ref S.length), .val x0, .val x1, .val x2, .val x3, .val x4, .val x5, .val x6, .val x7, .no, .no, .no] : Sls)[i]? = some (.val x) → fs.length < 1000 → fldS "LockBook" f (varF 0) (varF i) [.val (.ref S.length), .val x0, .val x1, .val x2, .val x3, .val x4, .val x5, .val x6, .val x7, .no, .no, .no] (S ++ [some (.ins "LockBook" fs)]) = .nx [.val (.ref S.length), .val x0, .val x1, .val x2, .val x3, .val x4, .val x5, .val x6, .val x7, .no, .no, .no] (S ++ [some (.ins "LockBook" (putP f x fs))]) := fun e hl => fld_step (fun S => by simp only [e_var, e]) (fun S' => rfl) hl
    refine seq_n1 _ _ (st (x := x0) rfl (by simp)) ?_
    refine seq_n1 _ _ (st (x := x1) rfl (by show _ < _; simp [putP])) ?_
    refine seq_n1 _ _ (st (x := x2) (fs := [("read", x0), ("write", x1)]) rfl (by simp)) ?_
    refine seq_n1 _ _ (st (x := x3) (fs := [("read", x0), ("write", x1), ("marks", x2)]) rfl (by simp)) ?_
    refine seq_n1 _ _ (st (x := x4) (fs := [("read", x0), ("write", x1), ("marks", x2), ("checks", x3)]) rfl (by simp)) ?_
    refine seq_n1 _ _ (st (x := x5) (fs := [("read", x0), ("write", x1), ("marks", x2), ("checks", x3), ("kept", x4)]) rfl (by simp)) ?_
    refine seq_n1 _ _ (st (x := x6) (fs := [("read", x0), ("write", x1), ("marks", x2), ("checks", x3), ("kept", x4), ("asks", x5)]) rfl (by simp)) ?_
    refine seq_n1 _ _ (st (x := x7) (fs := [("read", x0), ("write", x1), ("marks", x2), ("checks", x3), ("kept", x4), ("asks", x5), ("lasts", x6)]) rfl (by simp)) ?_
    show ∃ η' S', seqS _ _ [.val (.ref S.length), .val x0, .val x1, .val x2, .val x3, .val x4, .val x5, .val x6, .val x7, .no, .no, .no] (S ++ [bookO x0 x1 x2 x3 x4 x5 x6 x7]) = .nx η' S' ∧ _
    have hch : F_LockBook_chosen [.ref S.length] (S ++ [bookO x0 x1 x2 x3 x4 x5 x6 x7]) = .ok (.lst [x0, x1, x2, x3, x4, x5, x6, x7]) (S ++ [bookO x0 x1 x2 x3 x4 x5 x6 x7]) := by
      unfold F_LockBook_chosen fnOf b_LockBook_chosen
      have hf : ∀ {f : Str} {x : PV}, ([("read", x0), ("write", x1), ("marks", x2), ("checks", x3), ("kept", x4), ("asks", x5), ("lasts", x6), ("clash", x7)] : List (Str × PV)).lookup f = some x → fldG "LockBook" f (.ref S.length) (S ++ [bookO x0 x1 x2 x3 x4 x5 x6 x7]) = .ok x (S ++ [bookO x0 x1 x2 x3 x4 x5 x6 x7]) := fun e => fld_at (cat_get S _) e
      simp [hf (f := "read") (x := x0) rfl, hf (f := "write") (x := x1) rfl, hf (f := "marks") (x := x2) rfl, hf (f := "checks") (x := x3) rfl, hf (f := "kept") (x := x4) rfl, hf (f := "asks") (x := x5) rfl, hf (f := "lasts") (x := x6) rfl, hf (f := "clash") (x := x7) rfl]
    refine seq_nxs (for_items (pairs [(.ktu [(.str "read"), (.ktu [(.str "alone"), (.str "store"), (.str "table"), (.str "road"), (.str "rows")])]), (.ktu [(.str "write"), (.ktu [(.str "store"), (.str "table"), (.str "row")])]), (.ktu [(.str "marks"), (.ktu [(.str "holding"), (.str "written")])]), (.ktu [(.str "checks"), (.ktu [(.str "key"), (.str "none")])]), (.ktu [(.str "kept"), (.ktu [(.str "node"), (.str "none")])]), (.ktu [(.str "asks"), (.ktu [(.str "ahead"), (.str "behind")])]), (.ktu [(.str "lasts"), (.ktu [(.str "end"), (.str "turn")])]), (.ktu [(.str "clash"), (.ktu [(.str "wait"), (.str "age"), (.str "back")])])] [x0, x1, x2, x3, x4, x5, x6, x7]) (fun _ η S' => S' = S ++ [bookO x0 x1 x2 x3 x4 x5 x6 x7] ∧ ∃ z9 z10 z11, η = [.val (.ref S.length), .val x0, .val x1, .val x2, .val x3, .val x4, .val x5, .val x6, .val x7, z9, z10, z11]) (S1 := S ++ [bookO x0 x1 x2 x3 x4 x5 x6 x7]) ?_ (fun i p η S' ep ⟨h1, z9, z10, z11, h2⟩ => ?_) ⟨rfl, .no, .no, .no, rfl⟩) ?_
    · unfold zipI methF
      simp only [e_consA, e_nilA, e_c, e_var, R.bind_ok, List.getElem?_cons_zero]
      rw [cat_get]
      show (R.bind (R.bind (R.bind (if _ ∧ _ then _ else _) _) _) _) = _
      rw [if_pos ⟨rfl, by rfl⟩]
      simp [hch, tupItems]
    · subst h1
      subst h2
      have hp : p ∈ pairs [(.ktu [(.str "read"), (.ktu [(.str "alone"), (.str "store"), (.str "table"), (.str "road"), (.str "rows")])]), (.ktu [(.str "write"), (.ktu [(.str "store"), (.str "table"), (.str "row")])]), (.ktu [(.str "marks"), (.ktu [(.str "holding"), (.str "written")])]), (.ktu [(.str "checks"), (.ktu [(.str "key"), (.str "none")])]), (.ktu [(.str "kept"), (.ktu [(.str "node"), (.str "none")])]), (.ktu [(.str "asks"), (.ktu [(.str "ahead"), (.str "behind")])]), (.ktu [(.str "lasts"), (.ktu [(.str "end"), (.str "turn")])]), (.ktu [(.str "clash"), (.ktu [(.str "wait"), (.str "age"), (.str "back")])])] [x0, x1, x2, x3, x4, x5, x6, x7] := List.mem_of_getElem? ep
      have hform : ∃ (f : Str) (x : PV) (os : List PV), p = .tup [.ktu [.str f, .ktu os], x] ∧ x ∈ os ∧ os.all flat = true := by
        simp [pairs] at hp
        obtain ⟨m0, m1, m2, m3, m4, m5, m6, m7, _⟩ := h
        rcases hp with rfl | rfl | rfl | rfl | rfl | rfl | rfl | rfl
        · refine ⟨_, _, _, rfl, ?_, by simp [flat]⟩
          simp at m0 ⊢
          rcases m0 with h | h | h | h | h <;> simp [h]
        · refine ⟨_, _, _, rfl, ?_, by simp [flat]⟩
          simp at m1 ⊢
          rcases m1 with h | h | h <;> simp [h]
        · refine ⟨_, _, _, rfl, ?_, by simp [flat]⟩
          simp at m2 ⊢
          rcases m2 with h | h <;> simp [h]
        · refine ⟨_, _, _, rfl, ?_, by simp [flat]⟩
          simp at m3 ⊢
          rcases m3 with h | h <;> simp [h]
        · refine ⟨_, _, _, rfl, ?_, by simp [flat]⟩
          simp at m4 ⊢
          rcases m4 with h | h <;> simp [h]
        · refine ⟨_, _, _, rfl, ?_, by simp [flat]⟩
          simp at m5 ⊢
          rcases m5 with h | h <;> simp [h]
        · refine ⟨_, _, _, rfl, ?_, by simp [flat]⟩
          simp at m6 ⊢
          rcases m6 with h | h <;> simp [h]
        · refine ⟨_, _, _, rfl, ?_, by simp [flat]⟩
          simp at m7 ⊢
          rcases m7 with h | h | h <;> simp [h]
      obtain ⟨f, x, os, rfl, hx, hf⟩ := hform
      refine ⟨[.val (.ref S.length), .val x0, .val x1, .val x2, .val x3, .val x4, .val x5, .val x6, .val x7, .val (.str f), .val (.ktu os), .val x], _, by simp; exact rfl, [.val (.ref S.length), .val x0, .val x1, .val x2, .val x3, .val x4, .val x5, .val x6, .val x7, .val (.str f), .val (.ktu os), .val x], _, by simp [check_ok hx hf], rfl, _, _, _, rfl⟩
    · rintro η S' ⟨rfl, z9, z10, z11, rfl⟩
      refine ⟨[.val (.ref S.length), .val x0, .val x1, .val x2, .val x3, .val x4, .val x5, .val x6, .val x7, z9, z10, z11], _, ?_, rfl⟩
      have m0 := h.m0
      have al := h.al
      obtain ⟨w, rfl⟩ : ∃ w : Str, x0 = .str w := by
        simp at m0
        rcases m0 with rfl | rfl | rfl | rfl | rfl <;> exact ⟨_, rfl⟩
      by_cases hw : w = "alone"
      · subst hw
        rw [al rfl]
        simp
      · simp [hw]
  obtain ⟨η', S', e, rfl⟩ := key
  refine ⟨.non, _, ?_, rfl, rfl⟩
  unfold F_LockBook_init fnOf
  simp only [List.map_cons, List.map_nil, List.length_cons, List.length_nil, List.cons_append, List.nil_append]
  show (match b_LockBook_init [.val (.ref S.length), .val x0, .val x1, .val x2, .val x3, .val x4, .val x5, .val x6, .val x7, .no, .no, .no] (S ++ [some (.ins "LockBook" [])]) with | .rt p S => R.ok p S | .nx _ S => .ok PV.non S | .exc c fs _ S => .exc c fs S | _ => .stuck) = _
  rw [e]
end K24

end
section
set_option Elab.async false
set_option linter.all false
set_option maxRecDepth 100000
namespace K24
open PySem PySem.Spec PyProof.Rows L2 Fu
@[simp] theorem ne_alone_store : (Str.ofString "alone" = Str.ofString "store") = False := eq_false (by decide)
@[simp] theorem ne_alone_table : (Str.ofString "alone" = Str.ofString "table") = False := eq_false (by decide)
@[simp] theorem ne_alone_road : (Str.ofString "alone" = Str.ofString "road") = False := eq_false (by decide)
@[simp] theorem ne_alone_rows : (Str.ofString "alone" = Str.ofString "rows") = False := eq_false (by decide)
@[simp] theorem ne_alone_summary : (Str.ofString "alone" = Str.ofString "summary") = False := eq_false (by decide)
@[simp] theorem ne_alone_index : (Str.ofString "alone" = Str.ofString "index") = False := eq_false (by decide)
@[simp] theorem ne_alone_node : (Str.ofString "alone" = Str.ofString "node") = False := eq_false (by decide)
@[simp] theorem ne_alone_none : (Str.ofString "alone" = Str.ofString "none") = False := eq_false (by decide)
@[simp] theorem ne_alone_key : (Str.ofString "alone" = Str.ofString "key") = False := eq_false (by decide)
@[simp] theorem ne_alone_row : (Str.ofString "alone" = Str.ofString "row") = False := eq_false (by decide)
@[simp] theorem ne_alone_x : (Str.ofString "alone" = Str.ofString "x") = False := eq_false (by decide)
@[simp] theorem ne_alone_s : (Str.ofString "alone" = Str.ofString "s") = False := eq_false (by decide)
@[simp] theorem ne_alone_ix : (Str.ofString "alone" = Str.ofString "ix") = False := eq_false (by decide)
@[simp] theorem ne_alone_is : (Str.ofString "alone" = Str.ofString "is") = False := eq_false (by decide)
@[simp] theorem ne_store_alone : (Str.ofString "store" = Str.ofString "alone") = False := eq_false (by decide)
@[simp] theorem ne_store_table : (Str.ofString "store" = Str.ofString "table") = False := eq_false (by decide)
@[simp] theorem ne_store_road : (Str.ofString "store" = Str.ofString "road") = False := eq_false (by decide)
@[simp] theorem ne_store_rows : (Str.ofString "store" = Str.ofString "rows") = False := eq_false (by decide)
@[simp] theorem ne_store_summary : (Str.ofString "store" = Str.ofString "summary") = False := eq_false (by decide)
@[simp] theorem ne_store_index : (Str.ofString "store" = Str.ofString "index") = False := eq_false (by decide)
@[simp] theorem ne_store_node : (Str.ofString "store" = Str.ofString "node") = False := eq_false (by decide)
@[simp] theorem ne_store_none : (Str.ofString "store" = Str.ofString "none") = False := eq_false (by decide)
@[simp] theorem ne_store_key : (Str.ofString "store" = Str.ofString "key") = False := eq_false (by decide)
@[simp] theorem ne_store_row : (Str.ofString "store" = Str.ofString "row") = False := eq_false (by decide)
@[simp] theorem ne_store_x : (Str.ofString "store" = Str.ofString "x") = False := eq_false (by decide)
@[simp] theorem ne_store_s : (Str.ofString "store" = Str.ofString "s") = False := eq_false (by decide)
@[simp] theorem ne_store_ix : (Str.ofString "store" = Str.ofString "ix") = False := eq_false (by decide)
@[simp] theorem ne_store_is : (Str.ofString "store" = Str.ofString "is") = False := eq_false (by decide)
@[simp] theorem ne_table_alone : (Str.ofString "table" = Str.ofString "alone") = False := eq_false (by decide)
@[simp] theorem ne_table_store : (Str.ofString "table" = Str.ofString "store") = False := eq_false (by decide)
@[simp] theorem ne_table_road : (Str.ofString "table" = Str.ofString "road") = False := eq_false (by decide)
@[simp] theorem ne_table_rows : (Str.ofString "table" = Str.ofString "rows") = False := eq_false (by decide)
@[simp] theorem ne_table_summary : (Str.ofString "table" = Str.ofString "summary") = False := eq_false (by decide)
@[simp] theorem ne_table_index : (Str.ofString "table" = Str.ofString "index") = False := eq_false (by decide)
@[simp] theorem ne_table_node : (Str.ofString "table" = Str.ofString "node") = False := eq_false (by decide)
@[simp] theorem ne_table_none : (Str.ofString "table" = Str.ofString "none") = False := eq_false (by decide)
@[simp] theorem ne_table_key : (Str.ofString "table" = Str.ofString "key") = False := eq_false (by decide)
@[simp] theorem ne_table_row : (Str.ofString "table" = Str.ofString "row") = False := eq_false (by decide)
@[simp] theorem ne_table_x : (Str.ofString "table" = Str.ofString "x") = False := eq_false (by decide)
@[simp] theorem ne_table_s : (Str.ofString "table" = Str.ofString "s") = False := eq_false (by decide)
@[simp] theorem ne_table_ix : (Str.ofString "table" = Str.ofString "ix") = False := eq_false (by decide)
@[simp] theorem ne_table_is : (Str.ofString "table" = Str.ofString "is") = False := eq_false (by decide)
@[simp] theorem ne_road_alone : (Str.ofString "road" = Str.ofString "alone") = False := eq_false (by decide)
@[simp] theorem ne_road_store : (Str.ofString "road" = Str.ofString "store") = False := eq_false (by decide)
@[simp] theorem ne_road_table : (Str.ofString "road" = Str.ofString "table") = False := eq_false (by decide)
@[simp] theorem ne_road_rows : (Str.ofString "road" = Str.ofString "rows") = False := eq_false (by decide)
@[simp] theorem ne_road_summary : (Str.ofString "road" = Str.ofString "summary") = False := eq_false (by decide)
@[simp] theorem ne_road_index : (Str.ofString "road" = Str.ofString "index") = False := eq_false (by decide)
@[simp] theorem ne_road_node : (Str.ofString "road" = Str.ofString "node") = False := eq_false (by decide)
@[simp] theorem ne_road_none : (Str.ofString "road" = Str.ofString "none") = False := eq_false (by decide)
@[simp] theorem ne_road_key : (Str.ofString "road" = Str.ofString "key") = False := eq_false (by decide)
@[simp] theorem ne_road_row : (Str.ofString "road" = Str.ofString "row") = False := eq_false (by decide)
@[simp] theorem ne_road_x : (Str.ofString "road" = Str.ofString "x") = False := eq_false (by decide)
@[simp] theorem ne_road_s : (Str.ofString "road" = Str.ofString "s") = False := eq_false (by decide)
@[simp] theorem ne_road_ix : (Str.ofString "road" = Str.ofString "ix") = False := eq_false (by decide)
@[simp] theorem ne_road_is : (Str.ofString "road" = Str.ofString "is") = False := eq_false (by decide)
@[simp] theorem ne_rows_alone : (Str.ofString "rows" = Str.ofString "alone") = False := eq_false (by decide)
@[simp] theorem ne_rows_store : (Str.ofString "rows" = Str.ofString "store") = False := eq_false (by decide)
@[simp] theorem ne_rows_table : (Str.ofString "rows" = Str.ofString "table") = False := eq_false (by decide)
@[simp] theorem ne_rows_road : (Str.ofString "rows" = Str.ofString "road") = False := eq_false (by decide)
@[simp] theorem ne_rows_summary : (Str.ofString "rows" = Str.ofString "summary") = False := eq_false (by decide)
@[simp] theorem ne_rows_index : (Str.ofString "rows" = Str.ofString "index") = False := eq_false (by decide)
@[simp] theorem ne_rows_node : (Str.ofString "rows" = Str.ofString "node") = False := eq_false (by decide)
@[simp] theorem ne_rows_none : (Str.ofString "rows" = Str.ofString "none") = False := eq_false (by decide)
@[simp] theorem ne_rows_key : (Str.ofString "rows" = Str.ofString "key") = False := eq_false (by decide)
@[simp] theorem ne_rows_row : (Str.ofString "rows" = Str.ofString "row") = False := eq_false (by decide)
@[simp] theorem ne_rows_x : (Str.ofString "rows" = Str.ofString "x") = False := eq_false (by decide)
@[simp] theorem ne_rows_s : (Str.ofString "rows" = Str.ofString "s") = False := eq_false (by decide)
@[simp] theorem ne_rows_ix : (Str.ofString "rows" = Str.ofString "ix") = False := eq_false (by decide)
@[simp] theorem ne_rows_is : (Str.ofString "rows" = Str.ofString "is") = False := eq_false (by decide)
@[simp] theorem ne_summary_alone : (Str.ofString "summary" = Str.ofString "alone") = False := eq_false (by decide)
@[simp] theorem ne_summary_store : (Str.ofString "summary" = Str.ofString "store") = False := eq_false (by decide)
@[simp] theorem ne_summary_table : (Str.ofString "summary" = Str.ofString "table") = False := eq_false (by decide)
@[simp] theorem ne_summary_road : (Str.ofString "summary" = Str.ofString "road") = False := eq_false (by decide)
@[simp] theorem ne_summary_rows : (Str.ofString "summary" = Str.ofString "rows") = False := eq_false (by decide)
@[simp] theorem ne_summary_index : (Str.ofString "summary" = Str.ofString "index") = False := eq_false (by decide)
@[simp] theorem ne_summary_node : (Str.ofString "summary" = Str.ofString "node") = False := eq_false (by decide)
@[simp] theorem ne_summary_none : (Str.ofString "summary" = Str.ofString "none") = False := eq_false (by decide)
@[simp] theorem ne_summary_key : (Str.ofString "summary" = Str.ofString "key") = False := eq_false (by decide)
@[simp] theorem ne_summary_row : (Str.ofString "summary" = Str.ofString "row") = False := eq_false (by decide)
@[simp] theorem ne_summary_x : (Str.ofString "summary" = Str.ofString "x") = False := eq_false (by decide)
@[simp] theorem ne_summary_s : (Str.ofString "summary" = Str.ofString "s") = False := eq_false (by decide)
@[simp] theorem ne_summary_ix : (Str.ofString "summary" = Str.ofString "ix") = False := eq_false (by decide)
@[simp] theorem ne_summary_is : (Str.ofString "summary" = Str.ofString "is") = False := eq_false (by decide)
@[simp] theorem ne_index_alone : (Str.ofString "index" = Str.ofString "alone") = False := eq_false (by decide)
@[simp] theorem ne_index_store : (Str.ofString "index" = Str.ofString "store") = False := eq_false (by decide)
@[simp] theorem ne_index_table : (Str.ofString "index" = Str.ofString "table") = False := eq_false (by decide)
@[simp] theorem ne_index_road : (Str.ofString "index" = Str.ofString "road") = False := eq_false (by decide)
@[simp] theorem ne_index_rows : (Str.ofString "index" = Str.ofString "rows") = False := eq_false (by decide)
@[simp] theorem ne_index_summary : (Str.ofString "index" = Str.ofString "summary") = False := eq_false (by decide)
@[simp] theorem ne_index_node : (Str.ofString "index" = Str.ofString "node") = False := eq_false (by decide)
@[simp] theorem ne_index_none : (Str.ofString "index" = Str.ofString "none") = False := eq_false (by decide)
@[simp] theorem ne_index_key : (Str.ofString "index" = Str.ofString "key") = False := eq_false (by decide)
@[simp] theorem ne_index_row : (Str.ofString "index" = Str.ofString "row") = False := eq_false (by decide)
@[simp] theorem ne_index_x : (Str.ofString "index" = Str.ofString "x") = False := eq_false (by decide)
@[simp] theorem ne_index_s : (Str.ofString "index" = Str.ofString "s") = False := eq_false (by decide)
@[simp] theorem ne_index_ix : (Str.ofString "index" = Str.ofString "ix") = False := eq_false (by decide)
@[simp] theorem ne_index_is : (Str.ofString "index" = Str.ofString "is") = False := eq_false (by decide)
@[simp] theorem ne_node_alone : (Str.ofString "node" = Str.ofString "alone") = False := eq_false (by decide)
@[simp] theorem ne_node_store : (Str.ofString "node" = Str.ofString "store") = False := eq_false (by decide)
@[simp] theorem ne_node_table : (Str.ofString "node" = Str.ofString "table") = False := eq_false (by decide)
@[simp] theorem ne_node_road : (Str.ofString "node" = Str.ofString "road") = False := eq_false (by decide)
@[simp] theorem ne_node_rows : (Str.ofString "node" = Str.ofString "rows") = False := eq_false (by decide)
@[simp] theorem ne_node_summary : (Str.ofString "node" = Str.ofString "summary") = False := eq_false (by decide)
@[simp] theorem ne_node_index : (Str.ofString "node" = Str.ofString "index") = False := eq_false (by decide)
@[simp] theorem ne_node_none : (Str.ofString "node" = Str.ofString "none") = False := eq_false (by decide)
@[simp] theorem ne_node_key : (Str.ofString "node" = Str.ofString "key") = False := eq_false (by decide)
@[simp] theorem ne_node_row : (Str.ofString "node" = Str.ofString "row") = False := eq_false (by decide)
@[simp] theorem ne_node_x : (Str.ofString "node" = Str.ofString "x") = False := eq_false (by decide)
@[simp] theorem ne_node_s : (Str.ofString "node" = Str.ofString "s") = False := eq_false (by decide)
@[simp] theorem ne_node_ix : (Str.ofString "node" = Str.ofString "ix") = False := eq_false (by decide)
@[simp] theorem ne_node_is : (Str.ofString "node" = Str.ofString "is") = False := eq_false (by decide)
@[simp] theorem ne_none_alone : (Str.ofString "none" = Str.ofString "alone") = False := eq_false (by decide)
@[simp] theorem ne_none_store : (Str.ofString "none" = Str.ofString "store") = False := eq_false (by decide)
@[simp] theorem ne_none_table : (Str.ofString "none" = Str.ofString "table") = False := eq_false (by decide)
@[simp] theorem ne_none_road : (Str.ofString "none" = Str.ofString "road") = False := eq_false (by decide)
@[simp] theorem ne_none_rows : (Str.ofString "none" = Str.ofString "rows") = False := eq_false (by decide)
@[simp] theorem ne_none_summary : (Str.ofString "none" = Str.ofString "summary") = False := eq_false (by decide)
@[simp] theorem ne_none_index : (Str.ofString "none" = Str.ofString "index") = False := eq_false (by decide)
@[simp] theorem ne_none_node : (Str.ofString "none" = Str.ofString "node") = False := eq_false (by decide)
@[simp] theorem ne_none_key : (Str.ofString "none" = Str.ofString "key") = False := eq_false (by decide)
@[simp] theorem ne_none_row : (Str.ofString "none" = Str.ofString "row") = False := eq_false (by decide)
@[simp] theorem ne_none_x : (Str.ofString "none" = Str.ofString "x") = False := eq_false (by decide)
@[simp] theorem ne_none_s : (Str.ofString "none" = Str.ofString "s") = False := eq_false (by decide)
@[simp] theorem ne_none_ix : (Str.ofString "none" = Str.ofString "ix") = False := eq_false (by decide)
@[simp] theorem ne_none_is : (Str.ofString "none" = Str.ofString "is") = False := eq_false (by decide)
@[simp] theorem ne_key_alone : (Str.ofString "key" = Str.ofString "alone") = False := eq_false (by decide)
@[simp] theorem ne_key_store : (Str.ofString "key" = Str.ofString "store") = False := eq_false (by decide)
@[simp] theorem ne_key_table : (Str.ofString "key" = Str.ofString "table") = False := eq_false (by decide)
@[simp] theorem ne_key_road : (Str.ofString "key" = Str.ofString "road") = False := eq_false (by decide)
@[simp] theorem ne_key_rows : (Str.ofString "key" = Str.ofString "rows") = False := eq_false (by decide)
@[simp] theorem ne_key_summary : (Str.ofString "key" = Str.ofString "summary") = False := eq_false (by decide)
@[simp] theorem ne_key_index : (Str.ofString "key" = Str.ofString "index") = False := eq_false (by decide)
@[simp] theorem ne_key_node : (Str.ofString "key" = Str.ofString "node") = False := eq_false (by decide)
@[simp] theorem ne_key_none : (Str.ofString "key" = Str.ofString "none") = False := eq_false (by decide)
@[simp] theorem ne_key_row : (Str.ofString "key" = Str.ofString "row") = False := eq_false (by decide)
@[simp] theorem ne_key_x : (Str.ofString "key" = Str.ofString "x") = False := eq_false (by decide)
@[simp] theorem ne_key_s : (Str.ofString "key" = Str.ofString "s") = False := eq_false (by decide)
@[simp] theorem ne_key_ix : (Str.ofString "key" = Str.ofString "ix") = False := eq_false (by decide)
@[simp] theorem ne_key_is : (Str.ofString "key" = Str.ofString "is") = False := eq_false (by decide)
@[simp] theorem ne_row_alone : (Str.ofString "row" = Str.ofString "alone") = False := eq_false (by decide)
@[simp] theorem ne_row_store : (Str.ofString "row" = Str.ofString "store") = False := eq_false (by decide)
@[simp] theorem ne_row_table : (Str.ofString "row" = Str.ofString "table") = False := eq_false (by decide)
@[simp] theorem ne_row_road : (Str.ofString "row" = Str.ofString "road") = False := eq_false (by decide)
@[simp] theorem ne_row_rows : (Str.ofString "row" = Str.ofString "rows") = False := eq_false (by decide)
@[simp] theorem ne_row_summary : (Str.ofString "row" = Str.ofString "summary") = False := eq_false (by decide)
@[simp] theorem ne_row_index : (Str.ofString "row" = Str.ofString "index") = False := eq_false (by decide)
@[simp] theorem ne_row_node : (Str.ofString "row" = Str.ofString "node") = False := eq_false (by decide)
@[simp] theorem ne_row_none : (Str.ofString "row" = Str.ofString "none") = False := eq_false (by decide)
@[simp] theorem ne_row_key : (Str.ofString "row" = Str.ofString "key") = False := eq_false (by decide)
@[simp] theorem ne_row_x : (Str.ofString "row" = Str.ofString "x") = False := eq_false (by decide)
@[simp] theorem ne_row_s : (Str.ofString "row" = Str.ofString "s") = False := eq_false (by decide)
@[simp] theorem ne_row_ix : (Str.ofString "row" = Str.ofString "ix") = False := eq_false (by decide)
@[simp] theorem ne_row_is : (Str.ofString "row" = Str.ofString "is") = False := eq_false (by decide)
@[simp] theorem ne_x_alone : (Str.ofString "x" = Str.ofString "alone") = False := eq_false (by decide)
@[simp] theorem ne_x_store : (Str.ofString "x" = Str.ofString "store") = False := eq_false (by decide)
@[simp] theorem ne_x_table : (Str.ofString "x" = Str.ofString "table") = False := eq_false (by decide)
@[simp] theorem ne_x_road : (Str.ofString "x" = Str.ofString "road") = False := eq_false (by decide)
@[simp] theorem ne_x_rows : (Str.ofString "x" = Str.ofString "rows") = False := eq_false (by decide)
@[simp] theorem ne_x_summary : (Str.ofString "x" = Str.ofString "summary") = False := eq_false (by decide)
@[simp] theorem ne_x_index : (Str.ofString "x" = Str.ofString "index") = False := eq_false (by decide)
@[simp] theorem ne_x_node : (Str.ofString "x" = Str.ofString "node") = False := eq_false (by decide)
@[simp] theorem ne_x_none : (Str.ofString "x" = Str.ofString "none") = False := eq_false (by decide)
@[simp] theorem ne_x_key : (Str.ofString "x" = Str.ofString "key") = False := eq_false (by decide)
@[simp] theorem ne_x_row : (Str.ofString "x" = Str.ofString "row") = False := eq_false (by decide)
@[simp] theorem ne_x_s : (Str.ofString "x" = Str.ofString "s") = False := eq_false (by decide)
@[simp] theorem ne_x_ix : (Str.ofString "x" = Str.ofString "ix") = False := eq_false (by decide)
@[simp] theorem ne_x_is : (Str.ofString "x" = Str.ofString "is") = False := eq_false (by decide)
@[simp] theorem ne_s_alone : (Str.ofString "s" = Str.ofString "alone") = False := eq_false (by decide)
@[simp] theorem ne_s_store : (Str.ofString "s" = Str.ofString "store") = False := eq_false (by decide)
@[simp] theorem ne_s_table : (Str.ofString "s" = Str.ofString "table") = False := eq_false (by decide)
@[simp] theorem ne_s_road : (Str.ofString "s" = Str.ofString "road") = False := eq_false (by decide)
@[simp] theorem ne_s_rows : (Str.ofString "s" = Str.ofString "rows") = False := eq_false (by decide)
@[simp] theorem ne_s_summary : (Str.ofString "s" = Str.ofString "summary") = False := eq_false (by decide)
@[simp] theorem ne_s_index : (Str.ofString "s" = Str.ofString "index") = False := eq_false (by decide)
@[simp] theorem ne_s_node : (Str.ofString "s" = Str.ofString "node") = False := eq_false (by decide)
@[simp] theorem ne_s_none : (Str.ofString "s" = Str.ofString "none") = False := eq_false (by decide)
@[simp] theorem ne_s_key : (Str.ofString "s" = Str.ofString "key") = False := eq_false (by decide)
@[simp] theorem ne_s_row : (Str.ofString "s" = Str.ofString "row") = False := eq_false (by decide)
@[simp] theorem ne_s_x : (Str.ofString "s" = Str.ofString "x") = False := eq_false (by decide)
@[simp] theorem ne_s_ix : (Str.ofString "s" = Str.ofString "ix") = False := eq_false (by decide)
@[simp] theorem ne_s_is : (Str.ofString "s" = Str.ofString "is") = False := eq_false (by decide)
@[simp] theorem ne_ix_alone : (Str.ofString "ix" = Str.ofString "alone") = False := eq_false (by decide)
@[simp] theorem ne_ix_store : (Str.ofString "ix" = Str.ofString "store") = False := eq_false (by decide)
@[simp] theorem ne_ix_table : (Str.ofString "ix" = Str.ofString "table") = False := eq_false (by decide)
@[simp] theorem ne_ix_road : (Str.ofString "ix" = Str.ofString "road") = False := eq_false (by decide)
@[simp] theorem ne_ix_rows : (Str.ofString "ix" = Str.ofString "rows") = False := eq_false (by decide)
@[simp] theorem ne_ix_summary : (Str.ofString "ix" = Str.ofString "summary") = False := eq_false (by decide)
@[simp] theorem ne_ix_index : (Str.ofString "ix" = Str.ofString "index") = False := eq_false (by decide)
@[simp] theorem ne_ix_node : (Str.ofString "ix" = Str.ofString "node") = False := eq_false (by decide)
@[simp] theorem ne_ix_none : (Str.ofString "ix" = Str.ofString "none") = False := eq_false (by decide)
@[simp] theorem ne_ix_key : (Str.ofString "ix" = Str.ofString "key") = False := eq_false (by decide)
@[simp] theorem ne_ix_row : (Str.ofString "ix" = Str.ofString "row") = False := eq_false (by decide)
@[simp] theorem ne_ix_x : (Str.ofString "ix" = Str.ofString "x") = False := eq_false (by decide)
@[simp] theorem ne_ix_s : (Str.ofString "ix" = Str.ofString "s") = False := eq_false (by decide)
@[simp] theorem ne_ix_is : (Str.ofString "ix" = Str.ofString "is") = False := eq_false (by decide)
@[simp] theorem ne_is_alone : (Str.ofString "is" = Str.ofString "alone") = False := eq_false (by decide)
@[simp] theorem ne_is_store : (Str.ofString "is" = Str.ofString "store") = False := eq_false (by decide)
@[simp] theorem ne_is_table : (Str.ofString "is" = Str.ofString "table") = False := eq_false (by decide)
@[simp] theorem ne_is_road : (Str.ofString "is" = Str.ofString "road") = False := eq_false (by decide)
@[simp] theorem ne_is_rows : (Str.ofString "is" = Str.ofString "rows") = False := eq_false (by decide)
@[simp] theorem ne_is_summary : (Str.ofString "is" = Str.ofString "summary") = False := eq_false (by decide)
@[simp] theorem ne_is_index : (Str.ofString "is" = Str.ofString "index") = False := eq_false (by decide)
@[simp] theorem ne_is_node : (Str.ofString "is" = Str.ofString "node") = False := eq_false (by decide)
@[simp] theorem ne_is_none : (Str.ofString "is" = Str.ofString "none") = False := eq_false (by decide)
@[simp] theorem ne_is_key : (Str.ofString "is" = Str.ofString "key") = False := eq_false (by decide)
@[simp] theorem ne_is_row : (Str.ofString "is" = Str.ofString "row") = False := eq_false (by decide)
@[simp] theorem ne_is_x : (Str.ofString "is" = Str.ofString "x") = False := eq_false (by decide)
@[simp] theorem ne_is_s : (Str.ofString "is" = Str.ofString "s") = False := eq_false (by decide)
@[simp] theorem ne_is_ix : (Str.ofString "is" = Str.ofString "ix") = False := eq_false (by decide)
end K24

end
section
set_option Elab.async false
set_option linter.all false
set_option maxRecDepth 100000
set_option maxHeartbeats 4000000
namespace K24
open PySem PySem.Spec PyProof.Rows L2 Fu
theorem lock_book_spec {S : AS} {x0 x1 x2 x3 x4 x5 x6 x7 : PV} (h : Wds x0 x1 x2 x3 x4 x5 x6 x7) : F_lock_book [.lst [x0, x1, x2, x3, x4, x5, x6, x7]] S = .ok (.ref S.length) (S ++ [bookO x0 x1 x2 x3 x4 x5 x6 x7]) := by
  obtain ⟨v, S', e, rfl, rfl⟩ := init_spec (S := S) h
  have a7 : atI [x0, x1, x2, x3, x4, x5, x6, x7] 7 = some x7 := by
    rw [show (7 : Int) = (7 : Nat) by rfl, at_nat]
    rfl
  unfold F_lock_book fnOf b_lock_book mkF
  simp [a7, e]
theorem box_spec (ns : List Int) : F_box [.lst (ns.map .int)] [] = .ok (.ref 0) [boxO ns 0 0 0 0] := by
  unfold F_box fnOf b_box
  simp [items, boxO]
theorem rowComp {i : Nat} {ps : List PV} {m : Str} {η : Sls} {S : AS} (hi : i < η.length) (hl : ps.length ≤ 1000000) : compL (nameX i) yesT (tupF (consA (tupF (consA (cF (.str "row")) (consA (varF i) nilA))) (consA (cF (.str m)) nilA))) ps [] η S = .ok (ps.map fun p => .tup [.tup [.str "row", p], .str m]) S := by
  have := compL_map (g := nameX i) (t := yesT) (e := tupF (consA (tupF (consA (cF (.str "row")) (consA (varF i) nilA))) (consA (cF (.str m)) nilA))) (η := η) (S := S) (fun _ => true) (fun p => .tup [.tup [.str "row", p], .str m]) ps [] (fun p _ => ⟨_, e_nameX, rfl, fun _ => by simp [hi]⟩) (by simpa using hl)
  rw [this, List.filter_eq_self.mpr (fun _ _ => rfl), List.nil_append]
theorem pairComp {i : Nat} {ps : List PV} {m : Str} {η : Sls} {S : AS} (hi : i < η.length) (hl : ps.length ≤ 1000000) : compL (nameX i) yesT (tupF (consA (varF i) (consA (cF (.str m)) nilA))) ps [] η S = .ok (ps.map fun p => .tup [p, .str m]) S := by
  have := compL_map (g := nameX i) (t := yesT) (e := tupF (consA (varF i) (consA (cF (.str m)) nilA))) (η := η) (S := S) (fun _ => true) (fun p => .tup [p, .str m]) ps [] (fun p _ => ⟨_, e_nameX, rfl, fun _ => by simp [hi]⟩) (by simpa using hl)
  rw [this, List.filter_eq_self.mpr (fun _ _ => rfl), List.nil_append]
def stN (m : Str) : PV := .tup [.tup [.str "store"], .str m]
def stK (m : Str) : PV := .tup [.ktu [.str "store"], .str m]
def tbN (t m : Str) : PV := .tup [.tup [.str "table", .str t], .str m]
def rdN (r : PV) (m : Str) : PV := .tup [r, .str m]
def rowN (p : PV) (m : Str) : PV := .tup [.tup [.str "row", p], .str m]
/-- a road: its kind, its name -/
def Rd (road : PV) (k : Str) : Prop := (road = .tup [.str "table"] ∧ k = "table") ∨ ∃ z, Gs z ∧ ((road = .tup [.str "index", .str z] ∧ k = "index") ∨ (road = .tup [.str "summary", .str z] ∧ k = "summary"))
theorem cut2 {xs : List PV} (h : xs.length ≤ 2) : cut xs none (some 2) = xs := by
  match xs, h with
  | [], _ => rfl
  | [_], _ => rfl
  | [_, _], _ => rfl
def dueR (w0 w4 t : Str) (k : Str) (road : PV) (nums : List PV) : List PV :=
  if w0 = "alone" then [stN "x"] else if w0 = "store" then [stN "s"] else if k = "summary" then [stN "is", tbN t "is"] ++ (if w4 = "node" then [rdN road "s"] else [])
  else if w0 = "table" ∨ (w0 = "road" ∧ k = "table") then [stN "is", tbN t "s"] else if w0 = "road" then [stN "is", tbN t "is", rdN road "s"]
  else [stN "is", tbN t "is"] ++ (if k = "index" then [rdN road "is"] else []) ++ nums.map fun p => rowN p "s"
theorem due_read_spec {x0 x1 x2 x3 x4 x5 x6 x7 : PV} {t k : Str} {road : PV} {nums : List PV} {S : AS} (w0 w4 : Str) (h0 : x0 = .str w0) (h4 : x4 = .str w4) (m0 : x0 ∈ M0) (m4 : x4 ∈ M4) (hr : Rd road k) (hl : nums.length ≤ 3) :
    F_due_read [.lst [x0, x1, x2, x3, x4, x5, x6, x7], .str t, road, .lst nums] S = .ok (.lst (dueR w0 w4 t k road nums)) S := by
  subst h0
  subst h4
  simp at m0 m4
  have hn : nums.length ≤ 1000000 := by omega
  have hn2 : 2 + nums.length ≤ 1000000 := by omega
  have hn3 : 3 + nums.length ≤ 1000000 := by omega
  have a4 : ∀ y, atI [PV.str w0, x1, x2, x3, y, x5, x6, x7] 4 = some y := fun y => by
    rw [show (4 : Int) = (4 : Nat) by rfl, at_nat]
    rfl
  unfold F_due_read fnOf b_due_read
  rcases hr with ⟨rfl, rfl⟩ | ⟨z, _, ⟨rfl, rfl⟩ | ⟨rfl, rfl⟩⟩
  · rcases m0 with rfl | rfl | rfl | rfl | rfl <;> simp [dueR, stN, tbN, rdN, rowN, witems, wipeS, rowComp, hn, hn2, hn3]
  · rcases m0 with rfl | rfl | rfl | rfl | rfl <;> simp [dueR, stN, tbN, rdN, rowN, witems, wipeS, rowComp, hn, hn2, hn3]
  · rcases m4 with rfl | rfl <;> rcases m0 with rfl | rfl | rfl | rfl | rfl <;> simp [dueR, stN, tbN, rdN, rowN, witems, wipeS, rowComp, hn, hn2, hn3, a4]
def toldR (w0 w4 t : Str) (k : Str) (road : PV) (nums : List PV) : List PV :=
  if w0 = "alone" then [stK "x"] else if w0 = "store" then [stK "s"] else if k = "summary" then [stK "is", tbN t "is"] ++ (if w4 = "node" then [rdN road "s"] else [])
  else if w0 = "table" ∨ (w0 = "road" ∧ k = "table") then [stK "is", tbN t "s"] else if w0 = "road" then [stK "is", tbN t "is", rdN road "s"]
  else [stK "is", tbN t "is"] ++ (if k = "index" then [rdN road "is"] else []) ++ nums.map fun p => rowN p "s"
theorem book_flds {n : Nat} {S : AS} {x0 x1 x2 x3 x4 x5 x6 x7 : PV} (h : S[n]? = some (bookO x0 x1 x2 x3 x4 x5 x6 x7)) : fldG "LockBook" "read" (.ref n) S = .ok x0 S ∧ fldG "LockBook" "write" (.ref n) S = .ok x1 S ∧ fldG "LockBook" "checks" (.ref n) S = .ok x3 S ∧ fldG "LockBook" "kept" (.ref n) S = .ok x4 S :=
  ⟨fld_at h rfl, fld_at h rfl, fld_at h rfl, fld_at h rfl⟩
theorem read_needs_spec {x0 x1 x2 x3 x4 x5 x6 x7 : PV} {t k : Str} {road : PV} {nums : List PV} {n : Nat} {S : AS} (w0 w4 : Str) (h0 : x0 = .str w0) (h4 : x4 = .str w4) (m0 : x0 ∈ M0) (m4 : x4 ∈ M4) (hr : Rd road k) (hl : nums.length ≤ 3) (hB : S[n]? = some (bookO x0 x1 x2 x3 x4 x5 x6 x7)) :
    F_read_needs [.ref n, .str t, road, .lst nums] S = .ok (.ref S.length) (S ++ [some (.lst (toldR w0 w4 t k road nums))]) := by
  subst h0
  subst h4
  obtain ⟨f0, _, _, f4⟩ := book_flds hB
  simp at m0 m4
  have hn : nums.length ≤ 1000000 := by omega
  have hn2 : 2 + nums.length ≤ 1000000 := by omega
  have hn3 : 3 + nums.length ≤ 1000000 := by omega
  have hn4 : 1 + nums.length ≤ 1000000 := by omega
  have hn5 : 1 + (nums.length + 1) ≤ 1000000 := by omega
  have hn6 : 1 + (nums.length + 1 + 1) ≤ 1000000 := by omega
  have hs : ∀ xs : List PV, xs.length ≤ 2 → slG (.tup xs) none (some 2) S = .ok (.tup xs) S := fun xs h => by
    unfold slG
    dsimp only
    rw [cut2 h]
  unfold F_read_needs fnOf b_read_needs
  rcases hr with ⟨rfl, rfl⟩ | ⟨z, _, ⟨rfl, rfl⟩ | ⟨rfl, rfl⟩⟩
  · rcases m0 with rfl | rfl | rfl | rfl | rfl <;> simp [F_road_needs, fnOf, b_road_needs, f0, f4, hs, toldR, stK, tbN, rdN, rowN, witems, wipeS, rowComp, hn, hn2, hn3, hn4, hn5, hn6]
  · rcases m0 with rfl | rfl | rfl | rfl | rfl <;> simp [F_road_needs, fnOf, b_road_needs, f0, f4, hs, toldR, stK, tbN, rdN, rowN, witems, wipeS, rowComp, hn, hn2, hn3, hn4, hn5, hn6]
  · rcases m4 with rfl | rfl <;> rcases m0 with rfl | rfl | rfl | rfl | rfl <;> simp [F_road_needs, fnOf, b_road_needs, f0, f4, hs, toldR, stK, tbN, rdN, rowN, witems, wipeS, rowComp, hn, hn2, hn3, hn4, hn5, hn6]
end K24

end
section
set_option Elab.async false
set_option linter.all false
set_option maxRecDepth 100000
set_option maxHeartbeats 4000000
namespace K24
open PySem PySem.Spec PyProof.Rows L2 Fu
def dueW (w1 w3 t : Str) (num : PV) (nodes keys : List PV) : List PV :=
  if w1 = "store" then [stN "x"] else if w1 = "table" then [stN "ix", tbN t "x"]
  else [stN "ix", tbN t "ix"] ++ (nodes.map (fun p => rdN p "ix")) ++ [rowN num "x"] ++ (if w3 = "key" then keys.map (fun p => rdN p "x") else [])
def toldW (w1 w3 t : Str) (num : PV) (nodes keys : List PV) : List PV :=
  if w1 = "store" then [stK "x"] else if w1 = "table" then [stK "ix", tbN t "x"]
  else [stK "ix", tbN t "ix"] ++ (nodes.map (fun p => rdN p "ix")) ++ [rowN num "x"] ++ (if w3 = "key" then keys.map (fun p => rdN p "x") else [])
theorem due_write_spec {x0 x1 x2 x3 x4 x5 x6 x7 : PV} {t : Str} {num : PV} {nodes keys : List PV} {S : AS} (w1 w3 : Str) (h1 : x1 = .str w1) (h3 : x3 = .str w3) (m1 : x1 ∈ M1) (m3 : x3 ∈ M3) (hl : nodes.length ≤ 3) (hk : keys.length ≤ 3) :
    F_due_write [.lst [x0, x1, x2, x3, x4, x5, x6, x7], .str t, num, .lst nodes, .lst keys] S = .ok (.lst (dueW w1 w3 t num nodes keys)) S := by
  subst h1
  subst h3
  simp at m1 m3
  have c1 : nodes.length ≤ 1000000 := by omega
  have c2 : keys.length ≤ 1000000 := by omega
  have c3 : 2 + nodes.length ≤ 1000000 := by omega
  have c4 : nodes.length + 1 + 1 < 1000000 := by omega
  have c5 : nodes.length + 1 + 1 + 1 + keys.length ≤ 1000000 := by omega
  unfold F_due_write fnOf b_due_write
  rcases m1 with rfl | rfl | rfl
  · rcases m3 with rfl | rfl <;> simp [dueW, stN, tbN, rdN, rowN, witems, wipeS, pairComp, c1, c2, c3, c4, c5]
  · simp [dueW, stN, tbN, rdN, rowN]
  · simp [dueW, stN, tbN, rdN, rowN]
theorem write_needs_spec {x0 x1 x2 x3 x4 x5 x6 x7 : PV} {t : Str} {num : PV} {nodes keys : List PV} {n : Nat} {S : AS} (w1 w3 : Str) (h1 : x1 = .str w1) (h3 : x3 = .str w3) (m1 : x1 ∈ M1) (m3 : x3 ∈ M3) (hl : nodes.length ≤ 3) (hk : keys.length ≤ 3) (hB : S[n]? = some (bookO x0 x1 x2 x3 x4 x5 x6 x7)) :
    F_write_needs [.ref n, .str t, num, .lst nodes, .lst keys] S = .ok (.ref S.length) (S ++ [some (.lst (toldW w1 w3 t num nodes keys))]) := by
  subst h1
  subst h3
  obtain ⟨_, f1, f3, _⟩ := book_flds hB
  simp at m1 m3
  have c1 : nodes.length ≤ 1000000 := by omega
  have c2 : keys.length ≤ 1000000 := by omega
  have c3 : 2 + nodes.length ≤ 1000000 := by omega
  have c4 : nodes.length + 1 + 1 + 1 ≤ 1000000 := by omega
  have c5 : nodes.length + 1 + 1 + 1 + keys.length ≤ 1000000 := by omega
  unfold F_write_needs fnOf b_write_needs
  rcases m1 with rfl | rfl | rfl
  · rcases m3 with rfl | rfl <;> simp [f1, f3, toldW, stK, tbN, rdN, rowN, witems, wipeS, pairComp, c1, c2, c3, c4, c5]
  · simp [f1, f3, toldW, stK, tbN, rdN, rowN]
  · simp [f1, f3, toldW, stK, tbN, rdN, rowN]
/-! ### what is told is what is due -/
theorem alk_kp {k : Nat} {x : PV} (h : Kp x) : alk (k + 1) x x = true := by
  rcases h with ⟨i, rfl⟩ | ⟨z, rfl, _⟩ <;> simp [alk]
theorem alk_nd {k : Nat} {x : PV} (h : Nd x) : alk (k + 2) x x = true := by
  obtain ⟨xs, rfl, hl, h⟩ := h
  have := alks_of (f := alk (k + 1)) (xs := xs) fun x hx => alk_kp (h x hx)
  show (alks (alk (k + 1)) xs xs && decide (xs.length < 1000000)) = true
  rw [this, decide_eq_true (by omega)]
  rfl
theorem alk_ne {k : Nat} {x : PV} (h : Ne x) : alk (k + 3) x x = true := by
  obtain ⟨n, m, rfl, hn, hm⟩ := h
  have e1 : alk (k + 2) n n = true := alk_nd hn
  have e2 : alk (k + 2) m m = true := alk_kp (k := k + 1) (.inr (by rcases hm with rfl | rfl | rfl | rfl <;> exact tx_w (by decide +kernel)))
  show ((alk (k + 2) n n && (alk (k + 2) m m && true)) && decide (2 < 1000000)) = true
  rw [e1, e2]
  rfl
theorem alk_st {m : Str} : alk 5 (stK m) (stN m) = true := by
  simp [stK, stN, alk, alks]
theorem ne_st {m : Str} (h : Md (.str m)) : Ne (stN m) := ⟨_, _, rfl, nd_of (by simp) (by simp; exact .inr (tx_w (by decide +kernel))), h⟩
theorem ne_tb {t m : Str} (g : Gs t) (h : Md (.str m)) : Ne (tbN t m) := ⟨_, _, rfl, nd_of (by simp) (by simp; exact ⟨.inr (tx_w (by decide +kernel)), .inr ⟨_, rfl, g⟩⟩), h⟩
theorem ne_rd {r : PV} {m : Str} (g : Nd r) (h : Md (.str m)) : Ne (rdN r m) := ⟨_, _, rfl, g, h⟩
theorem ne_row {p : PV} {m : Str} (g : ∃ i, p = .int i) (h : Md (.str m)) : Ne (rowN p m) := ⟨_, _, rfl, nd_of (by simp) (by simp; exact ⟨.inr (tx_w (by decide +kernel)), .inl g⟩), h⟩
theorem nd_rd {road : PV} {k : Str} (h : Rd road k) : Nd road := by
  rcases h with ⟨rfl, _⟩ | ⟨z, gz, ⟨rfl, _⟩ | ⟨rfl, _⟩⟩
  · exact nd_of (by simp) (by simp; exact .inr (tx_w (by decide +kernel)))
  · exact nd_of (by simp) (by simp; exact ⟨.inr (tx_w (by decide +kernel)), .inr ⟨_, rfl, gz⟩⟩)
  · exact nd_of (by simp) (by simp; exact ⟨.inr (tx_w (by decide +kernel)), .inr ⟨_, rfl, gz⟩⟩)
theorem mx : Md (.str "x") := .inl rfl
theorem ms : Md (.str "s") := .inr (.inl rfl)
theorem mix : Md (.str "ix") := .inr (.inr (.inl rfl))
theorem mis : Md (.str "is") := .inr (.inr (.inr rfl))
def Same (told due : List PV) : Prop := alks (alk 5) told due = true ∧ (∀ x ∈ due, Ne x) ∧ due.length ≤ 100
theorem same_of {m : Str} {r : List PV} (hm : Md (.str m)) (h : ∀ x ∈ r, Ne x) (hl : r.length ≤ 99) : Same (stK m :: r) (stN m :: r) := by
  refine ⟨?_, fun x hx => ?_, by simp; omega⟩
  · show (alk 5 (stK m) (stN m) && alks (alk 5) r r) = true
    rw [alk_st, alks_of fun x hx => alk_ne (k := 2) (h x hx)]
    rfl
  · rcases List.mem_cons.mp hx with rfl | hx
    · exact ne_st hm
    · exact h x hx
theorem sameR {w0 w4 t k : Str} {road : PV} {nums : List PV} (hr : Rd road k) (gt : Gs t) (hi : ∀ p ∈ nums, ∃ i, p = .int i) (hl : nums.length ≤ 3) : Same (toldR w0 w4 t k road nums) (dueR w0 w4 t k road nums) := by
  have nr := nd_rd hr
  have rows : ∀ x ∈ nums.map fun p => rowN p "s", Ne x := fun x hx => by
    obtain ⟨p, hp, rfl⟩ := List.mem_map.mp hx
    exact ne_row (hi p hp) ms
  unfold toldR dueR
  by_cases h1 : w0 = "alone"
  · simp only [if_pos h1]
    exact same_of mx (by simp) (by simp)
  simp only [if_neg h1]
  by_cases h2 : w0 = "store"
  · simp only [if_pos h2]
    exact same_of ms (by simp) (by simp)
  simp only [if_neg h2]
  by_cases h3 : k = "summary"
  · simp only [if_pos h3]
    by_cases h4 : w4 = "node"
    · simp only [if_pos h4]
      exact same_of (r := [tbN t "is", rdN road "s"]) mis (by simp; exact ⟨ne_tb gt mis, ne_rd nr ms⟩) (by simp)
    · simp only [if_neg h4]
      exact same_of (r := [tbN t "is"]) mis (by simp; exact ne_tb gt mis) (by simp)
  simp only [if_neg h3]
  by_cases h4 : w0 = "table" ∨ (w0 = "road" ∧ k = "table")
  · simp only [if_pos h4]
    exact same_of (r := [tbN t "s"]) mis (by simp; exact ne_tb gt ms) (by simp)
  simp only [if_neg h4]
  by_cases h5 : w0 = "road"
  · simp only [if_pos h5]
    exact same_of (r := [tbN t "is", rdN road "s"]) mis (by simp; exact ⟨ne_tb gt mis, ne_rd nr ms⟩) (by simp)
  simp only [if_neg h5]
  by_cases h6 : k = "index"
  · simp only [if_pos h6]
    refine same_of (r := tbN t "is" :: rdN road "is" :: nums.map fun p => rowN p "s") mis (fun x hx => ?_) (by simp; omega)
    rcases List.mem_cons.mp hx with rfl | hx
    · exact ne_tb gt mis
    · rcases List.mem_cons.mp hx with rfl | hx
      · exact ne_rd nr mis
      · exact rows x hx
  · simp only [if_neg h6]
    refine same_of (r := tbN t "is" :: nums.map fun p => rowN p "s") mis (fun x hx => ?_) (by simp; omega)
    rcases List.mem_cons.mp hx with rfl | hx
    · exact ne_tb gt mis
    · exact rows x hx
theorem sameW {w1 w3 t : Str} {num : PV} {nodes keys : List PV} (gt : Gs t) (gn : ∃ i, num = .int i) (h1 : ∀ x ∈ nodes, Nd x) (h2 : ∀ x ∈ keys, Nd x) (l1 : nodes.length ≤ 3) (l2 : keys.length ≤ 3) : Same (toldW w1 w3 t num nodes keys) (dueW w1 w3 t num nodes keys) := by
  have a1 : ∀ x ∈ nodes.map fun p => rdN p "ix", Ne x := fun x hx => by
    obtain ⟨p, hp, rfl⟩ := List.mem_map.mp hx
    exact ne_rd (h1 p hp) mix
  have a2 : ∀ x ∈ keys.map fun p => rdN p "x", Ne x := fun x hx => by
    obtain ⟨p, hp, rfl⟩ := List.mem_map.mp hx
    exact ne_rd (h2 p hp) mx
  unfold toldW dueW
  by_cases q1 : w1 = "store"
  · simp only [if_pos q1]
    exact same_of mx (by simp) (by simp)
  simp only [if_neg q1]
  by_cases q2 : w1 = "table"
  · simp only [if_pos q2]
    exact same_of (r := [tbN t "x"]) mix (by simp; exact ne_tb gt mx) (by simp)
  simp only [if_neg q2]
  by_cases q3 : w3 = "key"
  · simp only [if_pos q3]
    refine same_of (r := ([tbN t "ix"] ++ nodes.map (fun p => rdN p "ix") ++ [rowN num "x"] ++ keys.map fun p => rdN p "x")) mix (fun x hx => ?_) (by simp; omega)
    simp only [List.mem_append, List.mem_singleton] at hx
    rcases hx with ((rfl | hx) | rfl) | hx
    · exact ne_tb gt mix
    · exact a1 x hx
    · exact ne_row gn mx
    · exact a2 x hx
  · simp only [if_neg q3]
    refine same_of (r := ([tbN t "ix"] ++ nodes.map (fun p => rdN p "ix") ++ [rowN num "x"] ++ [])) mix (fun x hx => ?_) (by simp; omega)
    simp only [List.append_nil, List.mem_append, List.mem_singleton] at hx
    rcases hx with (rfl | hx) | rfl
    · exact ne_tb gt mix
    · exact a1 x hx
    · exact ne_row gn mx
end K24

end
section
set_option Elab.async false
set_option linter.all false
set_option maxRecDepth 100000
set_option maxHeartbeats 4000000
namespace K24
open PySem PySem.Spec PyProof.Rows L2 Fu
theorem trim_ext {f : Fn} {ps : List PV} {S E : AS} {v : PV} (e : f ps S = .ok v (S ++ E)) (hv : Fu.lt S.length v = true) : trim f ps S = .ok v S := by
  have := trim_ok e ⟨hv, by simp, fun m hm => .inl (List.getElem?_append_left hm)⟩
  rw [this]
  simp
theorem app_at {S : AS} {xs : List PV} {q : PV} (hl : xs.length < 1000000) : appG (.ref S.length) [q] (S ++ [some (.lst xs)]) = .ok .non (S ++ [some (.lst (xs ++ [q]))]) := by
  unfold appG
  dsimp only
  rw [cat_get]
  dsimp only
  rw [if_pos hl, cat_set]
theorem isl_at {S : AS} {xs : List PV} : isLst (.ref S.length) (S ++ [some (.lst xs)]) = true := by
  unfold isLst
  dsimp only
  rw [cat_get]
theorem get_ext {S E : AS} {n : Nat} {x : Option AO} (h : S[n]? = some x) : (S ++ E)[n]? = some x := by
  rw [List.getElem?_append_left (by exact (List.getElem?_eq_some_iff.mp h).1)]
  exact h
theorem same_len {a b : List PV} (h : Same a b) : a.length = b.length := alks_len h.1
theorem alike_told {S : AS} {told due : List PV} (h : Same told due) : F_alike 6 [.ref S.length, .lst due] (S ++ [some (.lst told)]) = .ok (.bl true) (S ++ [some (.lst told)]) :=
  alike_ref (k := 5) (cat_get S _) h.1 (by have := h.2.2; omega)
theorem alike_self {S : AS} {xs : List PV} (h : ∀ x ∈ xs, alk 5 x x = true) (hl : xs.length ≤ 100) : F_alike 6 [.lst xs, .lst xs] S = .ok (.bl true) S := by
  refine alike_ok 6 _ _ S ?_
  show (alks (alk 5) xs xs && decide (xs.length < 1000000)) = true
  rw [alks_of h, decide_eq_true (by omega)]
  rfl
theorem read_told_spec {x0 x1 x2 x3 x4 x5 x6 x7 : PV} {t k : Str} {road : PV} {nums : List PV} {n : Nat} {S : AS} (w : Wds x0 x1 x2 x3 x4 x5 x6 x7) (gt : Gs t) (hi : ∀ p ∈ nums, ∃ i, p = .int i) (hr : Rd road k) (hl : nums.length ≤ 3) (hB : S[n]? = some (bookO x0 x1 x2 x3 x4 x5 x6 x7)) :
    F_read_told [.ref n, .lst [x0, x1, x2, x3, x4, x5, x6, x7], .str t, road, .lst nums] S = .ok (.bl true) S := by
  obtain ⟨w0, h0⟩ : ∃ w : Str, x0 = .str w := by
    have m0 := w.m0
    simp at m0
    rcases m0 with rfl | rfl | rfl | rfl | rfl <;> exact ⟨_, rfl⟩
  obtain ⟨w4, h4⟩ : ∃ w : Str, x4 = .str w := by
    have m4 := w.m4
    simp at m4
    rcases m4 with rfl | rfl <;> exact ⟨_, rfl⟩
  have sm := sameR (w0 := w0) (w4 := w4) hr gt hi hl
  have d := fun S => due_read_spec (x1 := x1) (x2 := x2) (x3 := x3) (x5 := x5) (x6 := x6) (x7 := x7) (t := t) (S := S) w0 w4 h0 h4 w.m0 w.m4 hr hl
  have r := fun {S : AS} (hB : S[n]? = some (bookO x0 x1 x2 x3 x4 x5 x6 x7)) => read_needs_spec (t := t) w0 w4 h0 h4 w.m0 w.m4 hr hl hB
  have self : ∀ S, F_alike 6 [.lst nums, .lst nums] S = .ok (.bl true) S := fun S => alike_self (fun x hx => by obtain ⟨i, rfl⟩ := hi x hx; simp [alk]) (by omega)
  generalize dueR w0 w4 t k road nums = due at sm d
  generalize toldR w0 w4 t k road nums = told at sm r
  have main : ∃ v S', fnOf 7 b_read_told [.ref n, .lst [x0, x1, x2, x3, x4, x5, x6, x7], .str t, road, .lst nums] S = .ok v S' ∧ v = .bl true ∧ ∃ E, S' = S ++ E := by
    refine fn_of ?_
    unfold b_read_told
    generalize PV.lst [x0, x1, x2, x3, x4, x5, x6, x7] = ws at d
    refine seq_e1 [.val (.ref n), .val ws, .val (.str t), .val road, .val (.lst nums), .val (.lst nums), .no] S (by simp [items]) ?_
    refine seq_e1 [.val (.ref n), .val ws, .val (.str t), .val road, .val (.lst nums), .val (.lst nums), .val (.ref S.length)] (S ++ [some (.lst told)]) (by simp [r hB]) ?_
    refine seq_e1 [.val (.ref n), .val ws, .val (.str t), .val road, .val (.lst nums), .val (.lst nums), .val (.ref S.length)] (S ++ [some (.lst told)]) (by simp [d, alike_told sm, self]) ?_
    have ha := app_at (S := S) (xs := told) (q := .tup [.tup [.str "store"], .str "x"]) (by rw [same_len sm]; have := sm.2.2; omega)
    refine seq_e1 [.val (.ref n), .val ws, .val (.str t), .val road, .val (.lst nums), .val (.lst nums), .val (.ref S.length)] (S ++ [some (.lst (told ++ [.tup [.tup [.str "store"], .str "x"]]))]) (by simp [isl_at, ha]) ?_
    have r2 := r (S := S ++ [some (.lst (told ++ [.tup [.tup [.str "store"], .str "x"]]))]) (get_ext hB)
    have al2 := alike_told (S := S ++ [some (.lst (told ++ [.tup [.tup [.str "store"], .str "x"]]))]) sm
    generalize hS2 : S ++ [some (.lst (told ++ [.tup [.tup [.str "store"], .str "x"]]))] = S2 at r2 al2
    refine rt_e1 (.bl true) (S2 ++ [some (.lst told)]) (by simp [r2, d, al2]) ⟨rfl, _, by rw [← hS2, List.append_assoc]⟩
  obtain ⟨v, S', e, rfl, E, rfl⟩ := main
  exact trim_ext e rfl
theorem write_told_spec {x0 x1 x2 x3 x4 x5 x6 x7 : PV} {t : Str} {num : PV} {nodes keys : List PV} {n : Nat} {S : AS} (w : Wds x0 x1 x2 x3 x4 x5 x6 x7) (gt : Gs t) (gn : ∃ i, num = .int i) (h1 : ∀ x ∈ nodes, Nd x) (h2 : ∀ x ∈ keys, Nd x) (l1 : nodes.length ≤ 3) (l2 : keys.length ≤ 3) (hB : S[n]? = some (bookO x0 x1 x2 x3 x4 x5 x6 x7)) :
    F_write_told [.ref n, .lst [x0, x1, x2, x3, x4, x5, x6, x7], .str t, num, .lst nodes, .lst keys] S = .ok (.bl true) S := by
  obtain ⟨w1, e1⟩ : ∃ w : Str, x1 = .str w := by
    have m1 := w.m1
    simp at m1
    rcases m1 with rfl | rfl | rfl <;> exact ⟨_, rfl⟩
  obtain ⟨w3, e3⟩ : ∃ w : Str, x3 = .str w := by
    have m3 := w.m3
    simp at m3
    rcases m3 with rfl | rfl <;> exact ⟨_, rfl⟩
  have sm := sameW (w1 := w1) (w3 := w3) (nodes := nodes) (keys := keys) gt gn h1 h2 l1 l2
  have d := fun S => due_write_spec (x0 := x0) (x2 := x2) (x4 := x4) (x5 := x5) (x6 := x6) (x7 := x7) (t := t) (num := num) (S := S) w1 w3 e1 e3 w.m1 w.m3 l1 l2
  have r := fun {S : AS} (hB : S[n]? = some (bookO x0 x1 x2 x3 x4 x5 x6 x7)) => write_needs_spec (t := t) (num := num) w1 w3 e1 e3 w.m1 w.m3 l1 l2 hB
  have s1 : ∀ S, F_alike 6 [.lst nodes, .lst nodes] S = .ok (.bl true) S := fun S => alike_self (fun x hx => alk_nd (k := 3) (h1 x hx)) (by omega)
  have s2 : ∀ S, F_alike 6 [.lst keys, .lst keys] S = .ok (.bl true) S := fun S => alike_self (fun x hx => alk_nd (k := 3) (h2 x hx)) (by omega)
  generalize dueW w1 w3 t num nodes keys = due at sm d
  generalize toldW w1 w3 t num nodes keys = told at sm r
  have main : ∃ v S', fnOf 9 b_write_told [.ref n, .lst [x0, x1, x2, x3, x4, x5, x6, x7], .str t, num, .lst nodes, .lst keys] S = .ok v S' ∧ v = .bl true ∧ ∃ E, S' = S ++ E := by
    refine fn_of ?_
    unfold b_write_told
    generalize PV.lst [x0, x1, x2, x3, x4, x5, x6, x7] = ws at d
    refine seq_e1 [.val (.ref n), .val ws, .val (.str t), .val num, .val (.lst nodes), .val (.lst keys), .val (.lst nodes), .no, .no] S (by simp [items]) ?_
    refine seq_e1 [.val (.ref n), .val ws, .val (.str t), .val num, .val (.lst nodes), .val (.lst keys), .val (.lst nodes), .val (.lst keys), .no] S (by simp [items]) ?_
    refine seq_e1 [.val (.ref n), .val ws, .val (.str t), .val num, .val (.lst nodes), .val (.lst keys), .val (.lst nodes), .val (.lst keys), .val (.ref S.length)] (S ++ [some (.lst told)]) (by simp [r hB]) ?_
    refine seq_e1 [.val (.ref n), .val ws, .val (.str t), .val num, .val (.lst nodes), .val (.lst keys), .val (.lst nodes), .val (.lst keys), .val (.ref S.length)] (S ++ [some (.lst told)]) (by simp [d, alike_told sm]) ?_
    have ha := app_at (S := S) (xs := told) (q := .tup [.tup [.str "store"], .str "x"]) (by rw [same_len sm]; have := sm.2.2; omega)
    refine seq_e1 [.val (.ref n), .val ws, .val (.str t), .val num, .val (.lst nodes), .val (.lst keys), .val (.lst nodes), .val (.lst keys), .val (.ref S.length)] (S ++ [some (.lst (told ++ [.tup [.tup [.str "store"], .str "x"]]))]) (by simp [isl_at, ha]) ?_
    refine seq_e1 [.val (.ref n), .val ws, .val (.str t), .val num, .val (.lst nodes), .val (.lst keys), .val (.lst nodes), .val (.lst keys), .val (.ref S.length)] (S ++ [some (.lst (told ++ [.tup [.tup [.str "store"], .str "x"]]))]) (by simp [s1, s2]) ?_
    have r2 := r (S := S ++ [some (.lst (told ++ [.tup [.tup [.str "store"], .str "x"]]))]) (get_ext hB)
    have al2 := alike_told (S := S ++ [some (.lst (told ++ [.tup [.tup [.str "store"], .str "x"]]))]) sm
    generalize hS2 : S ++ [some (.lst (told ++ [.tup [.tup [.str "store"], .str "x"]]))] = S2 at r2 al2
    refine rt_e1 (.bl true) (S2 ++ [some (.lst told)]) (by simp [r2, d, al2]) ⟨rfl, _, by rw [← hS2, List.append_assoc]⟩
  obtain ⟨v, S', e, rfl, E, rfl⟩ := main
  exact trim_ext e rfl
end K24

end
section
set_option Elab.async false
set_option linter.all false
set_option maxRecDepth 100000
set_option maxHeartbeats 4000000
namespace Fu
open PySem PySem.Spec PyProof.Rows L2
/-- a loop that looks for one -/
theorem forL_any {g : FG} {b : FS} (J : Sls → AS → Prop) (Z : AS → Prop) (v : PV) (c : PV → Bool) : ∀ (ps : List PV) (η : Sls) (S : AS), J η S → (∀ p ∈ ps, ∀ η S, J η S → ∃ η1 S1, g p η S = .nx η1 S1 ∧ ((c p = true ∧ ∃ S2, b η1 S1 = .rt v S2 ∧ Z S2) ∨ (c p = false ∧ ∃ η2 S2, b η1 S1 = .nx η2 S2 ∧ J η2 S2))) →
    (ps.any c = true ∧ ∃ S', forL g b ps η S = .rt v S' ∧ Z S') ∨ (ps.any c = false ∧ ∃ η' S', forL g b ps η S = .nx η' S' ∧ J η' S')
  | [], η, S, h, _ => .inr ⟨rfl, η, S, rfl, h⟩
  | p :: ps, η, S, h, hs => by
    obtain ⟨η1, S1, e1, h1⟩ := hs p List.mem_cons_self η S h
    unfold forL
    rw [e1, List.any_cons]
    dsimp only [onlyNx]
    rcases h1 with ⟨hc, S2, e2, z⟩ | ⟨hc, η2, S2, e2, h2⟩
    · rw [e2, hc]
      exact .inl ⟨rfl, S2, rfl, z⟩
    · rw [e2, hc]
      rw [Bool.false_or]
      exact forL_any J Z v c ps η2 S2 h2 fun q hq => hs q (List.mem_cons_of_mem _ hq)
end Fu
namespace K24
open PySem PySem.Spec PyProof.Rows L2 Fu
def fitP (m o : PV) : Bool := match m, o with
  | .str a, .str b => if a = "x" ∨ b = "x" then false else decide (a = "is") || decide (b = "is") || decide (a = b)
  | _, _ => false
theorem fit_ok {m o : PV} {S : AS} (hm : Md m) (ho : Md o) : F_fit [m, o] S = .ok (.bl (fitP m o)) S := by
  rcases hm with rfl | rfl | rfl | rfl <;> rcases ho with rfl | rfl | rfl | rfl <;> rfl
theorem comp_ok {m o : PV} {S : AS} (hm : Md m) (ho : Md o) : F_compatible [m, o] S = .ok (.bl (fitP m o)) S := by
  rcases hm with rfl | rfl | rfl | rfl <;> rcases ho with rfl | rfl | rfl | rfl <;> rfl
theorem alike_bl {S : AS} {b : Bool} : F_alike 6 [.bl b, .bl b] S = .ok (.bl true) S := alike_ok 6 _ _ S (by simp [alk])
theorem modes_spec {S : AS} : F_modes [] S = .ok (.bl true) S := by
  have hm : ∀ (i : Nat) p, ([.str "is", .str "ix", .str "s", .str "x"] : List PV)[i]? = some p → Md p := fun i p h => by
    have := List.mem_of_getElem? h
    simp at this
    rcases this with rfl | rfl | rfl | rfl
    · exact mis
    · exact mix
    · exact ms
    · exact mx
  have main : ∃ v S', fnOf 2 b_modes [] S = .ok v S' ∧ v = .bl true ∧ S' = S := by
    refine fn_of ?_
    unfold b_modes
    refine seq_ex (for_items [.str "is", .str "ix", .str "s", .str "x"] (fun _ η S' => S' = S ∧ ∃ z0 z1, η = [z0, z1]) (S1 := S) (by simp [witems]) (fun i p η S' ep ⟨h1, z0, z1, h2⟩ => ?_) ⟨rfl, .no, .no, rfl⟩) ?_
    · subst h1
      subst h2
      refine ⟨[.val p, z1], S', rfl, ?_⟩
      obtain ⟨η', S2, e, rfl, z1, rfl⟩ := for_items (fi := anyI (valN (lstN (consA (cF (.str "is")) (consA (cF (.str "ix")) (consA (cF (.str "s")) (consA (cF (.str "x")) nilA))))))) (g := nameG 1) (b := ifS (notT (tstF (callN 2 (F_alike 6) (consA (callN 2 F_compatible (consA (varF 0) (consA (varF 1) nilA))) (consA (callN 2 F_fit (consA (varF 0) (consA (varF 1) nilA))) nilA)))))
            (retS (cF (.bl false)))
            nextS) (η := [.val p, z1]) (S := S') [.str "is", .str "ix", .str "s", .str "x"] (fun _ η S2 => S2 = S' ∧ ∃ z1, η = [.val p, z1]) (S1 := S') (by simp [witems]) (fun j q η S2 eq ⟨h1, z1, h2⟩ => by
          subst h1
          subst h2
          refine ⟨[.val p, .val q], S2, rfl, [.val p, .val q], S2, ?_, rfl, _, rfl⟩
          simp [comp_ok (hm i p ep) (hm j q eq), fit_ok (hm i p ep) (hm j q eq), alike_bl]) ⟨rfl, z1, rfl⟩
      exact ⟨_, _, e, rfl, _, _, rfl⟩
    · rintro η S' ⟨rfl, z0, z1, rfl⟩
      exact rt_e1 (.bl true) S' rfl ⟨rfl, rfl⟩
  obtain ⟨v, S', e, rfl, rfl⟩ := main
  exact e
/-! ### two needs of one node -/
def nodeK (p : PV) : Option (List Key) := match p with
  | .tup (n :: _) => tupKey n
  | _ => none
def modeP (p : PV) : PV := match p with
  | .tup [_, m] => m
  | _ => .non
def kp (k : Key) : PV := match k with
  | .inl i => .int i
  | .inr z => .str z
theorem kp_of {x : PV} (h : Kp x) : ∃ k, x = kp k ∧ keyOf x = some k ∧ isD x = true ∧ (toD x).canLay0 = true ∧ (toD x).depth = 0 := by
  rcases h with ⟨i, rfl⟩ | ⟨z, rfl, g⟩
  · exact ⟨.inl i, rfl, rfl, rfl, rfl, rfl⟩
  · refine ⟨.inr z, rfl, rfl, rfl, ?_, rfl⟩
    show PyData.strOk z = true
    unfold PyData.strOk
    rw [Array.all_eq_true]
    intro i hi
    exact decide_eq_true (g _ (by simp))
end K24

end
section
set_option Elab.async false
set_option linter.all false
set_option maxRecDepth 100000
set_option maxHeartbeats 4000000
namespace K24
open PySem PySem.Spec PyProof.Rows L2 Fu
theorem nd_keys : ∀ {xs : List PV}, (∀ x ∈ xs, Kp x) → ∃ ks : List Key, xs = ks.map kp ∧ keysOf xs = some ks ∧ isDs xs = true ∧ PyData.canLayAll0 (toDs xs) = true ∧ PyData.depthAll (toDs xs) = 0
  | [], _ => ⟨[], rfl, rfl, rfl, rfl, rfl⟩
  | x :: xs, h => by
    obtain ⟨k, e1, e2, e3, e4, e5⟩ := kp_of (h x List.mem_cons_self)
    obtain ⟨ks, f1, f2, f3, f4, f5⟩ := nd_keys (xs := xs) fun y hy => h y (List.mem_cons_of_mem _ hy)
    refine ⟨k :: ks, by rw [e1, f1]; rfl, ?_, ?_, ?_, ?_⟩
    · unfold keysOf
      rw [e2, f2]
    · unfold isDs
      rw [e3, f3]
      rfl
    · unfold toDs
      simp only [PyData.canLayAll0, e4, f4, Bool.and_self]
    · unfold toDs
      simp only [PyData.depthAll, e5, f5, Nat.max_self]
theorem eqv_kp {k l : Key} : PyData.eqv (toD (kp k)) (toD (kp l)) = decide (k = l) := by
  cases k with
  | inl i =>
    cases l with
    | inl j =>
      show (i == j) = _
      rw [Bool.eq_iff_iff]
      simp
    | inr z =>
      show false = _
      simp
  | inr z =>
    cases l with
    | inl j =>
      show false = _
      simp
    | inr y =>
      show (z == y) = _
      rw [Bool.eq_iff_iff]
      simp
theorem eqv_all : ∀ {ks ls : List Key}, PyData.eqvAll (toDs (ks.map kp)) (toDs (ls.map kp)) = decide (ks = ls)
  | [], [] => rfl
  | k :: ks, [] => by
    show false = _
    simp
  | [], l :: ls => by
    show false = _
    simp
  | k :: ks, l :: ls => by
    show (PyData.eqv (toD (kp k)) (toD (kp l)) && PyData.eqvAll (toDs (ks.map kp)) (toDs (ls.map kp))) = _
    rw [eqv_kp, eqv_all, Bool.eq_iff_iff]
    simp
theorem node_eq {a b : PV} (ha : Nd a) (hb : Nd b) : eqv a b = some (decide (tupKey a = tupKey b)) := by
  obtain ⟨xs, rfl, _, hx⟩ := ha
  obtain ⟨ys, rfl, _, hy⟩ := hb
  obtain ⟨ks, e1, e2, e3, e4, e5⟩ := nd_keys hx
  obtain ⟨ls, f1, f2, f3, f4, f5⟩ := nd_keys hy
  have s1 : SeqAt.shaped (toD (.tup xs)) = true := by
    show (PyData.canLayAll0 (toDs xs) && decide (PyData.depthAll (toDs xs) + 1 ≤ 64)) = true
    rw [e4, e5]
    rfl
  have s2 : SeqAt.shaped (toD (.tup ys)) = true := by
    show (PyData.canLayAll0 (toDs ys) && decide (PyData.depthAll (toDs ys) + 1 ≤ 64)) = true
    rw [f4, f5]
    rfl
  have d1 : isD (.tup xs) = true := e3
  have d2 : isD (.tup ys) = true := f3
  show (if (isD (.tup xs) && isD (.tup ys) && SeqAt.shaped (toD (.tup xs)) && SeqAt.shaped (toD (.tup ys))) = true then some (PyData.eqv (toD (.tup xs)) (toD (.tup ys))) else none) = _
  rw [d1, d2, s1, s2, if_pos (show (true && true && true && true) = true from rfl)]
  show some (PyData.eqvAll (toDs xs) (toDs ys)) = _
  show _ = some (decide (keysOf xs = keysOf ys))
  rw [e2, f2]
  subst e1
  subst f1
  rw [eqv_all]
  congr 1
  rw [Bool.eq_iff_iff]
  simp
def clashB (x y : PV) : Bool := decide (nodeK x = nodeK y) && !fitP (modeP x) (modeP y)
def meetB (xs ys : List PV) : Bool := xs.any fun x => ys.any fun y => clashB x y
theorem needs_meet_spec {xs ys : List PV} {S : AS} (hx : ∀ x ∈ xs, Ne x) (hy : ∀ y ∈ ys, Ne y) : F_needs_meet [.lst xs, .lst ys] S = .ok (.bl (meetB xs ys)) S := by
  have inner : ∀ (x : PV), x ∈ xs → ∀ z3, (ys.any (clashB x) = true ∧ ∃ S', forL (nameG 3) (ifS (andT (tstF (opF (eqG id) (opF ixG (bvarF 2) (cF (.int 0))) (opF ixG (bvarF 3) (cF (.int 0))))) (notT (tstF (callN 2 F_fit (consA (opF ixG (bvarF 2) (cF (.int 1))) (consA (opF ixG (bvarF 3) (cF (.int 1))) nilA))))))
            (retS (cF (.bl true)))
            nextS) ys [.val (.lst xs), .val (.lst ys), .val x, z3] S = .rt (.bl true) S' ∧ S' = S) ∨ (ys.any (clashB x) = false ∧ ∃ η' S', forL (nameG 3) (ifS (andT (tstF (opF (eqG id) (opF ixG (bvarF 2) (cF (.int 0))) (opF ixG (bvarF 3) (cF (.int 0))))) (notT (tstF (callN 2 F_fit (consA (opF ixG (bvarF 2) (cF (.int 1))) (consA (opF ixG (bvarF 3) (cF (.int 1))) nilA))))))
            (retS (cF (.bl true)))
            nextS) ys [.val (.lst xs), .val (.lst ys), .val x, z3] S = .nx η' S' ∧ (S' = S ∧ ∃ z3, η' = [.val (.lst xs), .val (.lst ys), .val x, z3])) := fun x hxm z3 =>
    forL_any (fun η S' => S' = S ∧ ∃ z3, η = [.val (.lst xs), .val (.lst ys), .val x, z3]) (fun S' => S' = S) (.bl true) (clashB x) ys _ S ⟨rfl, z3, rfl⟩ fun y hym η S' ⟨h1, z3, h2⟩ => by
      subst h1
      subst h2
      refine ⟨[.val (.lst xs), .val (.lst ys), .val x, .val y], S', rfl, ?_⟩
      obtain ⟨n, m, rfl, hn, hm⟩ := hx x hxm
      obtain ⟨n', m', rfl, hn', hm'⟩ := hy y hym
      have e1 : eqG id n n' S' = .ok (.bl (decide (tupKey n = tupKey n'))) S' := by
        unfold eqG
        rw [node_eq hn hn']
        rfl
      have e2 := fit_ok (S := S') hm hm'
      have cb : clashB (.tup [n, m]) (.tup [n', m']) = (decide (tupKey n = tupKey n') && !fitP m m') := rfl
      rw [cb]
      generalize fitP m m' = f at e2
      by_cases hk : tupKey n = tupKey n'
      · rw [decide_eq_true hk] at e1 ⊢
        cases f with
        | false => exact .inl ⟨rfl, S', by simp [e1, e2], rfl⟩
        | true => exact .inr ⟨rfl, [.val (.lst xs), .val (.lst ys), .val (.tup [n, m]), .val (.tup [n', m'])], S', by simp [e1, e2], rfl, _, rfl⟩
      · rw [decide_eq_false hk] at e1 ⊢
        exact .inr ⟨rfl, [.val (.lst xs), .val (.lst ys), .val (.tup [n, m]), .val (.tup [n', m'])], S', by simp [e1], rfl, _, rfl⟩
  have main : ∃ v S', fnOf 4 b_needs_meet [.lst xs, .lst ys] S = .ok v S' ∧ v = .bl (meetB xs ys) ∧ S' = S := by
    refine fn_of ?_
    unfold b_needs_meet
    have hw : anyI (varF 0) [.val (.lst xs), .val (.lst ys), .no, .no] S = .ok xs S := by simp [witems]
    have hw2 : ∀ x z3, anyI (varF 1) [.val (.lst xs), .val (.lst ys), .val x, z3] S = .ok ys S := fun x z3 => by simp [witems]
    rcases forL_any (g := nameG 2) (b := forS (anyI (varF 1)) (nameG 3)
          (ifS (andT (tstF (opF (eqG id) (opF ixG (bvarF 2) (cF (.int 0))) (opF ixG (bvarF 3) (cF (.int 0))))) (notT (tstF (callN 2 F_fit (consA (opF ixG (bvarF 2) (cF (.int 1))) (consA (opF ixG (bvarF 3) (cF (.int 1))) nilA))))))
            (retS (cF (.bl true)))
            nextS)) (fun η S' => S' = S ∧ ∃ z2 z3, η = [.val (.lst xs), .val (.lst ys), z2, z3]) (fun S' => S' = S) (.bl true) (fun x => ys.any (clashB x)) xs [.val (.lst xs), .val (.lst ys), .no, .no] S ⟨rfl, _, _, rfl⟩ (fun x hxm η S' ⟨h1, z2, z3, h2⟩ => by
        subst h1
        subst h2
        refine ⟨[.val (.lst xs), .val (.lst ys), .val x, z3], S', rfl, ?_⟩
        rcases inner x hxm z3 with ⟨hc, S2, e, rfl⟩ | ⟨hc, η', S2, e, rfl, z3', rfl⟩
        · exact .inl ⟨hc, S2, by rw [e_forS, hw2]; exact e, rfl⟩
        · exact .inr ⟨hc, _, S2, by rw [e_forS, hw2]; exact e, rfl, _, _, rfl⟩) with ⟨hc, S', e, rfl⟩ | ⟨hc, η', S', e, rfl, z2, z3, rfl⟩
    · refine ⟨.bl true, S', ?_, by unfold meetB; rw [hc], rfl⟩
      rw [e_seq, e_forS]
      show (match lift (anyI (varF 0) [.val (.lst xs), .val (.lst ys), .no, .no] S') _ _ with | .nx η S => _ | r => r) = _
      rw [hw]
      show (match forL _ _ xs [.val (.lst xs), .val (.lst ys), .no, .no] S' with | .nx η S => _ | r => r) = _
      rw [e]
    · refine ⟨.bl false, S', ?_, by unfold meetB; rw [hc], rfl⟩
      refine (seq_nx [.val (.lst xs), .val (.lst ys), z2, z3] S' ?_).trans rfl
      rw [e_forS]
      show lift (anyI (varF 0) [.val (.lst xs), .val (.lst ys), .no, .no] S') _ _ = _
      rw [hw]
      exact e
  obtain ⟨v, S', e, rfl, rfl⟩ := main
  exact e
end K24

end
section
set_option Elab.async false
set_option linter.all false
set_option maxRecDepth 100000
set_option maxHeartbeats 4000000
namespace K24
open PySem PySem.Spec PyProof.Rows L2 Fu
def ofK (k : List Key) (ys : List PV) : List PV := (ys.filter fun y => decide (nodeK y = some k)).map modeP
theorem ofK_app {k : List Key} {ys : List PV} {y : PV} : ofK k (ys ++ [y]) = ofK k ys ++ (if nodeK y = some k then [modeP y] else []) := by
  unfold ofK
  rw [List.filter_append, List.map_append]
  congr 1
  by_cases h : nodeK y = some k
  · rw [if_pos h, List.filter_cons_of_pos (by exact decide_eq_true h)]
    rfl
  · rw [if_neg h, List.filter_cons_of_neg (by rw [decide_eq_false h]; exact Bool.false_ne_true)]
    rfl
theorem ofK_len {k : List Key} {ys : List PV} : (ofK k ys).length ≤ ys.length := by
  unfold ofK
  rw [List.length_map]
  exact List.length_filter_le ..
abbrev nw : Option AO := some (.lst [])
structure MI (S : AS) (ys : List PV) (kvs : List (PV × PV)) (S' : AS) : Prop where
  ext : ∃ T, S' = S ++ T
  dct : S'[S.length]? = some (some (.dct kvs))
  len : kvs.length ≤ ys.length
  som : ∀ k p, findT k kvs = some p → ∃ i, p = .ref i ∧ S.length < i ∧ S'[i]? = some (some (.lst (ofK k ys)))
  non : ∀ k, findT k kvs = none → ∀ y ∈ ys, nodeK y ≠ some k
  inj : ∀ k k' i, findT k kvs = some (.ref i) → findT k' kvs = some (.ref i) → k = k'
theorem lt_of_get {S : AS} {n : Nat} {x : Option AO} (h : S[n]? = some x) : n < S.length := (List.getElem?_eq_some_iff.mp h).1
theorem MI.grow {S S' : AS} {ys : List PV} {kvs : List (PV × PV)} {x : Option AO} (h : MI S ys kvs S') : MI S ys kvs (S' ++ [x]) where
  ext := by
    obtain ⟨T, e⟩ := h.ext
    exact ⟨T ++ [x], by rw [e, List.append_assoc]⟩
  dct := get_ext h.dct
  len := h.len
  som := fun k p e => by
    obtain ⟨i, a, b, c⟩ := h.som k p e
    exact ⟨i, a, b, get_ext c⟩
  non := h.non
  inj := h.inj
theorem findT_app {k : List Key} {n v : PV} : ∀ {kvs : List (PV × PV)}, findT k (kvs ++ [(n, v)]) = (match findT k kvs with | some p => some p | none => if tupKey n = some k then some v else none)
  | [] => by
    show (if tupKey n = some k then some v else findT k []) = if tupKey n = some k then some v else none
    rfl
  | (q, u) :: kvs => by
    show (if tupKey q = some k then some u else findT k (kvs ++ [(n, v)])) = _
    by_cases h : tupKey q = some k
    · rw [if_pos h]
      show _ = (match (if tupKey q = some k then some u else findT k kvs) with | some p => some p | none => _)
      rw [if_pos h]
    · rw [if_neg h, findT_app]
      show _ = (match (if tupKey q = some k then some u else findT k kvs) with | some p => some p | none => _)
      rw [if_neg h]
theorem app_gen {i : Nat} {xs : List PV} {q : PV} {S : AS} (h : S[i]? = some (some (.lst xs))) (hl : xs.length < 1000000) : appG (.ref i) [q] S = .ok .non (S.set i (some (.lst (xs ++ [q])))) := by
  unfold appG
  dsimp only
  rw [h]
  dsimp only
  rw [if_pos hl]
theorem set_ext {S T : AS} {i : Nat} {x : Option AO} (h : S.length ≤ i) : (S ++ T).set i x = S ++ T.set (i - S.length) x := by
  rw [List.set_append_right _ _ h]
theorem isl_of {i : Nat} {xs : List PV} {S : AS} (h : S[i]? = some (some (.lst xs))) : isLst (.ref i) S = true := by
  unfold isLst
  dsimp only
  rw [h]
theorem meet_step {S S' : AS} {ys : List PV} {kvs : List (PV × PV)} {n m : PV} {a b z : Sl} (h : MI S ys kvs S') (hn : Nd n) (hl : ys.length ≤ 1000) :
    ∃ kvs' S3, exprS (lmF appG (setdF (varF 2) (varF 3) (liveF (lstN nilA))) (consA (varF 4) nilA)) [a, b, .val (.ref S.length), .val n, .val m, z] S' = .nx [a, b, .val (.ref S.length), .val n, .val m, z] S3 ∧ MI S (ys ++ [.tup [n, m]]) kvs' S3 := by
  obtain ⟨k0, ek⟩ : ∃ k0, tupKey n = some k0 := by
    obtain ⟨xs, rfl, _, hx⟩ := hn
    obtain ⟨ks, _, e, _⟩ := nd_keys hx
    exact ⟨ks, e⟩
  have hd : isDct (.ref S.length) S' = true := by
    unfold isDct
    dsimp only
    rw [h.dct]
  have hD := lt_of_get h.dct
  have hk : kvs.length < 1000000 := by have := h.len; omega
  cases ef : findT k0 kvs with
  | some p =>
    obtain ⟨i, rfl, hi, ei⟩ := h.som k0 p ef
    have ei1 : (S' ++ [nw])[i]? = some (some (.lst (ofK k0 ys))) := get_ext ei
    have iS := lt_of_get ei
    have hs : setdG (.ref S.length) n (.ref S'.length) (S' ++ [nw]) = .ok (.ref i) (S' ++ [nw]) := by
      unfold setdG
      dsimp only
      rw [get_ext h.dct, ek]
      dsimp only
      rw [if_pos hk, ef]
    have ha := app_gen (q := m) ei1 (by have := ofK_len (k := k0) (ys := ys); omega)
    have hi2 := isl_of ei1
    refine ⟨kvs, (S' ++ [nw]).set i (some (.lst (ofK k0 ys ++ [m]))), by simp [hd, hs, hi2, ha], ?_, ?_, ?_, fun k p e => ?_, fun k e y hy => ?_, h.inj⟩
    · obtain ⟨T, e⟩ := h.ext
      rw [e, List.append_assoc, set_ext (by omega)]
      exact ⟨_, rfl⟩
    · rw [List.getElem?_set_ne (by omega)]
      exact get_ext h.dct
    · have := h.len
      simp
      omega
    · obtain ⟨j, rfl, hj, ej⟩ := h.som k p e
      refine ⟨j, rfl, hj, ?_⟩
      rw [ofK_app]
      show _ = some (some (AO.lst (ofK k ys ++ if tupKey n = some k then [m] else [])))
      by_cases hkk : tupKey n = some k
      · rw [if_pos hkk]
        rw [ek] at hkk
        cases hkk
        rw [ef] at e
        cases e
        rw [List.getElem?_set_self (by simp; omega)]
      · rw [if_neg hkk, List.append_nil]
        have ne : i ≠ j := fun z => hkk (by
          subst z
          rw [ek]
          exact congrArg some (h.inj k0 k i ef e))
        rw [List.getElem?_set_ne ne]
        exact get_ext ej
    · rcases List.mem_append.mp hy with hy | hy
      · exact h.non k e y hy
      · rw [List.mem_singleton] at hy
        subst hy
        intro z
        have z : tupKey n = some k := z
        rw [ek] at z
        cases z
        rw [ef] at e
        cases e
  | none =>
    have hs : setdG (.ref S.length) n (.ref S'.length) (S' ++ [nw]) = .ok (.ref S'.length) ((S' ++ [nw]).set S.length (some (.dct (kvs ++ [(n, .ref S'.length)])))) := by
      unfold setdG
      dsimp only
      rw [get_ext h.dct, ek]
      dsimp only
      rw [if_pos hk, ef]
    have e2 : ((S' ++ [nw]).set S.length (some (.dct (kvs ++ [(n, .ref S'.length)]))))[S'.length]? = some (some (.lst [])) := by
      rw [List.getElem?_set_ne (by omega)]
      exact cat_get _ _
    have ha := app_gen (q := m) e2 (by simp)
    have hi2 := isl_of e2
    have fa : ∀ {k : List Key}, findT k (kvs ++ [(n, .ref S'.length)]) = (match findT k kvs with | some p => some p | none => if tupKey n = some k then some (PV.ref S'.length) else none) := findT_app
    refine ⟨kvs ++ [(n, .ref S'.length)], ((S' ++ [nw]).set S.length (some (.dct (kvs ++ [(n, .ref S'.length)])))).set S'.length (some (.lst ([] ++ [m]))), by simp [hd, hs, hi2, ha], ?_, ?_, ?_, fun k p e => ?_, fun k e y hy => ?_, fun k k' i e e' => ?_⟩
    · obtain ⟨T, e⟩ := h.ext
      have : S.length ≤ S'.length := by omega
      generalize S'.length = q at *
      rw [e, List.append_assoc, set_ext (Nat.le_refl _), set_ext this]
      exact ⟨_, rfl⟩
    · rw [List.getElem?_set_ne (by omega), List.getElem?_set_self (by simp; omega)]
    · have := h.len
      simp
      omega
    · rw [fa] at e
      cases eg : findT k kvs with
      | some p' =>
        rw [eg] at e
        cases e
        obtain ⟨j, rfl, hj, ej⟩ := h.som k p eg
        have jS := lt_of_get ej
        refine ⟨j, rfl, hj, ?_⟩
        rw [List.getElem?_set_ne (by omega), List.getElem?_set_ne (by omega), get_ext ej, ofK_app]
        have : ¬ nodeK (.tup [n, m]) = some k := fun z => by
          have z : tupKey n = some k := z
          rw [ek] at z
          cases z
          rw [ef] at eg
          cases eg
        rw [if_neg this, List.append_nil]
      | none =>
        rw [eg] at e
        dsimp only at e
        split at e
        · rename_i hkk
          cases e
          refine ⟨S'.length, rfl, hD, ?_⟩
          rw [List.getElem?_set_self (by simp), ofK_app]
          have z : nodeK (.tup [n, m]) = some k := hkk
          have hz : ofK k ys = [] := by
            unfold ofK
            rw [List.filter_eq_nil_iff.mpr (fun y hy => by simpa using h.non k eg y hy)]
            rfl
          rw [if_pos z, hz]
          rfl
        · cases e
    · rw [fa] at e
      cases eg : findT k kvs with
      | some p' => rw [eg] at e; cases e
      | none =>
        rw [eg] at e
        dsimp only at e
        split at e
        · cases e
        · rename_i hkk
          rcases List.mem_append.mp hy with hy | hy
          · exact h.non k eg y hy
          · rw [List.mem_singleton] at hy
            subst hy
            exact hkk
    · have old : ∀ {k : List Key} {i : Nat}, findT k (kvs ++ [(n, .ref S'.length)]) = some (.ref i) → (findT k kvs = some (.ref i) ∧ i < S'.length) ∨ (i = S'.length ∧ tupKey n = some k) := fun {k i} e => by
        rw [fa] at e
        cases eg : findT k kvs with
        | some p' =>
          rw [eg] at e
          cases e
          obtain ⟨j, ej0, hj, ej⟩ := h.som k _ eg
          cases ej0
          exact .inl ⟨rfl, lt_of_get ej⟩
        | none =>
          rw [eg] at e
          dsimp only at e
          split at e
          · cases e
            exact .inr ⟨rfl, ‹_›⟩
          · cases e
      rcases old e with ⟨h1, l1⟩ | ⟨h1, l1⟩ <;> rcases old e' with ⟨h2, l2⟩ | ⟨h2, l2⟩
      · exact h.inj k k' i h1 h2
      · omega
      · omega
      · rw [l1] at l2
        exact Option.some.inj l2
end K24

end
section
set_option Elab.async false
set_option linter.all false
set_option maxRecDepth 100000
set_option maxHeartbeats 4000000
namespace K24
open PySem PySem.Spec PyProof.Rows L2 Fu
theorem bls_map {α : Type} (f : α → Bool) : ∀ l : List α, blsOf (l.map fun q => PV.bl (f q)) = some (l.map f)
  | [] => rfl
  | x :: l => by
    show (blsOf (l.map fun q => PV.bl (f q))).map (f x :: ·) = _
    rw [bls_map f l]
    rfl
theorem all_ofK {x : PV} {k : List Key} (hk : nodeK x = some k) : ∀ ys : List PV, ((ofK k ys).map (fitP (modeP x))).all id = !ys.any (clashB x)
  | [] => rfl
  | y :: ys => by
    have ih := all_ofK hk ys
    have e : ofK k (y :: ys) = (if nodeK y = some k then [modeP y] else []) ++ ofK k ys := by
      unfold ofK
      by_cases h : nodeK y = some k
      · rw [if_pos h, List.filter_cons_of_pos (by exact decide_eq_true h)]
        rfl
      · rw [if_neg h, List.filter_cons_of_neg (by rw [decide_eq_false h]; exact Bool.false_ne_true)]
        rfl
    rw [e, List.map_append, List.all_append, ih, List.any_cons]
    unfold clashB
    rw [hk]
    by_cases h : nodeK y = some k
    · rw [if_pos h, h, decide_eq_true rfl]
      simp
    · rw [if_neg h, decide_eq_false (fun z => h z.symm)]
      simp
theorem ofK_md {ys : List PV} {k : List Key} (h : ∀ y ∈ ys, Ne y) : ∀ q ∈ ofK k ys, Md q := fun q hq => by
  unfold ofK at hq
  obtain ⟨y, hy, rfl⟩ := List.mem_map.mp hq
  obtain ⟨n, m, rfl, _, hm⟩ := h y (List.mem_filter.mp hy).1
  exact hm
theorem meet_ask {S S' : AS} {ys : List PV} {kvs : List (PV × PV)} {n m : PV} {a b z : Sl} (h : MI S ys kvs S') (hn : Nd n) (hm : Md m) (hys : ∀ y ∈ ys, Ne y) (hl : ys.length ≤ 1000) :
    callB allG (consA (valN (compR (getdF (varF 2) (varF 3) (liveF (lstN nilA))) [5] (nameX 5) yesT (callN 2 F_compatible (consA (varF 4) (consA (varF 5) nilA))))) nilA) [a, b, .val (.ref S.length), .val n, .val m, z] S' = .ok (.bl (!ys.any (clashB (.tup [n, m])))) (S' ++ [nw]) := by
  obtain ⟨k0, ek⟩ : ∃ k0, tupKey n = some k0 := by
    obtain ⟨xs, rfl, _, hx⟩ := hn
    obtain ⟨ks, _, e, _⟩ := nd_keys hx
    exact ⟨ks, e⟩
  have hd : isDct (.ref S.length) S' = true := by
    unfold isDct
    dsimp only
    rw [h.dct]
  obtain ⟨i, ei, li⟩ : ∃ i, (findT k0 kvs).getD (.ref S'.length) = .ref i ∧ (S' ++ [nw])[i]? = some (some (.lst (ofK k0 ys))) := by
    cases ef : findT k0 kvs with
    | some p =>
      obtain ⟨i, rfl, hi, ei⟩ := h.som k0 p ef
      exact ⟨i, rfl, get_ext ei⟩
    | none =>
      have hz : ofK k0 ys = [] := by
        unfold ofK
        rw [List.filter_eq_nil_iff.mpr (fun y hy => by simpa using h.non k0 ef y hy)]
        rfl
      exact ⟨S'.length, rfl, by rw [hz]; exact cat_get _ _⟩
  have hg : getdG (.ref S.length) n (.ref S'.length) (S' ++ [nw]) = .ok (.ref i) (S' ++ [nw]) := by
    unfold getdG
    dsimp only
    rw [get_ext h.dct, ek]
    dsimp only
    rw [ei]
  have hf : getdF (varF 2) (varF 3) (liveF (lstN nilA)) [a, b, .val (.ref S.length), .val n, .val m, z] S' = .ok (.ref i) (S' ++ [nw]) := by simp [hd, hg]
  have hc := compLR_map (g := nameX 5) (t := yesT) (e := callN 2 F_compatible (consA (varF 4) (consA (varF 5) nilA))) (η := [a, b, .val (.ref S.length), .val n, .val m, .no]) (n := i) li (fun _ => true) (fun q => .bl (fitP m q)) (ofK k0 ys) [] (fun q hq => ⟨_, e_nameX, rfl, fun _ => by
    have := comp_ok (S := S' ++ [nw]) hm (ofK_md hys q hq)
    simp [this]⟩) (by have := ofK_len (k := k0) (ys := ys); simp; omega)
  rw [List.filter_eq_self.mpr (fun _ _ => rfl), List.nil_append] at hc
  have hcr : compR (getdF (varF 2) (varF 3) (liveF (lstN nilA))) [5] (nameX 5) yesT (callN 2 F_compatible (consA (varF 4) (consA (varF 5) nilA))) [a, b, .val (.ref S.length), .val n, .val m, z] S' = .ok ((ofK k0 ys).map fun q => .bl (fitP m q)) (S' ++ [nw]) := by
    unfold compR
    rw [hf, R.bind_ok]
    dsimp only
    rw [li]
    exact hc
  have ha : allG [.lst ((ofK k0 ys).map fun q => .bl (fitP m q))] (S' ++ [nw]) = .ok (.bl (!ys.any (clashB (.tup [n, m])))) (S' ++ [nw]) := by
    have e2 := all_ofK (x := .tup [n, m]) (k := k0) ek ys
    unfold allG
    dsimp only [litems]
    rw [bls_map]
    dsimp only
    rw [← e2]
    rfl
  rw [e_cb, e_consA, e_valN, hcr]
  simp only [R.bind_ok, e_nilA]
  rw [ha]
  rfl
theorem meet_spec {xs ys : List PV} {S : AS} (hx : ∀ x ∈ xs, Ne x) (hy : ∀ y ∈ ys, Ne y) (ly : ys.length ≤ 1000) : F_meet [.lst xs, .lst ys] S = .ok (.bl (meetB xs ys)) S := by
  have main : ∃ v S', fnOf 6 b_meet [.lst xs, .lst ys] S = .ok v S' ∧ v = .bl (meetB xs ys) ∧ ∃ E, S' = S ++ E := by
    refine fn_of ?_
    unfold b_meet
    have fh : ∀ k, findT k ([] : List (PV × PV)) = none := fun _ => rfl
    refine seq_e1 [.val (.lst xs), .val (.lst ys), .val (.ref S.length), .no, .no, .no] (S ++ [some (.dct [])]) (by simp) ?_
    refine seq_ex (for_items ys (fun i η S' => ∃ kvs z3 z4 z5, η = [.val (.lst xs), .val (.lst ys), .val (.ref S.length), z3, z4, z5] ∧ MI S (ys.take i) kvs S') (S1 := S ++ [some (.dct [])]) (by simp [witems]) (fun i p η S' ep ⟨kvs, z3, z4, z5, h1, h2⟩ => ?_) ⟨[], .no, .no, .no, rfl, ⟨_, rfl⟩, cat_get _ _, Nat.zero_le _, fun k p e => (by rw [fh] at e; cases e), fun k e y hy => (by simp at hy), fun k k' i e => (by rw [fh] at e; cases e)⟩) ?_
    · subst h1
      obtain ⟨n, m, rfl, hn, hm⟩ := hy p (List.mem_of_getElem? ep)
      obtain ⟨kvs', S3, e, hM⟩ := meet_step (a := .val (.lst xs)) (b := .val (.lst ys)) (m := m) (z := z5) h2 hn (by rw [List.length_take]; omega)
      refine ⟨[.val (.lst xs), .val (.lst ys), .val (.ref S.length), .val n, .val m, z5], S', by simp, _, S3, e, kvs', _, _, _, rfl, ?_⟩
      rw [List.take_succ, ep]
      exact hM
    · rintro η S1 ⟨kvs, z3, z4, z5, rfl, h⟩
      rw [List.take_length] at h
      have hw : ∀ z3 z4 z5 S, anyI (varF 0) [.val (.lst xs), .val (.lst ys), .val (.ref S.length), z3, z4, z5] S = .ok xs S := fun _ _ _ _ => by simp [witems]
      rcases forL_any (g := tupG 2 (consG (nameG 3) (consG (nameG 4) nilG))) (b := ifS (notT (tstF (callB allG (consA (valN (compR (getdF (varF 2) (varF 3) (liveF (lstN nilA))) [5] (nameX 5) yesT (callN 2 F_compatible (consA (varF 4) (consA (varF 5) nilA))))) nilA))))
          (retS (cF (.bl true)))
          nextS) (fun η S' => (∃ z3 z4 z5, η = [.val (.lst xs), .val (.lst ys), .val (.ref S.length), z3, z4, z5]) ∧ MI S ys kvs S') (fun S' => ∃ E, S' = S ++ E) (.bl true) (fun x => ys.any (clashB x)) xs [.val (.lst xs), .val (.lst ys), .val (.ref S.length), z3, z4, z5] S1 ⟨⟨_, _, _, rfl⟩, h⟩ (fun x hxm η S' ⟨⟨z3, z4, z5, h1⟩, h2⟩ => by
          subst h1
          obtain ⟨n, m, rfl, hn, hm⟩ := hx x hxm
          refine ⟨[.val (.lst xs), .val (.lst ys), .val (.ref S.length), .val n, .val m, z5], S', by simp, ?_⟩
          have ask := meet_ask (a := .val (.lst xs)) (b := .val (.lst ys)) (z := z5) h2 hn hm hy ly
          generalize callB allG _ = ca at ask
          have h3 := h2.grow (x := nw)
          cases hc : ys.any (clashB (.tup [n, m])) with
          | true =>
            rw [hc] at ask
            refine .inl ⟨rfl, S' ++ [nw], ?_, h3.ext⟩
            rw [e_ifS, e_notT, e_tst, ask]
            rfl
          | false =>
            rw [hc] at ask
            refine .inr ⟨rfl, [.val (.lst xs), .val (.lst ys), .val (.ref S.length), .val n, .val m, z5], S' ++ [nw], ?_, ⟨_, _, _, rfl⟩, h3⟩
            rw [e_ifS, e_notT, e_tst, ask]
            rfl) with ⟨hc, S', e, z⟩ | ⟨hc, η', S', e, ⟨z3', z4', z5', rfl⟩, h'⟩
      · refine ⟨.bl true, S', ?_, by unfold meetB; rw [hc], z⟩
        rw [e_seq, e_forS]
        show (match lift (R.ok xs S1) _ _ with | .nx η S => _ | r => r) = _
        show (match forL _ _ xs [.val (.lst xs), .val (.lst ys), .val (.ref S.length), z3, z4, z5] S1 with | .nx η S => _ | r => r) = _
        rw [e]
      · refine ⟨.bl false, S', ?_, by unfold meetB; rw [hc], h'.ext⟩
        refine (seq_nx [.val (.lst xs), .val (.lst ys), .val (.ref S.length), z3', z4', z5'] S' ?_).trans rfl
        rw [e_forS]
        exact e
  obtain ⟨v, S', e, rfl, E, rfl⟩ := main
  exact trim_ext e rfl
end K24

end
section
set_option Elab.async false
set_option linter.all false
set_option maxRecDepth 100000
set_option maxHeartbeats 4000000
namespace K24
open PySem PySem.Spec PyProof.Rows L2 Fu
def Gl (p : PV) : Prop := ∃ xs, p = .lst xs ∧ (∀ x ∈ xs, Ne x) ∧ xs.length ≤ 100
theorem all_meet_spec {Ls : List PV} {S : AS} (h : ∀ p ∈ Ls, Gl p) : F_all_meet [.lst Ls] S = .ok (.bl true) S := by
  have main : ∃ v S', fnOf 4 b_all_meet [.lst Ls] S = .ok v S' ∧ v = .bl true ∧ S' = S := by
    refine fn_of ?_
    unfold b_all_meet
    refine seq_ex (for_items Ls (fun _ η S' => S' = S ∧ ∃ z1 z2 z3, η = [.val (.lst Ls), z1, z2, z3]) (S1 := S) (by simp [witems]) (fun i p η S' ep ⟨h1, z1, z2, z3, h2⟩ => ?_) ⟨rfl, .no, .no, .no, rfl⟩) ?_
    · subst h1
      subst h2
      obtain ⟨xs, rfl, hx, lx⟩ := h p (List.mem_of_getElem? ep)
      refine ⟨[.val (.lst Ls), .val (.lst xs), z2, z3], S', rfl, ?_⟩
      obtain ⟨η', S2, e, rfl, z2', z3', rfl⟩ := for_items (fi := anyI (varF 0)) (g := nameG 2) (b := seqS (asgS (valN (listN (consA (bvarF 1) nilA))) (nameG 3))
          (ifS (orT (notT (tstF (callN 2 (F_alike 6) (consA (callN 2 F_meet (consA (varF 3) (consA (varF 2) nilA))) (consA (callN 2 F_needs_meet (consA (varF 1) (consA (varF 2) nilA))) nilA))))) (notT (tstF (callN 2 (F_alike 6) (consA (varF 3) (consA (varF 1) nilA))))))
            (retS (cF (.bl false)))
            nextS)) (η := [.val (.lst Ls), .val (.lst xs), z2, z3]) (S := S') Ls (fun _ η S2 => S2 = S' ∧ ∃ z2 z3, η = [.val (.lst Ls), .val (.lst xs), z2, z3]) (S1 := S') (by simp [witems]) (fun j q η S2 eq ⟨h1, z2, z3, h2⟩ => by
          subst h1
          subst h2
          obtain ⟨ys, rfl, hy, ly⟩ := h q (List.mem_of_getElem? eq)
          refine ⟨[.val (.lst Ls), .val (.lst xs), .val (.lst ys), z3], S2, rfl, [.val (.lst Ls), .val (.lst xs), .val (.lst ys), .val (.lst xs)], S2, ?_, rfl, _, _, rfl⟩
          refine (seq_nx [.val (.lst Ls), .val (.lst xs), .val (.lst ys), .val (.lst xs)] S2 (by simp [items])).trans ?_
          have e1 := meet_spec (S := S2) hx hy (by omega)
          have e2 := needs_meet_spec (S := S2) hx hy
          have e3 := alike_self (S := S2) (fun x hx' => alk_ne (k := 2) (hx x hx')) lx
          simp [e1, e2, e3, alike_bl]) ⟨rfl, z2, z3, rfl⟩
      exact ⟨_, _, e, rfl, _, _, _, rfl⟩
    · rintro η S' ⟨rfl, z1, z2, z3, rfl⟩
      exact rt_e1 (.bl true) S' rfl ⟨rfl, rfl⟩
  obtain ⟨v, S', e, rfl, rfl⟩ := main
  exact e
theorem w_str {x : PV} {M : List PV} (h : x ∈ M) (hM : ∀ y ∈ M, ∃ w : Str, y = .str w) : ∃ w : Str, x = .str w := hM x h
theorem due_read_ok {x0 x1 x2 x3 x4 x5 x6 x7 : PV} {t k : Str} {road : PV} {nums : List PV} (w : Wds x0 x1 x2 x3 x4 x5 x6 x7) (gt : Gs t) (hi : ∀ p ∈ nums, ∃ i, p = .int i) (hr : Rd road k) (hl : nums.length ≤ 3) :
    ∃ due, (∀ S, F_due_read [.lst [x0, x1, x2, x3, x4, x5, x6, x7], .str t, road, .lst nums] S = .ok (.lst due) S) ∧ Gl (.lst due) := by
  obtain ⟨w0, h0⟩ : ∃ w : Str, x0 = .str w := w_str w.m0 (by simp)
  obtain ⟨w4, h4⟩ : ∃ w : Str, x4 = .str w := w_str w.m4 (by simp)
  have sm := sameR (w0 := w0) (w4 := w4) hr gt hi hl
  exact ⟨_, fun S => due_read_spec w0 w4 h0 h4 w.m0 w.m4 hr hl, _, rfl, sm.2.1, sm.2.2⟩
theorem due_write_ok {x0 x1 x2 x3 x4 x5 x6 x7 : PV} {t : Str} {num : PV} {nodes keys : List PV} (w : Wds x0 x1 x2 x3 x4 x5 x6 x7) (gt : Gs t) (gn : ∃ i, num = .int i) (h1 : ∀ x ∈ nodes, Nd x) (h2 : ∀ x ∈ keys, Nd x) (l1 : nodes.length ≤ 3) (l2 : keys.length ≤ 3) :
    ∃ due, (∀ S, F_due_write [.lst [x0, x1, x2, x3, x4, x5, x6, x7], .str t, num, .lst nodes, .lst keys] S = .ok (.lst due) S) ∧ Gl (.lst due) := by
  obtain ⟨w1, e1⟩ : ∃ w : Str, x1 = .str w := w_str w.m1 (by simp)
  obtain ⟨w3, e3⟩ : ∃ w : Str, x3 = .str w := w_str w.m3 (by simp)
  have sm := sameW (w1 := w1) (w3 := w3) (nodes := nodes) (keys := keys) gt gn h1 h2 l1 l2
  exact ⟨_, fun S => due_write_spec w1 w3 e1 e3 w.m1 w.m3 l1 l2, _, rfl, sm.2.1, sm.2.2⟩
theorem cut1 {xs : List PV} (h : xs.length ≤ 3) : cut xs none (some 1) = xs.take 1 := by
  match xs, h with
  | [], _ => rfl
  | [_], _ => rfl
  | [_, _], _ => rfl
  | [_, _, _], _ => rfl
theorem box_spec' {p : PV} {ns : List Int} (h : items p [] = some (ns.map .int)) : F_box [p] [] = .ok (.ref 0) [boxO ns 0 0 0 0] := by
  unfold F_box fnOf b_box
  simp [h, boxO]
theorem law_pure {p : PV} {ns : List Int} (h : items p [] = some (ns.map .int)) : ∃ S', F_law [p] [] = .ok (.bl true) S' := by
  have b0 : Bx (boxO ns 0 0 0 0) := ⟨ns, 0, 0, 0, 0, rfl, Int.le_refl 0⟩
  have main : ∃ v S', F_law [p] [] = .ok v S' ∧ v = .bl true := by
    unfold F_law
    refine fn_of ?_
    unfold b_law
    refine seq_e1 [.val p, .val (.ref 0), .no, .no, .no, .no, .no, .no, .no, .no, .no, .no, .no] [boxO ns 0 0 0 0] (by simp [box_spec' h]) ?_
    generalize boxO ns 0 0 0 0 = o at b0
    obtain ⟨v, S', e, o1, x0, x1, x2, x3, x4, x5, x6, x7, rfl, rfl, b1, wd⟩ := lock_words_spec (T := []) b0
    refine seq_e1 [.val p, .val (.ref 0), .val (.lst [x0, x1, x2, x3, x4, x5, x6, x7]), .no, .no, .no, .no, .no, .no, .no, .no, .no, .no] [o1] (by simp [e]) ?_
    obtain ⟨v, S', e, o2, y0, y1, y2, y3, y4, y5, y6, y7, rfl, rfl, b2, wd2⟩ := lock_words_spec (T := []) b1
    refine seq_e1 [.val p, .val (.ref 0), .val (.lst [x0, x1, x2, x3, x4, x5, x6, x7]), .val (.lst [y0, y1, y2, y3, y4, y5, y6, y7]), .no, .no, .no, .no, .no, .no, .no, .no, .no] [o2] (by simp [e]) ?_
    obtain ⟨v, S', enm, o3, nm, rfl, rfl, b3, ln, gn⟩ := names_spec (T := []) b2
    obtain ⟨n0, n1, n2, n3, rfl⟩ : ∃ n0 n1 n2 n3, nm = [n0, n1, n2, n3] := by
      match nm, ln with
      | [a, b, c, d], _ => exact ⟨a, b, c, d, rfl⟩
    have hn : Nms n0 n1 n2 n3 := ⟨gn _ (by simp), gn _ (by simp), gn _ (by simp), gn _ (by simp)⟩
    have ebk := fun (S : AS) => lock_book_spec (S := S) wd
    have ebs := fun (S : AS) => lock_book_spec (S := S) wd2
    have rt1 := fun {t k : Str} {road : PV} {nums : List PV} {n : Nat} {S : AS} (gt : Gs t) (hi : ∀ p ∈ nums, ∃ i, p = .int i) (hr : Rd road k) (hl : nums.length ≤ 3) (hB : S[n]? = some (bookO x0 x1 x2 x3 x4 x5 x6 x7)) => read_told_spec wd gt hi hr hl hB
    have rt2 := fun {t k : Str} {road : PV} {nums : List PV} {n : Nat} {S : AS} (gt : Gs t) (hi : ∀ p ∈ nums, ∃ i, p = .int i) (hr : Rd road k) (hl : nums.length ≤ 3) (hB : S[n]? = some (bookO y0 y1 y2 y3 y4 y5 y6 y7)) => read_told_spec wd2 gt hi hr hl hB
    have wt1 := fun {t : Str} {num : PV} {nodes keys : List PV} {n : Nat} {S : AS} (gt : Gs t) (gn : ∃ i, num = .int i) (h1 : ∀ x ∈ nodes, Nd x) (h2 : ∀ x ∈ keys, Nd x) (l1 : nodes.length ≤ 3) (l2 : keys.length ≤ 3) (hB : S[n]? = some (bookO x0 x1 x2 x3 x4 x5 x6 x7)) => write_told_spec wd gt gn h1 h2 l1 l2 hB
    have wt2 := fun {t : Str} {num : PV} {nodes keys : List PV} {n : Nat} {S : AS} (gt : Gs t) (gn : ∃ i, num = .int i) (h1 : ∀ x ∈ nodes, Nd x) (h2 : ∀ x ∈ keys, Nd x) (l1 : nodes.length ≤ 3) (l2 : keys.length ≤ 3) (hB : S[n]? = some (bookO y0 y1 y2 y3 y4 y5 y6 y7)) => write_told_spec wd2 gt gn h1 h2 l1 l2 hB
    have dr1 := fun {t k : Str} {road : PV} {nums : List PV} (gt : Gs t) (hi : ∀ p ∈ nums, ∃ i, p = .int i) (hr : Rd road k) (hl : nums.length ≤ 3) => due_read_ok wd gt hi hr hl
    have dr2 := fun {t k : Str} {road : PV} {nums : List PV} (gt : Gs t) (hi : ∀ p ∈ nums, ∃ i, p = .int i) (hr : Rd road k) (hl : nums.length ≤ 3) => due_read_ok wd2 gt hi hr hl
    have dw1 := fun {t : Str} {num : PV} {nodes keys : List PV} (gt : Gs t) (gn : ∃ i, num = .int i) (h1 : ∀ x ∈ nodes, Nd x) (h2 : ∀ x ∈ keys, Nd x) (l1 : nodes.length ≤ 3) (l2 : keys.length ≤ 3) => due_write_ok wd gt gn h1 h2 l1 l2
    generalize bookO x0 x1 x2 x3 x4 x5 x6 x7 = bk at ebk rt1 wt1
    generalize bookO y0 y1 y2 y3 y4 y5 y6 y7 = bs at ebs rt2 wt2
    generalize PV.lst [x0, x1, x2, x3, x4, x5, x6, x7] = wx at *
    generalize PV.lst [y0, y1, y2, y3, y4, y5, y6, y7] = wy at *
    refine seq_e1 [.val p, .val (.ref 0), .val wx, .val wy, .val (.lst (nml n0 n1 n2 n3)), .no, .no, .no, .no, .no, .no, .no, .no] [o3] (by simp at enm; simp [enm]) ?_
    obtain ⟨v, S', e, o4, nu, rfl, rfl, b4, lnu⟩ := numbers_spec (T := []) b3
    have hi : ∀ p ∈ nu.map PV.int, ∃ i, p = .int i := fun p hp => by
      obtain ⟨i, _, rfl⟩ := List.mem_map.mp hp
      exact ⟨i, rfl⟩
    have hl : (nu.map PV.int).length ≤ 3 := by simpa using lnu
    refine seq_e1 [.val p, .val (.ref 0), .val wx, .val wy, .val (.lst (nml n0 n1 n2 n3)), .val (.lst (nu.map PV.int)), .no, .no, .no, .no, .no, .no, .no] [o4] (by simp [e]) ?_
    generalize nu.map PV.int = nums at *
    obtain ⟨o5, nodes, e, b5, lnd, hnd⟩ := nodes_spec (T := []) b4 hn
    refine seq_e1 [.val p, .val (.ref 0), .val wx, .val wy, .val (.lst (nml n0 n1 n2 n3)), .val (.lst nums), .val (.lst nodes), .no, .no, .no, .no, .no, .no] [o5] (by simp [e]) ?_
    obtain ⟨v, S', e, o6, keys, rfl, rfl, b6, lk, hk⟩ := keys_spec (T := []) b5 hn
    refine seq_e1 [.val p, .val (.ref 0), .val wx, .val wy, .val (.lst (nml n0 n1 n2 n3)), .val (.lst nums), .val (.lst nodes), .val (.lst keys), .no, .no, .no, .no, .no] [o6] (by simp [e]) ?_
    obtain ⟨r, o7, e7, b7, _⟩ := draw_nat (T := []) (n := 40) b6 (by omega) (by omega)
    have e7 : F_draw [.ref 0, .int 40] [o6] = .ok (.int r) [o7] := e7
    obtain ⟨num, o8, e8, b8, m8⟩ := pick_spec (xs := nums ++ [.int (151 + (r : Int))]) (T := []) b7 (by simp) (by simp; omega)
    obtain ⟨i8, rfl⟩ : ∃ i, num = .int i := by
      rcases List.mem_append.mp m8 with hm | hm
      · exact hi num hm
      · rw [List.mem_singleton] at hm
        exact ⟨_, hm⟩
    refine seq_e1 [.val p, .val (.ref 0), .val wx, .val wy, .val (.lst (nml n0 n1 n2 n3)), .val (.lst nums), .val (.lst nodes), .val (.lst keys), .val (.int i8), .no, .no, .no, .no] [o8] (by simp [e7, e8, show nums.length + 1 ≤ 1000000 by omega]) ?_
    have eb1 := ebk [o8]
    refine seq_e1 [.val p, .val (.ref 0), .val wx, .val wy, .val (.lst (nml n0 n1 n2 n3)), .val (.lst nums), .val (.lst nodes), .val (.lst keys), .val (.int i8), .val (.ref 1), .no, .no, .no] [o8, bk] (by simp [eb1]) ?_
    have eb2 := ebs [o8, bk]
    refine seq_e1 [.val p, .val (.ref 0), .val wx, .val wy, .val (.lst (nml n0 n1 n2 n3)), .val (.lst nums), .val (.lst nodes), .val (.lst keys), .val (.int i8), .val (.ref 1), .val (.ref 2), .no, .no] [o8, bk, bs] (by simp [eb2]) ?_
    refine seq_e1 [.val p, .val (.ref 0), .val wx, .val wy, .val (.lst (nml n0 n1 n2 n3)), .val (.lst nums), .val (.lst nodes), .val (.lst keys), .val (.int i8), .val (.ref 1), .val (.ref 2), .no, .no] [o8, bk, bs] (by simp [modes_spec]) ?_
    refine seq_e1 [.val p, .val (.ref 0), .val wx, .val wy, .val (.lst (nml n0 n1 n2 n3)), .val (.lst nums), .val (.lst nodes), .val (.lst keys), .val (.int i8), .val (.ref 1), .val (.ref 2), .own [], .no] [o8, bk, bs] (by simp) ?_
    refine seq_ex (for_items [.tup [.str "table"], .tup [.str "index", .str n1], .tup [.str "summary", .str n2], .tup [.str "index", .str n3]] (fun i η S => S = [o8, bk, bs] ∧ ∃ Ls z, η = [.val p, .val (.ref 0), .val wx, .val wy, .val (.lst (nml n0 n1 n2 n3)), .val (.lst nums), .val (.lst nodes), .val (.lst keys), .val (.int i8), .val (.ref 1), .val (.ref 2), .own Ls, z] ∧ Ls.length = i ∧ ∀ q ∈ Ls, Gl q) (S1 := [o8, bk, bs]) (by simp [witems]) (fun i q η S eq ⟨h1, Ls, z, h2, h3, h4⟩ => ?_) ⟨rfl, [], .no, rfl, rfl, by simp⟩) ?_
    · subst h1
      subst h2
      have hi4 : i < 4 := by
        have := (List.getElem?_eq_some_iff.mp eq).1
        simpa using this
      obtain ⟨k, hr⟩ : ∃ k, Rd q k := by
        have := List.mem_of_getElem? eq
        simp at this
        rcases this with rfl | rfl | rfl | rfl
        · exact ⟨_, .inl ⟨rfl, rfl⟩⟩
        · exact ⟨_, .inr ⟨_, hn.g1, .inl ⟨rfl, rfl⟩⟩⟩
        · exact ⟨_, .inr ⟨_, hn.g2, .inr ⟨rfl, rfl⟩⟩⟩
        · exact ⟨_, .inr ⟨_, hn.g3, .inl ⟨rfl, rfl⟩⟩⟩
      have r1 := rt1 (n := 1) (S := [o8, bk, bs]) hn.g0 hi hr hl rfl
      have r2 := rt2 (n := 2) (S := [o8, bk, bs]) hn.g0 hi hr hl rfl
      obtain ⟨due, ed, gd⟩ := dr1 hn.g0 hi hr hl
      refine ⟨[.val p, .val (.ref 0), .val wx, .val wy, .val (.lst (nml n0 n1 n2 n3)), .val (.lst nums), .val (.lst nodes), .val (.lst keys), .val (.int i8), .val (.ref 1), .val (.ref 2), .own Ls, .val q], _, rfl, ?_⟩
      refine seq_n1 _ _ (by simp [r1]; exact ⟨rfl, rfl⟩) ?_
      refine seq_n1 _ _ (by simp [r2]; exact ⟨rfl, rfl⟩) ?_
      refine ⟨[.val p, .val (.ref 0), .val wx, .val wy, .val (.lst (nml n0 n1 n2 n3)), .val (.lst nums), .val (.lst nodes), .val (.lst keys), .val (.int i8), .val (.ref 1), .val (.ref 2), .own (Ls ++ [.lst due]), .val q], _, by simp [ed, show Ls.length < 1000000 by omega], rfl, _, _, rfl, by simp [h3], fun u hu => ?_⟩
      rcases List.mem_append.mp hu with hu | hu
      · exact h4 u hu
      · rw [List.mem_singleton] at hu
        rw [hu]
        exact gd
    · rintro η S ⟨rfl, Ls, z, rfl, h3, h4⟩
      have h3 : Ls.length = 4 := h3
      have tk : ∀ x ∈ keys.take 1, Nd x := fun x hx => hk x (List.mem_of_mem_take hx)
      have ltk : (keys.take 1).length ≤ 3 := by rw [List.length_take]; omega
      have wt_a := wt1 (n := 1) (S := [o8, bk, bs]) hn.g0 ⟨i8, rfl⟩ hnd hk lnd lk rfl
      have wt_b := wt2 (n := 2) (S := [o8, bk, bs]) hn.g0 ⟨i8, rfl⟩ hnd hk lnd lk rfl
      have wt_c := wt1 (n := 1) (nodes := []) (S := [o8, bk, bs]) hn.g3 ⟨i8 + 50, rfl⟩ (by simp) tk (by simp) ltk rfl
      obtain ⟨d1, ed1, gd1⟩ := dw1 hn.g0 ⟨i8, rfl⟩ hnd hk lnd lk
      obtain ⟨d2, ed2, gd2⟩ := dw1 (nodes := []) hn.g3 ⟨i8 + 50, rfl⟩ (by simp) tk (by simp) ltk
      obtain ⟨d3, ed3, gd3⟩ := dr2 hn.g0 hi (.inl ⟨rfl, rfl⟩) hl
      have hcut : ∀ S, slG (.lst keys) none (some 1) S = .ok (.lst (keys.take 1)) S := fun S => by
        unfold slG
        dsimp only
        rw [cut1 lk]
      refine seq_e1 [.val p, .val (.ref 0), .val wx, .val wy, .val (.lst (nml n0 n1 n2 n3)), .val (.lst nums), .val (.lst nodes), .val (.lst keys), .val (.int i8), .val (.ref 1), .val (.ref 2), .own Ls, z] [o8, bk, bs] (by simp [wt_a]) ?_
      refine seq_e1 [.val p, .val (.ref 0), .val wx, .val wy, .val (.lst (nml n0 n1 n2 n3)), .val (.lst nums), .val (.lst nodes), .val (.lst keys), .val (.int i8), .val (.ref 1), .val (.ref 2), .own Ls, z] [o8, bk, bs] (by simp [wt_b]) ?_
      refine seq_e1 [.val p, .val (.ref 0), .val wx, .val wy, .val (.lst (nml n0 n1 n2 n3)), .val (.lst nums), .val (.lst nodes), .val (.lst keys), .val (.int i8), .val (.ref 1), .val (.ref 2), .own Ls, z] [o8, bk, bs] (by simp [hcut, wt_c]) ?_
      refine seq_e1 [.val p, .val (.ref 0), .val wx, .val wy, .val (.lst (nml n0 n1 n2 n3)), .val (.lst nums), .val (.lst nodes), .val (.lst keys), .val (.int i8), .val (.ref 1), .val (.ref 2), .own (Ls ++ [.lst d1]), z] [o8, bk, bs] (by simp [ed1, h3]) ?_
      refine seq_e1 [.val p, .val (.ref 0), .val wx, .val wy, .val (.lst (nml n0 n1 n2 n3)), .val (.lst nums), .val (.lst nodes), .val (.lst keys), .val (.int i8), .val (.ref 1), .val (.ref 2), .own (Ls ++ [.lst d1] ++ [.lst d2]), z] [o8, bk, bs] (by simp [hcut, ed2, h3]) ?_
      refine seq_e1 [.val p, .val (.ref 0), .val wx, .val wy, .val (.lst (nml n0 n1 n2 n3)), .val (.lst nums), .val (.lst nodes), .val (.lst keys), .val (.int i8), .val (.ref 1), .val (.ref 2), .own (Ls ++ [.lst d1] ++ [.lst d2] ++ [.lst d3]), z] [o8, bk, bs] (by simp [ed3, h3]) ?_
      obtain ⟨v, S', ea, oa, la, rfl, rfl, ba, lla, ga⟩ := lock_needs_spec (T := [bk, bs]) b8 hn
      obtain ⟨v, S', eb, ob, lb, rfl, rfl, bb, llb, gb⟩ := lock_needs_spec (T := [bk, bs]) ba hn
      obtain ⟨v, S', ec, oc, lc, rfl, rfl, bc, llc, gc⟩ := lock_needs_spec (T := [bk, bs]) bb hn
      obtain ⟨v, S', ed, od, ld, rfl, rfl, bd, lld, gd⟩ := lock_needs_spec (T := [bk, bs]) bc hn
      have gab : Gl (.lst (la ++ lb)) := ⟨_, rfl, fun x hx => (List.mem_append.mp hx).elim (ga x) (gb x), by simp; omega⟩
      have gcd : Gl (.lst (lc ++ ld)) := ⟨_, rfl, fun x hx => (List.mem_append.mp hx).elim (gc x) (gd x), by simp; omega⟩
      refine seq_e1 [.val p, .val (.ref 0), .val wx, .val wy, .val (.lst (nml n0 n1 n2 n3)), .val (.lst nums), .val (.lst nodes), .val (.lst keys), .val (.int i8), .val (.ref 1), .val (.ref 2), .own (Ls ++ [.lst d1] ++ [.lst d2] ++ [.lst d3] ++ [.lst (la ++ lb)]), z] [ob, bk, bs] (by simp [ea, eb, h3, show la.length + lb.length ≤ 1000000 by omega]) ?_
      refine seq_e1 [.val p, .val (.ref 0), .val wx, .val wy, .val (.lst (nml n0 n1 n2 n3)), .val (.lst nums), .val (.lst nodes), .val (.lst keys), .val (.int i8), .val (.ref 1), .val (.ref 2), .own (Ls ++ [.lst d1] ++ [.lst d2] ++ [.lst d3] ++ [.lst (la ++ lb)] ++ [.lst (lc ++ ld)]), z] [od, bk, bs] (by simp [ec, ed, h3, show lc.length + ld.length ≤ 1000000 by omega]) ?_
      have fin := all_meet_spec (Ls := Ls ++ [.lst d1] ++ [.lst d2] ++ [.lst d3] ++ [.lst (la ++ lb)] ++ [.lst (lc ++ ld)]) (S := [od, bk, bs]) (fun q hq => by
        simp only [List.mem_append, List.mem_singleton] at hq
        rcases hq with ((((hq | rfl) | rfl) | rfl) | rfl) | rfl
        · exact h4 q hq
        · exact gd1
        · exact gd2
        · exact gd3
        · exact gab
        · exact gcd)
      generalize Ls ++ [.lst d1] ++ [.lst d2] ++ [.lst d3] ++ [.lst (la ++ lb)] ++ [.lst (lc ++ ld)] = L at fin
      exact rt_e1 (.bl true) [od, bk, bs] (by simp [fin]) rfl
  obtain ⟨v, S', e, rfl⟩ := main
  exact ⟨S', e⟩
end K24

end
section
set_option Elab.async false
set_option linter.all false
set_option maxRecDepth 100000
set_option maxHeartbeats 4000000
namespace K24
open PySem PySem.Spec PyProof.Rows L2 Fu
open He (ga)
abbrev LEVEL : Nat := 9
def sp_law (K : PySem.W.Frag) : Sp := fun vs H Q _ => ∃ (a : Addr) (ns : List Int), vs = [.ref a] ∧ SqL K H a (ns.map V.int) ∧ ns.length ≤ 63 ∧ ∀ H', Q (.bl true) H'
theorem run_law {P : Program} {w : World} {K : PySem.W.Frag} {mg : Str → Option Value} {base : Heap} (T : Txt w K mg) {fd : FuncData} (F : FunD K "law" "law" (defArgs s_law) (defBody s_law) (defScope s_law) [] [] (ga K "law") fd) : FnOk P w K mg base CX0 LEVEL (ga K "law") fd ["_law_script"] (sp_law K) :=
  law_of (ok_law T F) fun ns p _ e => law_pure e
theorem facts {P : Program} {w : World} {K : PySem.W.Frag} {h : Heap} {mg : Str → Option Value} {f : Addr} (X : K.In h) (G : h.Ns mainGlobals mg) (hfa : mg ("law" : Str) = some (.ref f)) (c : Hk.SaysW ex fn tabs w K) :
    ∃ fd : FuncData, (∀ (s : Shared) (v : Value), BindsTo s fd ⟨[v], []⟩ [("_law_script", v)]) ∧ ∀ base : Heap, K.In base → base.Ns mainGlobals mg → FnOk P w K mg base CX0 LEVEL f fd ["_law_script"] (sp_law K) := by
  have T : Txt w K mg := ⟨c, Hk.nsAll_of X G⟩
  have e := hfa.symm.trans T.g_law
  cases e
  obtain ⟨fd, F⟩ := T.f_law
  exact ⟨fd, fun s v => FunD.bindsA (ps := ["_law_script"]) F (fun _ _ _ _ _ _ us hl => match us, hl with | [_], _ => rfl) s [v] rfl, fun base _ _ => run_law T F⟩
end K24
open PySem PySem.W PySem.Calls PyProof.Rows
set_option maxHeartbeats 0 in
theorem PySem.Challenge.cw_bookstogether_k24_needs_and_modes_holds : PySem.Challenge.rw_bookstogether_k24_needs_and_modes.Holds := by
  w_on; o_law
  refine HandSHeadRun.head_any (r := OpenLaw.row PySem.Challenge.rw_bookstogether_k24_needs_and_modes) (q := view (OpenLaw.row PySem.Challenge.rw_bookstogether_k24_needs_and_modes).prog [38]) (H := K24.hk) (ob := K24.ob) (M := 8000) (loose := K24.loose) (d := HandSHeadRun.topDef (OpenLaw.row PySem.Challenge.rw_bookstogether_k24_needs_and_modes).prog 38) (kwd := []) K24.ob_eq
    (by kernel_rfl) (fun s => by kernel_rfl) K24.run (by kernel_rfl) (by kernel_rfl) (by kernel_rfl) (by rfl) (by first | assumption | decide +kernel) (by decide +kernel) ⟨rfl, rfl, rfl, rfl, rfl, by decide +kernel⟩ ?hw ?hc
  case hw => w_witness2
  case hc =>
    refine L2.walk_ofE (l := PySem.Challenge.rw_bookstogether_k24_needs_and_modes) (n := 63) (k := 9) (x := "_law_script") (CX := L2.CX0) rfl (by decide) (by kernel_rfl) ⟨rfl, by decide, by decide⟩ ?F (fun _ _ _ _ z => z)
    intro w mg fa h Y G hmg0
    obtain ⟨K, KX, c⟩ := Y
    have hmg : mg ("law" : PySem.Str) = some (.ref fa) := by
      have e : (HandSHeadRun.topDef (OpenLaw.row PySem.Challenge.rw_bookstogether_k24_needs_and_modes).prog 38).name = ("law" : PySem.Str) := by kernel_rfl
      rw [← e]
      exact hmg0
    obtain ⟨fd, hb, hF⟩ := K24.facts (P := (PySem.Challenge.rw_bookstogether_k24_needs_and_modes).prog) (w := w) KX G hmg c
    exact ⟨K, fd, K24.sp_law K, KX, hb, fun H a ns hl _ hS => ⟨a, ns, rfl, hS, hl, fun _ => rfl⟩, hF⟩

end
