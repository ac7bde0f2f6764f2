import PyProof.Rows.All
import Wide.All
import OpenK.AllK
import Wide.FinOn
import HandS.ForMost
import HandS.Star
import HandS.SlotsOwn
import HandS.MakeKwOnly
import HandS.ClsMeth
import HandS.Property
import PyProof.InstEq
import HandS.IterVal
import PyProof.ReprRoads
import KE.DatumIndex
import HandS.Lambda
import HandS.ExcOwn
import HandS.ExcField
import HandS.ExcIs
import HandS.ExcInit
import HandS.ExcValue
import KE.KExcIs
import HandS.IsInst
import HandS.SortInts
import HandS.WideBits
import HandS.Conv
import HandS.Style
import HandS.Small
import HandS.StrMore
import HandS.TupAny
import PySem.Challenge.RW_laterepair_k01_errors_and_kinds_of_value
import HandS.Steps
import HandS.TupLe
import HandS.Walk
import KE.KStateDown
import Lean
import HandS.Head0
import HandS.Head1
import HandS.Head2
import HandS.HeadEnd
import HandS.HeadHook1
import HandS.HeadHook2
set_option Elab.async false
set_option linter.all false
set_option maxRecDepth 100000
set_option maxHeartbeats 4000000
/-! Operators of an own class, methods called by name, static methods, instances made of starred arguments: readings over the hand layer. -/
namespace Ow
open PySem PySem.Spec PyProof.Rows L2
theorem pe_imp {X : Cx} {e : Expr} {t t' : TE} (he : PE X e t) (h : ∀ σ H Q, t' σ H Q → t σ H Q) : PE X e t' := ⟨fun pins s σ H Q I q => he.run pins s σ H Q I (h σ H Q q)⟩
section
variable {X : Cx} {CX : CXT} {pins : List (Addr × Obj)} {σ : L2.St} {H : Hp} {s : Shared} {a C g : Addr} {n : Nat} {sp : Sp} {E : XK}
/-- x op y, both instances of the class at C whose def for op is at g -/
def rBinO (C : Addr) (sp : Sp) (E : XK) : R2 := fun x y H Q => ∃ a dx fs b dy gs, x = .ref a ∧ y = .ref b ∧ H a = some (.ins C dx fs) ∧ H b = some (.ins C dy gs) ∧ sp [x, y] H Q E
theorem op_binO {op : Operator} (hc : PySem.W.selfFirst X.K C = true) (hs : PySem.W.findIn X.K (.ref C) (PySem.dunder op.info.2) = some (some (.ref g))) (hf : PySem.W.isFn X.K (.ref g) = true) (F : FnR X.prog X.w X.K X.mg X.base CX n g sp)
    (hr : Room n X.A) (hx : Passes CX X E) : OpR X (binaryOp op) (rBinO C sp E) := by
  intro pins s σ H x y v u Q I rx ry h
  obtain ⟨a, dx, fs, b, dy, gs, rfl, rfl, ha, hb, q⟩ := h
  cases (show v = Value.ref a from rx)
  cases (show u = Value.ref b from ry)
  obtain ⟨ox, od, J, _⟩ := StX.insC_at (X := X) I (.inr ⟨dx, fs, ha⟩)
  obtain ⟨ox', od', J', _⟩ := StX.insC_at (X := X) I (.inr ⟨dy, gs, hb⟩)
  obtain ⟨m, hF⟩ := I.fr
  refine PySem.W.binop_K (op := op) hF I.ok.mod.kin J J'.type hc hs hf ?_
  refine wpAny_mono (wpAny_call (run_fnR (us := [.ref a, .ref b]) (vs := [.ref a, .ref b]) F hr hx I (.cons rfl (.cons rfl .nil)) q)) (fun w s' z => ?_) fun _ _ x => x
  obtain ⟨z', H', I', rz, qz⟩ := z
  exact SlX.cmpback rz ⟨z', H', I', rz, qz⟩
/-! ### o.m(k = v, ..) -/
def tMethK (C : Addr) (m : Str) (nk : Nat) (sp : Sp) (E : XK) (ta : TE) (tk : TA) : TE := fun σ H Q => ta σ H fun x H1 => ∃ a dx fs, x = .ref a ∧ H1 a = some (.ins C dx fs) ∧ fs.lookup m = none ∧ tk σ H1 fun zs H2 => zs.length = nk ∧ sp (x :: zs) H2 Q E
/-- binds: the instance by position, the rest by name in the def's order -/
def KB1 (K : PySem.W.Frag) (fd : FuncData) (ps ks : List Str) : Prop := ∀ (s : Shared) (u : Value) (ws : List Value), K.In s.heap → ws.length = ks.length → BindsTo s fd ⟨[u], ks.zip ws⟩ (ps.zip (u :: ws))
theorem pe_methK {fd : FuncData} {ps ks : List Str} {m : Str} {k : Nat} {pl : Sem Bool} {o : Expr} {kws : List Keyword} {ta : TE} {tk : TA} {apos pos : Pos} (he : PE X o ta) (c : Cls X.K C) (hm : Meth X.K C m g) (F : FnOk X.prog X.w X.K X.mg X.base CX k g fd ps sp) (hr : Room k X.A) (hb : KB1 X.K fd ps ks) (hx : Passes CX X E)
    (hkw : PK X kws tk) (hall : (backToKw pos (keywordEach kws X.env)).all (·.1.isSome) = true := by rfl) (hks : (backToKw pos (keywordEach kws X.env)).filterMap (·.1) = ks := by rfl)
    (hpl : ((backTo pos (starEach [] X.env)).any (·.1) || (backToKw pos (keywordEach kws X.env)).any (·.1.isNone)) = false := by rfl)
    (ht : eval (.Call (.Attribute o m apos) [] kws pos) X.env = (do
      let ov ← eval o X.env
      standAt apos.atName
      let (f, first) ← holding [ov] (getMethod ov m pl)
      callWith pos f first (backTo pos (starEach [] X.env)) (backToKw pos (keywordEach kws X.env))) := by rfl) :
    PE X (.Call (.Attribute o m apos) [] kws pos) (tMethK C m ks.length sp E ta tk) := by
  refine ⟨fun pins s σ H Q I h => ?_⟩
  refine PySem.W.methodCall_KW (pl := pl) (thn (he.run pins s σ H _ I h) fun u s1 ⟨x, H1, I1, rx, a, dx, fs, ex, ea, l, q⟩ => ?_) ht
  subst ex
  obtain rfl : u = Value.ref a := rx
  refine getmeth_ok I1 ea c hm l ?_
  refine PySem.W.callWith_KW0 (first := [.ref a]) (h₀ := X.base) I.ok.mod.kin hm.kp hall ?_ hpl
  refine thn (hkw.run pos pins s1 σ H1 _ I1 q) fun ws s2 ⟨zs, H2, I2, rz, hl, q2⟩ => ⟨I2.kIn, ?_⟩
  rw [hks]
  have hlw : ws.length = ks.length := by rw [← rz.length]; exact hl
  have r2 : Vals (V.ref a :: zs) (Value.ref a :: ws) := .cons rfl rz
  refine wpAny_call (codeAny_mono (F.run X.A X.stack s2 H2 ⟨[Value.ref a], ks.zip ws⟩ (Value.ref a :: ws) (V.ref a :: zs) Q E hr I2.env0 (hb s2 (.ref a) ws I2.kIn hlw) r2 q2) fun r s' hq => ?_)
  cases r with
  | error e => exact hx pins σ H2 s2 e s' I2 hq
  | ok fl =>
    cases fl with
    | ret u => exact I2.after hq
    | next => exact False.elim hq
    | brk => exact False.elim hq
    | cont => exact False.elim hq
/-! ### C.m(e), m a static method -/
structure SMet (K : PySem.W.Frag) (C : Addr) (mc : Value) (m : Str) (p g : Addr) : Prop where
  at_ : PySem.W.findCls K (.ref C) mc m = some (.get (.builtin "staticmethod.__get__") (.ref p) .none (.ref C))
  rc : ∃ rest, PySem.W.recIn K p "staticmethod" = some (.ref g :: rest)
  kp : PySem.W.keepIn K (.ref g) = true
def tSMeth (C : Addr) (sp : Sp) (E : XK) (ta : TE) (t : TA) : TE := fun σ H Q => ta σ H fun x H1 => x = .ref C ∧ t σ H1 fun vs H2 => sp vs H2 Q E
theorem pe_smeth {m : Str} {k : Nat} {mc : Value} {p : Addr} {pl : Sem Bool} {o e : Expr} {es : List Expr} {ta : TE} {t : TA} {apos pos : Pos} (he : PE X o ta) (r : ClX.CRead X.K C mc) (c : SMet X.K C mc m p g) (F : FnR X.prog X.w X.K X.mg X.base CX k g sp) (hr : Room k X.A) (hx : Passes CX X E) (ha : PA X (e :: es) t)
    (hst : starEach (e :: es) X.env = (false, eval e X.env) :: starEach es X.env := by rfl) (hpl : (backTo pos (starEach es X.env)).any (·.1) = false := by rfl)
    (ht : eval (.Call (.Attribute o m apos) (e :: es) [] pos) X.env = (do
      let ov ← eval o X.env
      standAt apos.atName
      let (f, first) ← holding [ov] (getMethod ov m pl)
      callWith pos f first (backTo pos (starEach (e :: es) X.env)) (backToKw pos (keywordEach [] X.env))) := by rfl) :
    PE X (.Call (.Attribute o m apos) (e :: es) [] pos) (tSMeth C sp E ta t) := by
  refine ⟨fun pins s σ H Q I h => ?_⟩
  refine PySem.W.methodCall_KW (pl := pl) (thn (he.run pins s σ H _ I h) fun u s1 ⟨x, H1, I1, rx, ex, q⟩ => ?_) ht
  subst ex
  obtain rfl : u = Value.ref C := rx
  obtain ⟨rest, hp⟩ := c.rc
  refine PySem.W.method_cls I1.kIn r.ga (PySem.W.cls_bind I1.kIn r.rd c.at_ (wpAny_call (PySem.W.sm_get (s := { s1 with toks := s1.toks + 1 }) I1.kIn hp (PySem.W.handed_on rfl ?_))))
  have I2 : Inv X pins σ H1 { s1 with toks := s1.toks + 1 } := I1.tok _
  refine PySem.W.callWith_K (first := []) (h₀ := X.base) I.ok.mod.kin c.kp (thn (ha.run pos pins _ σ H1 _ I2 q) fun us s3 ⟨vs, H3, I3, rv, q3⟩ => ⟨I3.kIn, ?_⟩) hst hpl
  exact wpAny_call (run_fnR (us := us) (vs := vs) F hr hx I3 rv q3)
end
/-! ### instances made: of no arguments, of a starred one -/
section
variable {X : Cx} {CX : CXT} {k : Nat} {f C : Addr} {sp : Sp} {E : XK} {x : Str} {e : Expr} {te : TE} {p pos sp_ : Pos}
/-- what making an instance of the class at C asks -/
def mkAsk (C : Addr) (sp : Sp) (E : XK) (vs : List V) (H1 : Hp) (Q : VK) : Prop := ∀ x dx, H1 x = Option.none → H1 dx = Option.none → dx ≠ x →
  sp (V.ref x :: vs) (upd (upd H1 dx (.own x)) x (.ins C dx [])) (fun v H2 => v = .non ∧ Q (.ref x) H2) E
theorem pe_makeR0 (M : Mk X.K C f) (F : FnR X.prog X.w X.K X.mg X.base CX k f sp) (hr : Room (k + 1) X.A) (hg : Gl X x) (hm : X.mg x = some (.ref C)) (hx : Passes CX X E) (hdb : (x == ("__debug__" : Str)) = false := by decide) :
    PE X (.Call (.Name x p) [] [] pos) (fun σ H Q => mkAsk C sp E [] H Q) := by
  refine ⟨fun pins s σ H Q I h => ?_⟩
  refine wpAny_Call_Name_kw (ld_glob I hg hm ?_ hdb)
  exact PySem.W.callWith_K0 I.kIn M.kp (StX.run_makeR M F hr hx I .nil h)
theorem pe_makeS1 (M : Mk X.K C f) (F : FnR X.prog X.w X.K X.mg X.base CX k f sp) (hr : Room (k + 1) X.A) (hg : Gl X x) (hm : X.mg x = some (.ref C)) (hx : Passes CX X E) (he : PE X e te) (hd : (x == ("__debug__" : Str)) = false := by decide)
    (hst : starEach [.Starred e sp_] X.env = [(true, eval e X.env)] := by rfl) :
    PE X (.Call (.Name x p) [.Starred e sp_] [] pos) (fun σ H Q => te σ H fun y H1 => ∃ a xs, y = V.ref a ∧ (SqT X.K H1 a xs ∨ SqL X.K H1 a xs) ∧ mkAsk C sp E xs H1 Q) := by
  refine ⟨fun pins s σ H Q I h => ?_⟩
  refine wpAny_Call_Name_kw (ld_glob I hg hm ?_ hd)
  refine PySem.W.callWith_S (h₀ := X.base) I.ok.mod.kin M.kp (thn (he.run pins s σ H _ I h) fun v s1 ⟨y, H1, I1, ry, a, xs, ey, hxs, q⟩ => ?_) hst
  subst ey
  obtain rfl : v = Value.ref a := ry
  exact StX.star_any I1 hxs fun us s2 I2 rv => ⟨I2.kIn, StX.run_makeR M F hr hx I2 rv q⟩
theorem pe_makeRs {es : List Expr} {t : TA} (M : Mk X.K C f) (F : FnR X.prog X.w X.K X.mg X.base CX k f sp) (hr : Room (k + 1) X.A) (hg : Gl X x) (hm : X.mg x = some (.ref C)) (hx : Passes CX X E) (ha : PA X (e :: es) t) (hdb : (x == ("__debug__" : Str)) = false := by decide)
    (he : starEach (e :: es) X.env = (false, eval e X.env) :: starEach es X.env := by rfl) (hpl : (backTo pos (starEach es X.env)).any (·.1) = false := by rfl) : PE X (.Call (.Name x p) (e :: es) [] pos) (fun σ H Q => t σ H fun vs H1 => mkAsk C sp E vs H1 Q) :=
  StX.pe_makeR M F hr hg hm hx ha hdb he hpl
end
end Ow

set_option Elab.async false
set_option linter.all false
set_option maxRecDepth 100000
set_option maxHeartbeats 4000000
/-! ==, != by an own __eq__: readings over the hand layer. -/
namespace Ow
open PySem PySem.Spec PyProof.Rows L2
section
variable {X : Cx} {CX : CXT} {pins : List (Addr × Obj)} {σ : L2.St} {H : Hp} {s : Shared} {a C g : Addr} {n : Nat} {sp : Sp} {E : XK}
/-- x == y (or another comparison with its own def), both instances of the class at C -/
theorem op_cmpO {op : CmpOp} (hop : ∀ a b, compareOp op a b = richCompare op a b) (hs : PySem.W.findIn X.K (.ref C) (cmpInfo op).2.1 = some (some (.ref g))) (hf : PySem.W.isFn X.K (.ref g) = true)
    (F : FnR X.prog X.w X.K X.mg X.base CX n g sp) (hr : Room n X.A) (hx : Passes CX X E) : OpR X (compareOp op) (rBinO C sp E) := by
  intro pins s σ H x y v u Q I rx ry h
  obtain ⟨a, dx, fs, b, dy, gs, rfl, rfl, ha, hb, q⟩ := h
  cases (show v = Value.ref a from rx)
  cases (show u = Value.ref b from ry)
  obtain ⟨ox, od, J, _⟩ := StX.insC_at (X := X) I (.inr ⟨dx, fs, ha⟩)
  obtain ⟨ox', od', J', _⟩ := StX.insC_at (X := X) I (.inr ⟨dy, gs, hb⟩)
  obtain ⟨m, hF⟩ := I.fr
  rw [hop]
  refine PySem.W.cmp_K (op := op) (tb := .ref C) hr.units0 hF I.ok.mod.kin J J'.type (by simp [PySem.W.notFirst]) hs hf ?_
  refine wpAny_mono (wpAny_call (run_fnR (us := [.ref a, .ref b]) (vs := [.ref a, .ref b]) F hr hx I (.cons rfl (.cons rfl .nil)) q)) (fun w s' z => ?_) fun _ _ x => x
  obtain ⟨z', H', I', rz, qz⟩ := z
  exact SlX.cmpback rz ⟨z', H', I', rz, qz⟩
/-- what != asks of a class with its own == and without an own != -/
structure NeC (K : PySem.W.Frag) (C g : Addr) : Prop where
  eq : PySem.W.findIn K (.ref C) "__eq__" = some (some (.ref g))
  fn : PySem.W.isFn K (.ref g) = true
  ne : PySem.W.findIn K (.ref C) "__ne__" = some (some (.builtin "object.__ne__"))
  ob : PySem.W.mroIn K C (.type "object") = some true
theorem bound_ne {K : PySem.W.Frag} {M : Model} {A : Around} {E : Value → Shared → Prop} {s : Shared} {x C : Addr} {ox : Obj} {od : Option Obj} {args : List Value} {Q : Option Value → Shared → Prop} (Xk : K.In s.heap) (I : PySem.W.InstAt s.heap x ox C od)
    (hs : PySem.W.findIn K (.ref C) "__ne__" = some (some (.builtin "object.__ne__")))
    (h : wpAny M A (call (.builtin "object.__ne__") (.ref x :: args)) (fun v => Q (some v)) E s) : wpAny M A (callSpecialIfBound? (.ref x) "__ne__" args) Q E s := by
  unfold callSpecialIfBound? bindSpecialIfBound?
  refine wpAny_holding (wpAny_bind (wpAny_bind (wpAny_bind (I.type.here ((PySem.W.looks_findIn Xk hs).here ?_)))))
  have hb := PySem.F.cmp_object.ne.bind (.ref x)
  simp only [hb]
  refine wpAny_bind (wpAny_askSetting (wpAny_ite ?_))
  have last : wpAny M A (call (.builtin "object.__ne__") ([.ref x] ++ args) >>= fun r => pure (some r)) Q E s :=
    wpAny_bind (wpAny_mono h (fun r s' z => wpAny_pure z) fun _ _ z => z)
  split
  · exact wpAny_bind (wpAny_pure (wpAny_pure last))
  · exact wpAny_tryCatch (wpAny_bind (wpAny_pure (wpAny_pure last)))
/-- x != y -/
def rNeO (C : Addr) (sp : Sp) (E : XK) : R2 := fun x y H Q => ∃ a dx fs b dy gs, x = .ref a ∧ y = .ref b ∧ H a = some (.ins C dx fs) ∧ H b = some (.ins C dy gs) ∧ sp [x, y] H (fun v H' => ∃ k, v = .bl k ∧ Q (.bl (!k)) H') E
theorem op_neO (c : NeC X.K C g) (F : FnR X.prog X.w X.K X.mg X.base CX n g sp) (hr : Room (n + 1) X.A) (hx : Passes CX X E) : OpR X (compareOp .NotEq) (rNeO C sp E) := by
  intro pins s σ H x y v u Q I rx ry h
  obtain ⟨a, dx, fs, b, dy, gs, rfl, rfl, ha, hb, q⟩ := h
  cases (show v = Value.ref a from rx)
  cases (show u = Value.ref b from ry)
  obtain ⟨ox, od, J, _⟩ := StX.insC_at (X := X) I (.inr ⟨dx, fs, ha⟩)
  obtain ⟨ox', od', J', _⟩ := StX.insC_at (X := X) I (.inr ⟨dy, gs, hb⟩)
  have hr1 : Room n X.A.in1 := hr.in1
  have body : wpAny (model X.prog X.w) X.A.in1 (call (.ref g) [.ref a, .ref b]) (EP X pins σ fun v H' => ∃ k, v = .bl k ∧ Q (.bl (!k)) H') X.xe s :=
    wpAny_call (SlX.run_at (us := [.ref a, .ref b]) (ws := [.ref a, .ref b]) F hr1 I.env0.in1 hx I (.cons rfl (.cons rfl .nil)) q)
  have entry : wpAny (model X.prog X.w) X.A.in1 (Builtin.«object.__ne__» ⟨[.ref a, .ref b], []⟩) (fun fin s' => ∃ k, fin = .done (.ret (.bool k)) ∧ EP X pins σ Q (.bool k) s') X.xe s := by
    unfold Builtin.«object.__ne__»
    repeat (first
      | with_reducible refine wpAny_cRoomFor hr1.units0 ?_
      | (refine wpAny_bind (m := callSpecialIfBound? (.ref a) (Str.ofString "__eq__") [.ref b])
          (PySem.W.ifBound_K I.kIn J c.eq c.fn (wpAny_mono body (fun r s' hr => by
            obtain ⟨z, H', I', rz, k, ek, qk⟩ := hr
            subst ek
            cases (show r = Value.bool k from rz)
            repeat (first | exact ⟨_, rfl, .bl (!k), H', I', rfl, qk⟩ | exact wpAny_pure ⟨_, rfl, .bl (!k), H', I', rfl, qk⟩ | exact wpAny_truthy_bool ⟨_, rfl, .bl (!k), H', I', rfl, qk⟩ | (refine wpAny_bind (m := truthy (.bool _)) (wpAny_truthy_bool ?_)) | wp_step)) fun _ _ e => e)))
      | wp_step)
  have called : wpAny (model X.prog X.w) X.A (call (.builtin "object.__ne__") [.ref a, .ref b]) (fun r s' => ∃ k, r = .bool k ∧ EP X pins σ Q (.bool k) s') X.xe s := by
    refine wpAny_call (codeAny_call_builtin PySem.F.cmp_object.ne.plain PySem.F.cmpEntry_ne (PySem.W.check_slot PySem.F.cmpKind_ne PySem.F.cmpSplit_ne (J.type.andThen (PySem.W.looks_mroIn I.kIn c.ob)) (PySem.F.cmpArgs_ne _ _) (wpAny_mono entry (fun fin s' z => ?_) fun _ _ z => z)))
    obtain ⟨k, rfl, z⟩ := z
    exact ⟨k, rfl, z⟩
  show wpAny (model X.prog X.w) X.A (richCompare .NotEq (.ref a) (.ref b)) _ _ s
  unfold richCompare
  simp only [oneThing_ref]
  refine wpAny_holding (wpAny_bind (wpAny_cRoomFor hr.units0 ?_))
  refine wpAny_bind (J.type.here (wpAny_bind (J'.type.here ?_)))
  rw [if_neg (by simp)]
  refine wpAny_bind (wpAny_pure ?_)
  rw [if_neg (by simp)]
  refine wpAny_bind (m := tryCompare (.ref a) (cmpInfo .NotEq).2.1 (.ref b)) ?_
  unfold tryCompare
  refine wpAny_bind (m := callSpecialIfBound? (.ref a) (Str.ofString "__ne__") [.ref b]) (bound_ne I.kIn J c.ne (wpAny_mono called (fun r s' z => ?_) fun _ _ z => z))
  obtain ⟨k, rfl, z⟩ := z
  first
    | exact wpAny_pure (wpAny_pure z)
    | exact wpAny_pure z
end
end Ow

set_option Elab.async false
set_option linter.all false
set_option maxRecDepth 100000
set_option maxHeartbeats 4000000
/-! len(x), e in x by own methods: readings over the hand layer. -/
namespace Ow
open PySem PySem.Spec PyProof.Rows L2
section
variable {X : Cx} {CX : CXT} {C g : Addr} {n : Nat} {sp : Sp} {E : XK}
def rLenO (C : Addr) (sp : Sp) (E : XK) : List V → Hp → VK → Prop := fun xs H Q => ∃ a dx fs, xs = [V.ref a] ∧ H a = some (.ins C dx fs) ∧ sp [.ref a] H (fun v H' => ∃ i : Nat, v = .int (i : Int) ∧ i < 1000000 ∧ Q v H') E
theorem call_lenO (hs : PySem.W.findIn X.K (.ref C) "__len__" = some (some (.ref g))) (hf : PySem.W.isFn X.K (.ref g) = true) (F : FnR X.prog X.w X.K X.mg X.base CX n g sp) (hr : Room (n + 1) X.A) (hx : Passes CX X E) : CallR X (.builtin "len") (rLenO C sp E) := by
  intro pins s σ H xs us Q I r h
  obtain ⟨a, dx, fs, rfl, ha, q⟩ := h
  obtain ⟨u, rfl, ru⟩ := r.one
  cases (show u = Value.ref a from ru)
  obtain ⟨ox, od, J, _⟩ := StX.insC_at (X := X) I (.inr ⟨dx, fs, ha⟩)
  obtain ⟨m, hF⟩ := I.fr
  have hr1 : Room n X.A.in1 := hr.in1
  refine PySem.W.len_K hF I.ok.mod.kin J hs hf (wpAny_mono (wpAny_call (SlX.run_at (us := [.ref a]) (ws := [.ref a]) F hr1 I.env0.in1 hx I (.cons rfl .nil) q)) (fun w s' z => ?_) fun _ _ e => e)
  obtain ⟨z', H', I', rz, i, ei, hi, qz⟩ := z
  subst ei
  obtain ⟨t, e⟩ := (show ∃ t, w = Value.int (i : Int) t from rz)
  subst e
  exact ⟨⟨by omega, by omega⟩, .int (i : Int), H', I'.tok _, ⟨_, rfl⟩, qz⟩
/-- e in x -/
def rInO (C : Addr) (sp : Sp) (E : XK) : R2 := fun x y H Q => ∃ a dx fs, y = V.ref a ∧ H a = some (.ins C dx fs) ∧ sp [.ref a, x] H (fun v H' => ∃ k, v = .bl k ∧ Q (.bl k) H') E
theorem op_inO (hs : PySem.W.findIn X.K (.ref C) "__contains__" = some (some (.ref g))) (hf : PySem.W.isFn X.K (.ref g) = true) (F : FnR X.prog X.w X.K X.mg X.base CX n g sp) (hr : Room n X.A) (hx : Passes CX X E) : OpR X (compareOp .In) (rInO C sp E) := by
  intro pins s σ H x y v u Q I rx ry h
  obtain ⟨a, dx, fs, rfl, ha, q⟩ := h
  cases (show u = Value.ref a from ry)
  obtain ⟨ox, od, J, _⟩ := StX.insC_at (X := X) I (.inr ⟨dx, fs, ha⟩)
  obtain ⟨m, hF⟩ := I.fr
  refine PySem.W.in_K hF I.ok.mod.kin J hs hf (wpAny_mono (wpAny_call (SlX.run_at (us := [.ref a, v]) (ws := [.ref a, x]) F hr I.env0 hx I (.cons rfl (.cons rx .nil)) q)) (fun w s' z => ?_) fun _ _ e => e)
  obtain ⟨z', H', I', rz, k, ek, qz⟩ := z
  subst ek
  cases (show w = Value.bool k from rz)
  exact wpAny_truthy_bool ⟨.bl k, H', I', rfl, qz⟩
end
end Ow

set_option Elab.async false
set_option linter.all false
set_option maxRecDepth 100000
set_option maxHeartbeats 4000000
/-! A walk over an instance whose __iter__ gives an iterator over a tuple. -/
namespace Ow
open PySem PySem.Spec PyProof.Rows L2
section
variable {prog : Program} {w : World} {A : Around} {E : Value → Shared → Prop} {s : Shared} {l : Addr} {items : Array Value}
theorem iter_tup {Q : Value → Shared → Prop} (hl : s.heap.IsTuple l items) (h : Q (.ref s.heap.objs.size) { s with heap := s.heap.push { cls := .type "tuple_iterator", data := .fields #[.ref l, .int 0 0] } }) : wpAny (model prog w) A (call (.builtin "iter") [.ref l]) Q E s := by
  have en := PySem.W.kdk_entry_iter
  refine Calls.call_function_entry (s := s) (by decide +kernel) (by decide +kernel) en (PySem.W.kdk_args_iter (.ref l)) ?_
  unfold Builtin.«iter»
  refine wpAny_bind (m := someArgs "iter" 1 2 ⟨[.ref l], []⟩) (wpAny_of_eq (a := [Value.ref l]) (by first | rfl | kernel_rfl) ?_)
  show wpAny (model prog w) _ (pyIter (.ref l) >>= fun z => ret z) _ _ s
  refine wpAny_bind (wpAny_pyIter_tuple hl ?_)
  exact wpAny_pure ⟨_, rfl, h⟩
end
/-- an iterator over the tuple at t stands at it, at its beginning -/
def ItT (t it : Addr) : HO := .ext fun h => h.IsTupleIter it t 0
section
variable {X : Cx}
/-- iter(t), a tuple -/
def rIterT (K : PySem.W.Frag) (n : Nat) : List V → Hp → VK → Prop := fun xs H Q => ∃ (t : Addr) (zs : List V), xs = [.ref t] ∧ SqT K H t zs ∧ ∀ it, H it = Option.none → n ≤ it → Q (.ref it) (upd H it (ItT t it))
theorem call_iterT : CallR X (.builtin "iter") (rIterT X.K X.s_0.heap.objs.size) := by
  intro pins s σ H xs us Q I r h
  obtain ⟨t, zs, rfl, hq, q⟩ := h
  obtain ⟨u, rfl, ru⟩ := vals1 r
  cases ru
  obtain ⟨its, rv, p, hz⟩ := I.tuple hq
  refine iter_tup (show s.heap.IsTuple t its.toArray from p) ?_
  have st : (s.heap.push { cls := .type "tuple_iterator", data := .fields #[.ref t, .int 0 0] }).IsTupleIter s.heap.objs.size t 0 := ⟨_, Heap.get?_push_size _ rfl, rfl, rfl⟩
  refine ⟨.ref s.heap.objs.size, _, I.laid (t' := s.toks) (o := ItT t s.heap.objs.size) (fun b u e => Heap.get?_push_of_some _ e) (Nat.le_refl _) ⟨st, ⟨_, Heap.get?_push_size _ rfl⟩, fun h1 h2 z k => ?_⟩, rfl, q _ (I.hok.fresh (Nat.le_refl _)) I.sz⟩
  exact z.at fun o e => k o e
end
/-- a def with one parameter, called at this state: what its body's reading gives -/
theorem run_here {CX : CXT} {P : Program} {w : World} {K : PySem.W.Frag} {mg : Str → Option Value} {base : Heap} {k : Nat} {f : Addr} {fd : FuncData} {x q : Str} {st : Stmt} {N ps : List Str} {A : Around} {outer : List Env} {s : Shared} {H : Hp} {us : List Value} {vs : List V} {R : V → Hp → Shared → Prop} {E : XK}
    (F : L2.Fun K x q st f fd) (S : FnScope N ps (defScope st)) (hl : vs.length = ps.length) (hr : Room (k + 1) A) (e0 : Env0 P w K mg base A outer s H) (hb : BindsTo s fd ⟨us, []⟩ (ps.zip us)) (r : Vals vs us)
    (body : ∀ cdv : Value, Room k (A.deeper (envOfC q (defScope st) s.heap.objs.size f cdv)) → ∃ t, PSs (cxOf CX P w K mg base N q (defScope st) f cdv A outer s H E).nox (defBody st) t ∧ t { nx := fun _ _ => False, rt := fun v H' => ∀ (pins : List (Addr × Obj)) (σ : L2.St) (s' : Shared), Inv (cxOf CX P w K mg base N q (defScope st) f cdv A outer s H E).nox pins σ H' s' → R v H' s' } (start N vs) H) :
    codeAny (model P w) A (.call (.ref f) ⟨us, []⟩) (fun r s' => ∃ v u H', r = .ok (.ret u) ∧ RelV v u ∧ R v H' s') s := by
  obtain ⟨oc, od, kV, doc, pm, an, cdv, ct, osl, rfl, lk, hcd⟩ := F.ex
  have Xin : K.In s.heap := e0.mod.kin.keeps fun b o z => (e0.bs b o z).1
  have free : s.heap.NoLimit := e0.mod.nolimit.keeps fun b o z => (e0.bs b o z).1
  have kinds : ∀ y ∈ ps.zip us, (defScope st).names.lookup y.1 = some .local ∨ ((defScope st).names.lookup y.1 = some .cell ∧ ((cellsFrom (s.heap.objs.size + 1) (defScope st).names []).lookup y.1).isSome = true) := by
    rintro ⟨n, v⟩ hy
    rcases S.par n (List.of_mem_zip hy).1 with z | z
    · exact .inl z
    · exact .inr ⟨z, PySem.W.cellsFrom_some _ _ _ (.inl z)⟩
  refine codeAny_call_function hr.depth (Xin _ _ lk) rfl S.co S.gen rfl (PySem.W.codeRec_of Xin hcd) (hb _ _ _ _ ?_)
  refine wpAny_newFunctionEnv_cells S.kind kinds fun env he s1 z => ?_
  subst he
  refine ⟨free.keeps z.toInCall.keep, codeAny_func ?_⟩
  obtain ⟨t, ht, hq⟩ := body cdv (hr.deeper _)
  have J := inv_start (CX := CX) (E := E) S hr.hd e0 hl r z
  refine wpAny_mono (ht.run [] s1 (start N vs) H _ (J.wish _) hq) (fun fl s' hs => ?_) fun e s' hs => False.elim hs
  cases fl with
  | ret u =>
    obtain ⟨v, σ', H', I', rv, hR⟩ := hs
    exact ⟨v, u, H', rfl, rv, hR _ _ _ I'⟩
  | next =>
    obtain ⟨_, _, _, z⟩ := hs
    exact z.elim
  | brk =>
    obtain ⟨_, _, _, z⟩ := hs
    exact z.elim
  | cont =>
    obtain ⟨_, _, _, z⟩ := hs
    exact z.elim
/-! ### the walk -/
/-- what the class's __iter__ does with an instance: a new iterator over the tuple that its field holds -/
def ItRun (P : Program) (w : World) (K : PySem.W.Frag) (mg : Str → Option Value) (base : Heap) (k : Nat) (C g : Addr) (nm : Str) : Prop := ∀ (A : Around) (outer : List Env) (s : Shared) (H : Hp) (a dx t : Addr) (zs : List V), Room k A → Env0 P w K mg base A outer s H →
  H a = some (.ins C dx [(nm, V.ref t)]) → SqT K H t zs →
  codeAny (model P w) A (.call (.ref g) ⟨[.ref a], []⟩) (fun r s' => ∃ it : Addr, r = .ok (.ret (.ref it)) ∧ s.heap.objs.size ≤ it ∧ s'.heap.IsTupleIter it t 0 ∧ CE outer P w H s (fun v H' => v = .ref it ∧ H' = H) (.ref it) s') s
theorem it_run {P : Program} {w : World} {K : PySem.W.Frag} {mg : Str → Option Value} {base : Heap} {C g : Addr} {fd : FuncData} {st : Stmt} {q nm : Str} (F : L2.Fun K "__iter__" q st g fd) (S : FnScope ["self"] ["self"] (defScope st)) (b : Binds K fd ["self"] []) (cl : Cls K C) (nR : NoAttr K C nm)
    (body : ∀ (cdv : Value) (A : Around) (outer : List Env) (s : Shared) (H : Hp), PSs (cxOf CX0 P w K mg base ["self"] q (defScope st) g cdv A outer s H E0).nox (defBody st) (tRet (tCB (rIterT K s.heap.objs.size) (tCons (tFld K (tVar 0) nm) tNil)))) : ItRun P w K mg base 1 C g nm := by
  intro A outer s H a dx t zs hr e0 ha ht
  have hb : BindsTo s fd ⟨[.ref a], []⟩ ([("self" : Str)].zip [Value.ref a]) := b s [.ref a] (e0.mod.kin.keeps fun c o z => (e0.bs c o z).1) rfl
  refine codeAny_mono (run_here (CX := CX0) (k := 0) (E := E0) (vs := [V.ref a]) (R := fun v H' s' => ∃ it, v = .ref it ∧ s.heap.objs.size ≤ it ∧ s'.heap.IsTupleIter it t 0 ∧ CE outer P w H s (fun v H' => v = .ref it ∧ H' = H) (.ref it) s') F S rfl hr e0 hb (.cons rfl .nil) fun cdv _ => ⟨_, body cdv A outer s H, ?_⟩) fun r s' z => ?_
  · refine ⟨_, rfl, a, C, dx, _, _, rfl, ha, cl, nR, by simp [List.lookup], t, zs, rfl, ht, fun it nit hit pins σ s' I => ⟨it, rfl, hit, ?_, ?_⟩⟩
    · exact (I.hok it _ upd_same).1
    · have I2 := ItX.inv_drop (φ := fun h => h.IsTupleIter it t 0) I upd_same
      rw [ItX.dropH_upd nit] at I2
      exact ⟨.ref it, H, I2.os, I2.bare, I2.base, I2.hok, rfl, rfl, rfl⟩
  · obtain ⟨v, u, H', rfl, ru, it, rfl, h1, h2, h3⟩ := z
    cases (show u = Value.ref it from ru)
    exact ⟨it, rfl, h1, h2, h3⟩
section
variable {X : Cx} {tg : Expr} {C g : Addr} {k : Nat} {nm : Str}
/-- an instance of the class at C walked: the items of the tuple in its field -/
def iOwn (K : PySem.W.Frag) (C : Addr) (nm : Str) (tl : TE) : TI := fun σ H R => tl σ H fun x H1 => ∃ a dx t, x = V.ref a ∧ H1 a = some (.ins C dx [(nm, V.ref t)]) ∧ (∃ zs, SqT K H1 t zs) ∧ R (Itt K t) H1
theorem pi_own {l : Expr} {tl : TE} (hs : PySem.W.findIn X.K (.ref C) "__iter__" = some (some (.ref g))) (hf : PySem.W.isFn X.K (.ref g) = true) (G : ItRun X.prog X.w X.K X.mg X.base k C g nm) (hr : Room k X.A) (hl : PE X l tl) : PI X tg l (iOwn X.K C nm tl) := by
  refine ⟨fun pins s σ H R I h => ?_⟩
  refine thn (hl.run pins s σ H _ I h) fun v s1 ⟨x, H1, I1, r1, a, dx, t, ex, ha, ⟨zs, ht⟩, q⟩ => ?_
  subst ex
  cases (show v = Value.ref a from r1)
  obtain ⟨ox, od, J, _⟩ := StX.insC_at (X := X) I1 (.inr ⟨dx, _, ha⟩)
  have called : wpAny (model X.prog X.w) X.A (call (.ref g) [.ref a]) (fun r s' => ∃ it : Addr, r = .ref it ∧ s1.heap.objs.size ≤ it ∧ s'.heap.IsTupleIter it t 0 ∧ CE X.stack X.prog X.w H1 s1 (fun v H' => v = .ref it ∧ H' = H1) (.ref it) s') X.xe s1 := by
    refine wpAny_call (codeAny_mono (G X.A X.stack s1 H1 a dx t zs hr I1.env0 ha ht) fun r s' z => ?_)
    obtain ⟨it, rfl, z1, z2, z3⟩ := z
    exact ⟨it, rfl, z1, z2, z3⟩
  obtain ⟨m, hF⟩ := I1.fr
  refine PySem.W.owit_iter hF I1.ok.mod.kin J hs hf (wpAny_mono called (fun r s' z => ?_) fun _ _ z => z)
  obtain ⟨it, rfl, z1, z2, z3⟩ := z
  unfold PySem.W.OwitIt
  refine wpAny_specialOf z2.typeIs PySem.F.slot_tuple_iterator_next.lookup ?_
  obtain ⟨v, H', I2, rv, ev, eH⟩ := I1.after z3
  subst eH
  refine ⟨it, [it], _, _, H', rfl, I2, turn_tuple t it, z2, fun b hb => ?_, q⟩
  obtain rfl := List.mem_singleton.mp hb
  exact I1.fpOk z1 (I1.hok.fresh z1)
end
end Ow

set_option Elab.async false
set_option linter.all false
set_option maxRecDepth 100000
set_option maxHeartbeats 4000000
/-! Defs that are called while no repr is under way: their promise, their body, their call, the law's end; repr of data of any depth. -/
namespace Og
open PySem PySem.Spec PyProof.Rows L2 Ow
/-- the promise of a def at a state under which no repr is under way -/
structure FnG (P : Program) (w : World) (K : PySem.W.Frag) (mg : Str → Option Value) (base : Heap) (CX : CXT) (k : Nat) (f : Addr) (fd : FuncData) (ps : List Str) (sp : Sp) : Prop where
  len : ∀ {vs H Q E}, sp vs H Q E → vs.length = ps.length
  go : ∀ {A : Around} {outer : List Env} {s : Shared} {H : Hp} {ar : Args} {us : List Value} {vs : List V} {Q : VK} {E : XK}, Room k A → A.guards = some [] → Env0 P w K mg base A outer s H → BindsTo s fd ar (ps.zip us) → Vals vs us →
    sp vs H Q E → codeAny (model P w) A (.call (.ref f) ar) (CR CX outer P w H s Q E) s
section
variable {P : Program} {w : World} {K : PySem.W.Frag} {mg : Str → Option Value} {base : Heap} {CX : CXT} {j k : Nat} {f : Addr} {fd : FuncData} {ps : List Str} {sp sp' : Sp}
theorem FnG.of (F : FnOk P w K mg base CX k f fd ps sp) : FnG P w K mg base CX k f fd ps sp := ⟨fun h => F.len _ _ _ _ h, fun hr _ e0 hb r h => F.run _ _ _ _ _ _ _ _ _ hr e0 hb r h⟩
theorem FnG.mono (F : FnG P w K mg base CX j f fd ps sp) (h : j ≤ k) : FnG P w K mg base CX k f fd ps sp := ⟨F.len, fun hr => F.go (hr.mono h)⟩
theorem FnG.imp (F : FnG P w K mg base CX k f fd ps sp) (h : ∀ vs H Q E, sp' vs H Q E → sp vs H Q E) : FnG P w K mg base CX k f fd ps sp' := ⟨fun q => F.len (h _ _ _ _ q), fun hr hg e0 hb r q => F.go hr hg e0 hb r (h _ _ _ _ q)⟩
/-- a def's body, run at this state -/
theorem run_gen {x q : Str} {st : Stmt} {N : List Str} {A : Around} {outer : List Env} {s : Shared} {H : Hp} {ar : Args} {us : List Value} {vs : List V} {Q : VK} {E : XK}
    (F : L2.Fun K x q st f fd) (S : FnScope N ps (defScope st)) (hl : vs.length = ps.length) (hr : Room (k + 1) A) (e0 : Env0 P w K mg base A outer s H) (hb : BindsTo s fd ar (ps.zip us)) (r : Vals vs us)
    (body : ∀ cdv : Value, Room k (A.deeper (envOfC q (defScope st) s.heap.objs.size f cdv)) → ∃ t, PSs (cxOf CX P w K mg base N q (defScope st) f cdv A outer s H E) (defBody st) t ∧ t { nx := fun _ H' => Q .non H', rt := Q } (start N vs) H) :
    codeAny (model P w) A (.call (.ref f) ar) (CR CX outer P w H s Q E) s := by
  obtain ⟨oc, od, kV, doc, pm, an, cdv, ct, osl, rfl, lk, hcd⟩ := F.ex
  have Xin : K.In s.heap := e0.mod.kin.keeps fun b o z => (e0.bs b o z).1
  have free : s.heap.NoLimit := e0.mod.nolimit.keeps fun b o z => (e0.bs b o z).1
  have kinds : ∀ y ∈ ps.zip us, (defScope st).names.lookup y.1 = some .local ∨ ((defScope st).names.lookup y.1 = some .cell ∧ ((cellsFrom (s.heap.objs.size + 1) (defScope st).names []).lookup y.1).isSome = true) := by
    rintro ⟨n, v⟩ hy
    rcases S.par n (List.of_mem_zip hy).1 with z | z
    · exact .inl z
    · exact .inr ⟨z, PySem.W.cellsFrom_some _ _ _ (.inl z)⟩
  refine codeAny_call_function hr.depth (Xin _ _ lk) rfl S.co S.gen rfl (PySem.W.codeRec_of Xin hcd) (hb _ _ _ _ ?_)
  refine wpAny_newFunctionEnv_cells S.kind kinds fun env he s1 z => ?_
  subst he
  refine ⟨free.keeps z.toInCall.keep, codeAny_func ?_⟩
  obtain ⟨t, ht, hq⟩ := body cdv (hr.deeper _)
  have J := inv_start (CX := CX) (E := E) S hr.hd e0 hl r z
  have fin : ∀ {σ' : L2.St} {H' : Hp} {v : V} {u : Value} {s' : Shared}, Inv (cxOf CX P w K mg base N q (defScope st) f cdv A outer s H E) [] σ' H' s' → RelV v u → Q v H' → CE outer P w H s Q u s' :=
    fun J2 rv y => ⟨_, _, J2.os, J2.bare, J2.base, J2.hok, rv, y⟩
  refine wpAny_mono (ht.run [] s1 (start N vs) H _ J hq) (fun fl s' hs => ?_) fun e s' hs => hs
  cases fl with
  | ret u =>
    obtain ⟨v, σ', H', J2, rv, y⟩ := hs
    exact fin J2 rv y
  | next =>
    obtain ⟨σ', H', J2, y⟩ := hs
    exact fin (v := V.non) (u := Value.none) J2 rfl y
  | brk =>
    obtain ⟨_, _, _, z⟩ := hs
    exact z.elim
  | cont =>
    obtain ⟨_, _, _, z⟩ := hs
    exact z.elim
/-- the rule for a def of which nothing is let out -/
theorem okG {x q : Str} {st : Stmt} {N : List Str} (F : L2.Fun K x q st f fd) (S : FnScope N ps (defScope st)) (len : ∀ vs H Q E, sp vs H Q E → vs.length = ps.length)
    (body : ∀ (cdv : Value) (A : Around) (outer : List Env) (s : Shared) (H : Hp) (vs : List V) (Q : VK) (E : XK), Room k (A.deeper (envOfC q (defScope st) s.heap.objs.size f cdv)) → A.guards = some [] → sp vs H Q E →
      ∃ t, PSs (cxOf CX P w K mg base N q (defScope st) f cdv A outer s H E).nox (defBody st) t ∧ t { nx := fun _ H' => Q .non H', rt := Q } (start N vs) H) : FnG P w K mg base CX (k + 1) f fd ps sp :=
  ⟨fun h => len _ _ _ _ h, fun hr hg e0 hb r h => run_gen F S (len _ _ _ _ h) hr e0 hb r fun cdv hr2 => by
    obtain ⟨t, ht, hq⟩ := body cdv _ _ _ _ _ _ _ hr2 hg h
    exact ⟨t, ht.nox, hq⟩⟩
/-- .. for a def that may raise -/
theorem okGX {x q : Str} {st : Stmt} {N : List Str} (F : L2.Fun K x q st f fd) (S : FnScope N ps (defScope st)) (len : ∀ vs H Q E, sp vs H Q E → vs.length = ps.length)
    (body : ∀ (cdv : Value) (A : Around) (outer : List Env) (s : Shared) (H : Hp) (vs : List V) (Q : VK) (E : XK), Room k (A.deeper (envOfC q (defScope st) s.heap.objs.size f cdv)) → A.guards = some [] → sp vs H Q E →
      ∃ t, PSs (cxOf CX P w K mg base N q (defScope st) f cdv A outer s H E) (defBody st) t ∧ t { nx := fun _ H' => Q .non H', rt := Q } (start N vs) H) : FnG P w K mg base CX (k + 1) f fd ps sp :=
  ⟨fun h => len _ _ _ _ h, fun hr hg e0 hb r h => run_gen F S (len _ _ _ _ h) hr e0 hb r fun cdv hr2 => body cdv _ _ _ _ _ _ _ hr2 hg h⟩
end
section
variable {X : Cx} {CX : CXT} {k : Nat} {f : Addr} {fd : FuncData} {ps : List Str} {sp : Sp} {dvs : List V} {ds : List Value} {E : XK} {x : Str} {p pos : Pos} {e : Expr} {es : List Expr} {t : TA}
theorem pe_callG (F : FnG X.prog X.w X.K X.mg X.base CX k f fd ps sp) (hr : Room k X.A) (hG : X.A.guards = some []) (hg : Gl X x) (hm : X.mg x = some (.ref f)) (hk : PySem.W.keepIn X.K (.ref f) = true) (hb : Binds X.K fd ps ds) (hd : Vals dvs ds) (hx : Passes CX X E)
    (ha : PA X (e :: es) t) (hdb : (x == ("__debug__" : Str)) = false := by decide) (he : starEach (e :: es) X.env = (false, eval e X.env) :: starEach es X.env := by rfl) (hpl : (backTo pos (starEach es X.env)).any (·.1) = false := by rfl) :
    PE X (.Call (.Name x p) (e :: es) [] pos) (tCall sp dvs E t) := by
  refine ⟨fun pins s σ H Q I h => wpAny_Call_Name_kw (ld_glob I hg hm ?_ hdb)⟩
  refine PySem.W.callWith_K (h₀ := X.base) I.ok.mod.kin hk (thn (ha.run pos pins s σ H _ I h) fun us s1 ⟨vs, H1, J, r, q⟩ => ⟨J.kIn, ?_⟩) he hpl
  have rr : Vals (vs ++ dvs) (us ++ ds) := r.append hd
  have ll : (us ++ ds).length = ps.length := rr.length.symm.trans (F.len q)
  refine wpAny_call (codeAny_mono (F.go hr hG J.env0 (hb s1 us J.kIn ll) rr q) fun z s' hq => ?_)
  cases z with
  | error e => exact hx pins σ H1 s1 e s' J hq
  | ok fl =>
    cases fl with
    | ret u => exact J.after hq
    | next => exact hq.elim
    | brk => exact hq.elim
    | cont => exact hq.elim
/-- repr(x), x data of any depth without dicts -/
def rRepr (K : PySem.W.Frag) : List V → Hp → VK → Prop := fun xs H Q => ∃ (x : V) (d : PyData), xs = [x] ∧ Dp K H x d ∧ d.showable = true ∧ d.depth ≤ 20 ∧ d.shown.length ≤ sizeLine ∧ Q (.str d.shown) H
theorem dp_noDict {K : PySem.W.Frag} {H : Hp} : ∀ (d : PyData) {v : V}, Dp K H v d → d.hasDict = false := by
  intro d v h
  refine Dp.rec (motive_1 := fun v d _ => d.hasDict = false) (motive_2 := fun vs ds _ => PyData.hasDictAll ds = false) ?_ ?_ ?_ ?_ ?_ ?_ ?_ ?_ h
  · rfl
  · intro b; rfl
  · intro i; rfl
  · intro x; rfl
  · intro a xs ds h1 h2 ih
    simpa only [PyData.hasDict] using ih
  · intro a xs ds h1 h2 ih
    simpa only [PyData.hasDict] using ih
  · rfl
  · intro v vs d ds h1 h2 i1 i2
    simp only [PyData.hasDictAll, i1, i2, Bool.or_self]
theorem call_reprD (hG : X.A.guards = some []) (hu : X.A.units + 64 < cLine) : CallR X (.builtin "repr") (rRepr X.K) := by
  intro pins s σ H xs us Q I r h
  obtain ⟨x, d, rfl, hd, hs, hdep, hsz, q⟩ := h
  obtain ⟨u, rfl, ru⟩ := r.one
  obtain ⟨as, R⟩ := Dp.reads I d x u hd ru
  have fin : ∀ (h' : Heap) (t : Tok) (tk : Tok), (∀ b o, s.heap.get? b = some o → h'.get? b = some o) → EP X pins σ Q (.str d.shown t) { s with heap := h', toks := tk } := fun h' t tk hk => ⟨.str _, H, I.kept hk, ⟨_, rfl⟩, q⟩
  have same : EP X pins σ Q (.str d.shown s.toks) { s with toks := s.toks + 1 } := ⟨.str _, H, I.tok _, ⟨_, rfl⟩, q⟩
  cases R with
  | none => exact PySem.P.repr_of_none same
  | bool b => exact PySem.P.repr_of_bool same
  | int i t => exact PySem.P.repr_of_int (by simpa [PyData.showable] using hs) same
  | str x t => exact PySem.P.repr_of_str same hsz
  | list a b c d' => exact repr_of_reads' (Reads.list a b c d') hs (fun z => by rw [dp_noDict _ hd] at z; cases z) hG (by omega) (fun _ _ e => e) (fun h' u tk hk => fin h' u tk hk) hsz
  | tuple a b c d' => exact repr_of_reads' (Reads.tuple a b c d') hs (fun z => by rw [dp_noDict _ hd] at z; cases z) hG (by omega) (fun _ _ e => e) (fun h' u tk hk => fin h' u tk hk) hsz
  | dict a b c d' e => cases hd
end
/-! ### the law's end -/
section
variable {P : Program} {w : World} {K : PySem.W.Frag} {mg mb : Str → Option Value} {CX : CXT} {k : Nat} {fa a : Addr} {fd : FuncData} {x : Str} {sp : Sp} {s0 : Shared} {vs : List Value} {ns : List Int}
/-- the law's call at a heap in which at most the script is tracked -/
theorem end_at {H : Hp} (Ki : K.In s0.heap) (g1 : s0.heap.Ns mainGlobals mg) (g2 : s0.heap.Ns builtinsNs mb) (g3 : ∀ x : Str, x ≠ "__name__" → mb x = bootBuiltins x) (g4 : s0.heap.NoLimit) (g5 : s0.gens = #[])
    (ea : s0.heap.get? a = some { cls := .type "list", data := .seq vs.toArray }) (hr : Room k callerA) (F : ∀ base : Heap, K.In base → base.Ns mainGlobals mg → FnG P w K mg base CX k fa fd [x] sp)
    (hb : ∀ (s : Shared) (u : Value), BindsTo s fd ⟨[u], []⟩ [(x, u)]) (hO : Only H) (only : ∀ b, H b ≠ none → b = a) (own : H a ≠ none → K.lookup a = none) (hok : HOk P w H s0.heap) (hs : sp [.ref a] H (fun v _ => v = .bl true) fun _ _ _ => False)
    (hX : ∀ e s', CX [] H s0 (fun _ _ _ => False) e s' → False) :
    codeAny (model P w) callerA (.call (.ref fa) ⟨[.ref a], []⟩) (fun r s' => r = .ok (.ret (.bool true)) ∧ OldK s0.heap s'.heap ∧ s'.os = s0.os ∧ AllBare s'.gens) s0 := by
  -- what is tracked is the script, a list: no dict
  have dfree : ∀ {b : Addr} {o : Obj} {es : Array DictEntry} {ep : Nat}, s0.heap.get? b = some o → o.data = .dict es ep → H b = none := by
    intro b o es ep e1 e2
    rcases Option.eq_none_or_eq_some (H b) with z | ⟨y, z⟩
    · exact z
    · obtain rfl := only b (by rw [z]; exact Option.some_ne_none _)
      rw [ea] at e1
      cases e1
      exact nomatch e2
  have names : ∀ {b : Addr} {m : Str → Option Value}, s0.heap.Ns b m → (hidT s0.heap H).Ns b m := by
    rintro b m ⟨o, es, ep, e1, e2, r⟩
    exact ⟨o, es, ep, hidT_get e1 (dfree e1 e2), e2, r⟩
  have Kb : K.In (hidT s0.heap H) := fun b o e => hidT_get (Ki b o e) (by
    rcases Option.eq_none_or_eq_some (H b) with z | ⟨y, z⟩
    · exact z
    · obtain rfl := only b (by rw [z]; exact Option.some_ne_none _)
      rw [own (by rw [z]; exact Option.some_ne_none _)] at e
      cases e)
  obtain ⟨mc, l1, l2⟩ := g4
  have M : Mod K mg (hidT s0.heap H) := ⟨Kb, names g1, ⟨mb, names g2, g3⟩, ⟨mc, names l1, l2⟩⟩
  have e0 : Env0 P w K mg (hidT s0.heap H) callerA [] s0 H := by
    refine ⟨rfl, M, fun b o e => of_hidT e, Nat.le_of_eq (hidT_size _ _), trivial, fun b z => ?_, hok, .of_eq g5⟩
    cases (show b ∈ ([] : List Addr) from z)
  refine codeAny_mono ((F _ Kb (names g1)).go (us := [.ref a]) (vs := [.ref a]) hr rfl e0 (hb s0 (.ref a)) (.cons (show RelV (.ref a) (.ref a) from rfl) .nil) hs) fun r s' z => ?_
  cases r with
  | error e => exact (hX e s' z).elim
  | ok fl =>
    cases fl with
    | ret u =>
      obtain ⟨v, H', os, bare, un, hok', ru, y⟩ := z
      obtain rfl : v = .bl true := y
      cases (show u = Value.bool true from ru)
      refine ⟨rfl, OldK.of_keep fun b o e => ?_, os, bare⟩
      rcases hO b with y | ⟨ob, xs, y⟩
      · exact un.keep b o e y (fun q => nomatch (show b ∈ ([] : List Addr) from q)) (by simp)
      · have e1 := (hok b _ y).1
        have e2 := (hok' b _ (un.frzs b ob _ y)).1
        rw [e] at e1
        cases e1
        exact e2
    | next => exact z.elim
    | brk => exact z.elim
    | cont => exact z.elim
theorem end_call (Ki : K.In s0.heap) (g1 : s0.heap.Ns mainGlobals mg) (g2 : s0.heap.Ns builtinsNs mb) (g3 : ∀ x : Str, x ≠ "__name__" → mb x = bootBuiltins x) (g4 : s0.heap.NoLimit) (g5 : s0.gens = #[])
    (ea : s0.heap.get? a = some { cls := .type "list", data := .seq vs.toArray }) (hi : IntsAre vs ns) (hl : ns.length ≤ sizeLine) (hr : Room k callerA) (F : ∀ base : Heap, K.In base → base.Ns mainGlobals mg → FnG P w K mg base CX k fa fd [x] sp)
    (hb : ∀ (s : Shared) (u : Value), BindsTo s fd ⟨[u], []⟩ [(x, u)]) (hs : ∀ H : Hp, Only H → SqL K H a (ns.map V.int) → sp [.ref a] H (fun v _ => v = .bl true) fun _ _ _ => False)
    (hX : ∀ H e s', CX [] H s0 (fun _ _ _ => False) e s' → False) :
    codeAny (model P w) callerA (.call (.ref fa) ⟨[.ref a], []⟩) (fun r s' => r = .ok (.ret (.bool true)) ∧ OldK s0.heap s'.heap ∧ s'.os = s0.os ∧ AllBare s'.gens) s0 := by
  have rv : Vals (ns.map V.int) vs := vals_ints hi
  rcases Option.eq_none_or_eq_some (K.lookup a) with kn | ⟨o, kn⟩
  · -- the script is tracked, as an object that nothing changes
    have at_a : (fun b => if b = a then some (HO.frz { cls := .type "list", data := .seq vs.toArray } (.lst (ns.map V.int))) else none : Hp) a = some (.frz { cls := .type "list", data := .seq vs.toArray } (.lst (ns.map V.int))) := if_pos rfl
    have off : ∀ b, b ≠ a → (fun b => if b = a then some (HO.frz { cls := .type "list", data := .seq vs.toArray } (.lst (ns.map V.int))) else none : Hp) b = none := fun b h => if_neg h
    generalize (fun b => if b = a then some (HO.frz { cls := .type "list", data := .seq vs.toArray } (.lst (ns.map V.int))) else none : Hp) = H at at_a off
    have oo : Only H := fun b => by
      by_cases h : b = a
      · subst h
        exact .inr ⟨_, _, at_a⟩
      · exact .inl (off b h)
    refine end_at Ki g1 g2 g3 g4 g5 ea hr F hb oo (fun b h => Classical.byContradiction fun n => h (off b n)) (fun _ => kn) (fun b u z => ?_) (hs H oo (.inl (.inr ⟨_, at_a⟩))) (hX H)
    by_cases h : b = a
    · subst h
      rw [at_a] at z
      cases z
      exact ⟨ea, by rw [List.length_map]; exact hl, vs, _, rv, ea⟩
    · rw [off b h] at z
      cases z
  · -- the script is an object of the module
    have e := Ki a o kn
    rw [ea] at e
    cases e
    have oo : Only (fun _ => none) := fun _ => .inl rfl
    refine end_at Ki g1 g2 g3 g4 g5 ea hr F hb oo (fun b h => (h rfl).elim) (fun h => (h rfl).elim) (fun b u z => nomatch (show (none : Option HO) = some u from z)) (hs _ oo (.inr ⟨_, vs.toArray, _, kn, rfl, rfl, rfl, ?_, by simpa using rv⟩)) (hX _)
    rw [List.size_toArray, ← rv.length, List.length_map]
    exact hl
end
/-- the end: what the law's def promises, at each heap that the top leaves -/
theorem walk_end {l : PySem.W.OpenLaw} {n k : Nat} {q : Program} {loose : List Str} {XP : (Str → Option Value) → Heap → Prop} {YP : World → Heap → Prop} {d : DefRec} {CX : CXT} {x : Str} (most : l.most = some n) (lt : n ≤ sizeLine) (nod : d.params.defaults = []) (room : Room k callerA)
    (F : ∀ (w : World) (mg : Str → Option Value) (fa : Addr) (h : Heap), YP w h → h.Ns mainGlobals mg → mg d.name = some (.ref fa) → ∃ (K : PySem.W.Frag) (fd : FuncData) (sp : Sp), K.In h ∧ (∀ (s : Shared) (u : Value), BindsTo s fd ⟨[u], []⟩ [(x, u)]) ∧
      (∀ (H : Hp) (a : Addr) (ns : List Int), ns.length ≤ n → Only H → SqL K H a (ns.map V.int) → sp [.ref a] H (fun v _ => v = .bl true) fun _ _ _ => False) ∧ ∀ base : Heap, K.In base → base.Ns mainGlobals mg → FnG l.prog w K mg base CX k fa fd [x] sp)
    (hX : ∀ (H : Hp) (s : Shared) (e : Value) (s' : Shared), CX [] H s (fun _ _ _ => False) e s' → False) : PySem.W.WalkO q loose XP YP l.row.toRowW d [] (fun f vs => PySem.call f vs) := by
  refine Att.attach_call most nod fun w s₀ s1 mg mb fa o pm cd doc a vs ns G Y z1 z2 z3 z4 obj its short gens => ?_
  obtain ⟨K, fd, sp, Ki, bd, pr, fn⟩ := F w mg fa _ Y G.T.g z4
  exact end_call Ki G.T.g G.T.b G.T.builtins G.T.nolimit gens obj its (Nat.le_trans short lt) room fn bd (fun H o q => pr H a ns short o q) fun H e s' => hX H s1 e s'
end Og

set_option Elab.async false
set_option linter.all false
set_option maxRecDepth 100000
set_option maxHeartbeats 4000000
/-! A caught exception that stays a value behind its handler: tracked, asked by isinstance, its fields read. -/
namespace Oe
open PySem PySem.Spec PyProof.Rows L2
/-- at a: an exception object of the class cls, its dict at d -/
def ExK (cls : Value) (d : Option Addr) (a : Addr) : HO := .ext fun h => ∃ (oe : Obj) (vs : Array Value), h.get? a = some oe ∧ Zc cls d oe ∧ oe.data = .fields vs
theorem exK_ok {P : Program} {w : World} {H : Hp} {h : Heap} {a : Addr} {cls : Value} {d : Option Addr} {oe : Obj} {vs : Array Value} (e : h.get? a = some oe) (z : Zc cls d oe) (hd : oe.data = .fields vs) : ObjOk P w H h a (ExK cls d a) :=
  ⟨⟨oe, vs, e, z, hd⟩, ⟨oe, e⟩, fun _ _ ⟨o, v, q, r⟩ k => ⟨o, v, k o q, r⟩⟩
section
variable {X : Cx} {pins : List (Addr × Obj)} {σ : L2.St} {H : Hp} {s : Shared}
theorem Inv.track {a : Addr} {cls : Value} {d : Option Addr} {oe : Obj} {vs : Array Value} (I : Inv X pins σ H s) (he : s.heap.get? a = some oe) (hz : Zc cls d oe) (hd : oe.data = .fields vs) (na : H a = none) (n0 : X.s_0.heap.get? a = none) (nL : a ≠ X.env.locals)
    (nc : ∀ y c, X.env.cells.lookup y = some c → c ≠ a) (np : ∀ p ∈ X.pn ++ pins, p.1 ≠ a) : Inv X pins σ (upd H a (ExK cls d a)) s := by
  have ne0 : ∀ b o, X.s_0.heap.get? b = some o → b ≠ a := fun b o e z => by
    rw [z, n0] at e
    cases e
  refine ⟨I.ok, I.os, I.bare, ⟨I.base.keep, I.base.slot, fun b o e n hq => ?_, I.base.there, fun b xs e => ?_, fun b o u e => ?_, fun b ps e => ?_⟩, I.loc, I.cell, ?_, fun x c e => ?_, fun p hp => ?_, I.hok.laidN (fun _ _ q => q) na (exK_ok he hz hd), I.len⟩
  · rw [upd_ne (ne0 b o e)]
    exact I.base.free b o e n hq
  · have q := I.base.tups b xs e
    rw [upd_ne (ne_of_none q na)]
    exact q
  · have q := I.base.frzs b o u e
    rw [upd_ne (ne_of_none q na)]
    exact q
  · obtain ⟨m, q⟩ := I.base.tbls b ps e
    exact ⟨m, by rw [upd_ne (ne_of_none q na)]; exact q⟩
  · rw [upd_ne (Ne.symm nL)]
    exact I.free
  · rw [upd_ne (nc x c e)]
    exact I.freeC x c e
  · obtain ⟨e, n, ne, nf, d⟩ := I.pin p hp
    exact ⟨e, by rw [upd_ne (np p hp)]; exact n, ne, nf, d⟩
end
/-- what 'except x as n: m = n' wishes of an exception of the body: x's class takes it, slot j is m's, and the exception stays a value -/
def wHeld (K : PySem.W.Frag) (c : Value) (i j n : Nat) (D : Ends) : WX := fun cls d σ H =>
  PySem.W.exmOne K cls c = some true ∧ ∀ a, H a = none → σ.length = n → D.nx (((σ.set i (some (.ref a))).set j (some (.ref a))).set i none) (upd H a (ExK cls d a))
section
variable {X : Cx} {x n m : Str} {c : Value} {i j : Nat} {body : List Stmt} {q1 q2 q3 np pos pos' : Pos} {tb : WX → TS}
/-- try: body / except x as n: m = n, every exception of the body one that x takes -/
theorem ps_try_held (hex : X.ex = []) (hs : X.stack = X.env :: X.outer) (hf : X.env.frame = some X.env.locals) (hN : X.N.Nodup) (hi : X.N[i]? = some n) (hj : X.N[j]? = some m) (hln : X.env.kindOf n = some .local) (hlm : X.env.kindOf m = some .local) (hc : Names X x c)
    (hb : ∀ (W : WX) (pn : List (Addr × Obj)) (xe : Value → Shared → Prop), Takes (X.tr pn xe) W → PassesOwn (model X.prog X.w) X.A X.env xe → PSs (X.tr pn xe) body (tb W))
    (hsu : ∀ (a : Addr) (oe : Obj) (pn : List (Addr × Obj)), PSs (X.suite a ((a, oe) :: pn)) [.Assign [.Name m q1] (.Name n q2) q3] (tAsg (tVar i) (gName j))) :
    PS X (.Try body [.ExceptHandler (some (.Name x np)) (some n) [.Assign [.Name m q1] (.Name n q2) q3] pos'] [] [] pos) (fun D σ H => tb (wHeld X.K c i j X.N.length D) D σ H) := by
  refine ⟨fun pins s σ H D I h => ?_⟩
  have ok := I.ok
  have hfr : X.A.frames = some (X.env :: X.outer) := by rw [ok.frames, hs]
  refine wpAny_Try_except ?_
  let land : Value → Shared → Prop := fun e t => wpAny (model X.prog X.w) X.A (noteFrame e X.env) (fun _ t2 => wpAny (model X.prog X.w) X.A (setFlight e none) (fun _ t3 =>
    wpAny (model X.prog X.w) X.A (handleBy e X.env [.ExceptHandler (some (.Name x np)) (some n) [.Assign [.Name m q1] (.Name n q2) q3] pos']) (SP X pins D) X.xe t3) X.xe t2) X.xe t
  have tk : Takes (X.tr (X.pn ++ pins) land) (wHeld X.K c i j X.N.length D) := fun u s' xx => ?caught
  refine wpAny_mono ((hb (wHeld X.K c i j X.N.length D) (X.pn ++ pins) land tk PassesOwn.looking).run [] s σ H D (I.toTry _) h) (fun f s1 hsp => ?through) (fun e s1 he => he)
  case through =>
    cases f with
    | next => exact hsp.elim fun σ' z => z.elim fun H' y => wpAny_execs_nil ⟨σ', H', y.1.ofTry ok, y.2⟩
    | brk => exact hsp.elim fun σ' z => z.elim fun H' y => ⟨σ', H', y.1.ofTry ok, y.2⟩
    | cont => exact hsp.elim fun σ' z => z.elim fun H' y => ⟨σ', H', y.1.ofTry ok, y.2⟩
    | ret u => exact hsp.elim fun v z => z.elim fun σ' y => y.elim fun H' x => ⟨v, σ', H', x.1.ofTry ok, x.2⟩
  case caught =>
    obtain ⟨a, B, sI, pins', σ', H', cls, d, rfl, J', nb, up, sky, na, os, ag, hx1, hyes⟩ := xx
    have J : Inv X pins σ' H' sI := J'.ofTry ok
    rw [show X.stack = X.env :: X.outer from hs] at nb
    show land (.ref a) s'
    refine Sky.land Zc.steady hfr hf (show Sky B (X.env :: X.outer) a (Zc cls d) X.env.locals s'.heap by rw [← hs]; exact sky) fun h3 fl3 up3 => ?_
    -- where the exception lies: no frame, not there at the entry
    have far : ∀ {h : Heap}, HandSPX.FlyingZ B (X.env :: X.outer) a (Zc cls d) h → a ∉ frs (X.env :: X.outer) := fun fl hm => by
      obtain ⟨oe, vs, e, _, dd⟩ := fl.there
      obtain ⟨_, o', e', hnf⟩ := fl.2.2.1.mem hm
      rw [e] at e'
      cases e'
      exact hnf _ dd
    have nfr := far fl3
    have nL : a ≠ X.env.locals := fun z => nfr (List.mem_filterMap.mpr ⟨X.env, List.mem_cons_self, by rw [hf, z]⟩)
    have nF : a ∉ X.fs := fun hm => by
      obtain ⟨e, he, q⟩ := List.mem_filterMap.mp hm
      exact nfr (List.mem_filterMap.mpr ⟨e, List.mem_cons_of_mem _ he, q⟩)
    have s0 : sI.heap.get? a = none := by
      cases z : sI.heap.get? a with
      | none => rfl
      | some o =>
        have z2 := nb a o z nfr
        rw [fl3.2.1] at z2
        cases z2
    have gone : ∀ {b : Addr} {o : Obj}, sI.heap.get? b = some o → b ≠ a := fun {b o} e z => by
      rw [z, s0] at e
      cases e
    have n0 : X.s_0.heap.get? a = none := by
      cases z : X.s_0.heap.get? a with
      | none => rfl
      | some o =>
        obtain ⟨o', z2⟩ := J.base.there a o z (by rw [hex]; exact fun z => nomatch z)
        exact absurd rfl (gone z2)
    obtain ⟨oe3, vs3, he3, hz3, hd3⟩ := fl3.there
    have back : ∀ {h4 : Heap}, HandSPX.FlyingZ B (X.env :: X.outer) a (Zc cls d) h4 → sI.heap.UpToSlots h4 → Inv X pins σ' H' { s' with heap := h4 } := fun fl u => J.landed (by rw [hs]; exact nb) fl.1 u os ag
    have J3 := back fl3 (up.trans up3)
    have S3 := J3.suite he3 hd3 na nL nF
    -- the class fits
    refine wpAny_handleBy_cons (codeAny_handlers_test ?_) (by intro q; cases q)
    have LT : PySem.W.Looks (model X.prog X.w) h3 (typeOf (.ref a)) cls := fun A Q E s k q => wpAny_typeOf_ref (k _ _ he3) (by rw [hz3.1]; exact q)
    have fits := PySem.W.exm_one (M := model X.prog X.w) J3.kIn LT hx1
    have named : ∀ {Q E : Value → Shared → Prop}, Q c { s' with heap := h3 } → wpAny (model X.prog X.w) (X.A.mark (some (.ref a))) (eval (.Name x np) X.env) Q E { s' with heap := h3 } := fun {Q E} q => by
      obtain ⟨hg, hdbg, hm | ⟨hm, hv, hnn⟩⟩ := hc
      · exact ld_glob (X := X.suite a ((a, oe3) :: (X.pn ++ pins))) S3 hg hm q hdbg
      · exact ld_blt (X := X.suite a ((a, oe3) :: (X.pn ++ pins))) S3 hg hm hv q hnn hdbg
    refine named (fits.here (codeAny_handlers_suite_as (HandSPX.lands_againZ fl3 fun h4 fl4 up4 => ?_)))
    obtain ⟨oe4, vs4, he4, hz4, hd4⟩ := fl4.there
    have S4 := (back fl4 ((up.trans up3).trans up4)).suite he4 hd4 na nL nF
    refine store_ok (X := X.suite a ((a, oe4) :: (X.pn ++ pins))) (v := .ref a) S4 hN hi (.inl hln) rfl (fun s5 S5 => ?_) (.inr hln)
    refine wpAny_mono ((hsu a oe4 (X.pn ++ pins)).run [] s5 _ H' { nx := fun σ6 H6 => σ6 = (σ'.set i (some (.ref a))).set j (some (.ref a)) ∧ H6 = H', rt := fun _ _ => False, bk := fun _ _ => False, ct := fun _ _ => False } S5 ?_) (fun f s6 hsp => ?_) (fun _ _ z => False.elim z)
    · have li : i < σ'.length := by
        rw [J.len]
        exact (List.getElem?_eq_some_iff.mp hi).1
      exact ⟨.ref a, List.getElem?_set_self li, rfl, rfl⟩
    cases f with
    | brk => exact hsp.elim fun _ z => z.elim fun _ y => y.2.elim
    | cont => exact hsp.elim fun _ z => z.elim fun _ y => y.2.elim
    | ret u => exact hsp.elim fun _ w => w.elim fun _ z => z.elim fun _ y => y.2.2.elim
    | next =>
      obtain ⟨σ6, H6, S6, rfl, rfl⟩ := hsp
      have hp6 := S6.pin (a, oe4) (List.mem_append_left _ List.mem_cons_self)
      have T6 := Inv.track (S6.unsuite ok) hp6.1 hz4 hd4 na n0 nL (fun y c e => (J.cell y c e).elim fun v z => z.elim fun o z2 => gone z2.1) fun p hp => gone (J.pin p hp).1
      exact gone_ok T6 hN hi hln fun s7 J7 => ⟨_, _, J7, hyes a na J.len⟩
end
/-! ### isinstance of it, a field of it -/
section
variable {X : Cx}
/-- isinstance(x, c), x an exception value of the own class D -/
def rIsX (K : PySem.W.Frag) : List V → Hp → VK → Prop := fun xs H Q => ∃ (a D : Addr) (d : Option Addr) (c : V) (cv : Value) (b : Bool), xs = [.ref a, c] ∧ H a = some (ExK (.ref D) d a) ∧ (∀ dd, d = some dd → ∃ fs, H dd = some (.xd fs)) ∧ L2.ExcC K D ∧ (∀ u, RelV c u → u = cv) ∧ PySem.W.kitOne K (.ref D) cv = some b ∧ Q (.bl b) H
theorem exK_at {P : Program} {w : World} {H : Hp} {h : Heap} {a : Addr} {cls : Value} {d : Option Addr} (hok : HOk P w H h) (he : H a = some (ExK cls d a)) : ∃ (oe : Obj) (vs : Array Value), h.get? a = some oe ∧ Zc cls d oe ∧ oe.data = .fields vs := by
  have x : ObjOk P w H h a (.ext fun h => ∃ (oe : Obj) (vs : Array Value), h.get? a = some oe ∧ Zc cls d oe ∧ oe.data = .fields vs) := hok a _ he
  exact x.1
/-- the object of a dict of an exception -/
theorem xd_obj {P : Program} {w : World} {H : Hp} {h : Heap} {dd : Addr} {fs : List (Str × V)} (hok : HOk P w H h) (e : H dd = some (.xd fs)) : ∃ mA, h.Ns1 dd mA ∧ ∀ f, RelO (fs.lookup f) (mA f) := by
  have hx : ObjOk P w H h dd (.xd fs) := hok dd _ e
  obtain ⟨mA, hns, hr⟩ := hx
  exact ⟨mA, hns, hr⟩
theorem exK_inst {P : Program} {w : World} {H : Hp} {h : Heap} {a D : Addr} {d : Option Addr} (hok : HOk P w H h) (he : H a = some (ExK (.ref D) d a)) (hd : ∀ dd, d = some dd → ∃ fs, H dd = some (.xd fs)) : ∃ oe od, PySem.W.InstAt h a oe D od := by
  obtain ⟨oe, vs, e1, hz, e2⟩ := exK_at hok he
  cases d with
  | none => exact ⟨oe, none, e1, hz.1, by unfold PySem.W.notCls; rw [e2] <;> rfl, by rw [hz.2]; trivial⟩
  | some dd =>
    obtain ⟨fs, ed⟩ := hd dd rfl
    obtain ⟨mA, hns, _⟩ := xd_obj hok ed
    obtain ⟨od, es, ep, ho, _⟩ := hns
    exact ⟨oe, some od, e1, hz.1, by unfold PySem.W.notCls; rw [e2] <;> rfl, by rw [hz.2]; exact ho⟩
theorem call_isX : CallR X (.builtin "isinstance") (rIsX X.K) := by
  intro pins s σ H xs us Q I r h
  obtain ⟨a, D, d, c, cv, b, rfl, he, hd, C, hcv, e, q⟩ := h
  cases r with
  | cons rx rr =>
    cases rr with
    | cons rt rr =>
      cases rr
      cases rx
      have ec := hcv _ rt
      subst ec
      obtain ⟨oe, od, J⟩ := exK_inst I.hok he hd
      have hcl : (PySem.W.clsIn X.K D).isSome = true := by
        obtain ⟨cd, hc, _⟩ := PySem.W.any_some C.hd
        rw [hc]
        rfl
      exact PySem.W.kia_one (PySem.W.kitx_exc hcl C.hg C.hk C.hs C.ha C.hn C.ht C.hm) I.kIn J e (fun z => nomatch z) fun tk => ⟨.bl b, H, I.kept (t' := tk) fun _ _ z => z, rfl, q⟩
/-- x.f, x an exception value of the own class C -/
def tXk (K : PySem.W.Frag) (f : Str) (te : TE) : TE := fun σ H Q => te σ H fun x H1 => ∃ (a C dd : Addr) (fs : List (Str × V)) (v : V), x = .ref a ∧ H1 a = some (ExK (.ref C) (some dd) a) ∧ H1 dd = some (.xd fs) ∧ XfC K C ∧ PySem.W.findIn K (.ref C) f = some none ∧ fs.lookup f = some v ∧ Q v H1
theorem pe_xk {e : Expr} {te : TE} {pos : Pos} {n : Str} (he : PE X e te) (hb : attributeBase e n X.env (eval e X.env) = eval e X.env := by rfl) : PE X (.Attribute e n pos) (tXk X.K n te) := by
  refine ⟨fun pins s σ H Q I h => ?_⟩
  refine attr_of hb (thn (he.run pins s σ H _ I h) fun u s1 hh => ?_)
  obtain ⟨x, H1, I1, rx, a, C, dd, fs, v, ex, ea, ed, T, hno, l, q⟩ := hh
  subst ex
  obtain rfl : u = Value.ref a := rx
  obtain ⟨oe, vs, e1, hz, e2⟩ := exK_at I1.hok ea
  obtain ⟨mA, hns, hr⟩ := xd_obj I1.hok ed
  obtain ⟨od, ho, hl⟩ := lookIn_ns hns
  obtain ⟨u, hu, ru⟩ := RelO.some_of (v := v) (o := mA n) (by rw [← l]; exact hr n)
  have J : PySem.W.InstAt s1.heap a oe C (some od) := ⟨e1, hz.1, by unfold PySem.W.notCls; rw [e2] <;> rfl, by rw [hz.2]; exact ho⟩
  exact HandSPX.exc_get I1.kIn J T.ga T.gg T.exC (PySem.W.findObj_own T.hdC hno rfl (by rw [hl, hu])) (handed_of ru) ⟨v, H1, I1.tok _, ru, q⟩
end
end Oe

set_option Elab.async false
set_option linter.all false
set_option maxRecDepth 100000
set_option maxHeartbeats 4000000
/-! Exceptions of own classes made as values: by position, by keywords, of no arguments. -/
namespace Oh
open PySem PySem.Spec PyProof.Rows L2 Oe PySem.HandSPX
section
variable {os : OsState} {t : Nat} {d : Drawn} {g : Array GenState} {h : Heap} {A : Around} {M : Model} {E : Value → Shared → Prop}
variable {B newId initId : String} {k0 k1 k2 k3 k5 : Option Value} {dd : Option Addr} {col : Option Bool} {ab : Bool} {sub : List Value} {sn : List Str} {hdct : Bool} {bs bm bmB : List Value} {C N : Addr} {nm q : Str}
theorem check_newK {rest : List Value} {kw : List (Str × Value)} {Q : Unit → Shared → Prop} (F : ExcBaseFacts B newId initId bmB) (hT : ∀ X : String, bm.contains (.type X) = bmB.contains (.type X))
    (hC : h.get? C = some (excClassObj nm q C N bs bm hdct sn sub ab col dd k0 k1 k2 k3 k5 newId)) (hq : Q () ⟨h, g, d, t, os⟩) :
    wpAny M A (checkBuiltinCall newId ⟨.ref C :: rest, kw⟩) Q E ⟨h, g, d, t, os⟩ := by
  have inB : (Value.ref C :: bm).contains (.type B) = true := by
    rw [List.contains_cons, hT, F.hasB, Bool.or_true]
  have star := F.noStar
  simp only [checkBuiltinCall, F.newKind, F.newSplit, F.newRow]
  repeat (first
    | refine wpAny_loadPart_at hC ?_
    | (refine wpAny_isSubtype_exc hC ?_; rw [inB])
    | refine wpAny_staticBase_exc hC ?_
    | refine wpAny_madeBy_exc hC ?_
    | simp only [bne_self_eq_false, Bool.false_eq_true, if_false]
    | wp_step)
  exact hq
end
section
variable {os : OsState} {t : Nat} {d : Drawn} {g : Array GenState} {h : Heap} {R : Result → Shared → Prop} {E : Value → Shared → Prop} {A : Around} {w : World} {prog : Program}
variable {B newId initId : String} {k0 k1 k2 k3 k5 : Option Value} {dd : Option Addr} {col : Option Bool} {ab : Bool} {sub : List Value} {sn : List Str} {hdct : Bool} {bs bm bmB : List Value} {C N : Addr} {nm q : Str}
theorem new_K {rest : List Value} {kw : List (Str × Value)} (F : ExcBaseFacts B newId initId bmB) (hT : ∀ X : String, bm.contains (.type X) = bmB.contains (.type X))
    (hC : h.get? C = some (excClassObj nm q C N bs bm hdct sn sub ab col dd k0 k1 k2 k3 k5 newId)) (hl : rest.length ≤ sizeLine)
    (hq : R (.ok (.ret (.ref (h.objs.size + 1)))) ⟨(h.push (W.kdv_tup rest)).push (excO C h.objs.size), g, d, t, os⟩) :
    codeAny (model prog w) A (.builtin newId ⟨.ref C :: rest, kw⟩) R ⟨h, g, d, t, os⟩ := by
  have ends := F.ends
  have inB : (Value.ref C :: bm).contains (.type B) = true := by
    rw [List.contains_cons, hT, F.hasB, Bool.or_true]
  have noA : (Value.ref C :: bm).contains (.type "AttributeError") = false := by
    rw [List.contains_cons, hT, F.noAttr]
    rfl
  have noN : (Value.ref C :: bm).contains (.type "NameError") = false := by
    rw [List.contains_cons, hT, F.noName]
    rfl
  refine codeAny_builtinAt F.entry ?_
  unfold Builtin.«BaseException.__new__»
  refine PySem.wpAt_bind ?_
  show PySem.wpAt _ _ _ (stack >>= _) _ _ _
  refine PySem.wpAt_bind (PySem.wpAt_stack fun p below => PySem.wpAt_of_wpAny ?_)
  wp_walk
  refine PySem.wpAt_of_wpAny ?_
  rw [F.owner]
  repeat (first
    | with_reducible refine wpAny_madeHere_exc F.canon hC ?_
    | with_reducible refine wpAny_loadPart_at hC ?_
    | (with_reducible refine wpAny_isSubtype_exc hC ?_
       first | rw [inB] | rw [noA] | rw [noN])
    | wp_step)
  show R _ _
  rw [Heap.size_push]
  exact hq
theorem type_callK {rest : List Value} {kw : List (Str × Value)} {fI : Addr} {Q : Fin → Shared → Prop} (F : ExcBaseFacts B newId initId bmB) (hT : ∀ X : String, bm.contains (.type X) = bmB.contains (.type X))
    (hC : h.get? C = some (excClassObj nm q C N bs bm hdct sn sub ab col dd k0 k1 k2 k3 k5 newId)) (hi : W.Looks (model prog w) h (typeLookup (.ref C) "__init__") (some (.ref fI)))
    (hb : ∀ self, W.Looks (model prog w) h (bindSpecial (.ref fI) self) (.ref fI, [self])) (hl : rest.length ≤ sizeLine)
    (hq : codeAny (model prog w) A (.call (.ref fI) ⟨.ref (h.objs.size + 1) :: rest, kw⟩)
      (fun r s' => match r with | .ok (.ret v) => v = .none ∧ Q (.done (.ret (.ref (h.objs.size + 1)))) s' | .ok _ => False | .error e => E e s')
      ⟨(h.push (W.kdv_tup rest)).push (excO C h.objs.size), g, d, t, os⟩) :
    wpAny (model prog w) A (Builtin.«type.__call__» ⟨.ref C :: rest, kw⟩) Q E ⟨h, g, d, t, os⟩ := by
  repeat (first | with_reducible refine wpAny_loadPart_at hC ?_ | with_reducible refine wpAny_madeBy_exc hC ?_ | wp_step)
  refine codeAny_call_builtin_code (Code.quiet_builtin _ F.quiet) (check_newK F hT hC ?_)
  refine new_K F hT hC hl ?_
  show wpAny _ _ _ _ _ _
  have kp : ∀ b o, h.get? b = some o → ((h.push (W.kdv_tup rest)).push (excO C h.objs.size)).get? b = some o := fun b o e => Heap.get?_push_of_some _ (Heap.get?_push_of_some _ e)
  have atC := kp _ _ hC
  have atE : ((h.push (W.kdv_tup rest)).push (excO C h.objs.size)).get? (h.objs.size + 1) = some (excO C h.objs.size) := by heap_get
  have own : (Value.ref C :: bm).contains (.ref C) = true := by simp
  have ini := hi.keeps kp
  have bnd := (hb (.ref (h.objs.size + 1))).keeps kp
  unfold isInstance
  repeat (first
    | with_reducible refine wpAny_loadPart_at atE ?_
    | (with_reducible refine wpAny_isSubtype_exc atC ?_; rw [own])
    | wp_step)
  show wpAny _ _ (typeLookup (.ref C) _) _ _ _
  refine ini.at (wpAny_holding (wpAny_bind (bnd.at ?_)))
  refine wpAny_bind (wpAny_call (codeAny_mono hq fun r s' z => ?_))
  match r, z with
  | .error e, z => exact z
  | .ok (.ret v), z =>
    obtain ⟨rfl, z⟩ := z
    first
      | exact wpAny_pure (wpAny_pure z)
      | (wp_walk; exact z)
theorem call_K {rest : List Value} {kw : List (Str × Value)} {fI : Addr} (F : ExcBaseFacts B newId initId bmB) (hT : ∀ X : String, bm.contains (.type X) = bmB.contains (.type X))
    (hC : h.get? C = some (excClassObj nm q C N bs bm hdct sn sub ab col dd k0 k1 k2 k3 k5 newId)) (hi : W.Looks (model prog w) h (typeLookup (.ref C) "__init__") (some (.ref fI)))
    (hb : ∀ self, W.Looks (model prog w) h (bindSpecial (.ref fI) self) (.ref fI, [self])) (hl : rest.length ≤ sizeLine)
    (hq : codeAny (model prog w) (A.under (.builtin "type.__call__" ⟨.ref C :: rest, kw⟩)) (.call (.ref fI) ⟨.ref (h.objs.size + 1) :: rest, kw⟩) (W.InitBack (h.objs.size + 1) R)
      ⟨(h.push (W.kdv_tup rest)).push (excO C h.objs.size), g, d, t, os⟩) :
    codeAny (model prog w) A (.call (.ref C) ⟨rest, kw⟩) R ⟨h, g, d, t, os⟩ := by
  have look := tc_lookup
  have bind := tc_bind (.ref C)
  have ty : (⟨h, g, d, t, os⟩ : Shared).TypeIs (.ref C) "type" := ⟨_, hC, rfl⟩
  refine codeAny_of_tree ?_
  show wpAny _ _ (callAny (.ref C) _) _ _ _
  repeat (any_goals (first | assumption | with_reducible refine wpAny_loadPart_at hC ?_ | wp_step))
  refine ⟨rfl, ?_⟩
  refine codeAny_call_builtin_at (Code.quiet_builtin _ (by decide +kernel)) entry_typeCall ?_
  refine wpAny_check_type_call_sub hC (type_callK F hT hC hi hb hl ?_)
  refine codeAny_mono hq fun r s' z => ?_
  match r, z with
  | .error e, z => exact z
  | .ok (.ret v), z => exact z
end
end Oh
namespace Oh
open PySem PySem.Spec PyProof.Rows L2 Oe
section
variable {X : Cx} {pins : List (Addr × Obj)} {σ : L2.St} {H : Hp} {s : Shared}
/-- a thing told by what is true of its object may be told otherwise -/
theorem retold {b : Addr} {o' : HO} {φ : Heap → Prop} (I : Inv X pins σ H s) (hb : H b = some (.ext φ)) (ok : ObjOk X.prog X.w (upd H b o') s.heap b o') : Inv X pins σ (upd H b o') s := by
  obtain ⟨_, ⟨u, hu⟩, _⟩ := (show ObjOk X.prog X.w H s.heap b (.ext φ) from I.hok b _ hb)
  have mu : Mut (H b) := by
    rw [hb]
    trivial
  exact I.write (t' := s.toks) mu (.inl rfl) (fun _ _ _ e => e) ⟨u, hu⟩ ok
/-- what making an exception of C by its own __init__ asks, if it stays a value -/
def exAsk (C : Addr) (sp : Sp) (vs : List V) (H1 : Hp) (Q : VK) : Prop := ∀ a, H1 a = none → sp (.ref a :: vs) (upd H1 a (exo a C none))
  (fun v H2 => v = .non ∧ ((∃ (d : Addr) (fs : List (Str × V)), H2 a = some (exo a C (some d)) ∧ H2 d = some (exd d fs) ∧ Q (.ref a) (upd (upd H2 d (.xd fs)) a (ExK (.ref C) (some d) a))) ∨
    (H2 a = some (exo a C none) ∧ Q (.ref a) (upd H2 a (ExK (.ref C) none a))))) (fun _ _ _ => False)
theorem ne_exd {H : Hp} {a d C : Addr} {c : Option Addr} {fs : List (Str × V)} {h : Heap} {P : Program} {w : World} (ok : HOk P w H h) (e1 : H a = some (exo a C c)) (e2 : H d = some (exd d fs)) : d ≠ a := fun z => by
  obtain ⟨t0, hoe⟩ := exo_at ok e1
  obtain ⟨mA, ⟨o, es, ep, x1, x2, _⟩, _⟩ := exd_at ok e2
  rw [z, hoe] at x1
  cases x1
  cases x2
variable {CX : CXT} {k : Nat} {C fI : Addr} {fd : FuncData} {ps : List Str} {sp : Sp} {us ws : List Value} {kw : List (Str × Value)} {vs : List V} {Q : VK}
theorem run_ex (T : OexC X.K C) (iC : PySem.W.findIn X.K (.ref C) "__init__" = some (some (.ref fI))) (tI : PySem.W.typeIn X.K (.ref fI) = some (.type "function")) (F1 : FnOk X.prog X.w X.K X.mg X.base CX k fI fd ps sp) (hr : Room (k + 1) X.A)
    (hx : Passes CX X (fun _ _ _ => False)) (I1 : Inv X pins σ H s) (hb : ∀ (s' : Shared) (u : Value), X.K.In s'.heap → BindsTo s' fd ⟨u :: us, kw⟩ (ps.zip (u :: ws))) (r : Vals vs ws) (hl : us.length ≤ sizeLine) (h : exAsk C sp vs H Q) :
    wpAny (model X.prog X.w) X.A (call (.ref C) us kw) (EP X pins σ Q) X.xe s := by
  obtain ⟨nm, q, N, bs, bm, sn, sub, ab, col, dd, k0, k1, k2, k3, k5, hC, hbm⟩ := T.cls
  obtain ⟨hp, g, dr, tk, os⟩ := s
  have hsz : hp.objs.size ≤ hp.objs.size + 1 := Nat.le_succ _
  have hn : H (hp.objs.size + 1) = none := I1.hok.fresh hsz
  have hq := h (hp.objs.size + 1) hn
  have kk : ∀ b o, hp.get? b = some o → ((hp.push (PySem.W.kdv_tup us)).push (PySem.HandSPX.excO C hp.objs.size)).get? b = some o := fun b o e => Heap.get?_push_of_some _ (Heap.get?_push_of_some _ e)
  have hget : ((hp.push (PySem.W.kdv_tup us)).push (PySem.HandSPX.excO C hp.objs.size)).get? (hp.objs.size + 1) = some (PySem.HandSPX.excO C hp.objs.size) := by heap_get
  have I2 := Inv.laid (t' := tk) (a := hp.objs.size + 1) (o := exo (hp.objs.size + 1) C none) (h' := (hp.push (PySem.W.kdv_tup us)).push (PySem.HandSPX.excO C hp.objs.size)) I1 kk hsz (exo_ok hget)
  have r2 : Vals (V.ref (hp.objs.size + 1) :: vs) (Value.ref (hp.objs.size + 1) :: ws) := .cons rfl r
  refine wpAny_call (call_K PySem.F.excBase_ValueError (fun Y => PySem.HandSPX.refsVE_contains Y bm hbm) (I1.kIn _ _ hC) (PySem.W.looks_findIn I1.kIn iC) (fun self => PySem.W.bind_fn I1.kIn self tI) hl
    (codeAny_mono (F1.run _ X.stack _ _ ⟨Value.ref (hp.objs.size + 1) :: us, kw⟩ (Value.ref (hp.objs.size + 1) :: ws) _ _ (fun _ _ _ => False) (hr.make C us kw) (I2.env0.make C us kw) (hb _ (Value.ref (hp.objs.size + 1)) I2.kIn) r2 hq) fun r s' hq' => ?_))
  cases r with
  | error er => exact hx pins σ _ _ er s' I2 hq'
  | ok fl =>
    cases fl with
    | next => exact False.elim hq'
    | brk => exact False.elim hq'
    | cont => exact False.elim hq'
    | ret u =>
      obtain ⟨v, H2, I3, rv, ev, q2⟩ := I2.after hq'
      subst ev
      refine ⟨rv, ?_⟩
      rcases q2 with ⟨d, fs, ea, ed, q3⟩ | ⟨ea, q3⟩
      · have nda := ne_exd I3.hok ea ed
        obtain ⟨mA, hns, rel⟩ := exd_at I3.hok ed
        have I4 := retold (o' := .xd fs) I3 ed ⟨mA, hns, rel⟩
        have ea' : upd H2 d (.xd fs) (hp.objs.size + 1) = some (exo (hp.objs.size + 1) C (some d)) := by
          rw [upd_ne (Ne.symm nda)]
          exact ea
        obtain ⟨t0, ho⟩ := exo_at I3.hok ea
        exact ⟨.ref (hp.objs.size + 1), _, retold I4 ea' (exK_ok ho ⟨rfl, rfl⟩ rfl), rfl, q3⟩
      · obtain ⟨t0, ho⟩ := exo_at I3.hok ea
        exact ⟨.ref (hp.objs.size + 1), _, retold I3 ea (exK_ok ho ⟨rfl, rfl⟩ rfl), rfl, q3⟩
end
section
variable {X : Cx} {CX : CXT} {k : Nat} {C fI : Addr} {fd : FuncData} {ps ks : List Str} {sp : Sp} {x : Str} {p pos : Pos} {e : Expr} {es : List Expr} {kws : List Keyword} {t tk : TA}
/-- C(e, ..) as a value -/
theorem pe_ex (T : OexC X.K C) (iC : PySem.W.findIn X.K (.ref C) "__init__" = some (some (.ref fI))) (tI : PySem.W.typeIn X.K (.ref fI) = some (.type "function")) (F1 : FnOk X.prog X.w X.K X.mg X.base CX k fI fd ps sp) (hr : Room (k + 1) X.A)
    (hb : Binds X.K fd ps []) (hx : Passes CX X (fun _ _ _ => False)) (hg : Gl X x) (hm : X.mg x = some (.ref C)) (ha : PA X (e :: es) t) (hdb : (x == ("__debug__" : Str)) = false := by decide)
    (he : starEach (e :: es) X.env = (false, eval e X.env) :: starEach es X.env := by rfl) (hpl : (backTo pos (starEach es X.env)).any (·.1) = false := by rfl) :
    PE X (.Call (.Name x p) (e :: es) [] pos) (fun σ H Q => t σ H fun vs H1 => vs.length ≤ 1000 ∧ vs.length + 1 = ps.length ∧ exAsk C sp vs H1 Q) := by
  refine ⟨fun pins s σ H Q I h => wpAny_Call_Name_kw (ld_glob I hg hm ?_ hdb)⟩
  refine PySem.W.callWith_K (h₀ := X.base) I.ok.mod.kin T.kC (thn (ha.run pos pins s σ H _ I h) fun us s1 ⟨vs, H1, I1, r1, hz, hn, q1⟩ => ⟨I1.kIn, ?_⟩) he hpl
  refine run_ex (us := us) (ws := us) (kw := []) T iC tI F1 hr hx I1 (fun s' u K' => ?_) r1 ?_ q1
  · have hl : ((u :: us) ++ ([] : List Value)).length = ps.length := by
      rw [List.append_nil, List.length_cons, ← r1.length, hn]
    have z := hb s' (u :: us) K' hl
    rw [List.append_nil] at z
    exact z
  · rw [← r1.length, sizeLine_eq]
    omega
/-- how the class is called by keywords alone: the values in the order of the parameters -/
def KwIn (K : PySem.W.Frag) (fd : FuncData) (ps ks : List Str) (g : List Value → List Value) : Prop := ∀ (s : Shared) (u : Value) (ws : List Value), K.In s.heap → ws.length = ks.length → BindsTo s fd ⟨[u], ks.zip ws⟩ (ps.zip (u :: g ws))
/-- C(k = v, ..) as a value -/
theorem pe_exK {g : List Value → List Value} {gV : List V → List V} (T : OexC X.K C) (iC : PySem.W.findIn X.K (.ref C) "__init__" = some (some (.ref fI))) (tI : PySem.W.typeIn X.K (.ref fI) = some (.type "function")) (F1 : FnOk X.prog X.w X.K X.mg X.base CX k fI fd ps sp) (hr : Room (k + 1) X.A)
    (hb : KwIn X.K fd ps ks g) (hgv : ∀ {vs : List V} {ws : List Value}, Vals vs ws → Vals (gV vs) (g ws)) (hx : Passes CX X (fun _ _ _ => False)) (hg : Gl X x) (hm : X.mg x = some (.ref C)) (hkw : PK X kws tk)
    (hall : (backToKw pos (keywordEach kws X.env)).all (·.1.isSome) = true := by rfl) (hks : (backToKw pos (keywordEach kws X.env)).filterMap (·.1) = ks := by rfl) (hdb : (x == ("__debug__" : Str)) = false := by decide)
    (hpl : ((backTo pos (starEach [] X.env)).any (·.1) || (backToKw pos (keywordEach kws X.env)).any (·.1.isNone)) = false := by rfl) :
    PE X (.Call (.Name x p) [] kws pos) (fun σ H Q => tk σ H fun zs H1 => zs.length = ks.length ∧ exAsk C sp (gV zs) H1 Q) := by
  refine ⟨fun pins s σ H Q I h => wpAny_Call_Name_kw (ld_glob I hg hm ?_ hdb)⟩
  refine PySem.W.callWith_KW0 (h₀ := X.base) I.ok.mod.kin T.kC hall ?_ hpl
  refine thn (hkw.run pos pins s σ H _ I h) fun ws s2 ⟨zs, H2, I2, rz, l2, q2⟩ => ⟨I2.kIn, ?_⟩
  rw [hks]
  exact run_ex (us := []) (ws := g ws) (kw := ks.zip ws) T iC tI F1 hr hx I2 (fun s' u K' => hb s' u ws K' (rz.length.symm.trans l2)) (hgv rz) (Nat.zero_le _) q2
/-- C() as a value -/
theorem pe_ex0 (T : OexC X.K C) (iC : PySem.W.findIn X.K (.ref C) "__init__" = some (some (.ref fI))) (tI : PySem.W.typeIn X.K (.ref fI) = some (.type "function")) (F1 : FnOk X.prog X.w X.K X.mg X.base CX k fI fd ps sp) (hr : Room (k + 1) X.A)
    (hb : Binds X.K fd ps []) (hps : ps.length = 1) (hx : Passes CX X (fun _ _ _ => False)) (hg : Gl X x) (hm : X.mg x = some (.ref C)) (hdb : (x == ("__debug__" : Str)) = false := by decide) :
    PE X (.Call (.Name x p) [] [] pos) (fun σ H Q => exAsk C sp [] H Q) := by
  refine ⟨fun pins s σ H Q I h => wpAny_Call_Name_kw (ld_glob I hg hm ?_ hdb)⟩
  refine PySem.W.callWith_K0 I.kIn T.kC (run_ex (us := []) (ws := []) (kw := []) T iC tI F1 hr hx I (fun s' u K' => ?_) .nil (Nat.zero_le _) h)
  have z := hb s' [u] K' (by simpa using hps.symm)
  rw [List.append_nil] at z
  exact z
end
end Oh

set_option Elab.async false
set_option linter.all false
set_option maxRecDepth 100000
set_option maxHeartbeats 4000000
namespace Lr
open PySem PySem.Spec PyProof.Rows L2 Ow
def topS (i : Nat) : Stmt := PySem.Challenge.pw_laterepair_k01_errors_and_kinds_of_value.main.body.getD i (.Pass ⟨0, 0, 0, 0⟩)
abbrev vi (n : Nat) : V := V.int (n : Int)
def ri (l : List Nat) : List V := l.map vi
theorem ri_len (l : List Nat) : (ri l).length = l.length := List.length_map ..
theorem ri_get {l : List Nat} {i : Nat} {x : V} (h : (ri l)[i]? = some x) : ∃ n, l[i]? = some n ∧ x = vi n := by
  unfold ri at h
  rw [List.getElem?_map] at h
  cases e : l[i]? with
  | none => rw [e] at h; cases h
  | some n => rw [e] at h; exact ⟨n, rfl, (Option.some.inj h).symm⟩
theorem ri_int (l : List Nat) : ri l = (l.map fun n : Nat => (n : Int)).map V.int := by
  unfold ri
  rw [List.map_map]
  rfl
theorem same_upd {H : Hp} {p : Addr} {o : HO} (h : H p = none) : Same H (upd H p o) := fun b x e => by
  rw [upd_ne (ne_of_none e h)]
  exact e
theorem same_put {H H' : Hp} {p : Addr} {o : HO} (s : Same H H') (h : H p = none) : Same H (upd H' p o) := fun b x e => by
  rw [upd_ne (ne_of_none e h)]
  exact s b x e
theorem same_refl (H : Hp) : Same H H := fun _ _ h => h
/-- what the top's names stand for -/
structure Nm (mg : Str → Option Value) : Prop where
  len : mg "len" = none
  isi : mg "isinstance" = none
  int : mg "int" = none
  bool : mg "bool" = none
  str : mg "str" = none
  abs : mg "abs" = none
  list : mg "list" = none
  range : mg "range" = none
  repr : mg "repr" = none
  ve : mg "ValueError" = none
  ma : ∃ t, mg "MOST_AGE" = some (.int 8 t)
  md : ∃ t, mg "MOST_DELAY" = some (.int 8 t)
  mn : ∃ t, mg "MOST_NAME" = some (.int 8 t)
  lt : ∃ t, mg "LETTERS" = some (.str "abcdefghijklmnopqrstuvwxyz" t)
structure Use (K : PySem.W.Frag) (mg : Str → Option Value) (nm : Str) (f : Addr) (fd : FuncData) (ps : List Str) : Prop where
  g : mg nm = some (.ref f)
  kp : PySem.W.keepIn K (.ref f) = true
  b : Binds K fd ps []
end Lr

set_option Elab.async false
set_option linter.all false
set_option maxRecDepth 100000
set_option maxHeartbeats 4000000
namespace Lr
open PySem PySem.Spec PyProof.Rows L2 Ow
/-! ### the pen -/
def ii (l : List Int) : List V := l.map V.int
theorem ii_len (l : List Int) : (ii l).length = l.length := List.length_map ..
theorem ri_ii (l : List Nat) : ri l = ii (l.map fun n : Nat => (n : Int)) := ri_int l
/-- a pen at a: from at most n draws -/
def PenAt (H : Hp) (a b : Addr) (n : Nat) : Prop := ∃ (ns : List Int) (i : Nat) (g : Int), H a = some (.lst [.ref b, .int (i : Int), .int g]) ∧ H b = some (.lst (ii ns)) ∧ ns.length ≤ 63 ∧ i ≤ n
/-- all stays but what stands at a -/
def Kept (a : Addr) (H H' : Hp) : Prop := ∀ c o, c ≠ a → H c = some o → H' c = some o
theorem Kept.trans {a : Addr} {H H1 H2 : Hp} (x : Kept a H H1) (y : Kept a H1 H2) : Kept a H H2 := fun c o n h => y c o n (x c o n h)
theorem Kept.refl (a : Addr) (H : Hp) : Kept a H H := fun _ _ _ h => h
theorem Same.kept {a : Addr} {H H' : Hp} (s : Same H H') : Kept a H H' := fun c o _ h => s c o h
theorem PenAt.same {H H' : Hp} {a b : Addr} {n : Nat} (p : PenAt H a b n) (s : Same H H') : PenAt H' a b n := by
  obtain ⟨ns, i, g, h1, h2, h3⟩ := p
  exact ⟨ns, i, g, s _ _ h1, s _ _ h2, h3⟩
theorem PenAt.mono {H : Hp} {a b : Addr} {n m : Nat} (p : PenAt H a b n) (h : n ≤ m) : PenAt H a b m := by
  obtain ⟨ns, i, g, h1, h2, h3, h4⟩ := p
  exact ⟨ns, i, g, h1, h2, h3, Nat.le_trans h4 h⟩
theorem kept_upd {a : Addr} {H : Hp} {o : HO} : Kept a H (upd H a o) := fun c o' n h => by
  rw [upd_ne n]
  exact h
theorem pen_ne {H : Hp} {a b c : Addr} {ns : List Int} {v w : V} (h1 : H a = some (.lst [.ref c, v, w])) (h2 : H b = some (.lst (ii ns))) : b ≠ a := by
  rintro rfl
  rw [h1] at h2
  have e : [V.ref c, v, w] = ii ns := by
    injection h2 with e
    injection e
  cases ns with
  | nil => cases e
  | cons x xs => cases e
theorem dp_ints {K : PySem.W.Frag} {H : Hp} : ∀ ns : List Int, DpAll K H (ii ns) (ns.map PyData.int)
  | [] => .nil
  | n :: ns => .cons (.int n) (dp_ints ns)
theorem canlay_ints : ∀ ns : List Int, PyData.canLayAll0 (ns.map PyData.int) = true
  | [] => by simp [PyData.canLayAll0]
  | n :: ns => by simp [PyData.canLayAll0, PyData.canLay0, canlay_ints ns]
theorem depth_ints : ∀ ns : List Int, PyData.depthAll (ns.map PyData.int) ≤ 1 := by
  intro ns
  induction ns with
  | nil => simp [PyData.depthAll]
  | cons n ns ih => simp [PyData.depthAll, PyData.depth]; omega
end Lr

set_option Elab.async false
set_option linter.all false
set_option maxRecDepth 100000
set_option maxHeartbeats 4000000
namespace Lr
open PySem PySem.Spec PyProof.Rows L2 Ow
section
variable {P : Program} {w : World} {K : PySem.W.Frag} {mg : Str → Option Value} {base : Heap}
abbrev s_draw : Stmt := topS 32
theorem sc_draw : FnScope ["_law_pen_here", "_law_many", "_law_digit", "_law_at", "_law_cell", "_law_great", "_law_mixed"] ["_law_pen_here", "_law_many"] (defScope s_draw) := ⟨rfl, rfl, rfl, by decide +kernel, rfl, by decide +kernel, by decide +kernel⟩
def spDraw : Sp := fun vs H Q _ => ∃ (a b : Addr) (m n : Nat), vs = [.ref a, vi m] ∧ PenAt H a b n ∧ n ≤ 1000 ∧ 0 < m ∧ m ≤ 2 ^ 20 ∧ ∀ (d : Nat) (H' : Hp), d < m → PenAt H' a b (n + 1) → Kept a H H' → Q (vi d) H'
theorem modv (x : Int) {m : Nat} (h : 0 < m) : ∃ d : Nat, d < m ∧ x % (m : Int) = (d : Int) := by
  refine ⟨(x % (m : Int)).toNat, ?_, ?_⟩
  · have h1 := Int.emod_nonneg x (by omega : (m : Int) ≠ 0)
    have h2 := Int.emod_lt_of_pos x (by omega : (0 : Int) < (m : Int))
    omega
  · have h1 := Int.emod_nonneg x (by omega : (m : Int) ≠ 0)
    omega
theorem cp1 (x : Int) {i : Nat} (h : i ≤ 1000) : CPow (x % 2147483563 + 72229 * (i : Int) + 3247) 5 := by
  refine ⟨by decide, by decide, ?_⟩
  show _ < 18446744073709551616
  omega
theorem mulB {y : Int} {i : Nat} (h0 : 0 ≤ y) (h1 : y < 2147483629) (h : i ≤ 1000) : 0 ≤ y * (2 * (i : Int) + 323) ∧ y * (2 * (i : Int) + 323) ≤ 2147483629 * 2973 ∧ 0 ≤ 42401 * (i : Int) * (i : Int) ∧ 42401 * (i : Int) * (i : Int) ≤ 42401000 * 1000 := by
  refine ⟨Int.mul_nonneg h0 (by omega), Int.mul_le_mul (by omega) (by omega) (by omega) (by omega), Int.mul_nonneg (by omega) (by omega), Int.mul_le_mul (by omega) (by omega) (by omega) (by omega)⟩
theorem cp2 {y : Int} {i : Nat} (h0 : 0 ≤ y) (h1 : y < 2147483629) (h : i ≤ 1000) : CPow (y * (2 * (i : Int) + 323) + 42401 * (i : Int) * (i : Int) + 13) 3 := by
  refine ⟨by decide, by decide, ?_⟩
  obtain ⟨a, b, c, d⟩ := mulB h0 h1 h
  show _ < 18446744073709551616
  omega
theorem ok_draw {f : Addr} {fd : FuncData} (F : Fun K "_law_draw" "_law_draw" s_draw f fd) (T : Nm mg) : FnOk P w K mg base CX0 1 f fd ["_law_pen_here", "_law_many"] spDraw := by
  refine F.ok sc_draw (fun vs H Q E h => ?_) (fun cdv A outer s H vs Q E hr h => ?_)
  · obtain ⟨a, b, m, n, rfl, _⟩ := h
    rfl
  · obtain ⟨a, b, m, n, rfl, ⟨ns, i, g, ha, hb, hn, hi⟩, hn1, m0, m1, q⟩ := h
    have hu := hr.units
    refine ⟨_, (pss_cons (ps_if (pt_cmpR op_gt (pe_ix ix_list (pv 0) pe_int (fun _ _ => rfl)) pe_int (nomark _)) (pss_cons (ps_set (i := 2) sc_draw.nd rfl (Or.inl rfl) (pe_op op_mod (pe_callTy call_int1 (by rfl) T.int PyProof.Rows.boot_int (pa_cons (pe_ix ix_list (pv 0) pe_int (fun _ _ => rfl)) pa_nil)) (pv 1)))
    (pss_cons (ps_asg (pe_op op_fdiv (pe_callTy call_int1 (by rfl) T.int PyProof.Rows.boot_int (pa_cons (pe_ix ix_list (pv 0) pe_int (fun _ _ => rfl)) pa_nil)) (pv 1)) (pg_sub (pv 0) pe_int set_list))
    (pss_one (ps_ret (pv 2))))) pss_nil)
    (pss_cons (ps_set (i := 3) sc_draw.nd rfl (Or.inl rfl) (pe_ix ix_list (pv 0) pe_int (fun _ _ => rfl)))
    (pss_cons (ps_asg (pe_op op_add (pv 3) pe_int) (pg_sub (pv 0) pe_int set_list))
    (pss_cons (ps_set (i := 4) sc_draw.nd rfl (Or.inl rfl) (pe_op op_add (pe_op op_mul pe_int (pv 3)) pe_int))
    (pss_cons (ps_if (pt_cmpR (op_neD hu) (pe_ix ix_list (pv 0) pe_int (fun _ _ => rfl)) (pe_lst pa_nil) (nomark _)) (pss_one (ps_set (i := 4) sc_draw.nd rfl (Or.inl rfl) (pe_ix ix_list (pe_ix ix_list (pv 0) pe_int (fun _ _ => rfl)) (pe_op op_mod (pe_callTy call_int1 (by rfl) T.int PyProof.Rows.boot_int (pa_cons (pv 3) pa_nil)) (pe_callB call_len_seq (by rfl) T.len PySem.boot_len (pa_cons (pe_ix ix_list (pv 0) pe_int (fun _ _ => rfl)) pa_nil))) (fun _ _ => rfl)))) pss_nil)
    (pss_cons (ps_if (PW.pt (pw_and (pt_cmpR op_lt (pv 3) (pe_callB call_len_seq (by rfl) T.len PySem.boot_len (pa_cons (pe_ix ix_list (pv 0) pe_int (fun _ _ => rfl)) pa_nil)) (nomark _)) (pw_and1 (pt_cmpR op_ge (pe_callB call_abs (by rfl) T.abs PyProof.Rows.boot_abs (pa_cons (pv 4) pa_nil)) (pe_op op_pow pe_int pe_int) (nomark _))))) (pss_cons (ps_set (i := 5) sc_draw.nd rfl (Or.inl rfl) (pe_op op_add (pe_op op_mul pe_int (pe_op op_sub (pe_callB call_abs (by rfl) T.abs PyProof.Rows.boot_abs (pa_cons (pv 4) pa_nil)) (pe_op op_pow pe_int pe_int))) (pe_callTy call_int1 (by rfl) T.int PyProof.Rows.boot_int (pa_cons (pe_cmpR op_lt (pv 4) pe_int (nomark _)) pa_nil))))
    (pss_cons (ps_asg (pe_op op_fdiv (pe_callTy call_int1 (by rfl) T.int PyProof.Rows.boot_int (pa_cons (pv 5) pa_nil)) (pv 1)) (pg_sub (pv 0) pe_int set_list))
    (pss_one (ps_ret (pe_op op_mod (pe_callTy call_int1 (by rfl) T.int PyProof.Rows.boot_int (pa_cons (pv 5) pa_nil)) (pv 1)))))) pss_nil)
    (pss_cons (ps_set (i := 6) sc_draw.nd rfl (Or.inl rfl) (pe_op op_mod (pe_callTy call_int1 (by rfl) T.int PyProof.Rows.boot_int (pa_cons (pe_op op_pow (pe_op op_add (pe_op op_add (pe_op op_mod (pe_callTy call_int1 (by rfl) T.int PyProof.Rows.boot_int (pa_cons (pv 4) pa_nil)) pe_int) (pe_op op_mul pe_int (pv 3))) pe_int) pe_int) pa_nil)) pe_int))
    (pss_cons (ps_set (i := 6) sc_draw.nd rfl (Or.inl rfl) (pe_op op_mod (pe_callTy call_int1 (by rfl) T.int PyProof.Rows.boot_int (pa_cons (pe_op op_pow (pe_op op_add (pe_op op_add (pe_op op_mul (pv 6) (pe_op op_add (pe_op op_mul pe_int (pv 3)) pe_int)) (pe_op op_mul (pe_op op_mul pe_int (pv 3)) (pv 3))) pe_int) pe_int) pa_nil)) pe_int))
    (pss_one (ps_ret (pe_op op_mod (pe_callTy call_int1 (by rfl) T.int PyProof.Rows.boot_int (pa_cons (pe_op op_fdiv (pv 6) pe_int) pa_nil)) (pv 1)))))))))))), ?_⟩
    have sq : ∀ {H' : Hp} {v w : V}, H' a = some (.lst [.ref b, v, w]) → SqL K H' a [.ref b, v, w] := fun h => .of h
    refine ⟨_, rfl, a, _, _, .int g, rfl, rfl, .of ha, at_of (j := 2) rfl rfl, _, _, rfl, rfl, _, rfl, ?_⟩
    refine ite2 (fun c => ?_) (fun c => ?_)
    · refine ⟨_, rfl, a, _, _, .int g, rfl, rfl, .of ha, at_of (j := 2) rfl rfl, .inl ⟨_, rfl, _, rfl, _, _, rfl, rfl, ?_, ?_⟩⟩
      · show (0 : Int) < (m : Int)
        omega
      · refine ⟨_, rfl, a, _, _, .int g, rfl, rfl, .of ha, at_of (j := 2) rfl rfl, .inl ⟨_, rfl, _, rfl, _, _, rfl, rfl, ?_, ?_⟩⟩
        · exact ⟨by omega, by omega⟩
        · refine ⟨_, rfl, a, _, _, 2, rfl, rfl, ha, rfl, ?_⟩
          obtain ⟨d, hd, ed⟩ := modv g m0
          refine ⟨_, rfl, ?_⟩
          show Q (V.int (g % (m : Int))) _
          rw [ed]
          exact q d _ hd ⟨ns, i, _, upd_same, by rw [upd_ne (pen_ne ha hb)]; exact hb, hn, by omega⟩ kept_upd
    · refine ⟨_, rfl, a, _, _, .int i, rfl, rfl, .of ha, at_of (j := 1) rfl rfl, ?_⟩
      refine ⟨_, rfl, _, _, rfl, rfl, _, rfl, a, _, _, 1, rfl, rfl, ha, rfl, ?_⟩
      have h1 : (upd H a (HO.lst ([V.ref b, V.int (i : Int), V.int g].set 1 (V.int ((i : Int) + 1))))) a = some (HO.lst [V.ref b, V.int ((i + 1 : Nat) : Int), V.int g]) := by
        rw [upd_same]
        rfl
      have hb1 : (upd H a (HO.lst ([V.ref b, V.int (i : Int), V.int g].set 1 (V.int ((i : Int) + 1))))) b = some (HO.lst (ii ns)) := by
        rw [upd_ne (pen_ne ha hb)]
        exact hb
      have k1 : Kept a H (upd H a (HO.lst ([V.ref b, V.int (i : Int), V.int g].set 1 (V.int ((i : Int) + 1))))) := kept_upd
      show (fun H3 : Hp => _) _
      generalize (upd H a (HO.lst ([V.ref b, V.int (i : Int), V.int g].set 1 (V.int ((i : Int) + 1))))) = H1 at *
      refine ⟨_, rfl, _, _, rfl, rfl, .inl ⟨by decide, by decide⟩, _, _, rfl, rfl, ?_⟩
      refine ⟨_, rfl, a, _, _, .ref b, rfl, rfl, .of h1, at_of (j := 0) rfl rfl, Nat.zero_le _, fun o no => ?_⟩
      have oa : a ≠ o := ne_of_none h1 no
      have ob : b ≠ o := ne_of_none hb1 no
      have h2 : (upd H1 o (.lst [])) a = _ := (upd_ne oa).trans h1
      have hb2 : (upd H1 o (.lst [])) b = _ := (upd_ne ob).trans hb1
      have k2 : Kept a H (upd H1 o (.lst [])) := k1.trans (Same.kept (same_upd no))
      refine ⟨.list (ns.map PyData.int), .list [], .lst (.of hb2) (dp_ints ns), .lst (.of upd_same) .nil, ?_, rfl, _, rfl, ?_⟩
      · refine Bool.and_eq_true_iff.mpr ⟨?_, decide_eq_true ?_⟩
        · show PyData.canLay0 (.list _) = true
          rw [PyData.canLay0]
          exact canlay_ints ns
        · show PyData.depth (.list _) ≤ 64
          rw [PyData.depth]
          have := depth_ints ns
          omega
      generalize upd H1 o (.lst []) = H2 at *
      have cp : CPow 10 18 := ⟨by decide, by decide, by decide⟩
      have i1 : i ≤ 1000 := Nat.le_trans hi hn1
      have cm : ∀ x : Int, CMul 42401 x ∧ CMul 72229 x ∧ CMul 2 x := fun x => ⟨.inl ⟨by decide, by decide⟩, .inl ⟨by decide, by decide⟩, .inl ⟨by decide, by decide⟩⟩
      have pos5 : (0 : Int) < (m : Int) := by omega
      have dv : CDiv 0 (m : Int) := ⟨by omega, by omega⟩
      have fin : ∀ (x : Int) (H3 : Hp), PenAt H3 a b (n + 1) → Kept a H H3 → Q (.int (x % (m : Int))) H3 := fun x H3 p k => by
        obtain ⟨d, hd, ed⟩ := modv x m0
        rw [ed]
        exact q d H3 hd p k
      have pen : PenAt H2 a b (n + 1) := ⟨ns, i + 1, g, h2, hb2, hn, by omega⟩
      have ba : b ≠ a := pen_ne h2 hb2
      refine ite2 (fun c2 => ?_) (fun c2 => ?_)
      have nz : 0 < ns.length := by
        cases ns with
        | nil =>
          have : (!(PyData.list (List.map PyData.int [])).eqv (PyData.list [])) = true := c2
          exact absurd this (by decide)
        | cons x xs => exact Nat.succ_pos _
      have lt : i % ns.length < ns.length := Nat.mod_lt _ nz
      have gz : (ii ns)[i % ns.length]? = some (V.int ns[i % ns.length]) := by
        unfold ii
        rw [List.getElem?_map, List.getElem?_eq_getElem lt]
        rfl
      refine ⟨_, rfl, a, _, _, .ref b, rfl, rfl, .of h2, at_of (j := 0) rfl rfl, _, rfl, .inl ⟨_, rfl, _, rfl, a, _, _, .ref b, rfl, rfl, .of h2, at_of (j := 0) rfl rfl, b, _, rfl, .inl (.of hb2), _, _, rfl, rfl, ?_, ?_⟩⟩
      · show (0 : Int) < (((ii ns).length : Nat) : Int)
        rw [ii_len]
        omega
      refine ⟨b, ii ns, _, _, rfl, rfl, .of hb2, at_of (j := i % ns.length) ?_ gz, ?_⟩
      · show (i : Int) % (((ii ns).length : Nat) : Int) = _
        rw [ii_len]
        exact (Int.natCast_emod i ns.length).symm
      all_goals
        refine ⟨_, rfl, _, rfl, a, _, _, .ref b, rfl, rfl, .of h2, at_of (j := 0) rfl rfl, b, _, rfl, .inl (.of hb2), _, _, rfl, rfl, _, rfl, ?_⟩
      all_goals
        refine ite2 (fun c3 => ?_) (fun c3 => ?_)
      all_goals first
        | refine ⟨_, rfl, _, rfl, _, _, rfl, rfl, cp, _, _, rfl, rfl, _, rfl, ?_⟩
          refine ite2 (fun c4 => ?_) (fun c4 => ?_)
          · refine ⟨_, rfl, _, rfl, _, _, rfl, rfl, cp, _, _, rfl, rfl, _, _, rfl, rfl, (cm _).2.2, _, rfl, _, _, rfl, rfl, .inr ⟨_, rfl, _, _, rfl, rfl, ?_⟩⟩
            refine ⟨_, rfl, .inl ⟨_, rfl, _, rfl, _, _, rfl, rfl, dv, _, rfl, a, _, _, 2, rfl, rfl, h2, rfl, ?_⟩⟩
            refine ⟨_, rfl, .inl ⟨_, rfl, _, rfl, _, _, rfl, rfl, pos5, ?_⟩⟩
            exact fin _ _ ⟨ns, i + 1, _, upd_same, by rw [upd_ne ba]; exact hb2, hn, by omega⟩ (k2.trans kept_upd)
          skip
        | skip
      all_goals
        have y0 : ∀ x : Int, 0 ≤ x % 2147483629 ∧ x % 2147483629 < 2147483629 := fun x => by omega
        refine ⟨_, rfl, .inl ⟨_, rfl, _, _, rfl, rfl, (by show (0 : Int) < 2147483563; decide), _, rfl, _, _, rfl, rfl, (cm _).2.1, _, _, rfl, rfl, _, _, rfl, rfl, _, _, rfl, rfl, cp1 _ i1, .inl ⟨_, rfl, _, _, rfl, rfl, (by show (0 : Int) < 2147483629; decide), ?_⟩⟩⟩
        refine ⟨_, rfl, _, rfl, _, _, rfl, rfl, (cm _).2.2, _, _, rfl, rfl, _, _, rfl, rfl, .inl ⟨?_, ?_⟩, _, rfl, _, _, rfl, rfl, (cm _).1, _, rfl, _, _, rfl, rfl, .inl ⟨?_, ?_⟩, _, _, rfl, rfl, _, _, rfl, rfl, _, _, rfl, rfl, cp2 (y0 _).1 (y0 _).2 i1, .inl ⟨_, rfl, _, _, rfl, rfl, (by show (0 : Int) < 2147483587; decide), ?_⟩⟩
        · exact Int.lt_of_lt_of_le (by decide) (y0 _).1
        · exact Int.lt_trans (y0 _).2 (by decide)
        · omega
        · omega
        refine ⟨_, rfl, _, _, rfl, rfl, ⟨by decide, by decide⟩, .inl ⟨_, rfl, _, rfl, _, _, rfl, rfl, pos5, ?_⟩⟩
        exact fin _ _ pen k2
end
end Lr

set_option Elab.async false
set_option linter.all false
set_option maxRecDepth 100000
set_option maxHeartbeats 4000000
namespace Lr
open PySem PySem.Spec PyProof.Rows L2 Ow
section
variable {P : Program} {w : World} {K : PySem.W.Frag} {mg : Str → Option Value} {base : Heap}
abbrev s_pen : Stmt := topS 31
theorem sc_pen : FnScope ["_law_script"] ["_law_script"] (defScope s_pen) := ⟨rfl, rfl, rfl, by decide +kernel, rfl, by decide +kernel, by decide +kernel⟩
def spPen (K : PySem.W.Frag) : Sp := fun vs H Q _ => ∃ (a : Addr) (ns : List Int), vs = [.ref a] ∧ SqL K H a (ii ns) ∧ ns.length ≤ 63 ∧ ∀ (p b : Addr) (H' : Hp), PenAt H' p b 0 → Same H H' → H p = none → Q (.ref p) H'
theorem cut_ii (ns : List Int) (lo hi : Option Int) : ∃ ms, cutV (ii ns) lo hi = ii ms ∧ ms.length ≤ ns.length := by
  refine ⟨((ns.drop (HT.sIx (ii ns).length 0 lo)).take (HT.sIx (ii ns).length (ii ns).length hi - HT.sIx (ii ns).length 0 lo)), ?_, ?_⟩
  · unfold cutV ii
    rw [List.map_take, List.map_drop]
  · rw [List.length_take, List.length_drop]
    omega
theorem ok_pen {f : Addr} {fd : FuncData} (F : Fun K "_law_pen" "_law_pen" s_pen f fd) (T : Nm mg) : FnOk P w K mg base CX0 1 f fd ["_law_script"] (spPen K) := by
  refine F.ok sc_pen (fun vs H Q E h => ?_) (fun cdv A outer s H vs Q E hr h => ?_)
  · obtain ⟨a, ns, rfl, _⟩ := h
    rfl
  · obtain ⟨a, ns, rfl, hS, hl, q⟩ := h
    refine ⟨_, pss_one (ps_ret (pe_lst (pa_cons (pe_callTy call_list_of (by rfl) T.list PyProof.Rows.boot_list (pa_cons (pe_slice sl_list (pv 0) po_none (po_some pe_int)) pa_nil)) (pa_cons pe_int (pa_cons pe_int pa_nil))))), ?_⟩
    obtain ⟨ms, em, lm⟩ := cut_ii ns none (some 63)
    refine ⟨_, rfl, _, rfl, a, _, rfl, hS, fun p np => ?_⟩
    refine ⟨p, _, rfl, .inl (.of upd_same), fun p2 np2 => ?_⟩
    have e12 : p ≠ p2 := ne_of_none upd_same np2
    have nq : H p2 = none := by
      rw [upd_ne (Ne.symm e12)] at np2
      exact np2
    refine ⟨small1000 (by show 3 ≤ 1000; omega) |> Nat.le_of_lt, fun p3 np3 => ?_⟩
    have e23 : p2 ≠ p3 := ne_of_none upd_same np3
    have nr : (upd H p (.lst (cutV (ii ns) none (some 63)))) p3 = none := by
      rw [upd_ne (Ne.symm e23)] at np3
      exact np3
    have e13 : p ≠ p3 := ne_of_none upd_same nr
    have n3 : H p3 = none := by
      rw [upd_ne (Ne.symm e13)] at nr
      exact nr
    refine q p3 p2 _ ⟨ms, 0, 0, upd_same, ?_, by omega, Nat.le_refl _⟩ (same_put (same_put (same_upd np) nq) n3) n3
    rw [upd_ne e23, upd_same, em]
abbrev s_pick : Stmt := topS 33
theorem sc_pick : FnScope ["_law_pen_here", "_law_some"] ["_law_pen_here", "_law_some"] (defScope s_pick) := ⟨rfl, rfl, rfl, by decide +kernel, rfl, by decide +kernel, by decide +kernel⟩
def spPick : Sp := fun vs H Q _ => ∃ (a b p : Addr) (n : Nat) (l : List Nat), vs = [.ref a, .ref p] ∧ PenAt H a b n ∧ n ≤ 1000 ∧ H p = some (.lst (ri l)) ∧ 0 < l.length ∧ l.length ≤ 1000 ∧ ∀ (x : Nat) (H' : Hp), x ∈ l → PenAt H' a b (n + 1) → Kept a H H' → Q (vi x) H'
theorem ok_pick {f fD : Addr} {fd fdD : FuncData} (F : Fun K "_law_pick" "_law_pick" s_pick f fd) (FD : Fun K "_law_draw" "_law_draw" s_draw fD fdD) (bD : Binds K fdD ["_law_pen_here", "_law_many"] []) (gD : mg "_law_draw" = some (.ref fD)) (T : Nm mg) :
    FnOk P w K mg base CX0 2 f fd ["_law_pen_here", "_law_some"] spPick := by
  have GD : FnOk P w K mg base CX0 1 fD fdD ["_law_pen_here", "_law_many"] spDraw := ok_draw FD T
  refine F.ok sc_pick (fun vs H Q E h => ?_) (fun cdv A outer s H vs Q E hr h => ?_)
  · obtain ⟨a, b, p, n, l, rfl, _⟩ := h
    rfl
  · obtain ⟨a, b, p, n, l, rfl, hp, hn, hl, l0, l1, q⟩ := h
    refine ⟨_, pss_one (ps_ret (pe_ix ix_list (pv 1) (pe_call GD hr rfl gD FD.kp bD .nil pass0 (pa_cons (pv 0) (pa_cons (pe_callB call_len_seq (by rfl) T.len PySem.boot_len (pa_cons (pv 1) pa_nil)) pa_nil))) (fun _ _ => rfl))), ?_⟩
    have hp' := hp
    obtain ⟨ns, i, g, ha, hb, _⟩ := hp'
    have pa : p ≠ a := pen_ne ha (by rw [← ri_ii]; exact hl)
    refine ⟨_, rfl, _, rfl, _, rfl, p, _, rfl, .inl (.of hl), a, b, l.length, n, ?_, hp, hn, l0, by omega, fun d H' hd p' k => ?_⟩
    · rw [ri_len]
      rfl
    refine ⟨p, _, _, _, rfl, rfl, .of (k _ _ pa hl), at_of (j := d) rfl ?_, q l[d] H' (List.getElem_mem hd) p' k⟩
    unfold ri
    rw [List.getElem?_map, List.getElem?_eq_getElem hd]
    rfl
end
end Lr

set_option Elab.async false
set_option linter.all false
set_option maxRecDepth 100000
set_option maxHeartbeats 4000000
namespace Lr
open PySem PySem.Spec PyProof.Rows L2 Ow Og Oe Oh
/-! ### texts times numbers -/
def rMulS : R2 := fun x y H Q => ∃ z n, x = .str z ∧ y = .int n ∧ MulOk z n ∧ Q (.str (Txt.mul z n)) H
theorem op_mulS {X : Cx} : OpR X (binaryOp .Mult) rMulS := by
  intro pins s σ H x y v u Q I rx ry h
  obtain ⟨z, n, rfl, rfl, ok, q⟩ := h
  obtain ⟨t, rfl⟩ := rx
  obtain ⟨t', rfl⟩ := ry
  exact SB.mul ok fun t2 k => ⟨.str (Txt.mul z n), H, I.tok _, ⟨_, rfl⟩, q⟩
/-! ### values read as data, dicts among them -/
def Rdv (H : Hp) (v : V) (d : PyData) : Prop := ∀ {P : Program} {w : World} {h : Heap}, H sysModules = none → HOk P w H h → ∀ u, RelV v u → ∃ as, Reads h u d as ∧ sysModules ∉ as
def RdvAll (H : Hp) (vs : List V) (ds : List PyData) : Prop := ∀ {P : Program} {w : World} {h : Heap}, H sysModules = none → HOk P w H h → ∀ us, Vals vs us → ∃ as, ReadsAll h us ds as ∧ sysModules ∉ as
theorem Rdv.non {H : Hp} : Rdv H .non .none := fun _ _ u r => by
  cases (show u = Value.none from r)
  exact ⟨_, .none, by simp⟩
theorem Rdv.bl {H : Hp} (b : Bool) : Rdv H (.bl b) (.bool b) := fun _ _ u r => by
  cases (show u = Value.bool b from r)
  exact ⟨_, .bool b, by simp⟩
theorem Rdv.int {H : Hp} (i : Int) : Rdv H (.int i) (.int i) := fun _ _ u r => by
  obtain ⟨t, rfl⟩ := r
  exact ⟨_, .int i t, by simp⟩
theorem Rdv.str {H : Hp} (x : Str) : Rdv H (.str x) (.str x) := fun _ _ u r => by
  obtain ⟨t, rfl⟩ := r
  exact ⟨_, .str x t, by simp⟩
theorem RdvAll.nil {H : Hp} : RdvAll H [] [] := fun _ _ us r => by
  cases r
  exact ⟨_, .nil, by simp⟩
theorem RdvAll.cons {H : Hp} {v : V} {d : PyData} {vs : List V} {ds : List PyData} (h : Rdv H v d) (hs : RdvAll H vs ds) : RdvAll H (v :: vs) (d :: ds) := fun ns ok us r => by
  cases r with
  | cons r1 r2 =>
    obtain ⟨as, q1, n1⟩ := h ns ok _ r1
    obtain ⟨bs, q2, n2⟩ := hs ns ok _ r2
    exact ⟨_, .cons q1 q2, by simp [n1, n2]⟩
theorem Rdv.tup {H : Hp} {a : Addr} {vs : List V} {ds : List PyData} (e : H a = some (.tup vs)) (hs : RdvAll H vs ds) : Rdv H (.ref a) (.tuple ds) := fun ns ok u r => by
  cases (show u = Value.ref a from r)
  obtain ⟨_, its, rv, o, e1, e2, n, e3⟩ := (show ObjOk _ _ H _ a (.tup vs) from ok a _ e)
  obtain ⟨as, q, m⟩ := hs ns ok _ rv
  exact ⟨_, .tuple e1 e2 e3 q, m⟩
theorem Rdv.lst {H : Hp} {a : Addr} {vs : List V} {ds : List PyData} (e : H a = some (.lst vs)) (hs : RdvAll H vs ds) : Rdv H (.ref a) (.list ds) := fun ns ok u r => by
  cases (show u = Value.ref a from r)
  obtain ⟨_, its, n, rv, e1⟩ := (show ObjOk _ _ H _ a (.lst vs) from ok a _ e)
  obtain ⟨as, q, m⟩ := hs ns ok _ rv
  refine ⟨_, .list e1 rfl rfl q, ?_⟩
  rw [List.mem_cons]
  rintro (z | z)
  · rw [z, e] at ns
    cases ns
  · exact m z
/-- a dict of one text key -/
theorem Rdv.dk1 {H : Hp} {a : Addr} {x : Str} {v : V} {d : PyData} (e : H a = some (.dK [(.inr x, v)])) (hv : Rdv H v d) : Rdv H (.ref a) (.dict [(.str x, d)]) := fun ns ok u r => by
  cases (show u = Value.ref a from r)
  obtain ⟨_, hs, vs, kv, o, es, ep, e1, e2, e3, _, pp, _⟩ := (show ObjOk _ _ H _ a (.dK _) from ok a _ e)
  cases kv with
  | @cons _ b _ _ k1 k2 =>
    cases k2
    obtain ⟨kb, u⟩ := b
    obtain ⟨ek, rv⟩ := k1
    dsimp only at ek rv
    subst ek
    generalize hl : es.toList = l at pp
    cases pp with
    | cons c1 c2 c3 =>
      cases c3
      rename_i en
      obtain ⟨as, q1, n1⟩ := hv ns ok u rv
      have c1' : keyIs (Sum.inr x) en.key = true := c1
      rcases keyIs_shape c1' with ⟨i, t, z, ek⟩ | ⟨y, t, z, ek⟩
      · cases z
      · cases z
        refine ⟨_, Reads.dict (kvs := [(.str x, d)]) (as := [] ++ []) (bs := as ++ []) e1 e2.1 e3 ?_ ?_, ?_⟩
        · rw [hl]
          show ReadsAll _ [en.key] [PyData.str x] _
          rw [ek]
          exact .cons (.str x t) .nil
        · rw [hl]
          show ReadsAll _ [en.val] [d] _
          rw [c2]
          exact .cons q1 .nil
        · simp only [List.append_nil, List.mem_append, List.mem_cons, List.not_mem_nil, or_false]
          rintro (z | z)
          · rw [← z] at hs
            simp at hs
          · exact n1 z
/-- repr(x) -/
def rReprA : List V → Hp → VK → Prop := fun xs H Q => ∃ (x : V) (d : PyData), xs = [x] ∧ Rdv H x d ∧ d.showable = true ∧ d.depth ≤ 20 ∧ d.shown.length ≤ 1000 ∧ Q (.str d.shown) H
theorem call_reprA {X : Cx} (hG : X.A.guards = some []) (hu : X.A.units + 64 < cLine) (hS : (X.K.lookup sysModules).isSome = true) : CallR X (.builtin "repr") rReprA := by
  intro pins s σ H xs us Q I r h
  obtain ⟨x, d, rfl, hd, hs, hdep, hsz', q⟩ := h
  have hsz : d.shown.length ≤ sizeLine := Nat.le_trans hsz' (Nat.le_of_lt (small1000 (Nat.le_refl _)))
  obtain ⟨u, rfl, ru⟩ := r.one
  obtain ⟨os, eo⟩ := Option.isSome_iff_exists.mp hS
  have nsys : H sysModules = none := (I.bs _ _ (I.ok.mod.kin _ _ eo)).2
  obtain ⟨as, R, nm⟩ := hd nsys I.hok u ru
  have fin : ∀ (h' : Heap) (t : Tok) (tk : Tok), (∀ b o, s.heap.get? b = some o → h'.get? b = some o) → EP X pins σ Q (.str d.shown t) { s with heap := h', toks := tk } := fun h' t tk hk => ⟨.str _, H, I.kept hk, ⟨_, rfl⟩, q⟩
  have same : EP X pins σ Q (.str d.shown s.toks) { s with toks := s.toks + 1 } := ⟨.str _, H, I.tok _, ⟨_, rfl⟩, q⟩
  cases R with
  | none => exact PySem.P.repr_of_none same
  | bool b => exact PySem.P.repr_of_bool same
  | int i t => exact PySem.P.repr_of_int (by simpa [PyData.showable] using hs) same
  | str x t => exact PySem.P.repr_of_str same hsz
  | list a b c d' => exact repr_of_reads' (Reads.list a b c d') hs (fun _ => nm) hG (by omega) (fun _ _ e => e) (fun h' u tk hk => fin h' u tk hk) hsz
  | tuple a b c d' => exact repr_of_reads' (Reads.tuple a b c d') hs (fun _ => nm) hG (by omega) (fun _ _ e => e) (fun h' u tk hk => fin h' u tk hk) hsz
  | dict a b c d' e => exact repr_of_reads' (Reads.dict a b c d' e) hs (fun _ => nm) hG (by omega) (fun _ _ e => e) (fun h' u tk hk => fin h' u tk hk) hsz
end Lr

set_option Elab.async false
set_option linter.all false
set_option maxRecDepth 100000
set_option maxHeartbeats 4000000
namespace Lr
open PySem PySem.Spec PyProof.Rows L2 Ow Og Oe Oh
section
variable {X : Cx} {CX : CXT} {k : Nat} {f : Addr} {fd : FuncData} {ps ks : List Str} {sp : Sp} {E : XK} {x : Str} {p pos : Pos} {kws : List Keyword} {tk : TA} {g : List Value → List Value → List Value} {gV : List V → List V → List V}
/-- f(k = v, ..) -/
def tCallN0 (m : Nat) (sp : Sp) (gV : List V → List V → List V) (E : XK) (tk : TA) : TE := fun σ H Q => tk σ H fun zs H2 => zs.length = m ∧ sp (gV [] zs) H2 Q E
theorem pe_callN0 (F : FnOk X.prog X.w X.K X.mg X.base CX k f fd ps sp) (hr : Room k X.A) (hg : Gl X x) (hm : X.mg x = some (.ref f)) (hk : PySem.W.keepIn X.K (.ref f) = true) (hb : KBn X.K fd ps 0 ks g gV) (hx : Passes CX X E)
    (hkw : PK X kws tk) (hall : (backToKw pos (keywordEach kws X.env)).all (·.1.isSome) = true := by rfl) (hks : (backToKw pos (keywordEach kws X.env)).filterMap (·.1) = ks := by rfl)
    (hdb : (x == ("__debug__" : Str)) = false := by decide) (hpl : ((backTo pos (starEach [] X.env)).any (·.1) || (backToKw pos (keywordEach kws X.env)).any (·.1.isNone)) = false := by rfl) :
    PE X (.Call (.Name x p) [] kws pos) (tCallN0 ks.length sp gV E tk) := by
  refine ⟨fun pins s σ H Q I h => wpAny_Call_Name_kw (ld_glob I hg hm ?_ hdb)⟩
  refine PySem.W.callWith_KW0 (h₀ := X.base) I.ok.mod.kin hk hall ?_ hpl
  refine thn (hkw.run pos pins s σ H _ I h) fun ws s2 ⟨zs, H2, I2, rz, l2, q2⟩ => ⟨I2.kIn, ?_⟩
  rw [hks]
  exact run_fnN (us := []) (vs := []) F hr hb hx I2 .nil rz rfl l2 q2
end
section
variable {P : Program} {w : World} {K : PySem.W.Frag} {mg : Str → Option Value} {base : Heap}
abbrev s_is_integer : Stmt := topS 5
theorem sc_is_integer : FnScope ["value"] ["value"] (defScope s_is_integer) := ⟨rfl, rfl, rfl, by decide +kernel, rfl, by decide +kernel, by decide +kernel⟩
abbrev s_is_within : Stmt := topS 6
theorem sc_is_within : FnScope ["value", "least", "most"] ["value", "least", "most"] (defScope s_is_within) := ⟨rfl, rfl, rfl, by decide +kernel, rfl, by decide +kernel, by decide +kernel⟩
/-! ### the checks, for any value -/
/-- a value that is no integer (a bool is none) -/
def NoInt (K : PySem.W.Frag) (H : Hp) (v : V) : Prop := ∃ (t : Value) (b : Bool), TyX K H v t ∧ PySem.W.kitOne K t (.type "int") = some b ∧ (b = true → PySem.W.kitOne K t (.type "bool") = some true)
theorem noInt_non {H : Hp} : NoInt K H .non := ⟨_, false, .base .non, kit_ty (by decide +kernel), fun z => nomatch z⟩
theorem noInt_bl {H : Hp} (b : Bool) : NoInt K H (.bl b) := ⟨_, true, .base (.bl b), kit_ty (by decide +kernel), fun _ => kit_ty (by decide +kernel)⟩
theorem noInt_str {H : Hp} (x : Str) : NoInt K H (.str x) := ⟨_, false, .base (.str x), kit_ty (by decide +kernel), fun z => nomatch z⟩
theorem noInt_tup {H : Hp} {a : Addr} {xs : List V} (h : H a = some (.tup xs)) : NoInt K H (.ref a) := ⟨_, false, .base (.tup h), kit_ty (by decide +kernel), fun z => nomatch z⟩
theorem noInt_lst {H : Hp} {a : Addr} {xs : List V} (h : H a = some (.lst xs)) : NoInt K H (.ref a) := ⟨_, false, .base (.lst h), kit_ty (by decide +kernel), fun z => nomatch z⟩
/-- a value as the checks take it: an integer, or no integer -/
inductive Arg (K : PySem.W.Frag) (H : Hp) : V → Option Int → Prop
  | int (i : Int) : Arg K H (.int i) (some i)
  | no {v : V} (h : NoInt K H v) : Arg K H v none
def spIsIntV (K : PySem.W.Frag) : Sp := fun vs H Q _ => ∃ (v : V) (o : Option Int), vs = [v] ∧ Arg K H v o ∧ Q (.bl o.isSome) H
theorem ok_isIntV {f : Addr} {fd : FuncData} (F : Fun K "is_integer" "is_integer" s_is_integer f fd) (T : Nm mg) : FnOk P w K mg base CX0 1 f fd ["value"] (spIsIntV K) := by
  refine F.ok sc_is_integer (fun vs H Q E h => ?_) (fun cdv A outer s H vs Q E hr h => ?_)
  · obtain ⟨v, o, rfl, _⟩ := h
    rfl
  · obtain ⟨v, o, rfl, g, q⟩ := h
    refine ⟨_, pss_one (ps_ret (pe_and (pe_callB call_isi (by rfl) T.isi boot_isinstance (pa_cons (pv 0) (pa_cons (pe_bltn (v := .ty "int") (by rfl) T.int PyProof.Rows.boot_int rfl) pa_nil)))
      (pe_one (pe_not (pe_callB call_isi (by rfl) T.isi boot_isinstance (pa_cons (pv 0) (pa_cons (pe_bltn (v := .ty "bool") (by rfl) T.bool PyProof.Rows.boot_bool rfl) pa_nil))))))), ?_⟩
    cases g with
    | int i =>
      refine ⟨_, rfl, _, _, _, _, true, rfl, .ty "int", .base (.int i), kit_ty (by decide +kernel), true, rfl, iteT ?_⟩
      exact ⟨_, rfl, _, _, _, _, false, rfl, .ty "bool", .base (.int i), kit_ty (by decide +kernel), false, rfl, q⟩
    | no h =>
      obtain ⟨t, b, ty, k1, k2⟩ := h
      refine ⟨_, rfl, _, _, _, _, b, rfl, .ty "int", ty, k1, b, rfl, ?_⟩
      cases b with
      | false => exact iteF q
      | true => exact iteT ⟨_, rfl, _, _, _, _, true, rfl, .ty "bool", ty, k2 rfl, true, rfl, q⟩
def within? (lo hi : Int) : Option Int → Bool
  | none => false
  | some i => decide (lo ≤ i ∧ i ≤ hi)
def spWithinV (K : PySem.W.Frag) : Sp := fun vs H Q _ => ∃ (v : V) (o : Option Int) (lo hi : Int), vs = [v, .int lo, .int hi] ∧ Arg K H v o ∧ Q (.bl (within? lo hi o)) H
theorem ok_withinV {f fI : Addr} {fd fdI : FuncData} (F : Fun K "is_within" "is_within" s_is_within f fd) (FI : Fun K "is_integer" "is_integer" s_is_integer fI fdI) (bI : Binds K fdI ["value"] []) (gI : mg "is_integer" = some (.ref fI)) (T : Nm mg) :
    FnOk P w K mg base CX0 2 f fd ["value", "least", "most"] (spWithinV K) := by
  have GI : FnOk P w K mg base CX0 1 fI fdI ["value"] (spIsIntV K) := ok_isIntV FI T
  refine F.ok sc_is_within (fun vs H Q E h => ?_) (fun cdv A outer s H vs Q E hr h => ?_)
  · obtain ⟨v, o, lo, hi, rfl, _⟩ := h
    rfl
  · obtain ⟨v, o, lo, hi, rfl, g, q⟩ := h
    refine ⟨_, pss_one (ps_ret (pe_and (pe_call GI hr rfl gI FI.kp bI .nil pass0 (pa_cons (pv 0) pa_nil)) (pe_one (pe_chain op_le op_le (pv 1) (pv 0) (pv 2))))), ?_⟩
    cases g with
    | no h => exact ⟨_, rfl, v, none, rfl, .no h, false, rfl, iteF q⟩
    | int i =>
      refine ⟨_, rfl, _, some i, rfl, .int i, true, rfl, iteT ?_⟩
      refine ⟨_, rfl, _, rfl, _, _, rfl, rfl, _, rfl, ?_⟩
      by_cases c : lo ≤ i
      · rw [decide_eq_true c]
        refine iteT ⟨_, rfl, _, _, rfl, rfl, ?_⟩
        have e : within? lo hi (some i) = decide (i ≤ hi) := by simp [within?, c]
        rw [e] at q
        exact q
      · rw [decide_eq_false c]
        refine iteF ?_
        have e : within? lo hi (some i) = false := by simp [within?, c]
        rw [e] at q
        exact q
theorem noInt_dk {H : Hp} {a : Addr} {kvs : List (Key × V)} (h : H a = some (.dK kvs)) : NoInt K H (.ref a) := ⟨_, false, .base (.dK h), kit_ty (by decide +kernel), fun z => nomatch z⟩
/-! ### ages, delays -/
abbrev s_is_age : Stmt := topS 7
theorem sc_is_age : FnScope ["value"] ["value"] (defScope s_is_age) := ⟨rfl, rfl, rfl, by decide +kernel, rfl, by decide +kernel, by decide +kernel⟩
abbrev s_is_delay : Stmt := topS 8
theorem sc_is_delay : FnScope ["value"] ["value"] (defScope s_is_delay) := ⟨rfl, rfl, rfl, by decide +kernel, rfl, by decide +kernel, by decide +kernel⟩
def spAgeV (K : PySem.W.Frag) : Sp := fun vs H Q _ => ∃ (v : V) (o : Option Int), vs = [v] ∧ Arg K H v o ∧ Q (.bl (within? 0 8 o)) H
theorem ok_ageV {f fW fI : Addr} {fd fdW fdI : FuncData} (F : Fun K "is_age" "is_age" s_is_age f fd) (FW : Fun K "is_within" "is_within" s_is_within fW fdW) (UW : Use K mg "is_within" fW fdW ["value", "least", "most"]) (FI : Fun K "is_integer" "is_integer" s_is_integer fI fdI) (UI : Use K mg "is_integer" fI fdI ["value"]) (T : Nm mg) :
    FnOk P w K mg base CX0 3 f fd ["value"] (spAgeV K) := by
  have GW : FnOk P w K mg base CX0 2 fW fdW ["value", "least", "most"] (spWithinV K) := ok_withinV FW FI UI.b UI.g T
  obtain ⟨tb, gM⟩ := T.ma
  refine F.ok sc_is_age (fun vs H Q E h => ?_) (fun cdv A outer s H vs Q E hr h => ?_)
  · obtain ⟨v, o, rfl, _⟩ := h
    rfl
  · obtain ⟨v, o, rfl, hv, q⟩ := h
    refine ⟨_, pss_one (ps_ret (pe_call GW hr rfl UW.g UW.kp UW.b .nil pass0 (pa_cons (pv 0) (pa_cons pe_int (pa_cons (pe_glob (v := .int 8) rfl gM ⟨_, rfl⟩) pa_nil))))), ?_⟩
    exact ⟨_, rfl, v, o, 0, 8, rfl, hv, q⟩
theorem ok_delayV {f fW fI : Addr} {fd fdW fdI : FuncData} (F : Fun K "is_delay" "is_delay" s_is_delay f fd) (FW : Fun K "is_within" "is_within" s_is_within fW fdW) (UW : Use K mg "is_within" fW fdW ["value", "least", "most"]) (FI : Fun K "is_integer" "is_integer" s_is_integer fI fdI) (UI : Use K mg "is_integer" fI fdI ["value"]) (T : Nm mg) :
    FnOk P w K mg base CX0 3 f fd ["value"] (spAgeV K) := by
  have GW : FnOk P w K mg base CX0 2 fW fdW ["value", "least", "most"] (spWithinV K) := ok_withinV FW FI UI.b UI.g T
  obtain ⟨tb, gM⟩ := T.md
  refine F.ok sc_is_delay (fun vs H Q E h => ?_) (fun cdv A outer s H vs Q E hr h => ?_)
  · obtain ⟨v, o, rfl, _⟩ := h
    rfl
  · obtain ⟨v, o, rfl, hv, q⟩ := h
    refine ⟨_, pss_one (ps_ret (pe_call GW hr rfl UW.g UW.kp UW.b .nil pass0 (pa_cons (pv 0) (pa_cons pe_int (pa_cons (pe_glob (v := .int 8) rfl gM ⟨_, rfl⟩) pa_nil))))), ?_⟩
    exact ⟨_, rfl, v, o, 0, 8, rfl, hv, q⟩
/-! ### losses, names -/
abbrev s_is_losses : Stmt := topS 9
theorem sc_is_losses : FnScope ["value"] ["value"] (defScope s_is_losses) := ⟨rfl, rfl, rfl, by decide +kernel, rfl, by decide +kernel, by decide +kernel⟩
abbrev s_is_name : Stmt := topS 10
theorem sc_is_name : FnScope ["value"] ["value"] (defScope s_is_name) := ⟨rfl, rfl, rfl, by decide +kernel, rfl, by decide +kernel, by decide +kernel⟩
/-- a value that is no text -/
def NoStr (K : PySem.W.Frag) (H : Hp) (v : V) : Prop := ∃ t : Value, TyX K H v t ∧ PySem.W.kitOne K t (.type "str") = some false
/-- a value as these checks take it: a text, or none -/
inductive Txv (K : PySem.W.Frag) (H : Hp) : V → Option Str → Prop
  | str (z : Str) : Txv K H (.str z) (some z)
  | no {v : V} (h : NoStr K H v) : Txv K H v none
def losses? : Option Str → Bool
  | none => false
  | some z => decide (V.str (Txt.stripChars z ".x") = V.str "")
def name? : Option Str → Bool
  | none => false
  | some z => decide (1 ≤ z.length ∧ z.length ≤ 8) && decide (V.str (Txt.stripChars z "abcdefghijklmnopqrstuvwxyz") = V.str "")
def spLossV (K : PySem.W.Frag) : Sp := fun vs H Q _ => ∃ (v : V) (o : Option Str), vs = [v] ∧ Txv K H v o ∧ (∀ z, o = some z → z.length ≤ 1000) ∧ Q (.bl (losses? o)) H
theorem ok_lossV {f : Addr} {fd : FuncData} (F : Fun K "is_losses" "is_losses" s_is_losses f fd) (T : Nm mg) : FnOk P w K mg base CX0 1 f fd ["value"] (spLossV K) := by
  refine F.ok sc_is_losses (fun vs H Q E h => ?_) (fun cdv A outer s H vs Q E hr h => ?_)
  · obtain ⟨v, o, rfl, _⟩ := h
    rfl
  · obtain ⟨v, o, rfl, hv, hl, q⟩ := h
    refine ⟨_, pss_one (ps_ret (pe_and (pe_callB call_isi (by rfl) T.isi boot_isinstance (pa_cons (pv 0) (pa_cons (pe_bltn (v := .ty "str") (by rfl) T.str PyProof.Rows.boot_str rfl) pa_nil)))
      (pe_one (pe_cmpR op_eq (pe_bm PySem.F.plainAttrs_str PySem.F.slot_str_strip PySem.F.type_str_strip mt_stripChars (pv 0) (pa_cons pe_str pa_nil)) pe_str (nomark _))))), ?_⟩
    cases hv with
    | no h =>
      obtain ⟨t, ty, k1⟩ := h
      exact ⟨_, rfl, _, _, _, _, false, rfl, .ty "str", ty, k1, false, rfl, iteF q⟩
    | str z =>
      refine ⟨_, rfl, _, _, _, _, true, rfl, .ty "str", .base (.str z), kit_ty (by decide +kernel), true, rfl, iteT ?_⟩
      exact ⟨_, rfl, rfl, z, ".x", rfl, rfl, Nat.le_of_lt (small1000 (hl z rfl)), rfl, q⟩
def spNameV (K : PySem.W.Frag) : Sp := fun vs H Q _ => ∃ (v : V) (o : Option Str), vs = [v] ∧ Txv K H v o ∧ (∀ z, o = some z → z.length ≤ 1000) ∧ Q (.bl (name? o)) H
theorem ok_nameV {f : Addr} {fd : FuncData} (F : Fun K "is_name" "is_name" s_is_name f fd) (T : Nm mg) : FnOk P w K mg base CX0 1 f fd ["value"] (spNameV K) := by
  obtain ⟨tb, gM⟩ := T.mn
  obtain ⟨tl, gL⟩ := T.lt
  refine F.ok sc_is_name (fun vs H Q E h => ?_) (fun cdv A outer s H vs Q E hr h => ?_)
  · obtain ⟨v, o, rfl, _⟩ := h
    rfl
  · obtain ⟨v, o, rfl, hv, hl, q⟩ := h
    refine ⟨_, pss_one (ps_ret (pe_and (pe_callB call_isi (by rfl) T.isi boot_isinstance (pa_cons (pv 0) (pa_cons (pe_bltn (v := .ty "str") (by rfl) T.str PyProof.Rows.boot_str rfl) pa_nil)))
      (pe_and (pe_chain op_le op_le pe_int (pe_callB call_len_str (by rfl) T.len PySem.boot_len (pa_cons (pv 0) pa_nil)) (pe_glob (v := .int 8) rfl gM ⟨_, rfl⟩))
      (pe_one (pe_cmpR op_eq (pe_bm PySem.F.plainAttrs_str PySem.F.slot_str_strip PySem.F.type_str_strip mt_stripChars (pv 0) (pa_cons (pe_glob (v := .str "abcdefghijklmnopqrstuvwxyz") rfl gL ⟨_, rfl⟩) pa_nil)) pe_str (nomark _)))))), ?_⟩
    cases hv with
    | no h =>
      obtain ⟨t, ty, k1⟩ := h
      exact ⟨_, rfl, _, _, _, _, false, rfl, .ty "str", ty, k1, false, rfl, iteF q⟩
    | str z =>
      have lz := Nat.le_of_lt (small1000 (hl z rfl))
      refine ⟨_, rfl, _, _, _, _, true, rfl, .ty "str", .base (.str z), kit_ty (by decide +kernel), true, rfl, iteT ?_⟩
      refine ⟨_, rfl, z, rfl, lz, _, _, rfl, rfl, ?_⟩
      have fin : ∀ b : Bool, (b = true → (1 ≤ z.length ∧ z.length ≤ 8)) → (b = false → ¬ (1 ≤ z.length ∧ z.length ≤ 8)) → Q (.bl (b && decide (V.str (Txt.stripChars z "abcdefghijklmnopqrstuvwxyz") = V.str ""))) H := fun b h1 h2 => by
        cases b with
        | true =>
          rw [← decide_eq_true (h1 rfl)]
          exact q
        | false =>
          rw [← decide_eq_false (h2 rfl)]
          exact q
      refine ⟨_, rfl, ?_⟩
      by_cases c : (1 : Int) ≤ (z.length : Int)
      · rw [decide_eq_true c]
        refine iteT ⟨_, _, rfl, rfl, ?_⟩
        by_cases c2 : (z.length : Int) ≤ 8
        · refine ⟨true, congrArg V.bl (decide_eq_true c2), iteT ?_⟩
          exact ⟨_, rfl, rfl, z, _, rfl, rfl, lz, rfl, fin true (fun _ => ⟨by omega, by omega⟩) fun h => nomatch h⟩
        · refine ⟨false, congrArg V.bl (decide_eq_false c2), iteF ?_⟩
          exact fin false (fun h => nomatch h) fun _ h => c2 (by omega)
      · rw [decide_eq_false c]
        refine iteF ⟨false, rfl, iteF ?_⟩
        exact fin false (fun h => nomatch h) fun _ h => c (by omega)
end
end Lr

set_option Elab.async false
set_option linter.all false
set_option maxRecDepth 100000
set_option maxHeartbeats 4000000
namespace Lr
open PySem PySem.Spec PyProof.Rows L2 Ow Og Oe Oh
/-! ### the errors' own __init__ -/
section
variable {P : Program} {w : World} {K : PySem.W.Frag} {mg : Str → Option Value} {base : Heap}
def spEr1 (K : PySem.W.Frag) (f : Str) : Sp := fun vs H Q _ => ∃ (a C : Addr) (y : V), vs = [.ref a, y] ∧ OexC K C ∧ PySem.W.findIn K (.ref C) f = some none ∧ H a = some (exo a C none) ∧ ∀ dx, H dx = none → dx ≠ a → Q .non (upd (upd H dx (exd dx [(f, y)])) a (exo a C (some dx)))
def spEr2 (K : PySem.W.Frag) (f g : Str) : Sp := fun vs H Q _ => ∃ (a C : Addr) (y z : V), vs = [.ref a, y, z] ∧ OexC K C ∧ PySem.W.findIn K (.ref C) f = some none ∧ PySem.W.findIn K (.ref C) g = some none ∧ H a = some (exo a C none) ∧
  ∀ dx, H dx = none → dx ≠ a → Q .non (upd (upd (upd H dx (exd dx [(f, y)])) a (exo a C (some dx))) dx (exd dx [(g, z), (f, y)]))
def spEr0 : Sp := fun vs H Q _ => ∃ a : Addr, vs = [.ref a] ∧ Q .non H
abbrev s_iBadSpace : Stmt := inClass (topS 13) 0
theorem sc_iBadSpace : FnScope ["self", "part"] ["self", "part"] (defScope s_iBadSpace) := ⟨rfl, rfl, rfl, by decide +kernel, rfl, by decide +kernel, by decide +kernel⟩
theorem ok_iBadSpace {f : Addr} {fd : FuncData} (F : Fun K "__init__" "BadSpace.__init__" s_iBadSpace f fd) : FnOk P w K mg base CX0 1 f fd ["self", "part"] (spEr1 K "part") := by
  refine F.ok sc_iBadSpace (fun vs H Q E h => ?_) (fun cdv A outer s H vs Q E hr h => ?_)
  · obtain ⟨a, C, y, rfl, _⟩ := h
    rfl
  · obtain ⟨a, C, y, rfl, T, no, ha, q⟩ := h
    refine ⟨_, pss_one (ps_ost (pv 0) (pv 1)), ?_⟩
    exact ⟨_, rfl, _, rfl, a, C, rfl, T, no, .inl ⟨ha, fun dx nd ne => q dx nd ne⟩⟩
abbrev s_iBadTick : Stmt := inClass (topS 14) 0
theorem sc_iBadTick : FnScope ["self", "part"] ["self", "part"] (defScope s_iBadTick) := ⟨rfl, rfl, rfl, by decide +kernel, rfl, by decide +kernel, by decide +kernel⟩
theorem ok_iBadTick {f : Addr} {fd : FuncData} (F : Fun K "__init__" "BadTick.__init__" s_iBadTick f fd) : FnOk P w K mg base CX0 1 f fd ["self", "part"] (spEr1 K "part") := by
  refine F.ok sc_iBadTick (fun vs H Q E h => ?_) (fun cdv A outer s H vs Q E hr h => ?_)
  · obtain ⟨a, C, y, rfl, _⟩ := h
    rfl
  · obtain ⟨a, C, y, rfl, T, no, ha, q⟩ := h
    refine ⟨_, pss_one (ps_ost (pv 0) (pv 1)), ?_⟩
    exact ⟨_, rfl, _, rfl, a, C, rfl, T, no, .inl ⟨ha, fun dx nd ne => q dx nd ne⟩⟩
abbrev s_iBadPlan : Stmt := inClass (topS 15) 0
theorem sc_iBadPlan : FnScope ["self", "part"] ["self", "part"] (defScope s_iBadPlan) := ⟨rfl, rfl, rfl, by decide +kernel, rfl, by decide +kernel, by decide +kernel⟩
theorem ok_iBadPlan {f : Addr} {fd : FuncData} (F : Fun K "__init__" "BadPlan.__init__" s_iBadPlan f fd) : FnOk P w K mg base CX0 1 f fd ["self", "part"] (spEr1 K "part") := by
  refine F.ok sc_iBadPlan (fun vs H Q E h => ?_) (fun cdv A outer s H vs Q E hr h => ?_)
  · obtain ⟨a, C, y, rfl, _⟩ := h
    rfl
  · obtain ⟨a, C, y, rfl, T, no, ha, q⟩ := h
    refine ⟨_, pss_one (ps_ost (pv 0) (pv 1)), ?_⟩
    exact ⟨_, rfl, _, rfl, a, C, rfl, T, no, .inl ⟨ha, fun dx nd ne => q dx nd ne⟩⟩
abbrev s_iBadRule : Stmt := inClass (topS 16) 0
theorem sc_iBadRule : FnScope ["self", "part"] ["self", "part"] (defScope s_iBadRule) := ⟨rfl, rfl, rfl, by decide +kernel, rfl, by decide +kernel, by decide +kernel⟩
theorem ok_iBadRule {f : Addr} {fd : FuncData} (F : Fun K "__init__" "BadRule.__init__" s_iBadRule f fd) : FnOk P w K mg base CX0 1 f fd ["self", "part"] (spEr1 K "part") := by
  refine F.ok sc_iBadRule (fun vs H Q E h => ?_) (fun cdv A outer s H vs Q E hr h => ?_)
  · obtain ⟨a, C, y, rfl, _⟩ := h
    rfl
  · obtain ⟨a, C, y, rfl, T, no, ha, q⟩ := h
    refine ⟨_, pss_one (ps_ost (pv 0) (pv 1)), ?_⟩
    exact ⟨_, rfl, _, rfl, a, C, rfl, T, no, .inl ⟨ha, fun dx nd ne => q dx nd ne⟩⟩
abbrev s_iBadLosses : Stmt := inClass (topS 17) 0
theorem sc_iBadLosses : FnScope ["self", "value"] ["self", "value"] (defScope s_iBadLosses) := ⟨rfl, rfl, rfl, by decide +kernel, rfl, by decide +kernel, by decide +kernel⟩
theorem ok_iBadLosses {f : Addr} {fd : FuncData} (F : Fun K "__init__" "BadLosses.__init__" s_iBadLosses f fd) : FnOk P w K mg base CX0 1 f fd ["self", "value"] (spEr1 K "value") := by
  refine F.ok sc_iBadLosses (fun vs H Q E h => ?_) (fun cdv A outer s H vs Q E hr h => ?_)
  · obtain ⟨a, C, y, rfl, _⟩ := h
    rfl
  · obtain ⟨a, C, y, rfl, T, no, ha, q⟩ := h
    refine ⟨_, pss_one (ps_ost (pv 0) (pv 1)), ?_⟩
    exact ⟨_, rfl, _, rfl, a, C, rfl, T, no, .inl ⟨ha, fun dx nd ne => q dx nd ne⟩⟩
abbrev s_iBadDelay : Stmt := inClass (topS 18) 0
theorem sc_iBadDelay : FnScope ["self", "value"] ["self", "value"] (defScope s_iBadDelay) := ⟨rfl, rfl, rfl, by decide +kernel, rfl, by decide +kernel, by decide +kernel⟩
theorem ok_iBadDelay {f : Addr} {fd : FuncData} (F : Fun K "__init__" "BadDelay.__init__" s_iBadDelay f fd) : FnOk P w K mg base CX0 1 f fd ["self", "value"] (spEr1 K "value") := by
  refine F.ok sc_iBadDelay (fun vs H Q E h => ?_) (fun cdv A outer s H vs Q E hr h => ?_)
  · obtain ⟨a, C, y, rfl, _⟩ := h
    rfl
  · obtain ⟨a, C, y, rfl, T, no, ha, q⟩ := h
    refine ⟨_, pss_one (ps_ost (pv 0) (pv 1)), ?_⟩
    exact ⟨_, rfl, _, rfl, a, C, rfl, T, no, .inl ⟨ha, fun dx nd ne => q dx nd ne⟩⟩
abbrev s_iBadCount : Stmt := inClass (topS 19) 0
theorem sc_iBadCount : FnScope ["self", "value"] ["self", "value"] (defScope s_iBadCount) := ⟨rfl, rfl, rfl, by decide +kernel, rfl, by decide +kernel, by decide +kernel⟩
theorem ok_iBadCount {f : Addr} {fd : FuncData} (F : Fun K "__init__" "BadCount.__init__" s_iBadCount f fd) : FnOk P w K mg base CX0 1 f fd ["self", "value"] (spEr1 K "value") := by
  refine F.ok sc_iBadCount (fun vs H Q E h => ?_) (fun cdv A outer s H vs Q E hr h => ?_)
  · obtain ⟨a, C, y, rfl, _⟩ := h
    rfl
  · obtain ⟨a, C, y, rfl, T, no, ha, q⟩ := h
    refine ⟨_, pss_one (ps_ost (pv 0) (pv 1)), ?_⟩
    exact ⟨_, rfl, _, rfl, a, C, rfl, T, no, .inl ⟨ha, fun dx nd ne => q dx nd ne⟩⟩
abbrev s_iBadStream : Stmt := inClass (topS 20) 0
theorem sc_iBadStream : FnScope ["self", "part"] ["self", "part"] (defScope s_iBadStream) := ⟨rfl, rfl, rfl, by decide +kernel, rfl, by decide +kernel, by decide +kernel⟩
theorem ok_iBadStream {f : Addr} {fd : FuncData} (F : Fun K "__init__" "BadStream.__init__" s_iBadStream f fd) : FnOk P w K mg base CX0 1 f fd ["self", "part"] (spEr1 K "part") := by
  refine F.ok sc_iBadStream (fun vs H Q E h => ?_) (fun cdv A outer s H vs Q E hr h => ?_)
  · obtain ⟨a, C, y, rfl, _⟩ := h
    rfl
  · obtain ⟨a, C, y, rfl, T, no, ha, q⟩ := h
    refine ⟨_, pss_one (ps_ost (pv 0) (pv 1)), ?_⟩
    exact ⟨_, rfl, _, rfl, a, C, rfl, T, no, .inl ⟨ha, fun dx nd ne => q dx nd ne⟩⟩
abbrev s_iBadPacket : Stmt := inClass (topS 21) 0
theorem sc_iBadPacket : FnScope ["self", "part"] ["self", "part"] (defScope s_iBadPacket) := ⟨rfl, rfl, rfl, by decide +kernel, rfl, by decide +kernel, by decide +kernel⟩
theorem ok_iBadPacket {f : Addr} {fd : FuncData} (F : Fun K "__init__" "BadPacket.__init__" s_iBadPacket f fd) : FnOk P w K mg base CX0 1 f fd ["self", "part"] (spEr1 K "part") := by
  refine F.ok sc_iBadPacket (fun vs H Q E h => ?_) (fun cdv A outer s H vs Q E hr h => ?_)
  · obtain ⟨a, C, y, rfl, _⟩ := h
    rfl
  · obtain ⟨a, C, y, rfl, T, no, ha, q⟩ := h
    refine ⟨_, pss_one (ps_ost (pv 0) (pv 1)), ?_⟩
    exact ⟨_, rfl, _, rfl, a, C, rfl, T, no, .inl ⟨ha, fun dx nd ne => q dx nd ne⟩⟩
abbrev s_iBadBench : Stmt := inClass (topS 22) 0
theorem sc_iBadBench : FnScope ["self", "part"] ["self", "part"] (defScope s_iBadBench) := ⟨rfl, rfl, rfl, by decide +kernel, rfl, by decide +kernel, by decide +kernel⟩
theorem ok_iBadBench {f : Addr} {fd : FuncData} (F : Fun K "__init__" "BadBench.__init__" s_iBadBench f fd) : FnOk P w K mg base CX0 1 f fd ["self", "part"] (spEr1 K "part") := by
  refine F.ok sc_iBadBench (fun vs H Q E h => ?_) (fun cdv A outer s H vs Q E hr h => ?_)
  · obtain ⟨a, C, y, rfl, _⟩ := h
    rfl
  · obtain ⟨a, C, y, rfl, T, no, ha, q⟩ := h
    refine ⟨_, pss_one (ps_ost (pv 0) (pv 1)), ?_⟩
    exact ⟨_, rfl, _, rfl, a, C, rfl, T, no, .inl ⟨ha, fun dx nd ne => q dx nd ne⟩⟩
abbrev s_iBadCommand : Stmt := inClass (topS 24) 0
theorem sc_iBadCommand : FnScope ["self", "word"] ["self", "word"] (defScope s_iBadCommand) := ⟨rfl, rfl, rfl, by decide +kernel, rfl, by decide +kernel, by decide +kernel⟩
theorem ok_iBadCommand {f : Addr} {fd : FuncData} (F : Fun K "__init__" "BadCommand.__init__" s_iBadCommand f fd) : FnOk P w K mg base CX0 1 f fd ["self", "word"] (spEr1 K "word") := by
  refine F.ok sc_iBadCommand (fun vs H Q E h => ?_) (fun cdv A outer s H vs Q E hr h => ?_)
  · obtain ⟨a, C, y, rfl, _⟩ := h
    rfl
  · obtain ⟨a, C, y, rfl, T, no, ha, q⟩ := h
    refine ⟨_, pss_one (ps_ost (pv 0) (pv 1)), ?_⟩
    exact ⟨_, rfl, _, rfl, a, C, rfl, T, no, .inl ⟨ha, fun dx nd ne => q dx nd ne⟩⟩
abbrev s_iBadName : Stmt := inClass (topS 25) 0
theorem sc_iBadName : FnScope ["self", "value"] ["self", "value"] (defScope s_iBadName) := ⟨rfl, rfl, rfl, by decide +kernel, rfl, by decide +kernel, by decide +kernel⟩
theorem ok_iBadName {f : Addr} {fd : FuncData} (F : Fun K "__init__" "BadName.__init__" s_iBadName f fd) : FnOk P w K mg base CX0 1 f fd ["self", "value"] (spEr1 K "value") := by
  refine F.ok sc_iBadName (fun vs H Q E h => ?_) (fun cdv A outer s H vs Q E hr h => ?_)
  · obtain ⟨a, C, y, rfl, _⟩ := h
    rfl
  · obtain ⟨a, C, y, rfl, T, no, ha, q⟩ := h
    refine ⟨_, pss_one (ps_ost (pv 0) (pv 1)), ?_⟩
    exact ⟨_, rfl, _, rfl, a, C, rfl, T, no, .inl ⟨ha, fun dx nd ne => q dx nd ne⟩⟩
abbrev s_iNoName : Stmt := inClass (topS 26) 0
theorem sc_iNoName : FnScope ["self", "name"] ["self", "name"] (defScope s_iNoName) := ⟨rfl, rfl, rfl, by decide +kernel, rfl, by decide +kernel, by decide +kernel⟩
theorem ok_iNoName {f : Addr} {fd : FuncData} (F : Fun K "__init__" "NoName.__init__" s_iNoName f fd) : FnOk P w K mg base CX0 1 f fd ["self", "name"] (spEr1 K "name") := by
  refine F.ok sc_iNoName (fun vs H Q E h => ?_) (fun cdv A outer s H vs Q E hr h => ?_)
  · obtain ⟨a, C, y, rfl, _⟩ := h
    rfl
  · obtain ⟨a, C, y, rfl, T, no, ha, q⟩ := h
    refine ⟨_, pss_one (ps_ost (pv 0) (pv 1)), ?_⟩
    exact ⟨_, rfl, _, rfl, a, C, rfl, T, no, .inl ⟨ha, fun dx nd ne => q dx nd ne⟩⟩
abbrev s_iNoPhase : Stmt := inClass (topS 27) 0
theorem sc_iNoPhase : FnScope ["self", "at"] ["self", "at"] (defScope s_iNoPhase) := ⟨rfl, rfl, rfl, by decide +kernel, rfl, by decide +kernel, by decide +kernel⟩
theorem ok_iNoPhase {f : Addr} {fd : FuncData} (F : Fun K "__init__" "NoPhase.__init__" s_iNoPhase f fd) : FnOk P w K mg base CX0 1 f fd ["self", "at"] (spEr1 K "at") := by
  refine F.ok sc_iNoPhase (fun vs H Q E h => ?_) (fun cdv A outer s H vs Q E hr h => ?_)
  · obtain ⟨a, C, y, rfl, _⟩ := h
    rfl
  · obtain ⟨a, C, y, rfl, T, no, ha, q⟩ := h
    refine ⟨_, pss_one (ps_ost (pv 0) (pv 1)), ?_⟩
    exact ⟨_, rfl, _, rfl, a, C, rfl, T, no, .inl ⟨ha, fun dx nd ne => q dx nd ne⟩⟩
abbrev s_iBadText : Stmt := inClass (topS 23) 0
theorem sc_iBadText : FnScope ["self", "line", "word"] ["self", "line", "word"] (defScope s_iBadText) := ⟨rfl, rfl, rfl, by decide +kernel, rfl, by decide +kernel, by decide +kernel⟩
theorem ok_iBadText {f : Addr} {fd : FuncData} (F : Fun K "__init__" "BadText.__init__" s_iBadText f fd) : FnOk P w K mg base CX0 1 f fd ["self", "line", "word"] (spEr2 K "line" "word") := by
  refine F.ok sc_iBadText (fun vs H Q E h => ?_) (fun cdv A outer s H vs Q E hr h => ?_)
  · obtain ⟨a, C, y, z, rfl, _⟩ := h
    rfl
  · obtain ⟨a, C, y, z, rfl, T, no, no2, ha, q⟩ := h
    refine ⟨_, pss_cons (ps_ost (pv 0) (pv 1)) (pss_one (ps_ost (pv 0) (pv 2))), ?_⟩
    refine ⟨_, rfl, _, rfl, a, C, rfl, T, no, .inl ⟨ha, fun dx nd ne => ?_⟩⟩
    refine ⟨_, rfl, _, rfl, a, C, rfl, T, no2, .inr ⟨dx, _, upd_same, ?_, (by show 1 ≤ 900; omega), q dx nd ne⟩⟩
    rw [upd_ne ne, upd_same]
abbrev s_iTooMany : Stmt := inClass (topS 29) 0
theorem sc_iTooMany : FnScope ["self", "what", "most"] ["self", "what", "most"] (defScope s_iTooMany) := ⟨rfl, rfl, rfl, by decide +kernel, rfl, by decide +kernel, by decide +kernel⟩
theorem ok_iTooMany {f : Addr} {fd : FuncData} (F : Fun K "__init__" "TooMany.__init__" s_iTooMany f fd) : FnOk P w K mg base CX0 1 f fd ["self", "what", "most"] (spEr2 K "what" "most") := by
  refine F.ok sc_iTooMany (fun vs H Q E h => ?_) (fun cdv A outer s H vs Q E hr h => ?_)
  · obtain ⟨a, C, y, z, rfl, _⟩ := h
    rfl
  · obtain ⟨a, C, y, z, rfl, T, no, no2, ha, q⟩ := h
    refine ⟨_, pss_cons (ps_ost (pv 0) (pv 1)) (pss_one (ps_ost (pv 0) (pv 2))), ?_⟩
    refine ⟨_, rfl, _, rfl, a, C, rfl, T, no, .inl ⟨ha, fun dx nd ne => ?_⟩⟩
    refine ⟨_, rfl, _, rfl, a, C, rfl, T, no2, .inr ⟨dx, _, upd_same, ?_, (by show 1 ≤ 900; omega), q dx nd ne⟩⟩
    rw [upd_ne ne, upd_same]
abbrev s_iNothing : Stmt := inClass (topS 28) 0
theorem sc_iNothing : FnScope ["self"] ["self"] (defScope s_iNothing) := ⟨rfl, rfl, rfl, by decide +kernel, rfl, by decide +kernel, by decide +kernel⟩
theorem ok_iNothing {f : Addr} {fd : FuncData} (F : Fun K "__init__" "Nothing.__init__" s_iNothing f fd) : FnOk P w K mg base CX0 1 f fd ["self"] spEr0 := by
  refine F.ok sc_iNothing (fun vs H Q E h => ?_) (fun cdv A outer s H vs Q E hr h => ?_)
  · obtain ⟨a, rfl, _⟩ := h
    rfl
  · obtain ⟨a, rfl, q⟩ := h
    exact ⟨_, pss_one ps_pass, q⟩
end
/-! ### errors as values -/
theorem ask1 {K : PySem.W.Frag} {C : Addr} {f : Str} {y : V} {H : Hp} {Q : VK} (T : OexC K C) (no : PySem.W.findIn K (.ref C) f = some none) (q : ∀ a d H', Same H H' → H' a = some (ExK (.ref C) (some d) a) → H' d = some (.xd [(f, y)]) → Q (.ref a) H') : exAsk C (spEr1 K f) [y] H Q := by
  intro a na
  refine ⟨a, C, y, rfl, T, no, upd_same, fun dx nd ne => ⟨rfl, .inl ⟨dx, [(f, y)], upd_same, ?_, q a dx _ (fun b o e => ?_) upd_same ?_⟩⟩⟩
  · rw [upd_ne ne, upd_same]
  · have nd' : H dx = none := by
      rw [upd_ne ne] at nd
      exact nd
    have ba : b ≠ a := ne_of_none e na
    have bd : b ≠ dx := ne_of_none e nd'
    rw [upd_ne ba, upd_ne bd, upd_ne ba, upd_ne bd, upd_ne ba]
    exact e
  · rw [upd_ne ne, upd_same]
theorem ask2 {K : PySem.W.Frag} {C : Addr} {f g : Str} {y z : V} {H : Hp} {Q : VK} (T : OexC K C) (no : PySem.W.findIn K (.ref C) f = some none) (no2 : PySem.W.findIn K (.ref C) g = some none)
    (q : ∀ a d H', Same H H' → H' a = some (ExK (.ref C) (some d) a) → H' d = some (.xd [(g, z), (f, y)]) → Q (.ref a) H') : exAsk C (spEr2 K f g) [y, z] H Q := by
  intro a na
  refine ⟨a, C, y, z, rfl, T, no, no2, upd_same, fun dx nd ne => ⟨rfl, .inl ⟨dx, [(g, z), (f, y)], ?_, upd_same, q a dx _ (fun b o e => ?_) upd_same ?_⟩⟩⟩
  · rw [upd_ne (Ne.symm ne), upd_same]
  · have nd' : H dx = none := by
      rw [upd_ne ne] at nd
      exact nd
    have ba : b ≠ a := ne_of_none e na
    have bd : b ≠ dx := ne_of_none e nd'
    rw [upd_ne ba, upd_ne bd, upd_ne bd, upd_ne ba, upd_ne bd, upd_ne ba]
    exact e
  · rw [upd_ne ne, upd_same]
theorem ask0 {C : Addr} {H : Hp} {Q : VK} (q : ∀ a H', Same H H' → H' a = some (ExK (.ref C) none a) → Q (.ref a) H') : exAsk C spEr0 [] H Q := by
  intro a na
  refine ⟨a, rfl, rfl, .inr ⟨upd_same, q a _ (fun b o e => ?_) upd_same⟩⟩
  have ba : b ≠ a := ne_of_none e na
  rw [upd_ne ba, upd_ne ba]
  exact e
/-- an expression that makes an error of C with these fields -/
def MkX (te : TE) (σ : L2.St) (C : Addr) (fs : List (Str × V)) : Prop := ∀ (H : Hp) (Q : VK), (∀ a d H', Same H H' → H' a = some (ExK (.ref C) (some d) a) → H' d = some (.xd fs) → Q (.ref a) H') → te σ H Q
section
variable {K : PySem.W.Frag} {C : Addr} {σ : L2.St} {f g : Str} {i j : Nat} {y z : V}
theorem mk1 (T : OexC K C) (no : PySem.W.findIn K (.ref C) f = some none) (hy : σ[i]? = some (some y)) : MkX (fun σ H Q => tCons (tVar i) tNil σ H fun vs H1 => vs.length ≤ 1000 ∧ vs.length + 1 = (["self", f] : List Str).length ∧ exAsk C (spEr1 K f) vs H1 Q) σ C [(f, y)] := fun H Q q =>
  ⟨y, hy, by show 1 ≤ 1000; omega, rfl, ask1 T no q⟩
theorem mk1K (T : OexC K C) (no : PySem.W.findIn K (.ref C) f = some none) (hy : σ[i]? = some (some y)) : MkX (fun σ H Q => tCons (tVar i) tNil σ H fun zs H1 => zs.length = ([f] : List Str).length ∧ exAsk C (spEr1 K f) (id zs) H1 Q) σ C [(f, y)] := fun H Q q =>
  ⟨y, hy, rfl, ask1 T no q⟩
theorem mk2 (T : OexC K C) (no : PySem.W.findIn K (.ref C) f = some none) (no2 : PySem.W.findIn K (.ref C) g = some none) (hy : σ[i]? = some (some y)) (hz : σ[j]? = some (some z)) :
    MkX (fun σ H Q => tCons (tVar i) (tCons (tVar j) tNil) σ H fun vs H1 => vs.length ≤ 1000 ∧ vs.length + 1 = (["self", f, g] : List Str).length ∧ exAsk C (spEr2 K f g) vs H1 Q) σ C [(g, z), (f, y)] := fun H Q q =>
  ⟨y, hy, z, hz, by show 2 ≤ 1000; omega, rfl, ask2 T no no2 q⟩
theorem mk2K (T : OexC K C) (no : PySem.W.findIn K (.ref C) f = some none) (no2 : PySem.W.findIn K (.ref C) g = some none) (hy : σ[i]? = some (some y)) (hz : σ[j]? = some (some z)) :
    MkX (fun σ H Q => tCons (tVar j) (tCons (tVar i) tNil) σ H fun zs H1 => zs.length = ([g, f] : List Str).length ∧ exAsk C (spEr2 K f g) (List.reverse zs) H1 Q) σ C [(g, z), (f, y)] := fun H Q q =>
  ⟨z, hz, y, hy, rfl, ask2 T no no2 q⟩
/-- v: a tuple of an error of the class number i and the value y -/
def Pr (Cs : Nat → Addr) (y : V) (H : Hp) (i : Nat) (v : V) : Prop := ∃ t e d fs, v = .ref t ∧ H t = some (.tup [.ref e, y]) ∧ H e = some (ExK (.ref (Cs i)) (some d) e) ∧ H d = some (.xd fs)
theorem Pr.same {Cs : Nat → Addr} {y : V} {H H' : Hp} {i : Nat} {v : V} (p : Pr Cs y H i v) (s : Same H H') : Pr Cs y H' i v := by
  obtain ⟨t, e, d, fs, h1, h2, h3, h4⟩ := p
  exact ⟨t, e, d, fs, h1, s _ _ h2, s _ _ h3, s _ _ h4⟩
def PairX (Cs : Nat → Addr) (y : V) (te : TE) (σ : L2.St) (i : Nat) : Prop := ∀ (H : Hp) (Q : VK), (∀ v H', Same H H' → Pr Cs y H' i v → Q v H') → te σ H Q
theorem pairX {Cs : Nat → Addr} {t1 t2 : TE} {n : Nat} {fs gs : List (Str × V)} (m1 : MkX t1 σ (Cs n) fs) (m2 : MkX t2 σ (Cs n) gs) (xf : XfC K (Cs n)) (no : PySem.W.findIn K (.ref (Cs n)) f = some none) (l : gs.lookup f = some y) :
    PairX Cs y (tTup (tCons t1 (tCons (tXk K f t2) tNil))) σ n := fun H Q q => by
  refine m1 H _ fun a d H1 s1 e1 d1 => ?_
  refine m2 H1 _ fun a2 d2 H2 s2 e2 d2' => ?_
  refine ⟨a2, _, d2, gs, y, rfl, e2, d2', xf, no, l, by show 2 ≤ sizeLine; exact Nat.le_of_lt (small1000 (by omega)), fun p np => ?_⟩
  have s3 := same_upd (o := HO.tup [V.ref a, y]) np
  exact q _ _ ((s1.trans s2).trans s3) ⟨p, a, d, fs, rfl, upd_same, s3 _ _ (s2 _ _ e1), s3 _ _ (s2 _ _ d1)⟩
/-- values, pairs of the classes from number i on -/
def PrF (Cs : Nat → Addr) (y : V) (H : Hp) (i : Nat) (vs : List V) : Prop := ∀ k v, vs[k]? = some v → Pr Cs y H (i + k) v
theorem PrF.same {Cs : Nat → Addr} {H H' : Hp} {vs : List V} (p : PrF Cs y H i vs) (s : Same H H') : PrF Cs y H' i vs := fun k v e => (p k v e).same s
theorem PrF.app {Cs : Nat → Addr} {H : Hp} {xs vs : List V} (p : PrF Cs y H 0 xs) (q : PrF Cs y H xs.length vs) : PrF Cs y H 0 (xs ++ vs) := fun k v e => by
  by_cases h : k < xs.length
  · rw [List.getElem?_append_left h] at e
    exact p k v e
  · rw [List.getElem?_append_right (by omega)] at e
    have := q (k - xs.length) v e
    rwa [show xs.length + (k - xs.length) = 0 + k by omega] at this
def ListX (Cs : Nat → Addr) (y : V) (ta : TA) (σ : L2.St) (i n : Nat) : Prop := ∀ (H : Hp) (Q : List V → Hp → Prop), (∀ vs H', Same H H' → PrF Cs y H' i vs → vs.length = n → Q vs H') → ta σ H Q
theorem listX1 {Cs : Nat → Addr} {t1 : TE} (p : PairX Cs y t1 σ i) : ListX Cs y (tCons t1 tNil) σ i 1 := fun H Q q => by
  refine p H _ fun v H1 s1 h1 => q [v] H1 s1 (fun k u e => ?_) rfl
  match k, e with
  | 0, e =>
    cases e
    exact h1
  | k + 1, e => simp at e
theorem listX2 {Cs : Nat → Addr} {t1 t2 : TE} (p : PairX Cs y t1 σ i) (p2 : PairX Cs y t2 σ (i + 1)) : ListX Cs y (tCons t1 (tCons t2 tNil)) σ i 2 := fun H Q q => by
  refine p H _ fun v H1 s1 h1 => ?_
  refine p2 H1 _ fun v2 H2 s2 h2 => q [v, v2] H2 (s1.trans s2) (fun k u e => ?_) rfl
  match k, e with
  | 0, e =>
    cases e
    exact h1.same s2
  | 1, e =>
    cases e
    exact h2
  | k + 2, e => simp at e
/-- found + [..] -/
theorem catX {Cs : Nat → Addr} {ta : TA} {H : Hp} {l : Addr} {xs : List V} {n m : Nat} {Q : VK} (hl : σ[2]? = some (some (.ref l))) (hx : H l = some (.lst xs)) (p : PrF Cs y H 0 xs) (hn : xs.length = n) (lx : ListX Cs y ta σ n m) (h : n + m ≤ 100)
    (q : ∀ l' xs' H', Same H H' → H' l' = some (.lst xs') → PrF Cs y H' 0 xs' → xs'.length = n + m → Q (.ref l') H') : tOp rCat (tVar 2) (tLst ta) σ H Q := by
  subst hn
  refine ⟨_, hl, ?_⟩
  refine lx H _ fun vs H1 s1 h1 hm => ⟨Nat.le_of_lt (small1000 (by omega)), fun b nb => ?_⟩
  have s2 := same_upd (o := HO.lst vs) nb
  refine ⟨l, b, xs, vs, rfl, rfl, s2 _ _ (s1 _ _ hx), upd_same, Nat.le_of_lt (small1000 (by omega)), fun p' np => ?_⟩
  have s3 := same_upd (o := HO.lst (xs ++ vs)) np
  have s := (s1.trans s2).trans s3
  exact q p' _ _ s upd_same (PrF.app (p.same s) (h1.same (s2.trans s3))) (by rw [List.length_append, hm])
end
end Lr

set_option Elab.async false
set_option linter.all false
set_option maxRecDepth 100000
set_option maxHeartbeats 4000000
namespace Lr
open PySem PySem.Spec PyProof.Rows L2 Ow Og Oe Oh
theorem vals_rev : ∀ {vs : List V} {us : List Value}, Vals vs us → Vals vs.reverse us.reverse
  | _, _, .nil => .nil
  | _, _, .cons h r => by
    rw [List.reverse_cons, List.reverse_cons]
    exact (vals_rev r).append (.cons h .nil)
theorem t_seq {t u : TS} {D : Ends} {σ : L2.St} {H : Hp} (h : t { D with nx := u D } σ H) : tSeq t u D σ H := h
theorem t_asg {te : TE} {g : TG} {D : Ends} {σ : L2.St} {H : Hp} (h : te σ H fun x H1 => g x σ H1 D.nx) : tAsg te g D σ H := h
/-- found = found + [..], and on -/
theorem st_cat {Cs : Nat → Addr} {y : V} {σ : L2.St} {D : Ends} {u : TS} {ta : TA} {H : Hp} {l : Addr} {xs : List V} {n m : Nat} (hl : σ[2]? = some (some (.ref l))) (hx : H l = some (.lst xs)) (p : PrF Cs y H 0 xs) (hn : xs.length = n) (lx : ListX Cs y ta σ n m) (h : n + m ≤ 100)
    (q : ∀ l' xs' H', Same H H' → H' l' = some (.lst xs') → PrF Cs y H' 0 xs' → xs'.length = n + m → u D (σ.set 2 (some (.ref l'))) H') : tSeq (tAsg (tOp rCat (tVar 2) (tLst ta)) (gName 2)) u D σ H := catX hl hx p hn lx h q
theorem st_lst {Cs : Nat → Addr} {y : V} {σ : L2.St} {D : Ends} {u : TS} {ta : TA} {H : Hp} {m : Nat} (lx : ListX Cs y ta σ 0 m) (h : m ≤ 100)
    (q : ∀ l' xs' H', Same H H' → H' l' = some (.lst xs') → PrF Cs y H' 0 xs' → xs'.length = m → u D (σ.set 2 (some (.ref l'))) H') : tSeq (tAsg (tLst ta) (gName 2)) u D σ H :=
  lx H _ fun vs H1 s1 h1 e1 => ⟨Nat.le_of_lt (small1000 (by omega)), fun l nl => q l vs _ (s1.trans (same_upd nl)) upd_same (h1.same (same_upd nl)) e1⟩
section
variable (P : Program) (w : World) (K : PySem.W.Frag) (mg : Str → Option Value) (base : Heap)
/-- an own error class with its __init__ -/
structure ErF (nm : Str) (C fI : Addr) (fd : FuncData) (ps : List Str) (sp : Sp) : Prop where
  T : OexC K C
  iC : PySem.W.findIn K (.ref C) "__init__" = some (some (.ref fI))
  tI : PySem.W.typeIn K (.ref fI) = some (.type "function")
  gC : mg nm = some (.ref C)
  F : FnOk P w K mg base CX0 1 fI fd ps sp
  b : Binds K fd ps []
  xf : XfC K C
def E1 (nm f : Str) (C : Addr) : Prop := ∃ fI fd, ErF P w K mg base nm C fI fd ["self", f] (spEr1 K f) ∧ KwIn K fd ["self", f] [f] id ∧ PySem.W.findIn K (.ref C) f = some none
def E2 (nm f g : Str) (C : Addr) : Prop := ∃ fI fd, ErF P w K mg base nm C fI fd ["self", f, g] (spEr2 K f g) ∧ KwIn K fd ["self", f, g] [g, f] List.reverse ∧ PySem.W.findIn K (.ref C) f = some none ∧ PySem.W.findIn K (.ref C) g = some none
def E00 (nm : Str) (C : Addr) : Prop := ∃ fI fd, ErF P w K mg base nm C fI fd ["self"] spEr0
/-- the errors' classes, by their numbers -/
structure Ers (Cs : Nat → Addr) (CR : Addr) : Prop where
  e0 : E1 P w K mg base "BadSpace" "part" (Cs 0)
  e1 : E1 P w K mg base "BadTick" "part" (Cs 1)
  e2 : E1 P w K mg base "BadPlan" "part" (Cs 2)
  e3 : E1 P w K mg base "BadRule" "part" (Cs 3)
  e4 : E1 P w K mg base "BadLosses" "value" (Cs 4)
  e5 : E1 P w K mg base "BadDelay" "value" (Cs 5)
  e6 : E1 P w K mg base "BadCount" "value" (Cs 6)
  e7 : E1 P w K mg base "BadStream" "part" (Cs 7)
  e8 : E1 P w K mg base "BadPacket" "part" (Cs 8)
  e9 : E1 P w K mg base "BadBench" "part" (Cs 9)
  e10 : E1 P w K mg base "BadCommand" "word" (Cs 10)
  e11 : E1 P w K mg base "BadName" "value" (Cs 11)
  e12 : E1 P w K mg base "NoName" "name" (Cs 12)
  e13 : E1 P w K mg base "NoPhase" "at" (Cs 13)
  e14 : E2 P w K mg base "BadText" "line" "word" (Cs 14)
  e15 : E2 P w K mg base "TooMany" "what" "most" (Cs 15)
  e16 : E00 P w K mg base "Nothing" (Cs 16)
  kit : ∀ i < 17, ∀ j < 17, PySem.W.kitOne K (.ref (Cs i)) (.ref (Cs j)) = some (decide (i = j))
  kR : ∀ i < 17, PySem.W.kitOne K (.ref (Cs i)) (.ref CR) = some true
  kV : ∀ i < 17, PySem.W.kitOne K (.ref (Cs i)) (.type "ValueError") = some true
  ec : ∀ i < 17, L2.ExcC K (Cs i)
  gR : mg "RepairError" = some (.ref CR)
end
section
variable {P : Program} {w : World} {K : PySem.W.Frag} {mg : Str → Option Value} {base : Heap}
/-! ### all classes of errors -/
abbrev s_made : Stmt := topS 34
theorem sc_made : FnScope ["_law_value", "_law_more", "_law_found"] ["_law_value", "_law_more"] (defScope s_made) := ⟨rfl, rfl, rfl, by decide +kernel, rfl, by decide +kernel, by decide +kernel⟩
def spMade (Cs : Nat → Addr) : Sp := fun vs H Q _ => ∃ y z, vs = [y, z] ∧ ∀ l xs H', Same H H' → H' l = some (.lst xs) → PrF Cs y H' 0 xs → xs.length = 16 → Q (.ref l) H'
theorem ok_made {Cs : Nat → Addr} {CR f : Addr} {fd : FuncData} (F : Fun K "_law_made" "_law_made" s_made f fd) (R : Ers P w K mg base Cs CR) : FnOk P w K mg base CX0 3 f fd ["_law_value", "_law_more"] (spMade Cs) := by
  obtain ⟨_, _, a0, k0, n0⟩ := R.e0
  obtain ⟨_, _, a1, k1, n1⟩ := R.e1
  obtain ⟨_, _, a2, k2, n2⟩ := R.e2
  obtain ⟨_, _, a3, k3, n3⟩ := R.e3
  obtain ⟨_, _, a4, k4, n4⟩ := R.e4
  obtain ⟨_, _, a5, k5, n5⟩ := R.e5
  obtain ⟨_, _, a6, k6, n6⟩ := R.e6
  obtain ⟨_, _, a7, k7, n7⟩ := R.e7
  obtain ⟨_, _, a8, k8, n8⟩ := R.e8
  obtain ⟨_, _, a9, k9, n9⟩ := R.e9
  obtain ⟨_, _, a10, k10, n10⟩ := R.e10
  obtain ⟨_, _, a11, k11, n11⟩ := R.e11
  obtain ⟨_, _, a12, k12, n12⟩ := R.e12
  obtain ⟨_, _, a13, k13, n13⟩ := R.e13
  obtain ⟨_, _, a14, k14, n14, m14⟩ := R.e14
  obtain ⟨_, _, a15, k15, n15, m15⟩ := R.e15
  refine F.ok sc_made (fun vs H Q E h => ?_) (fun cdv A outer s H vs Q E hr h => ?_)
  · obtain ⟨y, z, rfl, _⟩ := h
    rfl
  · obtain ⟨y, z, rfl, q⟩ := h
    refine ⟨_, (pss_cons (ps_set (i := 2) sc_made.nd rfl (Or.inl rfl) (pe_lst (pa_cons (pe_tup (pa_cons (pe_ex a0.T a0.iC a0.tI a0.F hr a0.b pass0 rfl a0.gC (pa_cons (pv 0) pa_nil)) (pa_cons (by exact pe_xk (pe_exK (gV := id) a0.T a0.iC a0.tI a0.F hr k0 (fun r => r) pass0 rfl a0.gC (pk_cons (pv 0) pk_nil))) pa_nil))) (pa_cons (pe_tup (pa_cons (pe_ex a1.T a1.iC a1.tI a1.F hr a1.b pass0 rfl a1.gC (pa_cons (pv 0) pa_nil)) (pa_cons (by exact pe_xk (pe_exK (gV := id) a1.T a1.iC a1.tI a1.F hr k1 (fun r => r) pass0 rfl a1.gC (pk_cons (pv 0) pk_nil))) pa_nil))) pa_nil))))
      (pss_cons (ps_set (i := 2) sc_made.nd rfl (Or.inl rfl) (pe_op op_cat (pv 2) (pe_lst (pa_cons (pe_tup (pa_cons (pe_ex a2.T a2.iC a2.tI a2.F hr a2.b pass0 rfl a2.gC (pa_cons (pv 0) pa_nil)) (pa_cons (by exact pe_xk (pe_exK (gV := id) a2.T a2.iC a2.tI a2.F hr k2 (fun r => r) pass0 rfl a2.gC (pk_cons (pv 0) pk_nil))) pa_nil))) (pa_cons (pe_tup (pa_cons (pe_ex a3.T a3.iC a3.tI a3.F hr a3.b pass0 rfl a3.gC (pa_cons (pv 0) pa_nil)) (pa_cons (by exact pe_xk (pe_exK (gV := id) a3.T a3.iC a3.tI a3.F hr k3 (fun r => r) pass0 rfl a3.gC (pk_cons (pv 0) pk_nil))) pa_nil))) pa_nil)))))
      (pss_cons (ps_set (i := 2) sc_made.nd rfl (Or.inl rfl) (pe_op op_cat (pv 2) (pe_lst (pa_cons (pe_tup (pa_cons (pe_ex a4.T a4.iC a4.tI a4.F hr a4.b pass0 rfl a4.gC (pa_cons (pv 0) pa_nil)) (pa_cons (by exact pe_xk (pe_exK (gV := id) a4.T a4.iC a4.tI a4.F hr k4 (fun r => r) pass0 rfl a4.gC (pk_cons (pv 0) pk_nil))) pa_nil))) (pa_cons (pe_tup (pa_cons (pe_ex a5.T a5.iC a5.tI a5.F hr a5.b pass0 rfl a5.gC (pa_cons (pv 0) pa_nil)) (pa_cons (by exact pe_xk (pe_exK (gV := id) a5.T a5.iC a5.tI a5.F hr k5 (fun r => r) pass0 rfl a5.gC (pk_cons (pv 0) pk_nil))) pa_nil))) pa_nil)))))
      (pss_cons (ps_set (i := 2) sc_made.nd rfl (Or.inl rfl) (pe_op op_cat (pv 2) (pe_lst (pa_cons (pe_tup (pa_cons (pe_ex a6.T a6.iC a6.tI a6.F hr a6.b pass0 rfl a6.gC (pa_cons (pv 0) pa_nil)) (pa_cons (by exact pe_xk (pe_exK (gV := id) a6.T a6.iC a6.tI a6.F hr k6 (fun r => r) pass0 rfl a6.gC (pk_cons (pv 0) pk_nil))) pa_nil))) (pa_cons (pe_tup (pa_cons (pe_ex a7.T a7.iC a7.tI a7.F hr a7.b pass0 rfl a7.gC (pa_cons (pv 0) pa_nil)) (pa_cons (by exact pe_xk (pe_exK (gV := id) a7.T a7.iC a7.tI a7.F hr k7 (fun r => r) pass0 rfl a7.gC (pk_cons (pv 0) pk_nil))) pa_nil))) pa_nil)))))
      (pss_cons (ps_set (i := 2) sc_made.nd rfl (Or.inl rfl) (pe_op op_cat (pv 2) (pe_lst (pa_cons (pe_tup (pa_cons (pe_ex a8.T a8.iC a8.tI a8.F hr a8.b pass0 rfl a8.gC (pa_cons (pv 0) pa_nil)) (pa_cons (by exact pe_xk (pe_exK (gV := id) a8.T a8.iC a8.tI a8.F hr k8 (fun r => r) pass0 rfl a8.gC (pk_cons (pv 0) pk_nil))) pa_nil))) (pa_cons (pe_tup (pa_cons (pe_ex a9.T a9.iC a9.tI a9.F hr a9.b pass0 rfl a9.gC (pa_cons (pv 0) pa_nil)) (pa_cons (by exact pe_xk (pe_exK (gV := id) a9.T a9.iC a9.tI a9.F hr k9 (fun r => r) pass0 rfl a9.gC (pk_cons (pv 0) pk_nil))) pa_nil))) pa_nil)))))
      (pss_cons (ps_set (i := 2) sc_made.nd rfl (Or.inl rfl) (pe_op op_cat (pv 2) (pe_lst (pa_cons (pe_tup (pa_cons (pe_ex a10.T a10.iC a10.tI a10.F hr a10.b pass0 rfl a10.gC (pa_cons (pv 0) pa_nil)) (pa_cons (by exact pe_xk (pe_exK (gV := id) a10.T a10.iC a10.tI a10.F hr k10 (fun r => r) pass0 rfl a10.gC (pk_cons (pv 0) pk_nil))) pa_nil))) (pa_cons (pe_tup (pa_cons (pe_ex a11.T a11.iC a11.tI a11.F hr a11.b pass0 rfl a11.gC (pa_cons (pv 0) pa_nil)) (pa_cons (by exact pe_xk (pe_exK (gV := id) a11.T a11.iC a11.tI a11.F hr k11 (fun r => r) pass0 rfl a11.gC (pk_cons (pv 0) pk_nil))) pa_nil))) pa_nil)))))
      (pss_cons (ps_set (i := 2) sc_made.nd rfl (Or.inl rfl) (pe_op op_cat (pv 2) (pe_lst (pa_cons (pe_tup (pa_cons (pe_ex a12.T a12.iC a12.tI a12.F hr a12.b pass0 rfl a12.gC (pa_cons (pv 0) pa_nil)) (pa_cons (by exact pe_xk (pe_exK (gV := id) a12.T a12.iC a12.tI a12.F hr k12 (fun r => r) pass0 rfl a12.gC (pk_cons (pv 0) pk_nil))) pa_nil))) (pa_cons (pe_tup (pa_cons (pe_ex a13.T a13.iC a13.tI a13.F hr a13.b pass0 rfl a13.gC (pa_cons (pv 0) pa_nil)) (pa_cons (by exact pe_xk (pe_exK (gV := id) a13.T a13.iC a13.tI a13.F hr k13 (fun r => r) pass0 rfl a13.gC (pk_cons (pv 0) pk_nil))) pa_nil))) pa_nil)))))
      (pss_cons (ps_set (i := 2) sc_made.nd rfl (Or.inl rfl) (pe_op op_cat (pv 2) (pe_lst (pa_cons (pe_tup (pa_cons (pe_ex a14.T a14.iC a14.tI a14.F hr a14.b pass0 rfl a14.gC (pa_cons (pv 1) (pa_cons (pv 0) pa_nil))) (pa_cons (by exact pe_xk (pe_exK (gV := List.reverse) a14.T a14.iC a14.tI a14.F hr k14 vals_rev pass0 rfl a14.gC (pk_cons (pv 0) (pk_cons (pv 1) pk_nil)))) pa_nil))) pa_nil))))
      (pss_one (ps_ret (pe_op op_cat (pv 2) (pe_lst (pa_cons (pe_tup (pa_cons (pe_ex a15.T a15.iC a15.tI a15.F hr a15.b pass0 rfl a15.gC (pa_cons (pv 1) (pa_cons (pv 0) pa_nil))) (pa_cons (by exact pe_xk (pe_exK (gV := List.reverse) a15.T a15.iC a15.tI a15.F hr k15 vals_rev pass0 rfl a15.gC (pk_cons (pv 0) (pk_cons (pv 1) pk_nil)))) pa_nil))) pa_nil))))))))))))), ?_⟩
    have lk : ∀ (n : Str) (v : V), (([(n, v)] : List (Str × V))).lookup n = some v := fun n v => by simp [List.lookup]
    have lk2 : ∀ (n m : Str) (v u : V), (([(n, v), (m, u)] : List (Str × V))).lookup n = some v := fun n m v u => by simp [List.lookup]
    have p0 : ∀ σ : L2.St, σ[0]? = some (some y) → PairX Cs y _ σ 0 := fun σ h0 => pairX (K := K) (mk1 a0.T n0 h0) (mk1K a0.T n0 h0) a0.xf n0 (lk _ _)
    have p1 : ∀ σ : L2.St, σ[0]? = some (some y) → PairX Cs y _ σ 1 := fun σ h0 => pairX (K := K) (mk1 a1.T n1 h0) (mk1K a1.T n1 h0) a1.xf n1 (lk _ _)
    have p2 : ∀ σ : L2.St, σ[0]? = some (some y) → PairX Cs y _ σ 2 := fun σ h0 => pairX (K := K) (mk1 a2.T n2 h0) (mk1K a2.T n2 h0) a2.xf n2 (lk _ _)
    have p3 : ∀ σ : L2.St, σ[0]? = some (some y) → PairX Cs y _ σ 3 := fun σ h0 => pairX (K := K) (mk1 a3.T n3 h0) (mk1K a3.T n3 h0) a3.xf n3 (lk _ _)
    have p4 : ∀ σ : L2.St, σ[0]? = some (some y) → PairX Cs y _ σ 4 := fun σ h0 => pairX (K := K) (mk1 a4.T n4 h0) (mk1K a4.T n4 h0) a4.xf n4 (lk _ _)
    have p5 : ∀ σ : L2.St, σ[0]? = some (some y) → PairX Cs y _ σ 5 := fun σ h0 => pairX (K := K) (mk1 a5.T n5 h0) (mk1K a5.T n5 h0) a5.xf n5 (lk _ _)
    have p6 : ∀ σ : L2.St, σ[0]? = some (some y) → PairX Cs y _ σ 6 := fun σ h0 => pairX (K := K) (mk1 a6.T n6 h0) (mk1K a6.T n6 h0) a6.xf n6 (lk _ _)
    have p7 : ∀ σ : L2.St, σ[0]? = some (some y) → PairX Cs y _ σ 7 := fun σ h0 => pairX (K := K) (mk1 a7.T n7 h0) (mk1K a7.T n7 h0) a7.xf n7 (lk _ _)
    have p8 : ∀ σ : L2.St, σ[0]? = some (some y) → PairX Cs y _ σ 8 := fun σ h0 => pairX (K := K) (mk1 a8.T n8 h0) (mk1K a8.T n8 h0) a8.xf n8 (lk _ _)
    have p9 : ∀ σ : L2.St, σ[0]? = some (some y) → PairX Cs y _ σ 9 := fun σ h0 => pairX (K := K) (mk1 a9.T n9 h0) (mk1K a9.T n9 h0) a9.xf n9 (lk _ _)
    have p10 : ∀ σ : L2.St, σ[0]? = some (some y) → PairX Cs y _ σ 10 := fun σ h0 => pairX (K := K) (mk1 a10.T n10 h0) (mk1K a10.T n10 h0) a10.xf n10 (lk _ _)
    have p11 : ∀ σ : L2.St, σ[0]? = some (some y) → PairX Cs y _ σ 11 := fun σ h0 => pairX (K := K) (mk1 a11.T n11 h0) (mk1K a11.T n11 h0) a11.xf n11 (lk _ _)
    have p12 : ∀ σ : L2.St, σ[0]? = some (some y) → PairX Cs y _ σ 12 := fun σ h0 => pairX (K := K) (mk1 a12.T n12 h0) (mk1K a12.T n12 h0) a12.xf n12 (lk _ _)
    have p13 : ∀ σ : L2.St, σ[0]? = some (some y) → PairX Cs y _ σ 13 := fun σ h0 => pairX (K := K) (mk1 a13.T n13 h0) (mk1K a13.T n13 h0) a13.xf n13 (lk _ _)
    have p14 : ∀ σ : L2.St, σ[0]? = some (some y) → σ[1]? = some (some z) → PairX Cs y _ σ 14 := fun σ h0 h1 => pairX (K := K) (mk2 a14.T n14 m14 h1 h0) (mk2K a14.T n14 m14 h1 h0) a14.xf m14 (lk2 _ _ _ _)
    have p15 : ∀ σ : L2.St, σ[0]? = some (some y) → σ[1]? = some (some z) → PairX Cs y _ σ 15 := fun σ h0 h1 => pairX (K := K) (mk2 a15.T n15 m15 h1 h0) (mk2K a15.T n15 m15 h1 h0) a15.xf m15 (lk2 _ _ _ _)
    refine st_lst (listX2 (p0 _ rfl) (p1 _ rfl)) (by omega) fun l1 x1 J1 u1 f1 g1 e1 => ?_
    refine st_cat rfl f1 g1 e1 (listX2 (p2 _ rfl) (p3 _ rfl)) (by omega) fun l2 x2 J2 s2 f2 g2 e2 => ?_
    have u2 := u1.trans s2
    refine st_cat rfl f2 g2 e2 (listX2 (p4 _ rfl) (p5 _ rfl)) (by omega) fun l3 x3 J3 s3 f3 g3 e3 => ?_
    have u3 := u2.trans s3
    refine st_cat rfl f3 g3 e3 (listX2 (p6 _ rfl) (p7 _ rfl)) (by omega) fun l4 x4 J4 s4 f4 g4 e4 => ?_
    have u4 := u3.trans s4
    refine st_cat rfl f4 g4 e4 (listX2 (p8 _ rfl) (p9 _ rfl)) (by omega) fun l5 x5 J5 s5 f5 g5 e5 => ?_
    have u5 := u4.trans s5
    refine st_cat rfl f5 g5 e5 (listX2 (p10 _ rfl) (p11 _ rfl)) (by omega) fun l6 x6 J6 s6 f6 g6 e6 => ?_
    have u6 := u5.trans s6
    refine st_cat rfl f6 g6 e6 (listX2 (p12 _ rfl) (p13 _ rfl)) (by omega) fun l7 x7 J7 s7 f7 g7 e7 => ?_
    have u7 := u6.trans s7
    refine st_cat rfl f7 g7 e7 (listX1 (p14 _ rfl rfl)) (by omega) fun l8 x8 J8 s8 f8 g8 e8 => ?_
    have u8 := u7.trans s8
    exact catX rfl f8 g8 e8 (listX1 (p15 _ rfl rfl)) (by omega) fun l9 x9 J9 s9 f9 g9 e9 => q l9 x9 J9 (u8.trans s9) f9 g9 e9
end
end Lr

set_option Elab.async false
set_option linter.all false
set_option maxRecDepth 100000
set_option maxHeartbeats 4000000
namespace Lr
open PySem PySem.Spec PyProof.Rows L2 Ow Og Oe Oh
/-- x = e, and on -/
theorem st_set {te : TE} {i : Nat} {u : TS} {D : Ends} {σ : L2.St} {H : Hp} (h : te σ H fun v H1 => u D (σ.set i (some v)) H1) : tSeq (tAsg te (gName i)) u D σ H := h
theorem st_expr {te : TE} {u : TS} {D : Ends} {σ : L2.St} {H : Hp} (h : te σ H fun _ H1 => u D σ H1) : tSeq (tDrop te) u D σ H := h
/-- an error of the class number i, its fields kept -/
def ErrAt (Cs : Nat → Addr) (H : Hp) (a : Addr) (i : Nat) : Prop := ∃ d, H a = some (ExK (.ref (Cs i)) d a) ∧ ∀ dd, d = some dd → ∃ fs, H dd = some (.xd fs)
theorem ErrAt.same {Cs : Nat → Addr} {H H' : Hp} {a : Addr} {i : Nat} (h : ErrAt Cs H a i) (s : Same H H') : ErrAt Cs H' a i := by
  obtain ⟨d, h1, h2⟩ := h
  exact ⟨d, s _ _ h1, fun dd e => (h2 dd e).imp fun fs z => s _ _ z⟩
section
variable {P : Program} {w : World} {K : PySem.W.Frag} {mg : Str → Option Value} {base : Heap}
theorem isT {Cs : Nat → Addr} {CR a : Addr} {i j : Nat} {σ : L2.St} {H : Hp} {Q : VK} (R : Ers P w K mg base Cs CR) (h0 : σ[0]? = some (some (.ref a))) (h : ErrAt Cs H a i) (hi : i < 17) (hj : j < 17) (q : Q (.bl (decide (i = j))) H) :
    tCB (rIsX K) (tCons (tVar 0) (tCons (tC (.ref (Cs j))) tNil)) σ H Q := by
  obtain ⟨d, h1, h2⟩ := h
  exact ⟨_, h0, a, Cs i, d, .ref (Cs j), .ref (Cs j), _, rfl, h1, h2, R.ec i hi, fun u r => r, R.kit i hi j hj, q⟩
abbrev s_classes : Stmt := topS 35
theorem sc_classes : FnScope ["_law_error", "_law_told", "_law_at"] ["_law_error"] (defScope s_classes) := ⟨rfl, rfl, rfl, by decide +kernel, rfl, by decide +kernel, by decide +kernel⟩
def spCls (Cs : Nat → Addr) : Sp := fun vs H Q _ => ∃ a i, vs = [.ref a] ∧ i < 17 ∧ ErrAt Cs H a i ∧ ∀ p H', Same H H' → H p = none → H' p = some (.lst [vi i]) → Q (.ref p) H'
/-- the numbers below j that are i -/
def ones (i j : Nat) : List Nat := (List.range j).filter fun m => decide (i = m)
theorem ones_all : ∀ i < 17, ones i 17 = [i] := by decide +kernel
theorem ones_len (i j : Nat) : (ones i j).length ≤ j := by
  refine Nat.le_trans (List.length_filter_le _ _) ?_
  rw [List.length_range]
  exact Nat.le_refl _
theorem ri_append (a b : List Nat) : ri (a ++ b) = ri a ++ ri b := List.map_append
/-- whether i is each of these numbers -/
def bls (i : Nat) (js : List Nat) : List V := js.map fun j => V.bl (decide (i = j))
theorem bls_at {i j : Nat} (h : j < 17) : (bls i (List.range 17))[j]? = some (.bl (decide (i = j))) := by
  unfold bls
  rw [List.getElem?_map, List.getElem?_range h]
  rfl
theorem ok_classes {Cs : Nat → Addr} {CR f : Addr} {fd : FuncData} (F : Fun K "_law_classes" "_law_classes" s_classes f fd) (R : Ers P w K mg base Cs CR) (T : Nm mg) : FnOk P w K mg base CX0 1 f fd ["_law_error"] (spCls Cs) := by
  obtain ⟨_, _, a0, _⟩ := R.e0
  obtain ⟨_, _, a1, _⟩ := R.e1
  obtain ⟨_, _, a2, _⟩ := R.e2
  obtain ⟨_, _, a3, _⟩ := R.e3
  obtain ⟨_, _, a4, _⟩ := R.e4
  obtain ⟨_, _, a5, _⟩ := R.e5
  obtain ⟨_, _, a6, _⟩ := R.e6
  obtain ⟨_, _, a7, _⟩ := R.e7
  obtain ⟨_, _, a8, _⟩ := R.e8
  obtain ⟨_, _, a9, _⟩ := R.e9
  obtain ⟨_, _, a10, _⟩ := R.e10
  obtain ⟨_, _, a11, _⟩ := R.e11
  obtain ⟨_, _, a12, _⟩ := R.e12
  obtain ⟨_, _, a13, _⟩ := R.e13
  obtain ⟨_, _, a14, _⟩ := R.e14
  obtain ⟨_, _, a15, _⟩ := R.e15
  obtain ⟨_, _, a16⟩ := R.e16
  refine F.ok sc_classes (fun vs H Q E h => ?_) (fun cdv A outer s H vs Q E hr h => ?_)
  · obtain ⟨a, i, rfl, _⟩ := h
    rfl
  · obtain ⟨a, i, rfl, hi, he, q⟩ := h
    refine ⟨_, (pss_cons (ps_set (i := 1) sc_classes.nd rfl (Or.inr rfl) (pe_lst (pa_cons (pe_callB call_isX (by rfl) T.isi boot_isinstance (pa_cons (pv 0) (pa_cons (pe_glob (v := .ref (Cs 0)) rfl a0.gC rfl) pa_nil))) (pa_cons (pe_callB call_isX (by rfl) T.isi boot_isinstance (pa_cons (pv 0) (pa_cons (pe_glob (v := .ref (Cs 1)) rfl a1.gC rfl) pa_nil))) (pa_cons (pe_callB call_isX (by rfl) T.isi boot_isinstance (pa_cons (pv 0) (pa_cons (pe_glob (v := .ref (Cs 2)) rfl a2.gC rfl) pa_nil))) (pa_cons (pe_callB call_isX (by rfl) T.isi boot_isinstance (pa_cons (pv 0) (pa_cons (pe_glob (v := .ref (Cs 3)) rfl a3.gC rfl) pa_nil))) pa_nil))))))
      (pss_cons (ps_set (i := 1) sc_classes.nd rfl (Or.inr rfl) (pe_op op_cat (pv 1) (pe_lst (pa_cons (pe_callB call_isX (by rfl) T.isi boot_isinstance (pa_cons (pv 0) (pa_cons (pe_glob (v := .ref (Cs 4)) rfl a4.gC rfl) pa_nil))) (pa_cons (pe_callB call_isX (by rfl) T.isi boot_isinstance (pa_cons (pv 0) (pa_cons (pe_glob (v := .ref (Cs 5)) rfl a5.gC rfl) pa_nil))) (pa_cons (pe_callB call_isX (by rfl) T.isi boot_isinstance (pa_cons (pv 0) (pa_cons (pe_glob (v := .ref (Cs 6)) rfl a6.gC rfl) pa_nil))) pa_nil))))))
      (pss_cons (ps_set (i := 1) sc_classes.nd rfl (Or.inr rfl) (pe_op op_cat (pv 1) (pe_lst (pa_cons (pe_callB call_isX (by rfl) T.isi boot_isinstance (pa_cons (pv 0) (pa_cons (pe_glob (v := .ref (Cs 7)) rfl a7.gC rfl) pa_nil))) (pa_cons (pe_callB call_isX (by rfl) T.isi boot_isinstance (pa_cons (pv 0) (pa_cons (pe_glob (v := .ref (Cs 8)) rfl a8.gC rfl) pa_nil))) (pa_cons (pe_callB call_isX (by rfl) T.isi boot_isinstance (pa_cons (pv 0) (pa_cons (pe_glob (v := .ref (Cs 9)) rfl a9.gC rfl) pa_nil))) pa_nil))))))
      (pss_cons (ps_set (i := 1) sc_classes.nd rfl (Or.inr rfl) (pe_op op_cat (pv 1) (pe_lst (pa_cons (pe_callB call_isX (by rfl) T.isi boot_isinstance (pa_cons (pv 0) (pa_cons (pe_glob (v := .ref (Cs 10)) rfl a10.gC rfl) pa_nil))) (pa_cons (pe_callB call_isX (by rfl) T.isi boot_isinstance (pa_cons (pv 0) (pa_cons (pe_glob (v := .ref (Cs 11)) rfl a11.gC rfl) pa_nil))) (pa_cons (pe_callB call_isX (by rfl) T.isi boot_isinstance (pa_cons (pv 0) (pa_cons (pe_glob (v := .ref (Cs 12)) rfl a12.gC rfl) pa_nil))) pa_nil))))))
      (pss_cons (ps_set (i := 1) sc_classes.nd rfl (Or.inr rfl) (pe_op op_cat (pv 1) (pe_lst (pa_cons (pe_callB call_isX (by rfl) T.isi boot_isinstance (pa_cons (pv 0) (pa_cons (pe_glob (v := .ref (Cs 13)) rfl a13.gC rfl) pa_nil))) (pa_cons (pe_callB call_isX (by rfl) T.isi boot_isinstance (pa_cons (pv 0) (pa_cons (pe_glob (v := .ref (Cs 14)) rfl a14.gC rfl) pa_nil))) (pa_cons (pe_callB call_isX (by rfl) T.isi boot_isinstance (pa_cons (pv 0) (pa_cons (pe_glob (v := .ref (Cs 15)) rfl a15.gC rfl) pa_nil))) pa_nil))))))
      (pss_cons (ps_expr (pe_bm PySem.F.plainAttrs_list PySem.F.slot_list_append PySem.F.type_list_append mt_append (pv 1) (pa_cons (pe_callB call_isX (by rfl) T.isi boot_isinstance (pa_cons (pv 0) (pa_cons (pe_glob (v := .ref (Cs 16)) rfl a16.gC rfl) pa_nil))) pa_nil)))
      (pss_one (ps_ret (pe_lc (own := [("_law_at", 2)]) (g := (gName 2)) (tt := tB (tOp (rIxL K) (tVar 1) (tVar 2))) rfl sc_classes.nd (pi_range1 rfl T.range (pa_cons (pe_callB call_len_seq (by rfl) T.len PySem.boot_len (pa_cons (pv 1) pa_nil)) pa_nil)) (blkOk_by (by kernel_rfl)) (fun _ _ _ _ _ => pg_name (i := 2) sc_classes.nd rfl (Or.inl rfl)) (fun _ _ _ _ _ => (by exact pts_one (pt_val (pe_ix ix_list (pv 1) (pv 2) (fun _ _ => rfl))))) (fun _ _ _ _ _ => (pv 2))))))))))), ?_⟩
    have le2 : ∀ {n : Nat}, n ≤ 100 → n ≤ sizeLine := fun h => Nat.le_of_lt (small1000 (by omega))
    refine st_set ?_
    refine isT R rfl he hi (by decide) (isT R rfl he hi (by decide) (isT R rfl he hi (by decide) (isT R rfl he hi (by decide) ⟨le2 (by decide : 4 ≤ 100), fun l1 n1 => ?_⟩)))
    have u1 := same_upd (o := HO.lst (bls i [0, 1, 2, 3])) n1
    have f1 : (upd H l1 (.lst (bls i [0, 1, 2, 3]))) l1 = some (.lst (bls i [0, 1, 2, 3])) := upd_same
    show tSeq _ _ _ [some (V.ref a), some (V.ref l1), none] (upd H l1 (.lst (bls i [0, 1, 2, 3])))
    generalize upd H l1 (.lst (bls i [0, 1, 2, 3])) = J1 at *
    refine st_set ?_
    refine ⟨_, rfl, isT R rfl (he.same u1) hi (by decide) (isT R rfl (he.same u1) hi (by decide) (isT R rfl (he.same u1) hi (by decide) ⟨le2 (by decide : 3 ≤ 100), fun b2 c2 => ?_⟩))⟩
    have v2 := same_upd (o := HO.lst (bls i [4, 5, 6])) c2
    refine ⟨l1, b2, bls i [0, 1, 2, 3], bls i [4, 5, 6], rfl, rfl, v2 _ _ f1, upd_same, le2 (by decide : 7 ≤ 100), fun l2 n2 => ?_⟩
    have u2 := (u1.trans v2).trans (same_upd (o := HO.lst (bls i [0, 1, 2, 3, 4, 5, 6])) n2)
    have f2 : (upd (upd J1 b2 (.lst (bls i [4, 5, 6]))) l2 (.lst (bls i [0, 1, 2, 3, 4, 5, 6]))) l2 = some (.lst (bls i [0, 1, 2, 3, 4, 5, 6])) := upd_same
    show tSeq _ _ _ [some (V.ref a), some (V.ref l2), none] (upd (upd J1 b2 (.lst (bls i [4, 5, 6]))) l2 (.lst (bls i [0, 1, 2, 3, 4, 5, 6])))
    generalize upd (upd J1 b2 (.lst (bls i [4, 5, 6]))) l2 (.lst (bls i [0, 1, 2, 3, 4, 5, 6])) = J2 at *
    refine st_set ?_
    refine ⟨_, rfl, isT R rfl (he.same u2) hi (by decide) (isT R rfl (he.same u2) hi (by decide) (isT R rfl (he.same u2) hi (by decide) ⟨le2 (by decide : 3 ≤ 100), fun b3 c3 => ?_⟩))⟩
    have v3 := same_upd (o := HO.lst (bls i [7, 8, 9])) c3
    refine ⟨l2, b3, bls i [0, 1, 2, 3, 4, 5, 6], bls i [7, 8, 9], rfl, rfl, v3 _ _ f2, upd_same, le2 (by decide : 10 ≤ 100), fun l3 n3 => ?_⟩
    have u3 := (u2.trans v3).trans (same_upd (o := HO.lst (bls i [0, 1, 2, 3, 4, 5, 6, 7, 8, 9])) n3)
    have f3 : (upd (upd J2 b3 (.lst (bls i [7, 8, 9]))) l3 (.lst (bls i [0, 1, 2, 3, 4, 5, 6, 7, 8, 9]))) l3 = some (.lst (bls i [0, 1, 2, 3, 4, 5, 6, 7, 8, 9])) := upd_same
    show tSeq _ _ _ [some (V.ref a), some (V.ref l3), none] (upd (upd J2 b3 (.lst (bls i [7, 8, 9]))) l3 (.lst (bls i [0, 1, 2, 3, 4, 5, 6, 7, 8, 9])))
    generalize upd (upd J2 b3 (.lst (bls i [7, 8, 9]))) l3 (.lst (bls i [0, 1, 2, 3, 4, 5, 6, 7, 8, 9])) = J3 at *
    refine st_set ?_
    refine ⟨_, rfl, isT R rfl (he.same u3) hi (by decide) (isT R rfl (he.same u3) hi (by decide) (isT R rfl (he.same u3) hi (by decide) ⟨le2 (by decide : 3 ≤ 100), fun b4 c4 => ?_⟩))⟩
    have v4 := same_upd (o := HO.lst (bls i [10, 11, 12])) c4
    refine ⟨l3, b4, bls i [0, 1, 2, 3, 4, 5, 6, 7, 8, 9], bls i [10, 11, 12], rfl, rfl, v4 _ _ f3, upd_same, le2 (by decide : 13 ≤ 100), fun l4 n4 => ?_⟩
    have u4 := (u3.trans v4).trans (same_upd (o := HO.lst (bls i [0, 1, 2, 3, 4, 5, 6, 7, 8, 9, 10, 11, 12])) n4)
    have f4 : (upd (upd J3 b4 (.lst (bls i [10, 11, 12]))) l4 (.lst (bls i [0, 1, 2, 3, 4, 5, 6, 7, 8, 9, 10, 11, 12]))) l4 = some (.lst (bls i [0, 1, 2, 3, 4, 5, 6, 7, 8, 9, 10, 11, 12])) := upd_same
    show tSeq _ _ _ [some (V.ref a), some (V.ref l4), none] (upd (upd J3 b4 (.lst (bls i [10, 11, 12]))) l4 (.lst (bls i [0, 1, 2, 3, 4, 5, 6, 7, 8, 9, 10, 11, 12])))
    generalize upd (upd J3 b4 (.lst (bls i [10, 11, 12]))) l4 (.lst (bls i [0, 1, 2, 3, 4, 5, 6, 7, 8, 9, 10, 11, 12])) = J4 at *
    refine st_set ?_
    refine ⟨_, rfl, isT R rfl (he.same u4) hi (by decide) (isT R rfl (he.same u4) hi (by decide) (isT R rfl (he.same u4) hi (by decide) ⟨le2 (by decide : 3 ≤ 100), fun b5 c5 => ?_⟩))⟩
    have v5 := same_upd (o := HO.lst (bls i [13, 14, 15])) c5
    refine ⟨l4, b5, bls i [0, 1, 2, 3, 4, 5, 6, 7, 8, 9, 10, 11, 12], bls i [13, 14, 15], rfl, rfl, v5 _ _ f4, upd_same, le2 (by decide : 16 ≤ 100), fun l5 n5 => ?_⟩
    have u5 := (u4.trans v5).trans (same_upd (o := HO.lst (bls i [0, 1, 2, 3, 4, 5, 6, 7, 8, 9, 10, 11, 12, 13, 14, 15])) n5)
    have f5 : (upd (upd J4 b5 (.lst (bls i [13, 14, 15]))) l5 (.lst (bls i [0, 1, 2, 3, 4, 5, 6, 7, 8, 9, 10, 11, 12, 13, 14, 15]))) l5 = some (.lst (bls i [0, 1, 2, 3, 4, 5, 6, 7, 8, 9, 10, 11, 12, 13, 14, 15])) := upd_same
    show tSeq _ _ _ [some (V.ref a), some (V.ref l5), none] (upd (upd J4 b5 (.lst (bls i [13, 14, 15]))) l5 (.lst (bls i [0, 1, 2, 3, 4, 5, 6, 7, 8, 9, 10, 11, 12, 13, 14, 15])))
    generalize upd (upd J4 b5 (.lst (bls i [13, 14, 15]))) l5 (.lst (bls i [0, 1, 2, 3, 4, 5, 6, 7, 8, 9, 10, 11, 12, 13, 14, 15])) = J5 at *
    refine st_expr ⟨_, rfl, .inl ⟨rfl, _, .of f5⟩, isT R rfl (he.same u5) hi (by decide) ?_⟩
    refine ⟨l5, bls i [0, 1, 2, 3, 4, 5, 6, 7, 8, 9, 10, 11, 12, 13, 14, 15], _, rfl, rfl, f5, Nat.lt_of_le_of_lt (by decide : 16 ≤ 1000) (small1000 (Nat.le_refl _)), ?_⟩
    have nl : H l5 = none := (u4.trans v5).free n5
    have u6 : Same H (upd J5 l5 (.lst (bls i [0, 1, 2, 3, 4, 5, 6, 7, 8, 9, 10, 11, 12, 13, 14, 15] ++ [V.bl (decide (i = 16))]))) := same_put u5 nl
    have f6 : (upd J5 l5 (.lst (bls i [0, 1, 2, 3, 4, 5, 6, 7, 8, 9, 10, 11, 12, 13, 14, 15] ++ [V.bl (decide (i = 16))]))) l5 = some (.lst (bls i (List.range 17))) := upd_same
    dsimp only
    generalize upd J5 l5 (.lst (bls i [0, 1, 2, 3, 4, 5, 6, 7, 8, 9, 10, 11, 12, 13, 14, 15] ++ [V.bl (decide (i = 16))])) = J6 at *
    refine ⟨_, rfl, l5, _, rfl, .inl (.of f6), (17 : Int), rfl, by decide, by decide, fun D nD => ?_⟩
    have lD : l5 ≠ D := ne_of_none f6 nD
    refine lc_range (lo := 0) (n := 17) (fun j H3 => Same H H3 ∧ H3 l5 = some (.lst (bls i (List.range 17))) ∧ H3 D = some (.lst (ri (ones i j)))) ⟨same_put u6 (u6.free nD), by rw [upd_ne lD]; exact f6, upd_same⟩ ?_ ?_
    · rintro j H3 hj ⟨s3, g3, e3⟩
      refine ⟨rfl, _, rfl, _, rfl, l5, _, _, _, rfl, rfl, .of g3, at_of (j := j) (by rw [Int.zero_add]) (bls_at hj), _, rfl, ?_⟩
      have st : ones i (j + 1) = ones i j ++ (if i = j then [j] else []) := by
        unfold ones
        rw [List.range_succ, List.filter_append]
        by_cases c : i = j <;> simp [c]
      refine ite2 (fun c => ?_) (fun c => ?_)
      · have c' : i = j := of_decide_eq_true c
        refine ⟨_, rfl, _, e3, ?_, same_put s3 (u6.free nD), by rw [upd_ne lD]; exact g3, ?_⟩
        · rw [ri_len]
          exact small1000 (Nat.le_trans (ones_len i j) (by omega))
        · rw [upd_same, st, if_pos c', ri_append, Int.zero_add]
          rfl
      · have c' : ¬ i = j := fun z => c (decide_eq_true z)
        refine ⟨s3, g3, ?_⟩
        rw [st, if_neg c', List.append_nil]
        exact e3
    · rintro H3 ⟨s3, g3, e3⟩
      rw [ones_all i hi] at e3
      exact q D H3 s3 (u6.free nD) e3
abbrev s_is_error : Stmt := topS 36
theorem sc_is_error : FnScope ["_law_error"] ["_law_error"] (defScope s_is_error) := ⟨rfl, rfl, rfl, by decide +kernel, rfl, by decide +kernel, by decide +kernel⟩
def spIsE (Cs : Nat → Addr) : Sp := fun vs H Q _ => ∃ a i, vs = [.ref a] ∧ i < 17 ∧ ErrAt Cs H a i ∧ Q (.bl true) H
theorem ok_isE {Cs : Nat → Addr} {CR f : Addr} {fd : FuncData} (F : Fun K "_law_is_error" "_law_is_error" s_is_error f fd) (R : Ers P w K mg base Cs CR) (T : Nm mg) : FnOk P w K mg base CX0 1 f fd ["_law_error"] (spIsE Cs) := by
  refine F.ok sc_is_error (fun vs H Q E h => ?_) (fun cdv A outer s H vs Q E hr h => ?_)
  · obtain ⟨a, i, rfl, _⟩ := h
    rfl
  · obtain ⟨a, i, rfl, hi, ⟨d, h1, h2⟩, q⟩ := h
    refine ⟨_, pss_one (ps_ret (pe_and (pe_callB call_isX (by rfl) T.isi boot_isinstance (pa_cons (pv 0) (pa_cons (pe_glob (v := .ref CR) rfl R.gR rfl) pa_nil)))
      (pe_one (pe_callB call_isX (by rfl) T.isi boot_isinstance (pa_cons (pv 0) (pa_cons (pe_bltn (v := .ty "ValueError") (by rfl) T.ve PyProof.Rows.Boot.«ValueError» rfl) pa_nil)))))), ?_⟩
    refine ⟨_, rfl, a, Cs i, d, .ref CR, .ref CR, true, rfl, h1, h2, R.ec i hi, fun u r => r, R.kR i hi, true, rfl, iteT ?_⟩
    exact ⟨_, rfl, a, Cs i, d, .ty "ValueError", .type "ValueError", true, rfl, h1, h2, R.ec i hi, fun u r => r, R.kV i hi, q⟩
end
end Lr

set_option Elab.async false
set_option linter.all false
set_option maxRecDepth 100000
set_option maxHeartbeats 4000000
namespace Lr
open PySem PySem.Spec PyProof.Rows L2 Ow Og Oe Oh
/-! ### one of any values -/
section
variable {P : Program} {w : World} {K : PySem.W.Frag} {mg : Str → Option Value} {base : Heap}
def spPickV : Sp := fun vs H Q _ => ∃ (a b p : Addr) (n : Nat) (xs : List V), vs = [.ref a, .ref p] ∧ PenAt H a b n ∧ n ≤ 1000 ∧ H p = some (.lst xs) ∧ p ≠ a ∧ 0 < xs.length ∧ xs.length ≤ 1000 ∧ ∀ (j : Nat) (v : V) (H' : Hp), xs[j]? = some v → PenAt H' a b (n + 1) → Kept a H H' → Q v H'
theorem ok_pickV {f fD : Addr} {fd fdD : FuncData} (F : Fun K "_law_pick" "_law_pick" s_pick f fd) (FD : Fun K "_law_draw" "_law_draw" s_draw fD fdD) (bD : Binds K fdD ["_law_pen_here", "_law_many"] []) (gD : mg "_law_draw" = some (.ref fD)) (T : Nm mg) :
    FnOk P w K mg base CX0 2 f fd ["_law_pen_here", "_law_some"] spPickV := by
  have GD : FnOk P w K mg base CX0 1 fD fdD ["_law_pen_here", "_law_many"] spDraw := ok_draw FD T
  refine F.ok sc_pick (fun vs H Q E h => ?_) (fun cdv A outer s H vs Q E hr h => ?_)
  · obtain ⟨a, b, p, n, l, rfl, _⟩ := h
    rfl
  · obtain ⟨a, b, p, n, l, rfl, hp, hn, hl, pa, l0, l1, q⟩ := h
    refine ⟨_, pss_one (ps_ret (pe_ix ix_list (pv 1) (pe_call GD hr rfl gD FD.kp bD .nil pass0 (pa_cons (pv 0) (pa_cons (pe_callB call_len_seq (by rfl) T.len PySem.boot_len (pa_cons (pv 1) pa_nil)) pa_nil))) (fun _ _ => rfl))), ?_⟩
    refine ⟨_, rfl, _, rfl, _, rfl, p, _, rfl, .inl (.of hl), a, b, l.length, n, rfl, hp, hn, l0, by omega, fun d H' hd p' k => ?_⟩
    have e : l[d]? = some l[d] := List.getElem?_eq_getElem hd
    exact ⟨p, _, _, _, rfl, rfl, .of (k _ _ pa hl), at_of (j := d) rfl e, q d l[d] H' e p' k⟩
end
theorem pen_at {H : Hp} {a b : Addr} {n : Nat} (p : PenAt H a b n) : ∃ ys, H a = some (.lst ys) := by
  obtain ⟨_, _, _, h, _⟩ := p
  exact ⟨_, h⟩
theorem same_kept {a : Addr} {H H' : Hp} (s : Same H H') : Kept a H H' := fun c o _ h => s c o h
/-- v reads as d for as long as all but the pen stays -/
def VR (a : Addr) (H : Hp) (v : V) (d : PyData) : Prop := ∀ H', Kept a H H' → Rdv H' v d
theorem VR.kept {a : Addr} {H H1 : Hp} {v : V} {d : PyData} (h : VR a H v d) (k : Kept a H H1) : VR a H1 v d := fun H' k' => h H' (k.trans k')
theorem VR.now {a : Addr} {H : Hp} {v : V} {d : PyData} (h : VR a H v d) : Rdv H v d := h H (Kept.refl a H)
theorem ne_pen {H : Hp} {a p : Addr} {ys : List V} (ha : H a = some (.lst ys)) (np : H p = none) : p ≠ a := fun z => by
  rw [z, ha] at np
  cases np
/-! ### what the values and the further ones are -/
def DV : List PyData := [.none, .int 0, .bool true, .str "part", .tuple [.int 1], .list [.int 2], .dict [(.str "a", .int 1)], .int (10 ^ (39 : Int).toNat)]
def DM : List PyData := [.str "line", .int 7, .none, .tuple [.int 0, .int 0]]
def okD (d : PyData) : Bool := d.showable && (decide (d.depth ≤ 20) && decide (d.shown.length ≤ 1000))
theorem okV : ∀ d ∈ DV, okD d = true := by decide +kernel
theorem okVM : ∀ d ∈ DV, ∀ e ∈ DM, okD (.list [e, d, e, d]) = true := by decide +kernel
theorem okD_to {d : PyData} (h : okD d = true) : d.showable = true ∧ d.depth ≤ 20 ∧ d.shown.length ≤ 1000 := by
  unfold okD at h
  simp only [Bool.and_eq_true, decide_eq_true_eq] at h
  exact h
theorem rep {H : Hp} {v : V} {d : PyData} {Q : VK} (h : Rdv H v d) (k : okD d = true) (q : Q (.str d.shown) H) : rReprA [v] H Q := by
  obtain ⟨k1, k2, k3⟩ := okD_to k
  exact ⟨v, d, rfl, h, k1, k2, k3, q⟩
end Lr

set_option Elab.async false
set_option linter.all false
set_option maxRecDepth 100000
set_option maxHeartbeats 4000000
namespace Lr
open PySem PySem.Spec PyProof.Rows L2 Ow Og Oe Oh
theorem lkF (n : Str) (v : V) (r : List (Str × V)) : ((n, v) :: r).lookup n = some v := by simp [List.lookup]
theorem lkS {n m : Str} (h : (n == m) = false) (v : V) (r : List (Str × V)) : ((m, v) :: r).lookup n = r.lookup n := by simp [List.lookup, h]
theorem shI (i : Nat) : SeqAt.shaped (.list [.int (i : Int)]) = true := rfl
theorem iteF' {c : Prop} [Decidable c] {a b : Prop} (h : ¬ c) (hb : b) : if c then a else b := by
  rw [if_neg h]
  exact hb
section
variable {P : Program} {w : World} {K : PySem.W.Frag} {mg : Str → Option Value} {base : Heap}
abbrev s_errs : Stmt := topS 37
theorem sc_errs : FnScope ["_law_pen_here", "_law_value", "_law_more", "_law_made_here", "_law_at", "_law_error", "_law_told", "_law_both"] ["_law_pen_here"] (defScope s_errs) := ⟨rfl, rfl, rfl, by decide +kernel, rfl, by decide +kernel, by decide +kernel⟩
def spTurn : Sp := fun vs H Q _ => ∃ a b n, vs = [.ref a] ∧ PenAt H a b n ∧ n ≤ 900 ∧ ∀ H', PenAt H' a b (n + 10) → Kept a H H' → Q (.bl true) H'
theorem ok_errs {Cs : Nat → Addr} {CR f fP fM fC fE : Addr} {fd fdP fdM fdC fdE : FuncData} (F : Fun K "_law_errors_right" "_law_errors_right" s_errs f fd)
    (GP : FnOk P w K mg base CX0 2 fP fdP ["_law_pen_here", "_law_some"] spPickV) (UP : Use K mg "_law_pick" fP fdP ["_law_pen_here", "_law_some"])
    (GM : FnOk P w K mg base CX0 3 fM fdM ["_law_value", "_law_more"] (spMade Cs)) (UM : Use K mg "_law_made" fM fdM ["_law_value", "_law_more"])
    (GC : FnOk P w K mg base CX0 1 fC fdC ["_law_error"] (spCls Cs)) (UC : Use K mg "_law_classes" fC fdC ["_law_error"])
    (GE : FnOk P w K mg base CX0 1 fE fdE ["_law_error"] (spIsE Cs)) (UE : Use K mg "_law_is_error" fE fdE ["_law_error"])
    (R : Ers P w K mg base Cs CR) (hS : (K.lookup sysModules).isSome = true) (T : Nm mg) : FnG P w K mg base CX0 4 f fd ["_law_pen_here"] spTurn := by
  obtain ⟨_, _, a13, _, n13⟩ := R.e13
  obtain ⟨_, _, a14, _, n14, m14⟩ := R.e14
  obtain ⟨_, _, a15, _, n15, m15⟩ := R.e15
  obtain ⟨_, _, a16⟩ := R.e16
  refine okG F sc_errs (fun vs H Q E h => ?_) (fun cdv A outer s H vs Q E hr hG h => ?_)
  · obtain ⟨a, b, n, rfl, _⟩ := h
    rfl
  · obtain ⟨a, b, n, rfl, hp, hn, q⟩ := h
    have hu := hr.units
    have hr1 : Room 1 _ := hr.mono (by decide)
    have hr2 : Room 2 _ := hr.mono (by decide)
    refine ⟨_, (pss_cons (ps_set (i := 1) sc_errs.nd rfl (Or.inl rfl) (pe_call GP hr2 rfl UP.g UP.kp UP.b .nil pass0 (pa_cons (pv 0) (pa_cons (pe_lst (pa_cons pe_non (pa_cons pe_int (pa_cons pe_bl (pa_cons pe_str (pa_cons (pe_tup (pa_cons pe_int pa_nil)) (pa_cons (pe_lst (pa_cons pe_int pa_nil)) (pa_cons (pe_disp (pps_cons pe_str pe_int pps_nil) (by rfl) (by rfl) (fun z => by cases z) (by decide)) (pa_cons (pe_op op_pow pe_int pe_int) pa_nil))))))))) pa_nil))))
    (pss_cons (ps_set (i := 2) sc_errs.nd rfl (Or.inl rfl) (pe_call GP hr2 rfl UP.g UP.kp UP.b .nil pass0 (pa_cons (pv 0) (pa_cons (pe_lst (pa_cons pe_str (pa_cons pe_int (pa_cons pe_non (pa_cons (pe_tup (pa_cons pe_int (pa_cons pe_int pa_nil))) pa_nil))))) pa_nil))))
    (pss_cons (ps_set (i := 3) sc_errs.nd rfl (Or.inl rfl) (pe_call GM hr rfl UM.g UM.kp UM.b .nil pass0 (pa_cons (pv 1) (pa_cons (pv 2) pa_nil))))
    (pss_cons (ps_for PassesOwn.never rfl (pi_range1 rfl T.range (pa_cons (pe_callB call_len_seq (by rfl) T.len PySem.boot_len (pa_cons (pv 3) pa_nil)) pa_nil)) (pg_name (i := 4) sc_errs.nd rfl (Or.inl rfl))
      (pss_cons (ps_asg (pe_ix ix_list (pv 3) (pv 4) (fun _ _ => rfl)) (pg_tup (by rfl) (pgs_cons (pg_name (i := 5) sc_errs.nd rfl (Or.inl rfl)) (pgs_cons (pg_name (i := 6) sc_errs.nd rfl (Or.inl rfl)) pgs_nil))))
      (pss_one (ps_if (PW.pt (pw_or (pt_cmpR (op_neD hu) (pe_call GC hr1 rfl UC.g UC.kp UC.b .nil pass0 (pa_cons (pv 5) pa_nil)) (pe_lst (pa_cons (pv 4) pa_nil)) (nomark _)) (pw_or (pt_not (pt_val (pe_call GE hr1 rfl UE.g UE.kp UE.b .nil pass0 (pa_cons (pv 5) pa_nil)))) (pw_or1 (pt_cmpR op_ne (pe_callB (call_reprA hG hu hS) (by rfl) T.repr PyProof.Rows.boot_repr (pa_cons (pv 6) pa_nil)) (pe_callB (call_reprA hG hu hS) (by rfl) T.repr PyProof.Rows.boot_repr (pa_cons (pv 1) pa_nil)) (nomark _)))))) (pss_one (ps_ret pe_bl)) pss_nil))))
    (pss_cons (ps_set (i := 7) sc_errs.nd rfl (Or.inl rfl) (pe_lst (pa_cons (pe_ex a14.T a14.iC a14.tI a14.F hr2 a14.b pass0 rfl a14.gC (pa_cons (pv 2) (pa_cons (pv 1) pa_nil))) (pa_cons (pe_ex a15.T a15.iC a15.tI a15.F hr2 a15.b pass0 rfl a15.gC (pa_cons (pv 2) (pa_cons (pv 1) pa_nil))) pa_nil))))
    (pss_cons (ps_if (pt_cmpR op_ne (pe_callB (call_reprA hG hu hS) (by rfl) T.repr PyProof.Rows.boot_repr (pa_cons (pe_lst (pa_cons (by exact pe_xk (pe_ix ix_list (pv 7) pe_int (fun _ _ => rfl))) (pa_cons (by exact pe_xk (pe_ix ix_list (pv 7) pe_int (fun _ _ => rfl))) (pa_cons (by exact pe_xk (pe_ix ix_list (pv 7) pe_int (fun _ _ => rfl))) (pa_cons (by exact pe_xk (pe_ix ix_list (pv 7) pe_int (fun _ _ => rfl))) pa_nil))))) pa_nil)) (pe_callB (call_reprA hG hu hS) (by rfl) T.repr PyProof.Rows.boot_repr (pa_cons (pe_lst (pa_cons (pv 2) (pa_cons (pv 1) (pa_cons (pv 2) (pa_cons (pv 1) pa_nil))))) pa_nil)) (nomark _)) (pss_one (ps_ret pe_bl)) pss_nil)
    (pss_one (ps_ret (pe_and (pe_cmpR (op_eqD hu) (pe_call GC hr1 rfl UC.g UC.kp UC.b .nil pass0 (pa_cons (pe_ex0 a16.T a16.iC a16.tI a16.F hr2 a16.b rfl pass0 rfl a16.gC) pa_nil)) (pe_lst (pa_cons pe_int pa_nil)) (nomark _)) (pe_and (pe_call GE hr1 rfl UE.g UE.kp UE.b .nil pass0 (pa_cons (pe_ex0 a16.T a16.iC a16.tI a16.F hr2 a16.b rfl pass0 rfl a16.gC) pa_nil)) (pe_one (pe_cmpR op_eq (pe_callB (call_reprA hG hu hS) (by rfl) T.repr PyProof.Rows.boot_repr (pa_cons (by exact pe_xk (pe_ex a13.T a13.iC a13.tI a13.F hr2 a13.b pass0 rfl a13.gC (pa_cons (pv 1) pa_nil))) pa_nil)) (pe_callB (call_reprA hG hu hS) (by rfl) T.repr PyProof.Rows.boot_repr (pa_cons (pv 1) pa_nil)) (nomark _))))))))))))), ?_⟩
    obtain ⟨ys, hy⟩ := pen_at hp
    have sl : ∀ {m : Nat}, m ≤ 1000 → m ≤ sizeLine := fun h => Nat.le_of_lt (small1000 h)
    -- the value
    refine st_set ⟨_, rfl, sl (by decide : 1 ≤ 1000), fun q1 n1 => ?_⟩
    have x1 := ne_pen hy n1
    have u1 := same_upd (o := HO.tup [V.int 1]) n1
    have e1 : (upd H q1 (.tup [V.int 1])) q1 = _ := upd_same
    generalize upd H q1 (.tup [V.int 1]) = J1 at *
    refine ⟨sl (by decide : 1 ≤ 1000), fun q2 n2 => ?_⟩
    have x2 := ne_pen (u1 _ _ hy) n2
    have u2 := u1.trans (same_upd (o := HO.lst [V.int 2]) n2)
    have e12 := same_upd (o := HO.lst [V.int 2]) n2 _ _ e1
    have e2 : (upd J1 q2 (.lst [V.int 2])) q2 = _ := upd_same
    generalize upd J1 q2 (.lst [V.int 2]) = J2 at *
    intro q3 n3
    have x3 := ne_pen (u2 _ _ hy) n3
    refine ⟨upd_same, [(Sum.inr "a", V.int 1)], rfl, by decide, ?_⟩
    have v3 : Same J2 (upd (upd J2 q3 (.dK [])) q3 (.dK (mergeK [] [(Sum.inr "a", V.int 1)]))) := fun c o e => by
      rw [upd_ne (ne_of_none e n3), upd_ne (ne_of_none e n3)]
      exact e
    have e3 : (upd (upd J2 q3 (.dK [])) q3 (.dK (mergeK [] [(Sum.inr "a", V.int 1)]))) q3 = some (.dK [(Sum.inr "a", V.int 1)]) := upd_same
    have u3 := u2.trans v3
    have e13 := v3 _ _ e12
    have e23 := v3 _ _ e2
    generalize upd (upd J2 q3 (.dK [])) q3 (.dK (mergeK [] [(Sum.inr "a", V.int 1)])) = J3 at *
    refine ⟨_, _, rfl, rfl, ⟨by decide, by decide, by decide⟩, sl (by decide : 8 ≤ 1000), fun q4 n4 => ?_⟩
    have x4 := ne_pen (u3 _ _ hy) n4
    have v4 := same_upd (o := HO.lst [V.non, V.int 0, V.bl true, V.str "part", V.ref q1, V.ref q2, V.ref q3, V.int (10 ^ (39 : Int).toNat)]) n4
    have u4 := u3.trans v4
    refine ⟨a, b, q4, n, _, rfl, hp.same u4, by omega, upd_same, x4, (by show 0 < 8; omega), (by show 8 ≤ 1000; omega), fun j v H5 hj p5 k5 => ?_⟩
    have k50 : Kept a H H5 := (same_kept u4).trans k5
    have hv : ∃ d ∈ DV, VR a H5 v d := by
      have c1 := k5 _ _ x1 (v4 _ _ e13)
      have c2 := k5 _ _ x2 (v4 _ _ e23)
      have c3 := k5 _ _ x3 (v4 _ _ e3)
      match j, hj with
      | 0, hj => cases hj; exact ⟨.none, by simp [DV], fun _ _ => Rdv.non⟩
      | 1, hj => cases hj; exact ⟨.int 0, by simp [DV], fun _ _ => Rdv.int 0⟩
      | 2, hj => cases hj; exact ⟨.bool true, by simp [DV], fun _ _ => Rdv.bl true⟩
      | 3, hj => cases hj; exact ⟨.str "part", by simp [DV], fun _ _ => Rdv.str "part"⟩
      | 4, hj => cases hj; exact ⟨.tuple [.int 1], by simp [DV], fun _ k => Rdv.tup (k _ _ x1 c1) (RdvAll.cons (Rdv.int 1) RdvAll.nil)⟩
      | 5, hj => cases hj; exact ⟨.list [.int 2], by simp [DV], fun _ k => Rdv.lst (k _ _ x2 c2) (RdvAll.cons (Rdv.int 2) RdvAll.nil)⟩
      | 6, hj => cases hj; exact ⟨.dict [(.str "a", .int 1)], by simp [DV], fun _ k => Rdv.dk1 (k _ _ x3 c3) (Rdv.int 1)⟩
      | 7, hj => cases hj; exact ⟨.int (10 ^ (39 : Int).toNat), by simp [DV], fun _ _ => Rdv.int _⟩
      | j + 8, hj => simp at hj
    clear u1 e1 u2 e12 e2 v3 e3 u3 e13 e23 n1 n2 n3 n4 x1 x2 x3 x4 v4 u4 k5 hj
    obtain ⟨d, hd, hv⟩ := hv
    obtain ⟨ys5, hy5⟩ := pen_at p5
    -- the other one
    show tSeq _ _ _ [some (V.ref a), some v, none, none, none, none, none, none] H5
    refine st_set ⟨_, rfl, sl (by decide : 2 ≤ 1000), fun q1 n1 => ?_⟩
    have x1 := ne_pen hy5 n1
    have u1 := same_upd (o := HO.tup [V.int 0, V.int 0]) n1
    have e1 : (upd H5 q1 (.tup [V.int 0, V.int 0])) q1 = _ := upd_same
    generalize upd H5 q1 (.tup [V.int 0, V.int 0]) = J6 at *
    refine ⟨sl (by decide : 4 ≤ 1000), fun q2 n2 => ?_⟩
    have x2 := ne_pen (u1 _ _ hy5) n2
    have v2 := same_upd (o := HO.lst [V.str "line", V.int 7, V.non, V.ref q1]) n2
    have u2 := u1.trans v2
    refine ⟨a, b, q2, n + 1, _, rfl, p5.same u2, by omega, upd_same, x2, (by show 0 < 4; omega), (by show 4 ≤ 1000; omega), fun j m H8 hj p8 k8 => ?_⟩
    have k80 : Kept a H5 H8 := (same_kept u2).trans k8
    have hm : ∃ e ∈ DM, VR a H8 m e := by
      have c1 := k8 _ _ x1 (v2 _ _ e1)
      match j, hj with
      | 0, hj => cases hj; exact ⟨.str "line", by simp [DM], fun _ _ => Rdv.str "line"⟩
      | 1, hj => cases hj; exact ⟨.int 7, by simp [DM], fun _ _ => Rdv.int 7⟩
      | 2, hj => cases hj; exact ⟨.none, by simp [DM], fun _ _ => Rdv.non⟩
      | 3, hj => cases hj; exact ⟨.tuple [.int 0, .int 0], by simp [DM], fun _ k => Rdv.tup (k _ _ x1 c1) (RdvAll.cons (Rdv.int 0) (RdvAll.cons (Rdv.int 0) RdvAll.nil))⟩
      | j + 4, hj => simp at hj
    clear u1 e1 v2 u2 n1 n2 x1 x2 k8 hj
    obtain ⟨e, he, hm⟩ := hm
    have hv8 := hv.kept k80
    have k08 := k50.trans k80
    -- all of them
    show tSeq _ _ _ [some (V.ref a), some v, some m, none, none, none, none, none] H8
    refine st_set ⟨_, rfl, _, rfl, v, m, rfl, fun l xs H9 s9 hl pf hx => ?_⟩
    show tSeq _ _ _ [some (V.ref a), some v, some m, some (V.ref l), none, none, none, none] H9
    obtain ⟨k1, k2, k3⟩ := okD_to (okV d hd)
    obtain ⟨k4, k5, k6⟩ := okD_to (okVM d hd e he)
    have sv : ∀ {H' : Hp}, Same H8 H' → Rdv H' v d := fun s' => hv8 _ (same_kept s')
    have sm : ∀ {H' : Hp}, Same H8 H' → Rdv H' m e := fun s' => hm _ (same_kept s')
    refine ⟨_, rfl, l, xs, rfl, .inl (.of hl), (16 : Int), by rw [hx]; rfl, by decide, by decide, ?_⟩
    refine for_range (n := 16) (fun i σ H' => Same H9 H' ∧ ∃ y4 y5 y6, σ = [some (V.ref a), some v, some m, some (V.ref l), y4, y5, y6, none]) ⟨same_refl H9, _, _, _, rfl⟩ ?_ ?_
    · rintro i σ H' hi ⟨s1, y4, y5, y6, rfl⟩
      have hl' := s1 _ _ hl
      have li : i < xs.length := by omega
      obtain ⟨t, er, dd, fs, ev, ht, hee, hdd⟩ := pf i xs[i] (List.getElem?_eq_getElem li)
      rw [Nat.zero_add] at hee
      refine ⟨_, rfl, _, rfl, l, xs, _, xs[i], rfl, rfl, .of hl', at_of (j := i) (by rw [Int.zero_add]) (List.getElem?_eq_getElem li), ?_⟩
      refine ⟨t, _, ev, .of (s1 _ _ ht), rfl, _, _, rfl, _, _, rfl, rfl, ?_⟩
      have ea : ErrAt Cs H' er i := ⟨some dd, s1 _ _ hee, fun z w' => ⟨fs, by cases w'; exact s1 _ _ hdd⟩⟩
      refine ⟨_, rfl, er, i, rfl, by omega, ea, fun p1 H1 s2 _ e1 => ?_⟩
      refine ⟨_, rfl, sl (by decide : 1 ≤ 1000), fun p2 np2 => ?_⟩
      have v2 := same_upd (o := HO.lst [V.int ((0 : Int) + (i : Int))]) np2
      have e2 : (upd H1 p2 (.lst [V.int ((0 : Int) + (i : Int))])) p2 = _ := upd_same
      have e1' := v2 _ _ e1
      have s3 := (s1.trans s2).trans v2
      generalize upd H1 p2 (.lst [V.int ((0 : Int) + (i : Int))]) = H3 at *
      have c0 : (0 : Int) + (i : Int) = (i : Int) := Int.zero_add _
      rw [c0] at e2
      refine ⟨.list [.int (i : Int)], .list [.int (i : Int)], .lst (.of e1') (.cons (.int _) .nil), ?_, shI i, shI i, _, rfl, ?_⟩
      · exact .lst (.of e2) (.cons (.int _) .nil)
      rw [SeqAt.eqv_refl _ (SeqAt.canLay_of_shaped (shI i))]
      refine iteF ?_
      refine ⟨_, rfl, er, i, rfl, by omega, ea.same (s2.trans v2), true, rfl, iteF ?_⟩
      refine ⟨_, rfl, v, d, rfl, sv (s9.trans s3), k1, k2, k3, ?_⟩
      refine ⟨_, rfl, v, d, rfl, sv (s9.trans s3), k1, k2, k3, ?_⟩
      refine ⟨rfl, _, rfl, ?_⟩
      refine iteF' (by simp) ?_
      exact ⟨s3, _, _, _, rfl⟩
    · rintro σ H' ⟨s1, y4, y5, y6, rfl⟩
      have s19 := s9.trans s1
      dsimp only
      refine st_set ⟨m, rfl, v, rfl, (by show 2 ≤ 1000; omega), rfl, ask2 a14.T n14 m14 fun x1 d1 K1 t1 b1 c1 => ?_⟩
      refine ⟨m, rfl, v, rfl, (by show 2 ≤ 1000; omega), rfl, ask2 a15.T n15 m15 fun x2 d2 K2 t2 b2 c2 => ⟨sl (by show 2 ≤ 1000; omega), fun p np => ?_⟩⟩
      have v3 := same_upd (o := HO.lst [V.ref x1, V.ref x2]) np
      have eb : (upd K2 p (.lst [V.ref x1, V.ref x2])) p = _ := upd_same
      have s3 := ((s19.trans t1).trans t2).trans v3
      have b1' := v3 _ _ (t2 _ _ b1)
      have c1' := v3 _ _ (t2 _ _ c1)
      have b2' := v3 _ _ b2
      have c2' := v3 _ _ c2
      show tSeq _ _ _ [some (V.ref a), some v, some m, some (V.ref l), y4, y5, y6, some (V.ref p)] (upd K2 p (.lst [V.ref x1, V.ref x2]))
      generalize upd K2 p (.lst [V.ref x1, V.ref x2]) = K3 at *
      refine ⟨_, rfl, p, _, _, V.ref x1, rfl, rfl, .of eb, at_of (j := 0) rfl rfl, x1, _, d1, _, m, rfl, b1', c1', a14.xf, n14, (lkS (by decide +kernel) _ _).trans (lkF _ _ _), ?_⟩
      refine ⟨_, rfl, p, _, _, V.ref x1, rfl, rfl, .of eb, at_of (j := 0) rfl rfl, x1, _, d1, _, v, rfl, b1', c1', a14.xf, m14, lkF _ _ _, ?_⟩
      refine ⟨_, rfl, p, _, _, V.ref x2, rfl, rfl, .of eb, at_of (j := 1) rfl rfl, x2, _, d2, _, m, rfl, b2', c2', a15.xf, n15, (lkS (by decide +kernel) _ _).trans (lkF _ _ _), ?_⟩
      refine ⟨_, rfl, p, _, _, V.ref x2, rfl, rfl, .of eb, at_of (j := 1) rfl rfl, x2, _, d2, _, v, rfl, b2', c2', a15.xf, m15, lkF _ _ _, ?_⟩
      refine ⟨sl (by show 4 ≤ 1000; omega), fun p4 np4 => ?_⟩
      have v4 := same_upd (o := HO.lst [m, v, m, v]) np4
      have s4 := s3.trans v4
      refine ⟨V.ref p4, .list [e, d, e, d], rfl, Rdv.lst upd_same (RdvAll.cons (sm s4) (RdvAll.cons (sv s4) (RdvAll.cons (sm s4) (RdvAll.cons (sv s4) RdvAll.nil)))), k4, k5, k6, ?_⟩
      refine ⟨_, rfl, _, rfl, _, rfl, _, rfl, sl (by show 4 ≤ 1000; omega), fun p5 np5 => ?_⟩
      have v5 := same_upd (o := HO.lst [m, v, m, v]) np5
      have s5 := s4.trans v5
      refine ⟨V.ref p5, .list [e, d, e, d], rfl, Rdv.lst upd_same (RdvAll.cons (sm s5) (RdvAll.cons (sv s5) (RdvAll.cons (sm s5) (RdvAll.cons (sv s5) RdvAll.nil)))), k4, k5, k6, ?_⟩
      refine ⟨rfl, _, rfl, ?_⟩
      refine iteF' (by simp) ?_
      generalize upd (upd K3 p4 (.lst [m, v, m, v])) p5 (.lst [m, v, m, v]) = K5 at *
      dsimp only
      have nt : ∀ {G : Hp} {x : Addr} {o : HO}, G x = none → Same G (upd (upd G x o) x (ExK (.ref (Cs 16)) none x)) := fun {G x o} nx b u z => by
        rw [upd_ne (ne_of_none z nx), upd_ne (ne_of_none z nx)]
        exact z
      refine fun x3 nx3 => ⟨x3, rfl, rfl, .inr ⟨upd_same, ?_⟩⟩
      have s6 := s5.trans (nt (o := exo x3 (Cs 16) none) nx3)
      have ea3 : ErrAt Cs (upd (upd K5 x3 (exo x3 (Cs 16) none)) x3 (ExK (.ref (Cs 16)) none x3)) x3 16 := ⟨none, upd_same, fun _ z => nomatch z⟩
      refine ⟨x3, 16, rfl, by omega, ea3, fun p6 K7 s7 _ g7 => ?_⟩
      refine ⟨sl (by show 1 ≤ 1000; omega), fun p7 np7 => ?_⟩
      have v7 := same_upd (o := HO.lst [V.int 16]) np7
      have s8 := (s6.trans s7).trans v7
      refine ⟨.list [.int 16], .list [.int 16], .lst (.of (v7 _ _ g7)) (.cons (.int _) .nil), .lst (.of upd_same) (.cons (.int _) .nil), shI 16, shI 16, ?_⟩
      refine ⟨true, congrArg V.bl (SeqAt.eqv_refl _ (SeqAt.canLay_of_shaped (shI 16))), iteT ?_⟩
      generalize upd K7 p7 (.lst [V.int 16]) = K8 at *
      refine fun x4 nx4 => ⟨x4, rfl, rfl, .inr ⟨upd_same, ?_⟩⟩
      have s9 := s8.trans (nt (o := exo x4 (Cs 16) none) nx4)
      have ea4 : ErrAt Cs (upd (upd K8 x4 (exo x4 (Cs 16) none)) x4 (ExK (.ref (Cs 16)) none x4)) x4 16 := ⟨none, upd_same, fun _ z => nomatch z⟩
      refine ⟨x4, 16, rfl, by omega, ea4, true, rfl, iteT ?_⟩
      generalize upd (upd K8 x4 (exo x4 (Cs 16) none)) x4 (ExK (.ref (Cs 16)) none x4) = K9 at *
      refine ⟨v, rfl, (by show 1 ≤ 1000; omega), rfl, ask1 a13.T n13 fun x5 d5 K10 t5 b5 c5 => ?_⟩
      have s10 := s9.trans t5
      refine ⟨x5, _, d5, _, v, rfl, b5, c5, a13.xf, n13, lkF _ _ _, ?_⟩
      refine ⟨v, d, rfl, sv s10, k1, k2, k3, ?_⟩
      refine ⟨_, rfl, v, d, rfl, sv s10, k1, k2, k3, ?_⟩
      refine ⟨rfl, ?_⟩
      have fin := q K10 ((p8.same s10).mono (by omega)) (k08.trans (same_kept s10))
      rw [show (true : Bool) = decide (V.str d.shown = V.str d.shown) from (decide_eq_true rfl).symm] at fin
      exact fin
end
end Lr

set_option Elab.async false
set_option linter.all false
set_option maxRecDepth 100000
set_option maxHeartbeats 4000000
namespace Lr
open PySem PySem.Spec PyProof.Rows L2 Ow Og Oe Oh
/-! ### the signs of a text that are none of these -/
def odds (z w : Str) : List Str := (z.cps.toList.filter fun c => !decide (c ∈ w.cps.toList)).map fun c => (⟨#[c]⟩ : Str)
def LN : List Str := ["", ".", "x", "..xx.x", Txt.mul "x" 300, "X", ". x", ".x\n", "-", "..o", " "]
def LW : List Str := ["a", "z", "abcdefgh", "abcdefghi", "", "A", "a1", "a b", "-", "name", "mute"]
theorem ln_str : ∀ z ∈ LN, ∀ x ∈ odds z ".x", PyData.strOk x = true := by decide +kernel
theorem lw_str : ∀ z ∈ LW, ∀ x ∈ odds z "abcdefghijklmnopqrstuvwxyz", PyData.strOk x = true := by decide +kernel
theorem ln_ok : ∀ z ∈ LN, losses? (some z) = (odds z ".x").isEmpty ∧ z.length ≤ 900 := by decide +kernel
theorem lw_ok : ∀ z ∈ LW, name? (some z) = (decide (1 ≤ z.length ∧ z.length ≤ 8) && (odds z "abcdefghijklmnopqrstuvwxyz").isEmpty) ∧ z.length ≤ 900 := by decide +kernel
def ss (l : List Str) : List V := l.map V.str
theorem canlay_strs : ∀ l : List Str, (∀ x ∈ l, PyData.strOk x = true) → PyData.canLayAll0 (l.map PyData.str) = true
  | [], _ => by simp [PyData.canLayAll0]
  | n :: l, h => by simp [PyData.canLayAll0, PyData.canLay0, canlay_strs l fun x hx => h x (List.mem_cons_of_mem _ hx), h n List.mem_cons_self]
theorem depth_strs (l : List Str) : PyData.depthAll (l.map PyData.str) ≤ 1 := by
  induction l with
  | nil => simp [PyData.depthAll]
  | cons n l ih => simp [PyData.depthAll, PyData.depth]; omega
theorem dp_strs {K : PySem.W.Frag} {H : Hp} : ∀ l : List Str, DpAll K H (ss l) (l.map PyData.str)
  | [] => .nil
  | n :: l => .cons (.str n) (dp_strs l)
theorem sh_strs (l : List Str) (h : ∀ x ∈ l, PyData.strOk x = true) : SeqAt.shaped (.list (l.map PyData.str)) = true := by
  refine Bool.and_eq_true_iff.mpr ⟨?_, decide_eq_true ?_⟩
  · show PyData.canLay0 (.list _) = true
    rw [PyData.canLay0]
    exact canlay_strs l h
  · show PyData.depth (.list _) ≤ 64
    rw [PyData.depth]
    have := depth_strs l
    omega
theorem eqv_nil (l : List Str) : PyData.eqv (.list (l.map PyData.str)) (.list []) = l.isEmpty := by
  cases l with
  | nil => rfl
  | cons n l => rfl
theorem signs_lc {z u : Str} {i : Nat} {σ : L2.St} {H : Hp} {Q : VK} (h0 : σ[i]? = some (some (.str z))) (hi : i ≠ 7) (h8 : σ.length = 8) (hl : z.length ≤ 900) (q : ∀ D H', Same H H' → H D = none → H' D = some (.lst (ss (odds z u))) → Q (.ref D) H') :
    tLc (iStr (tVar i)) (gName 7) (tTest (tOp rNotInS (tVar 7) (tC (.str u)))) (tVar 7) [7] σ H Q := by
  refine ⟨_, h0, z, rfl, fun D nD => ?_⟩
  refine lc_it walk_str (fun j H3 => Same H H3 ∧ H3 D = some (.lst (ss ((((z.cps.toList).take j).filter fun c => !decide (c ∈ u.cps.toList)).map fun c => (⟨#[c]⟩ : Str))))) ⟨same_upd nD, upd_same⟩ (fun _ _ _ _ => trivial) ?_ ?_
  · rintro j x H3 H4 hj ⟨s3, e3⟩ ⟨rfl, c, hc, rfl⟩
    have hc' : z.cps.toList[j]? = some c := by rw [Array.getElem?_toList]; exact hc
    have w7 : ∀ (y : Option V), (wipe (((wipe σ [7]).set 7 y)) [7]) = wipe σ [7] := fun y => by
      match σ, h8 with
      | [_, _, _, _, _, _, _, _], _ => rfl
    have g7 : ∀ (y : V), ((wipe σ [7]).set 7 (some y))[7]? = some (some y) := fun y => by
      match σ, h8 with
      | [_, _, _, _, _, _, _, _], _ => rfl
    refine ⟨w7 _, _, g7 _, c, u, rfl, rfl, _, rfl, ?_⟩
    have tk : (z.cps.toList).take (j + 1) = (z.cps.toList).take j ++ [c] := by
      rw [List.take_add_one, hc']
      rfl
    refine ite2 (fun k => ?_) (fun k => ?_)
    · refine ⟨_, g7 _, _, e3, ?_, same_put s3 nD, ?_⟩
      · unfold ss
        rw [List.length_map, List.length_map]
        refine small1000 (Nat.le_trans (List.length_filter_le _ _) ?_)
        rw [List.length_take]
        have : z.cps.toList.length = z.length := by rw [Array.length_toList]; rfl
        omega
      · rw [upd_same, tk, List.filter_append]
        have : List.filter (fun c => !decide (c ∈ u.cps.toList)) [c] = [c] := by rw [List.filter_cons, if_pos k]; rfl
        rw [this, List.map_append]
        unfold ss
        rw [List.map_append]
        rfl
    · refine ⟨s3, ?_⟩
      rw [tk, List.filter_append]
      have : List.filter (fun c => !decide (c ∈ u.cps.toList)) [c] = [] := by rw [List.filter_cons, if_neg k]; rfl
      rw [this, List.append_nil]
      exact e3
  · rintro H3 ⟨s3, e3⟩
    have : (z.cps.toList).take z.cps.size = z.cps.toList := List.take_of_length_le (by rw [Array.length_toList]; exact Nat.le_refl _)
    rw [this] at e3
    exact q D H3 s3 nD e3
end Lr

set_option Elab.async false
set_option linter.all false
set_option maxRecDepth 100000
set_option maxHeartbeats 4000000
namespace Lr
open PySem PySem.Spec PyProof.Rows L2 Ow Og Oe Oh
/-- how a def is called by keywords alone -/
structure UseK (K : PySem.W.Frag) (fd : FuncData) (ps ks : List Str) (g : {α : Type} → List α → List α) : Prop where
  k : KBn K fd ps 0 ks (fun _ ws => g ws) (fun _ zs => g zs)
section
variable {P : Program} {w : World} {K : PySem.W.Frag} {mg : Str → Option Value} {base : Heap}
abbrev s_kinds : Stmt := topS 38
theorem sc_kinds : FnScope ["_law_pen_here", "_law_number", "_law_told", "_law_odd", "_law_line", "_law_word", "_law_is_right", "_law_sign"] ["_law_pen_here"] (defScope s_kinds) := ⟨rfl, rfl, rfl, by decide +kernel, rfl, by decide +kernel, by decide +kernel⟩
theorem noStr_non {H : Hp} : NoStr K H .non := ⟨_, .base .non, kit_ty (by decide +kernel)⟩
theorem noStr_int {H : Hp} (i : Int) : NoStr K H (.int i) := ⟨_, .base (.int i), kit_ty (by decide +kernel)⟩
theorem noStr_bl {H : Hp} (i : Bool) : NoStr K H (.bl i) := ⟨_, .base (.bl i), kit_ty (by decide +kernel)⟩
theorem noStr_tup {H : Hp} {a : Addr} {xs : List V} (h : H a = some (.tup xs)) : NoStr K H (.ref a) := ⟨_, .base (.tup h), kit_ty (by decide +kernel)⟩
theorem noStr_lst {H : Hp} {a : Addr} {xs : List V} (h : H a = some (.lst xs)) : NoStr K H (.ref a) := ⟨_, .base (.lst h), kit_ty (by decide +kernel)⟩
theorem noStr_dk {H : Hp} {a : Addr} {kvs : List (Key × V)} (h : H a = some (.dK kvs)) : NoStr K H (.ref a) := ⟨_, .base (.dK h), kit_ty (by decide +kernel)⟩
/-- lo <= number <= hi -/
theorem ch {i lo hi : Int} {σ : L2.St} {H : Hp} {Q : VK} {j : Nat} (h : σ[j]? = some (some (.int i))) (q : Q (.bl (within? lo hi (some i))) H) : tChain (rI0 fun i j => .bl (decide (i ≤ j))) (rI0 fun i j => .bl (decide (i ≤ j))) (tC (.int lo)) (tVar j) (tC (.int hi)) σ H Q := by
  refine ⟨_, h, _, _, rfl, rfl, _, rfl, ?_⟩
  by_cases c : lo ≤ i
  · rw [decide_eq_true c]
    refine iteT ⟨_, _, rfl, rfl, ?_⟩
    have e : within? lo hi (some i) = decide (i ≤ hi) := by simp [within?, c]
    rw [e] at q
    exact q
  · rw [decide_eq_false c]
    refine iteF ?_
    have e : within? lo hi (some i) = false := by simp [within?, c]
    rw [e] at q
    exact q
theorem shB (a b c d : Bool) : SeqAt.shaped (.list [.bool a, .bool b, .bool c, .bool d]) = true := rfl
theorem strs_at {l : List Str} {j : Nat} {v : V} (h : (l.map V.str)[j]? = some v) : ∃ z ∈ l, v = .str z := by
  rw [List.getElem?_map] at h
  cases e : l[j]? with
  | none => rw [e] at h; cases h
  | some z => rw [e] at h; exact ⟨z, List.mem_of_getElem? e, (Option.some.inj h).symm⟩
theorem mul300 : MulOk "x" 300 := ⟨by decide, by decide, by decide +kernel⟩
/-- 1 <= len(word) <= 8 and no sign of it is no letter -/
theorem right_te {y : Str} {σ : L2.St} {H : Hp} {Q : VK} (h5 : σ[5]? = some (some (.str y))) (h8 : σ.length = 8) (hy : y ∈ LW) (q : ∀ (k : Bool) (H' : Hp), k = name? (some y) → Same H H' → Q (.bl k) H') :
    tAndV (tChain (rI0 fun i j => .bl (decide (i ≤ j))) (rI0 fun i j => .bl (decide (i ≤ j))) (tC (.int 1)) (tCB (fun xs H Q => ∃ z, xs = [V.str z] ∧ z.length ≤ sizeLine ∧ Q (.int z.length) H) (tCons (tVar 5) tNil)) (tC (.int 8)))
      (tOp (rEqD K) (tLc (iStr (tVar 5)) (gName 7) (tTest (tOp rNotInS (tVar 7) (tC (.str "abcdefghijklmnopqrstuvwxyz")))) (tVar 7) [7]) (tLst tNil)) σ H Q := by
  obtain ⟨wk, ly⟩ := lw_ok y hy
  have ly2 : y.length ≤ sizeLine := Nat.le_of_lt (small1000 (by omega))
  have no : ¬ (1 ≤ y.length ∧ y.length ≤ 8) → Q (.bl false) H := fun h => q false H (by rw [wk, decide_eq_false h]; rfl) (same_refl H)
  refine ⟨_, h5, y, rfl, ly2, _, _, rfl, rfl, _, rfl, ?_⟩
  by_cases c : (1 : Int) ≤ (y.length : Int)
  · rw [decide_eq_true c]
    refine iteT ⟨_, _, rfl, rfl, ?_⟩
    by_cases c2 : (y.length : Int) ≤ 8
    · refine ⟨true, congrArg V.bl (decide_eq_true c2), iteT ?_⟩
      refine signs_lc h5 (by decide) h8 ly fun D H11 s11 nD eD => ⟨Nat.zero_le _, fun r1 n1 => ?_⟩
      have v1 := same_upd (o := HO.lst []) n1
      refine ⟨.list ((odds y "abcdefghijklmnopqrstuvwxyz").map PyData.str), .list [], .lst (.of (v1 _ _ eD)) (dp_strs _), .lst (.of upd_same) .nil, sh_strs _ (lw_str y hy), rfl, q _ _ ?_ (s11.trans v1)⟩
      rw [eqv_nil, wk, decide_eq_true ⟨by omega, by omega⟩]
      rfl
    · exact ⟨false, congrArg V.bl (decide_eq_false c2), iteF (no fun h => c2 (by omega))⟩
  · rw [decide_eq_false c]
    exact iteF ⟨false, rfl, iteF (no fun h => c (by omega))⟩
theorem ok_kinds {f fP fD fI fW fA fY fL fN : Addr} {fd fdP fdD fdI fdW fdA fdY fdL fdN : FuncData} (F : Fun K "_law_kinds_right" "_law_kinds_right" s_kinds f fd)
    (GP : FnOk P w K mg base CX0 2 fP fdP ["_law_pen_here", "_law_some"] spPickV) (UP : Use K mg "_law_pick" fP fdP ["_law_pen_here", "_law_some"])
    (GD : FnOk P w K mg base CX0 1 fD fdD ["_law_pen_here", "_law_many"] spDraw) (UD : Use K mg "_law_draw" fD fdD ["_law_pen_here", "_law_many"])
    (GI : FnOk P w K mg base CX0 1 fI fdI ["value"] (spIsIntV K)) (UI : Use K mg "is_integer" fI fdI ["value"]) (KI : UseK K fdI ["value"] ["value"] id)
    (GW : FnOk P w K mg base CX0 2 fW fdW ["value", "least", "most"] (spWithinV K)) (UW : Use K mg "is_within" fW fdW ["value", "least", "most"]) (KW : UseK K fdW ["value", "least", "most"] ["most", "least", "value"] List.reverse)
    (GA : FnOk P w K mg base CX0 3 fA fdA ["value"] (spAgeV K)) (UA : Use K mg "is_age" fA fdA ["value"]) (KA : UseK K fdA ["value"] ["value"] id)
    (GY : FnOk P w K mg base CX0 3 fY fdY ["value"] (spAgeV K)) (UY : Use K mg "is_delay" fY fdY ["value"]) (KY : UseK K fdY ["value"] ["value"] id)
    (GL : FnOk P w K mg base CX0 1 fL fdL ["value"] (spLossV K)) (UL : Use K mg "is_losses" fL fdL ["value"]) (KL : UseK K fdL ["value"] ["value"] id)
    (GN : FnOk P w K mg base CX0 1 fN fdN ["value"] (spNameV K)) (UN : Use K mg "is_name" fN fdN ["value"]) (KN : UseK K fdN ["value"] ["value"] id)
    (T : Nm mg) : FnOk P w K mg base CX0 4 f fd ["_law_pen_here"] spTurn := by
  refine F.ok sc_kinds (fun vs H Q E h => ?_) (fun cdv A outer s H vs Q E hr h => ?_)
  · obtain ⟨a, b, n, rfl, _⟩ := h
    rfl
  · obtain ⟨a, b, n, rfl, hp, hn, q⟩ := h
    have hu := hr.units
    have hr1 : Room 1 _ := hr.mono (by decide)
    have hr2 : Room 2 _ := hr.mono (by decide)
    refine ⟨_, (pss_cons (ps_set (i := 1) sc_kinds.nd rfl (Or.inl rfl) (pe_call GP hr2 rfl UP.g UP.kp UP.b .nil pass0 (pa_cons (pv 0) (pa_cons (pe_lst (pa_cons (pe_un un_neg pe_int) (pa_cons pe_int (pa_cons pe_int (pa_cons pe_int (pa_cons pe_int (pa_cons pe_int (pa_cons (pe_call GD hr1 rfl UD.g UD.kp UD.b .nil pass0 (pa_cons (pv 0) (pa_cons pe_int pa_nil))) (pa_cons (pe_op op_pow pe_int pe_int) pa_nil))))))))) pa_nil))))
    (pss_cons (ps_set (i := 2) sc_kinds.nd rfl (Or.inl rfl) (pe_lst (pa_cons (pe_call GI hr1 rfl UI.g UI.kp UI.b .nil pass0 (pa_cons (pv 1) pa_nil)) (pa_cons (pe_callN0 GA hr rfl UA.g UA.kp KA.k pass0 (pk_cons (pv 1) pk_nil)) (pa_cons (pe_call GY hr rfl UY.g UY.kp UY.b .nil pass0 (pa_cons (pv 1) pa_nil)) (pa_cons (pe_call GW hr2 rfl UW.g UW.kp UW.b .nil pass0 (pa_cons (pv 1) (pa_cons pe_int (pa_cons pe_int pa_nil)))) pa_nil))))))
    (pss_cons (ps_if (pt_cmpR (op_neD hu) (pv 2) (pe_lst (pa_cons pe_bl (pa_cons (pe_chain op_le op_le pe_int (pv 1) pe_int) (pa_cons (pe_chain op_le op_le pe_int (pv 1) pe_int) (pa_cons (pe_chain op_le op_le pe_int (pv 1) pe_int) pa_nil))))) (nomark _)) (pss_one (ps_ret pe_bl)) pss_nil)
    (pss_cons (ps_set (i := 3) sc_kinds.nd rfl (Or.inl rfl) (pe_call GP hr2 rfl UP.g UP.kp UP.b .nil pass0 (pa_cons (pv 0) (pa_cons (pe_lst (pa_cons pe_non (pa_cons pe_bl (pa_cons pe_bl (pa_cons pe_str (pa_cons pe_str (pa_cons (pe_tup (pa_cons pe_int pa_nil)) (pa_cons (pe_lst (pa_cons pe_int pa_nil)) (pa_cons pe_dnewK (pa_cons (pe_disp (pps_cons pe_int pe_int pps_nil) (by rfl) (by rfl) (fun z => by cases z) (by decide)) pa_nil)))))))))) pa_nil))))
    (pss_cons (ps_if (pt_cmpR (op_neD hu) (pe_lst (pa_cons (pe_callN0 GI hr1 rfl UI.g UI.kp KI.k pass0 (pk_cons (pv 3) pk_nil)) (pa_cons (pe_call GA hr rfl UA.g UA.kp UA.b .nil pass0 (pa_cons (pv 3) pa_nil)) (pa_cons (pe_callN0 GY hr rfl UY.g UY.kp KY.k pass0 (pk_cons (pv 3) pk_nil)) (pa_cons (pe_callN0 GW hr2 rfl UW.g UW.kp KW.k pass0 (pk_cons pe_int (pk_cons pe_int (pk_cons (pv 3) pk_nil)))) pa_nil))))) (pe_op op_rep (pe_lst (pa_cons pe_bl pa_nil)) pe_int) (nomark _)) (pss_one (ps_ret pe_bl)) pss_nil)
    (pss_cons (ps_set (i := 4) sc_kinds.nd rfl (Or.inl rfl) (pe_call GP hr2 rfl UP.g UP.kp UP.b .nil pass0 (pa_cons (pv 0) (pa_cons (pe_lst (pa_cons pe_str (pa_cons pe_str (pa_cons pe_str (pa_cons pe_str (pa_cons (pe_op op_mulS pe_str pe_int) (pa_cons pe_str (pa_cons pe_str (pa_cons pe_str (pa_cons pe_str (pa_cons pe_str (pa_cons pe_str pa_nil)))))))))))) pa_nil))))
    (pss_cons (ps_if (pt_cmpR op_ne (pe_call GL hr1 rfl UL.g UL.kp UL.b .nil pass0 (pa_cons (pv 4) pa_nil)) (pe_cmpR (op_eqD hu) (pe_lc (own := [("_law_sign", 7)]) (g := (gName 7)) (tt := tTest (tOp rNotInS (tVar 7) (tC (.str ".x")))) rfl sc_kinds.nd (pi_str (pv 4)) (blkOk_by (by kernel_rfl)) (fun _ _ _ _ _ => pg_name (i := 7) sc_kinds.nd rfl (Or.inl rfl)) (fun _ _ _ _ _ => (by exact pts_one (pt_cmpR (r := rNotInS) op_notInS (pv 7) pe_str (by rfl)))) (fun _ _ _ _ _ => (pv 7))) (pe_lst pa_nil) (nomark _)) (nomark _)) (pss_one (ps_ret pe_bl)) pss_nil)
    (pss_cons (ps_if (pt_cmpR op_isnot_bl (pe_callN0 GL hr1 rfl UL.g UL.kp KL.k pass0 (pk_cons (pe_call GP hr2 rfl UP.g UP.kp UP.b .nil pass0 (pa_cons (pv 0) (pa_cons (pe_lst (pa_cons pe_non (pa_cons pe_int (pa_cons (pe_lst (pa_cons pe_str (pa_cons pe_str pa_nil))) (pa_cons (pe_tup (pa_cons pe_str pa_nil)) (pa_cons pe_dnewK (pa_cons pe_bl pa_nil))))))) pa_nil))) pk_nil)) pe_bl (by rfl)) (pss_one (ps_ret pe_bl)) pss_nil)
    (pss_cons (ps_set (i := 5) sc_kinds.nd rfl (Or.inl rfl) (pe_call GP hr2 rfl UP.g UP.kp UP.b .nil pass0 (pa_cons (pv 0) (pa_cons (pe_lst (pa_cons pe_str (pa_cons pe_str (pa_cons pe_str (pa_cons pe_str (pa_cons pe_str (pa_cons pe_str (pa_cons pe_str (pa_cons pe_str (pa_cons pe_str (pa_cons pe_str (pa_cons pe_str pa_nil)))))))))))) pa_nil))))
    (pss_cons (ps_set (i := 6) sc_kinds.nd rfl (Or.inl rfl) (pe_and (pe_chain op_le op_le pe_int (pe_callB call_len_str (by rfl) T.len PySem.boot_len (pa_cons (pv 5) pa_nil)) pe_int) (pe_one (pe_cmpR (op_eqD hu) (pe_lc (own := [("_law_sign", 7)]) (g := (gName 7)) (tt := tTest (tOp rNotInS (tVar 7) (tC (.str "abcdefghijklmnopqrstuvwxyz")))) rfl sc_kinds.nd (pi_str (pv 5)) (blkOk_by (by kernel_rfl)) (fun _ _ _ _ _ => pg_name (i := 7) sc_kinds.nd rfl (Or.inl rfl)) (fun _ _ _ _ _ => (by exact pts_one (pt_cmpR (r := rNotInS) op_notInS (pv 7) pe_str (by rfl)))) (fun _ _ _ _ _ => (pv 7))) (pe_lst pa_nil) (nomark _)))))
    (pss_one (ps_ret (pe_and (pe_cmpR op_eq (pe_call GN hr1 rfl UN.g UN.kp UN.b .nil pass0 (pa_cons (pv 5) pa_nil)) (pv 6) (nomark _)) (pe_one (pe_cmpR op_is_bl (pe_callN0 GN hr1 rfl UN.g UN.kp KN.k pass0 (pk_cons (pe_call GP hr2 rfl UP.g UP.kp UP.b .nil pass0 (pa_cons (pv 0) (pa_cons (pe_lst (pa_cons pe_non (pa_cons pe_int (pa_cons pe_bl (pa_cons (pe_lst (pa_cons pe_str pa_nil)) (pa_cons (pe_tup (pa_cons pe_str pa_nil)) (pa_cons pe_dnewK pa_nil))))))) pa_nil))) pk_nil)) pe_bl (by rfl)))))))))))))))), ?_⟩
    obtain ⟨ys, hy⟩ := pen_at hp
    have sl : ∀ {m : Nat}, m ≤ 1000 → m ≤ sizeLine := fun h => Nat.le_of_lt (small1000 h)
    -- a number
    refine st_set ⟨_, rfl, _, rfl, _, rfl, a, b, 20, n, rfl, hp, by omega, by decide, by decide, fun dd H1 hd p1 k1 => ?_⟩
    obtain ⟨ys1, hy1⟩ := pen_at p1
    refine ⟨_, _, rfl, rfl, ⟨by decide, by decide, by decide⟩, sl (by show 8 ≤ 1000; omega), fun q4 n4 => ?_⟩
    have x4 := ne_pen hy1 n4
    have u4 := same_upd (o := HO.lst [V.int (-1), V.int 0, V.int 1, V.int 7, V.int 8, V.int 9, vi dd, V.int (10 ^ (30 : Int).toNat)]) n4
    refine ⟨a, b, q4, n + 1, _, rfl, p1.same u4, by omega, upd_same, x4, (by show 0 < 8; omega), (by show 8 ≤ 1000; omega), fun j v H5 hj p5 k5 => ?_⟩
    have k50 : Kept a H H5 := k1.trans ((same_kept u4).trans k5)
    have hv : ∃ i : Int, v = .int i := by
      match j, hj with
      | 0, hj => cases hj; exact ⟨_, rfl⟩
      | 1, hj => cases hj; exact ⟨_, rfl⟩
      | 2, hj => cases hj; exact ⟨_, rfl⟩
      | 3, hj => cases hj; exact ⟨_, rfl⟩
      | 4, hj => cases hj; exact ⟨_, rfl⟩
      | 5, hj => cases hj; exact ⟨_, rfl⟩
      | 6, hj => cases hj; exact ⟨_, rfl⟩
      | 7, hj => cases hj; exact ⟨_, rfl⟩
      | j + 8, hj => simp at hj
    clear hj k5 u4 x4 n4 hy1 k1 p1 hd
    obtain ⟨i, rfl⟩ := hv
    obtain ⟨ys5, hy5⟩ := pen_at p5
    show tSeq _ _ _ [some (V.ref a), some (V.int i), none, none, none, none, none, none] H5
    refine st_set ⟨_, rfl, .int i, some i, rfl, .int i, _, rfl, rfl, .int i, some i, rfl, .int i, _, rfl, .int i, some i, rfl, .int i, _, rfl, .int i, some i, 2, 8, rfl, .int i, sl (by show 4 ≤ 1000; omega), fun p6 n6 => ?_⟩
    have u6 := same_upd (o := HO.lst [V.bl true, V.bl (within? 0 8 (some i)), V.bl (within? 0 8 (some i)), V.bl (within? 2 8 (some i))]) n6
    have e6 : (upd H5 p6 (.lst [V.bl true, V.bl (within? 0 8 (some i)), V.bl (within? 0 8 (some i)), V.bl (within? 2 8 (some i))])) p6 = _ := upd_same
    show tSeq _ _ _ [some (V.ref a), some (V.int i), some (V.ref p6), none, none, none, none, none] (upd H5 p6 (.lst [V.bl true, V.bl (within? 0 8 (some i)), V.bl (within? 0 8 (some i)), V.bl (within? 2 8 (some i))]))
    generalize upd H5 p6 (.lst [V.bl true, V.bl (within? 0 8 (some i)), V.bl (within? 0 8 (some i)), V.bl (within? 2 8 (some i))]) = H6 at *
    refine ⟨_, rfl, ch rfl (ch rfl (ch rfl ⟨sl (by show 4 ≤ 1000; omega), fun p7 n7 => ?_⟩))⟩
    have v7 := same_upd (o := HO.lst [V.bl true, V.bl (within? 0 8 (some i)), V.bl (within? 0 8 (some i)), V.bl (within? 2 8 (some i))]) n7
    have u7 := u6.trans v7
    refine ⟨.list [.bool true, .bool (within? 0 8 (some i)), .bool (within? 0 8 (some i)), .bool (within? 2 8 (some i))], .list [.bool true, .bool (within? 0 8 (some i)), .bool (within? 0 8 (some i)), .bool (within? 2 8 (some i))], .lst (.of (v7 _ _ e6)) (.cons (.bl _) (.cons (.bl _) (.cons (.bl _) (.cons (.bl _) .nil)))), .lst (.of upd_same) (.cons (.bl _) (.cons (.bl _) (.cons (.bl _) (.cons (.bl _) .nil)))), shB _ _ _ _, shB _ _ _ _, _, rfl, ?_⟩
    rw [SeqAt.eqv_refl _ (SeqAt.canLay_of_shaped (shB _ _ _ _))]
    refine iteF ?_
    have k7 : Kept a H _ := k50.trans (same_kept u7)
    have p7' := p5.same u7
    generalize upd H6 p7 (.lst [V.bl true, V.bl (within? 0 8 (some i)), V.bl (within? 0 8 (some i)), V.bl (within? 2 8 (some i))]) = H7 at *
    clear n7 v7 u7 e6 u6 n6
    obtain ⟨ys7, hy7⟩ := pen_at p7'
    dsimp only [tNext]
    -- what is no number
    refine st_set ⟨_, rfl, sl (by show 1 ≤ 1000; omega), fun q1 n1 => ?_⟩
    have x1 := ne_pen hy7 n1
    have u1 := same_upd (o := HO.tup [V.int 0]) n1
    have e1 : (upd H7 q1 (.tup [V.int 0])) q1 = _ := upd_same
    generalize upd H7 q1 (.tup [V.int 0]) = J1 at *
    refine ⟨sl (by show 1 ≤ 1000; omega), fun q2 n2 => ?_⟩
    have x2 := ne_pen (u1 _ _ hy7) n2
    have v2 := same_upd (o := HO.lst [V.int 1]) n2
    have u2 := u1.trans v2
    have e12 := v2 _ _ e1
    have e2 : (upd J1 q2 (.lst [V.int 1])) q2 = _ := upd_same
    generalize upd J1 q2 (.lst [V.int 1]) = J2 at *
    intro q3 n3
    have x3 := ne_pen (u2 _ _ hy7) n3
    have v3 := same_upd (o := HO.dK []) n3
    have u3 := u2.trans v3
    have e13 := v3 _ _ e12
    have e23 := v3 _ _ e2
    have e3 : (upd J2 q3 (.dK [])) q3 = _ := upd_same
    generalize upd J2 q3 (.dK []) = J3 at *
    intro q5 n5
    have x5 := ne_pen (u3 _ _ hy7) n5
    refine ⟨upd_same, [(Sum.inl 0, V.int 1)], rfl, by decide, sl (by show 9 ≤ 1000; omega), fun q6 n6 => ?_⟩
    have v5 : Same J3 (upd (upd J3 q5 (.dK [])) q5 (.dK (mergeK [] [(Sum.inl 0, V.int 1)]))) := fun c o e => by
      rw [upd_ne (ne_of_none e n5), upd_ne (ne_of_none e n5)]
      exact e
    have e5 : (upd (upd J3 q5 (.dK [])) q5 (.dK (mergeK [] [(Sum.inl 0, V.int 1)]))) q5 = some (.dK [(Sum.inl 0, V.int 1)]) := upd_same
    have u5 := u3.trans v5
    have f1 := v5 _ _ e13
    have f2 := v5 _ _ e23
    have f3 := v5 _ _ e3
    generalize upd (upd J3 q5 (.dK [])) q5 (.dK (mergeK [] [(Sum.inl 0, V.int 1)])) = J5 at *
    have x6 := ne_pen (u5 _ _ hy7) n6
    have v6 := same_upd (o := HO.lst [V.non, V.bl true, V.bl false, V.str "0", V.str "", V.ref q1, V.ref q2, V.ref q3, V.ref q5]) n6
    have u6 := u5.trans v6
    refine ⟨a, b, q6, n + 2, _, rfl, p7'.same u6, by omega, upd_same, x6, (by show 0 < 9; omega), (by show 9 ≤ 1000; omega), fun j v H8 hj p8 k8 => ?_⟩
    have k08 : Kept a H H8 := k7.trans ((same_kept u6).trans k8)
    have hv : ∀ H', Same H8 H' → NoInt K H' v := fun H' s' => by
      have c1 := s' _ _ (k8 _ _ x1 (v6 _ _ f1))
      have c2 := s' _ _ (k8 _ _ x2 (v6 _ _ f2))
      have c3 := s' _ _ (k8 _ _ x3 (v6 _ _ f3))
      have c5 := s' _ _ (k8 _ _ x5 (v6 _ _ e5))
      match j, hj with
      | 0, hj => cases hj; exact noInt_non
      | 1, hj => cases hj; exact noInt_bl _
      | 2, hj => cases hj; exact noInt_bl _
      | 3, hj => cases hj; exact noInt_str _
      | 4, hj => cases hj; exact noInt_str _
      | 5, hj => cases hj; exact noInt_tup c1
      | 6, hj => cases hj; exact noInt_lst c2
      | 7, hj => cases hj; exact noInt_dk c3
      | 8, hj => cases hj; exact noInt_dk c5
      | j + 9, hj => simp at hj
    clear u1 e1 v2 u2 e12 e2 v3 u3 e13 e23 e3 v5 e5 u5 f1 f2 f3 v6 u6 k8 hj n1 n2 n3 n5 n6 x1 x2 x3 x5 x6 p7' hy7 ys7 k7
    show tSeq _ _ _ [some (V.ref a), some (V.int i), some (V.ref p6), some v, none, none, none, none] H8
    refine ⟨_, rfl, rfl, v, none, rfl, .no (hv _ (same_refl _)), _, rfl, v, none, rfl, .no (hv _ (same_refl _)), _, rfl, rfl, v, none, rfl, .no (hv _ (same_refl _)), _, rfl, rfl, v, none, 0, 9, rfl, .no (hv _ (same_refl _)), sl (by show 4 ≤ 1000; omega), fun r1 n1 => ?_⟩
    have v1 := same_upd (o := HO.lst [V.bl false, V.bl false, V.bl false, V.bl false]) n1
    have e1 : (upd H8 r1 (.lst [V.bl false, V.bl false, V.bl false, V.bl false])) r1 = _ := upd_same
    show tOp rRep (tLst (tCons (tC (.bl false)) tNil)) (tC (.int 4)) [some (V.ref a), some (V.int i), some (V.ref p6), some v, none, none, none, none] (upd H8 r1 (.lst [V.bl false, V.bl false, V.bl false, V.bl false])) _
    generalize upd H8 r1 (.lst [V.bl false, V.bl false, V.bl false, V.bl false]) = L1 at *
    refine ⟨sl (by show 1 ≤ 1000; omega), fun r2 n2 => ?_⟩
    have v2 := same_upd (o := HO.lst [V.bl false]) n2
    refine ⟨r2, 4, _, rfl, rfl, upd_same, by decide, by decide, sl (by show 1 * (4 : Int).toNat ≤ 1000; decide), fun r3 n3 => ?_⟩
    have v3 := same_upd (o := HO.lst (List.replicate (4 : Int).toNat [V.bl false]).flatten) n3
    have u3 := (v1.trans v2).trans v3
    refine ⟨.list [.bool false, .bool false, .bool false, .bool false], .list [.bool false, .bool false, .bool false, .bool false], .lst (.of (v3 _ _ (v2 _ _ e1))) (.cons (.bl _) (.cons (.bl _) (.cons (.bl _) (.cons (.bl _) .nil)))), .lst (.of upd_same) (.cons (.bl _) (.cons (.bl _) (.cons (.bl _) (.cons (.bl _) .nil)))), rfl, rfl, _, rfl, ?_⟩
    refine iteF ?_
    have k9 : Kept a H _ := k08.trans (same_kept u3)
    have p9 := p8.same u3
    generalize upd (upd L1 r2 (.lst [V.bl false])) r3 (.lst (List.replicate (4 : Int).toNat [V.bl false]).flatten) = H9 at *
    clear hv v1 e1 v2 v3 u3 n1 n2 n3
    obtain ⟨ys9, hy9⟩ := pen_at p9
    dsimp only [tNext]
    -- losses
    refine st_set ⟨_, rfl, "x", 300, rfl, rfl, mul300, sl (by show 11 ≤ 1000; omega), fun q1 n1 => ?_⟩
    have x1 := ne_pen hy9 n1
    have u1 := same_upd (o := HO.lst (LN.map V.str)) n1
    refine ⟨a, b, q1, n + 3, LN.map V.str, rfl, p9.same u1, by omega, upd_same, x1, (by show 0 < 11; omega), (by show 11 ≤ 1000; omega), fun j v2 H10 hj p10 k10 => ?_⟩
    obtain ⟨z, hz, rfl⟩ := strs_at hj
    have k010 : Kept a H H10 := k9.trans ((same_kept u1).trans k10)
    clear u1 hj k10 x1 n1
    have lz := (ln_ok z hz).2
    show tSeq _ _ _ [some (V.ref a), some (V.int i), some (V.ref p6), some v, some (V.str z), none, none, none] H10
    refine ⟨_, rfl, .str z, some z, rfl, .str z, fun _ e => by cases e; omega, ?_⟩
    refine signs_lc rfl (by decide) rfl lz fun D H11 s11 nD eD => ⟨Nat.zero_le _, fun r1 n1 => ?_⟩
    have v1 := same_upd (o := HO.lst []) n1
    refine ⟨.list ((odds z ".x").map PyData.str), .list [], .lst (.of (v1 _ _ eD)) (dp_strs _), .lst (.of upd_same) .nil, sh_strs _ (ln_str z hz), rfl, rfl, _, rfl, ?_⟩
    rw [eqv_nil, ← (ln_ok z hz).1]
    refine iteF' (by simp) ?_
    have k12 : Kept a H _ := k010.trans (same_kept (s11.trans v1))
    have p12 := p10.same (s11.trans v1)
    generalize upd H11 r1 (.lst []) = H12 at *
    clear s11 nD eD v1 n1
    obtain ⟨ys12, hy12⟩ := pen_at p12
    dsimp only [tNext]
    -- what is no text
    refine ⟨_, rfl, sl (by show 2 ≤ 1000; omega), fun q1 n1 => ?_⟩
    have x1 := ne_pen hy12 n1
    have u1 := same_upd (o := HO.lst [V.str ".", V.str "x"]) n1
    have e1 : (upd H12 q1 (.lst [V.str ".", V.str "x"])) q1 = _ := upd_same
    generalize upd H12 q1 (.lst [V.str ".", V.str "x"]) = J1 at *
    refine ⟨sl (by show 1 ≤ 1000; omega), fun q2 n2 => ?_⟩
    have x2 := ne_pen (u1 _ _ hy12) n2
    have v2 := same_upd (o := HO.tup [V.str "."]) n2
    have u2 := u1.trans v2
    have e12 := v2 _ _ e1
    have e2 : (upd J1 q2 (.tup [V.str "."])) q2 = _ := upd_same
    generalize upd J1 q2 (.tup [V.str "."]) = J2 at *
    intro q3 n3
    have x3 := ne_pen (u2 _ _ hy12) n3
    have v3 := same_upd (o := HO.dK []) n3
    have u3 := u2.trans v3
    have f1 := v3 _ _ e12
    have f2 := v3 _ _ e2
    have f3 : (upd J2 q3 (.dK [])) q3 = _ := upd_same
    generalize upd J2 q3 (.dK []) = J3 at *
    refine ⟨sl (by show 6 ≤ 1000; omega), fun q4 n4 => ?_⟩
    have x4 := ne_pen (u3 _ _ hy12) n4
    have v4 := same_upd (o := HO.lst [V.non, V.int 0, V.ref q1, V.ref q2, V.ref q3, V.bl true]) n4
    have u4 := u3.trans v4
    refine ⟨a, b, q4, n + 4, _, rfl, p12.same u4, by omega, upd_same, x4, (by show 0 < 6; omega), (by show 6 ≤ 1000; omega), fun j v9 H13 hj p13 k13 => ?_⟩
    have k013 : Kept a H H13 := k12.trans ((same_kept u4).trans k13)
    have hw : NoStr K H13 v9 := by
      have c1 := k13 _ _ x1 (v4 _ _ f1)
      have c2 := k13 _ _ x2 (v4 _ _ f2)
      have c3 := k13 _ _ x3 (v4 _ _ f3)
      match j, hj with
      | 0, hj => cases hj; exact noStr_non
      | 1, hj => cases hj; exact noStr_int _
      | 2, hj => cases hj; exact noStr_lst c1
      | 3, hj => cases hj; exact noStr_tup c2
      | 4, hj => cases hj; exact noStr_dk c3
      | 5, hj => cases hj; exact noStr_bl _
      | j + 6, hj => simp at hj
    clear u1 e1 v2 u2 e12 e2 v3 u3 f1 f2 f3 v4 u4 k13 hj n1 n2 n3 n4 x1 x2 x3 x4 p12 hy12 ys12 k12
    refine ⟨rfl, v9, none, rfl, .no hw, (fun _ e => nomatch e), false, false, rfl, rfl, _, rfl, iteF ?_⟩
    obtain ⟨ys13, hy13⟩ := pen_at p13
    dsimp only [tNext]
    -- names
    refine st_set ⟨_, rfl, sl (by show 11 ≤ 1000; omega), fun q1 n1 => ?_⟩
    have x1 := ne_pen hy13 n1
    have u1 := same_upd (o := HO.lst (LW.map V.str)) n1
    refine ⟨a, b, q1, n + 5, LW.map V.str, rfl, p13.same u1, by omega, upd_same, x1, (by show 0 < 11; omega), (by show 11 ≤ 1000; omega), fun j v3 H14 hj p14 k14 => ?_⟩
    obtain ⟨y, hy0, rfl⟩ := strs_at hj
    have k014 : Kept a H H14 := k013.trans ((same_kept u1).trans k14)
    clear u1 hj k14 x1 n1
    obtain ⟨wk, ly⟩ := lw_ok y hy0
    have ly2 : y.length ≤ sizeLine := sl (by omega)
    show tSeq _ _ _ [some (V.ref a), some (V.int i), some (V.ref p6), some v, some (V.str z), some (V.str y), none, none] H14
    refine st_set (right_te rfl rfl hy0 fun k H15 hk s15 => ?_)
    have k015 := k014.trans (same_kept s15)
    have p15 := p14.same s15
    obtain ⟨ys15, hy15⟩ := pen_at p15
    show tRet _ _ [some (V.ref a), some (V.int i), some (V.ref p6), some v, some (V.str z), some (V.str y), some (V.bl k), none] H15
    refine ⟨_, rfl, .str y, some y, rfl, .str y, fun _ e => by cases e; omega, _, rfl, rfl, true, congrArg V.bl (decide_eq_true (congrArg V.bl hk.symm)), iteT ?_⟩
    refine ⟨_, rfl, sl (by show 1 ≤ 1000; omega), fun q1 n1 => ?_⟩
    have x1 := ne_pen hy15 n1
    have u1 := same_upd (o := HO.lst [V.str "a"]) n1
    have e1 : (upd H15 q1 (.lst [V.str "a"])) q1 = _ := upd_same
    generalize upd H15 q1 (.lst [V.str "a"]) = J1 at *
    refine ⟨sl (by show 1 ≤ 1000; omega), fun q2 n2 => ?_⟩
    have x2 := ne_pen (u1 _ _ hy15) n2
    have v2 := same_upd (o := HO.tup [V.str "a"]) n2
    have u2 := u1.trans v2
    have e12 := v2 _ _ e1
    have e2 : (upd J1 q2 (.tup [V.str "a"])) q2 = _ := upd_same
    generalize upd J1 q2 (.tup [V.str "a"]) = J2 at *
    intro q3 n3
    have x3 := ne_pen (u2 _ _ hy15) n3
    have v3 := same_upd (o := HO.dK []) n3
    have u3 := u2.trans v3
    have f1 := v3 _ _ e12
    have f2 := v3 _ _ e2
    have f3 : (upd J2 q3 (.dK [])) q3 = _ := upd_same
    generalize upd J2 q3 (.dK []) = J3 at *
    refine ⟨sl (by show 6 ≤ 1000; omega), fun q4 n4 => ?_⟩
    have x4 := ne_pen (u3 _ _ hy15) n4
    have v4 := same_upd (o := HO.lst [V.non, V.int 0, V.bl true, V.ref q1, V.ref q2, V.ref q3]) n4
    have u4 := u3.trans v4
    refine ⟨a, b, q4, n + 6, _, rfl, p15.same u4, by omega, upd_same, x4, (by show 0 < 6; omega), (by show 6 ≤ 1000; omega), fun j v9 H16 hj p16 k16 => ?_⟩
    have k016 : Kept a H H16 := k015.trans ((same_kept u4).trans k16)
    have hw : NoStr K H16 v9 := by
      have c1 := k16 _ _ x1 (v4 _ _ f1)
      have c2 := k16 _ _ x2 (v4 _ _ f2)
      have c3 := k16 _ _ x3 (v4 _ _ f3)
      match j, hj with
      | 0, hj => cases hj; exact noStr_non
      | 1, hj => cases hj; exact noStr_int _
      | 2, hj => cases hj; exact noStr_bl _
      | 3, hj => cases hj; exact noStr_lst c1
      | 4, hj => cases hj; exact noStr_tup c2
      | 5, hj => cases hj; exact noStr_dk c3
      | j + 6, hj => simp at hj
    refine ⟨rfl, v9, none, rfl, .no hw, (fun _ e => nomatch e), false, false, rfl, rfl, ?_⟩
    exact q H16 (p16.mono (by omega)) k016
end
end Lr

set_option Elab.async false
set_option linter.all false
set_option maxRecDepth 100000
set_option maxHeartbeats 4000000
namespace Lr
open PySem PySem.Spec PyProof.Rows L2 Ow Og Oe Oh
section
variable {P : Program} {w : World} {K : PySem.W.Frag} {mg : Str → Option Value} {base : Heap}
abbrev s_law : Stmt := topS 39
theorem sc_law : FnScope ["_law_script", "_law_pen_here", "_law_turn"] ["_law_script"] (defScope s_law) := ⟨rfl, rfl, rfl, by decide +kernel, rfl, by decide +kernel, by decide +kernel⟩
def spLaw (K : PySem.W.Frag) : Sp := fun vs H Q _ => ∃ (a : Addr) (ns : List Int), vs = [.ref a] ∧ SqL K H a (ns.map V.int) ∧ ns.length ≤ 63 ∧ ∀ H', Q (.bl true) H'
theorem ok_law {f fN fE fY : Addr} {fd fdN fdE fdY : FuncData} (F : Fun K "law" "law" s_law f fd)
    (GN : FnOk P w K mg base CX0 1 fN fdN ["_law_script"] (spPen K)) (UN : Use K mg "_law_pen" fN fdN ["_law_script"])
    (GE : FnG P w K mg base CX0 4 fE fdE ["_law_pen_here"] spTurn) (UE : Use K mg "_law_errors_right" fE fdE ["_law_pen_here"])
    (GY : FnOk P w K mg base CX0 4 fY fdY ["_law_pen_here"] spTurn) (UY : Use K mg "_law_kinds_right" fY fdY ["_law_pen_here"]) (T : Nm mg) :
    FnG P w K mg base CX0 5 f fd ["_law_script"] (spLaw K) := by
  refine okG F sc_law (fun vs H Q E h => ?_) (fun cdv A outer s H vs Q E hr hG h => ?_)
  · obtain ⟨a, ns, rfl, _⟩ := h
    rfl
  · obtain ⟨a, ns, rfl, hS, hl, q⟩ := h
    have hr1 : Room 1 _ := hr.mono (by decide)
    refine ⟨_, (pss_cons (ps_set (i := 1) sc_law.nd rfl (Or.inl rfl) (pe_call GN hr1 rfl UN.g UN.kp UN.b .nil pass0 (pa_cons (pv 0) pa_nil)))
    (pss_cons (ps_for PassesOwn.never rfl (pi_range1 rfl T.range (pa_cons pe_int pa_nil)) (pg_name (i := 2) sc_law.nd rfl (Or.inl rfl))
      (pss_one (ps_if (PW.pt (pw_or (pt_not (pt_val (pe_callG GE hr hG rfl UE.g UE.kp UE.b .nil pass0 (pa_cons (pv 1) pa_nil)))) (pw_or1 (pt_not (pt_val (pe_call GY hr rfl UY.g UY.kp UY.b .nil pass0 (pa_cons (pv 1) pa_nil))))))) (pss_one (ps_ret pe_bl)) pss_nil)))
    (pss_one (ps_ret pe_bl)))), ?_⟩
    refine st_set ⟨_, rfl, a, ns, rfl, hS, hl, fun p b H1 hp s1 _ => ?_⟩
    refine ⟨(14 : Int), rfl, by decide, by decide, ?_⟩
    refine for_range (n := 14) (fun i σ H' => PenAt H' p b (20 * i) ∧ ∃ y, σ = [some (V.ref a), some (V.ref p), y]) ⟨hp, _, rfl⟩ ?_ ?_
    · rintro i σ H2 hi ⟨p2, y, rfl⟩
      refine ⟨_, rfl, p, b, 20 * i, rfl, p2, by omega, fun H3 p3 _ => ⟨true, rfl, iteF ?_⟩⟩
      refine ⟨_, rfl, p, b, 20 * i + 10, rfl, p3, by omega, fun H4 p4 _ => ⟨true, rfl, iteF ?_⟩⟩
      exact ⟨p4.mono (by omega), _, rfl⟩
    · rintro σ H2 ⟨p2, y, rfl⟩
      exact q H2
end
end Lr

set_option Elab.async false
set_option linter.all false
set_option maxRecDepth 100000
set_option maxHeartbeats 0
/-! What the top leaves: the defs, the errors' classes, found by name. -/
namespace Hk
open PySem PySem.Spec PyProof.Rows L2 Lr Ow Oe
def cn : List Str := "BadSpace" :: "BadTick" :: "BadPlan" :: "BadRule" :: "BadLosses" :: "BadDelay" :: "BadCount" :: "BadStream" :: "BadPacket" :: "BadBench" :: "BadCommand" :: "BadName" :: "NoName" :: "NoPhase" :: "BadText" :: "TooMany" :: "Nothing" :: []
section
variable (K : PySem.W.Frag)
def Cs (i : Nat) : Addr := He.ga K (cn.getD i "")
def none_ (T : Value) (nm : Str) : Bool := match PySem.W.findIn K T nm with
  | some none => true
  | _ => false
def oexB (C : Addr) : Bool := match K.lookup C with
  | some ⟨.type "type", _, .cls cd, sl⟩ => (match cd.mro, sl.toList with
    | .ref C' :: bm, [_, _, _, _, some (.builtin n), _] => C' == C && (PySem.HandSPX.refsVE bm && (n == "ValueError.__new__" && (cd.hasDict && !cd.hasDel)))
    | _, _ => false)
  | _ => false
def errB (C : Addr) (f : Str) : Bool := oexB K C && (He.eqO (PySem.W.findIn K (.ref C) "__setattr__") (some (some (.builtin "object.__setattr__"))) && (decide (PySem.W.subIn K (.ref C) (.type "BaseException") = some true) && (decide (PySem.W.typeIn K (.ref C) = some (.type "type")) && (PySem.W.keepIn K (.ref C) && (xfB K C &&
  (He.eqO (PySem.W.findIn K (.ref C) "__class__") (some (some (.builtin "object.__class__"))) && (He.eqO (PySem.W.specialIn K (.builtin "object.__class__") "__get__") (some (some (.builtin "getset_descriptor.__get__"))) && (decide (PySem.W.takesIn K (.builtin "object.__class__") = some true) && (decide (PySem.W.mroIn K C (.type "object") = some true) &&
  (He.eqO (PySem.W.findIn K (.ref C) "__init__") (some (some (.ref (He.ma K C "__init__")))) && (decide (PySem.W.typeIn K (.ref (He.ma K C "__init__")) = some (.type "function")) && none_ K (.ref C) f)))))))))))
def tests : List Bool := [
  errB K (Cs K 0) "part",
  errB K (Cs K 1) "part",
  errB K (Cs K 2) "part",
  errB K (Cs K 3) "part",
  errB K (Cs K 4) "value",
  errB K (Cs K 5) "value",
  errB K (Cs K 6) "value",
  errB K (Cs K 7) "part",
  errB K (Cs K 8) "part",
  errB K (Cs K 9) "part",
  errB K (Cs K 10) "word",
  errB K (Cs K 11) "value",
  errB K (Cs K 12) "name",
  errB K (Cs K 13) "at",
  errB K (Cs K 14) "line",
  none_ K (.ref (Cs K 14)) "word",
  errB K (Cs K 15) "what",
  none_ K (.ref (Cs K 15)) "most",
  errB K (Cs K 16) "part",
  (List.range 17).all fun i => (List.range 17).all fun j => decide (PySem.W.kitOne K (.ref (Cs K i)) (.ref (Cs K j)) = some (decide (i = j))),
  (List.range 17).all fun i => decide (PySem.W.kitOne K (.ref (Cs K i)) (.ref (He.ga K "RepairError")) = some true),
  (List.range 17).all fun i => decide (PySem.W.kitOne K (.ref (Cs K i)) (.type "ValueError") = some true),
  (K.lookup sysModules).isSome]
end
def dg (x : Str) (st : Stmt) : He.DefD := ⟨(x, none), x, x, defArgs st, defBody st, defScope st, [], []⟩
def de (x m q : Str) (st : Stmt) : He.DefD := ⟨(x, some m), m, q, defArgs st, defBody st, defScope st, [], []⟩
def fn : List He.DefD := dg "is_integer" s_is_integer :: dg "is_within" s_is_within :: dg "is_age" s_is_age :: dg "is_delay" s_is_delay :: dg "is_losses" s_is_losses :: dg "is_name" s_is_name :: dg "_law_pen" s_pen :: dg "_law_draw" s_draw :: dg "_law_pick" s_pick :: dg "_law_made" s_made :: dg "_law_classes" s_classes :: dg "_law_is_error" s_is_error :: dg "_law_errors_right" s_errs :: dg "_law_kinds_right" s_kinds :: dg "law" s_law :: de "BadSpace" "__init__" "BadSpace.__init__" s_iBadSpace :: de "BadTick" "__init__" "BadTick.__init__" s_iBadTick :: de "BadPlan" "__init__" "BadPlan.__init__" s_iBadPlan :: de "BadRule" "__init__" "BadRule.__init__" s_iBadRule :: de "BadLosses" "__init__" "BadLosses.__init__" s_iBadLosses :: de "BadDelay" "__init__" "BadDelay.__init__" s_iBadDelay :: de "BadCount" "__init__" "BadCount.__init__" s_iBadCount :: de "BadStream" "__init__" "BadStream.__init__" s_iBadStream :: de "BadPacket" "__init__" "BadPacket.__init__" s_iBadPacket :: de "BadBench" "__init__" "BadBench.__init__" s_iBadBench :: de "BadCommand" "__init__" "BadCommand.__init__" s_iBadCommand :: de "BadName" "__init__" "BadName.__init__" s_iBadName :: de "NoName" "__init__" "NoName.__init__" s_iNoName :: de "NoPhase" "__init__" "NoPhase.__init__" s_iNoPhase :: de "BadText" "__init__" "BadText.__init__" s_iBadText :: de "TooMany" "__init__" "TooMany.__init__" s_iTooMany :: de "Nothing" "__init__" "Nothing.__init__" s_iNothing :: []
def faA : List He.Fa := .free "len" :: .free "isinstance" :: .free "int" :: .free "bool" :: .free "str" :: .free "abs" :: .free "list" :: .free "range" :: .free "repr" :: .free "ValueError" :: .int "MOST_AGE" 8 :: .int "MOST_DELAY" 8 :: .int "MOST_NAME" 8 :: .str "LETTERS" "abcdefghijklmnopqrstuvwxyz" :: .glo "RepairError" :: .glo "BadSpace" :: .glo "BadTick" :: .glo "BadPlan" :: .glo "BadRule" :: .glo "BadLosses" :: .glo "BadDelay" :: .glo "BadCount" :: .glo "BadStream" :: .glo "BadPacket" :: .glo "BadBench" :: .glo "BadCommand" :: .glo "BadName" :: .glo "NoName" :: .glo "NoPhase" :: .glo "BadText" :: .glo "TooMany" :: .glo "Nothing" :: .glo "is_integer" :: .glo "is_within" :: .glo "is_age" :: .glo "is_delay" :: .glo "is_losses" :: .glo "is_name" :: .glo "_law_pen" :: .glo "_law_draw" :: .glo "_law_pick" :: .glo "_law_made" :: .glo "_law_classes" :: .glo "_law_is_error" :: .glo "_law_errors_right" :: .glo "_law_kinds_right" :: .glo "law" :: []
abbrev Al : Type := He.AlD × Bool
def see (K : PySem.W.Frag) : Al := (He.obsD faA fn K, (tests K).all id)
def seen : Al := (He.valD fn, true)
def reach (g : Addr → Option Obj) : Nat → List Addr
  | 0 => [mainGlobals, cStatics, sysModules]
  | n + 1 => He.growD g (reach g n)
def look (g : Addr → Option Obj) : Al := see (He.frG g (reach g 6))
def hook : PySem.W.Hook where
  α := Al
  obs := fun s => look s.heap.get?
  val := fun _ => seen
  says := fun _ h => ∃ K : PySem.W.Frag, K.In h ∧ see K = seen
  of := fun _ _ e => ⟨_, He.frG_in, e⟩
  keeps := fun _ _ _ z k => z.elim fun K y => ⟨K, y.1.keeps k, y.2⟩
def ob (s : PySem.W.SharedT) : Al := look (HandSHeadRun.getT s)
theorem ob_eq (s : PySem.W.SharedT) : ob s = hook.obs s.abs := by
  have e : HandSHeadRun.getT s = s.abs.heap.get? := funext (HandSHeadRun.getT_eq s)
  unfold ob
  rw [e]
  rfl
abbrev R : PySem.W.OpenRow := PySem.W.OpenLaw.row PySem.Challenge.rw_laterepair_k01_errors_and_kinds_of_value
def names : List PySem.Str := "MOST_AGE" :: "MOST_DELAY" :: "MOST_NAME" :: "LETTERS" :: "is_integer" :: "is_within" :: "is_age" :: "is_delay" :: "is_losses" :: "is_name" :: "RepairError" :: "BadSpace" :: "BadTick" :: "BadPlan" :: "BadRule" :: "BadLosses" :: "BadDelay" :: "BadCount" :: "BadStream" :: "BadPacket" :: "BadBench" :: "BadText" :: "BadCommand" :: "BadName" :: "NoName" :: "NoPhase" :: "Nothing" :: "TooMany" :: "_law_pen" :: "_law_draw" :: "_law_pick" :: "_law_made" :: "_law_classes" :: "_law_is_error" :: "_law_errors_right" :: "_law_kinds_right" :: []
theorem run (w : World) : HandSHeadRun.RunEq R (PySem.W.view R.prog [39]) hook ob 20000 names w := by
  intro os
  kernel_rfl
end Hk

set_option Elab.async false
set_option linter.all false
set_option maxRecDepth 100000
set_option maxHeartbeats 0
namespace Hk
open PySem PySem.Spec PyProof.Rows L2 Lr Ow Og Oe Oh
section
variable {K : PySem.W.Frag} {x q : Str} {st : Stmt} {f : Addr} {fd : FuncData}
theorem toFun (F : FunD K x q (defArgs st) (defBody st) (defScope st) [] [] f fd) : L2.Fun K x q st f fd := by
  obtain ⟨oc, od, dV, kV, doc, pm, an, cdv, ct, osl, rfl, lk, hc, hD, _⟩ := F.ex
  rcases hD with ⟨_, e⟩ | ⟨e, _⟩
  · subst e
    exact ⟨⟨oc, od, kV, doc, pm, an, cdv, ct, osl, rfl, lk, hc⟩, F.kp⟩
  · exact absurd rfl e
theorem kw_of {ps ks : List Str} {g : List Value → List Value} (F : L2.Fun K x q st f fd) (h : ∀ (kV doc pm : Value) (an : Option Addr) (cdv ct u : Value) (ws : List Value), ws.length = ks.length → bindArgs (PySem.W.fnOf x q (defArgs st) (defBody st) (defScope st) .none kV doc pm an cdv ct) ⟨[u], ks.zip ws⟩ = pure (ps.zip (u :: g ws))) : KwIn K fd ps ks g := by
  obtain ⟨oc, od, kV, doc, pm, an, cdv, ct, osl, rfl, lk, hc⟩ := F.ex
  exact fun s u ws _ hl => .of_eq (h kV doc pm an cdv ct u ws hl)
theorem usek_of {ps ks : List Str} {g : {α : Type} → List α → List α} (F : L2.Fun K x q st f fd) (h : ∀ (kV doc pm : Value) (an : Option Addr) (cdv ct : Value) (ws : List Value), ws.length = ks.length → bindArgs (PySem.W.fnOf x q (defArgs st) (defBody st) (defScope st) .none kV doc pm an cdv ct) ⟨[], ks.zip ws⟩ = pure (ps.zip (g ws)))
    (hv : ∀ {vs : List V} {us : List Value}, Vals vs us → Vals (g vs) (g us)) : UseK K fd ps ks g := by
  obtain ⟨oc, od, kV, doc, pm, an, cdv, ct, osl, rfl, lk, hc⟩ := F.ex
  refine ⟨⟨fun s us ws _ h0 hl => ?_, fun _ r => hv r⟩⟩
  obtain rfl := List.eq_nil_of_length_eq_zero h0
  exact .of_eq (h kV doc pm an cdv ct ws hl)
end
theorem all_id {l : List Bool} (h : l.all id = true) {i : Nat} {b : Bool} (e : l[i]? = some b) : b = true := List.all_eq_true.mp h b (List.mem_of_getElem? e)
theorem none_ok {K : PySem.W.Frag} {T : Value} {nm : Str} (h : none_ K T nm = true) : PySem.W.findIn K T nm = some none := by
  unfold none_ at h
  split at h
  · assumption
  · cases h
structure ErrX (K : PySem.W.Frag) (C : Addr) (f : Str) : Prop where
  ox : OexC K C
  ec : L2.ExcC K C
  xf : XfC K C
  ic : PySem.W.findIn K (.ref C) "__init__" = some (some (.ref (He.ma K C "__init__")))
  ti : PySem.W.typeIn K (.ref (He.ma K C "__init__")) = some (.type "function")
  no : PySem.W.findIn K (.ref C) f = some none
theorem oexB_ok {K : PySem.W.Frag} {C : Addr} (h : oexB K C = true) : ∃ nm q N bs bm sn sub ab col dd k0 k1 k2 k3 k5, K.lookup C = some (excClassObj nm q C N bs bm true sn sub ab col dd k0 k1 k2 k3 k5 "ValueError.__new__") ∧ PySem.HandSPX.refsVE bm = true := by
  unfold oexB at h
  split at h
  · rename_i dd cd sl ho
    split at h
    · rename_i C' bm k0 k1 k2 k3 n k5 hm hs
      simp only [Bool.and_eq_true, beq_iff_eq, Bool.not_eq_true'] at h
      obtain ⟨rfl, hr, rfl, hd1, hd2⟩ := h
      obtain ⟨nm, bs, mro, ns, qn, hd, sn, sub, ab, col, del⟩ := cd
      dsimp only at hm hd1 hd2
      subst hm hd1 hd2
      have hsl : sl = #[k0, k1, k2, k3, some (.builtin "ValueError.__new__"), k5] := by
        obtain ⟨l⟩ := sl
        simp only at hs
        rw [hs]
      subst hsl
      exact ⟨nm, qn, ns, bs, bm, sn, sub, ab, col, dd, k0, k1, k2, k3, k5, ho, hr⟩
    · cases h
  · cases h
theorem errB_ok {K : PySem.W.Frag} {C : Addr} {f : Str} (h : errB K C f = true) : ErrX K C f := by
  obtain ⟨h1, h⟩ := He.ba h
  obtain ⟨h2, h⟩ := He.ba h
  obtain ⟨h3, h⟩ := He.ba h
  obtain ⟨h4, h⟩ := He.ba h
  obtain ⟨h5, h⟩ := He.ba h
  obtain ⟨h6, h⟩ := He.ba h
  obtain ⟨h7, h⟩ := He.ba h
  obtain ⟨h8, h⟩ := He.ba h
  obtain ⟨h9, h⟩ := He.ba h
  obtain ⟨h10, h⟩ := He.ba h
  obtain ⟨h11, h⟩ := He.ba h
  obtain ⟨h12, h13⟩ := He.ba h
  have xf := xfB_ok h6
  exact ⟨⟨oexB_ok h1, He.eqO_ok h2, of_decide_eq_true h3, of_decide_eq_true h4, h5⟩, ⟨xf.ga, xf.gg, of_decide_eq_true h3, xf.hdC, He.eqO_ok h7, He.eqO_ok h8, of_decide_eq_true h9, of_decide_eq_true h10⟩, xf, He.eqO_ok h11, of_decide_eq_true h12, none_ok h13⟩
theorem facts {P : Program} {w : World} {K : PySem.W.Frag} {h : Heap} {mg : Str → Option Value} {f : Addr} (X : K.In h) (G : h.Ns mainGlobals mg) (hfa : mg ("law" : Str) = some (.ref f)) (c : see K = seen) :
    ∃ fd : FuncData, (∀ (s : Shared) (v : Value), BindsTo s fd ⟨[v], []⟩ [("_law_script", v)]) ∧ ∀ base : Heap, K.In base → base.Ns mainGlobals mg → Og.FnG P w K mg base CX0 5 f fd ["_law_script"] (spLaw K) := by
  have cD : He.SaysD faA fn K := congrArg (fun z : Al => z.1) c
  have cT : (tests K).all id = true := congrArg (fun z : Al => z.2) c
  have t : ∀ i {b}, (tests K)[i]? = some b → b = true := fun i b e => all_id cT e
  obtain ⟨fd_is_integer, D_is_integer⟩ := cD.def_ 0 (d := dg "is_integer" s_is_integer) rfl
  have F_is_integer : L2.Fun K "is_integer" "is_integer" s_is_integer (He.ga K "is_integer") fd_is_integer := toFun D_is_integer
  have g_is_integer := He.glo_ok X G (cD.fact 32 (f := .glo "is_integer") rfl)
  have U_is_integer : Use K mg "is_integer" (He.ga K "is_integer") fd_is_integer ["value"] := ⟨g_is_integer, F_is_integer.kp, F_is_integer.binds fun _ _ _ _ _ _ us hl => match us, hl with | [_], _ => rfl⟩
  obtain ⟨fd_is_within, D_is_within⟩ := cD.def_ 1 (d := dg "is_within" s_is_within) rfl
  have F_is_within : L2.Fun K "is_within" "is_within" s_is_within (He.ga K "is_within") fd_is_within := toFun D_is_within
  have g_is_within := He.glo_ok X G (cD.fact 33 (f := .glo "is_within") rfl)
  have U_is_within : Use K mg "is_within" (He.ga K "is_within") fd_is_within ["value", "least", "most"] := ⟨g_is_within, F_is_within.kp, F_is_within.binds fun _ _ _ _ _ _ us hl => match us, hl with | [_, _, _], _ => rfl⟩
  obtain ⟨fd_is_age, D_is_age⟩ := cD.def_ 2 (d := dg "is_age" s_is_age) rfl
  have F_is_age : L2.Fun K "is_age" "is_age" s_is_age (He.ga K "is_age") fd_is_age := toFun D_is_age
  have g_is_age := He.glo_ok X G (cD.fact 34 (f := .glo "is_age") rfl)
  have U_is_age : Use K mg "is_age" (He.ga K "is_age") fd_is_age ["value"] := ⟨g_is_age, F_is_age.kp, F_is_age.binds fun _ _ _ _ _ _ us hl => match us, hl with | [_], _ => rfl⟩
  obtain ⟨fd_is_delay, D_is_delay⟩ := cD.def_ 3 (d := dg "is_delay" s_is_delay) rfl
  have F_is_delay : L2.Fun K "is_delay" "is_delay" s_is_delay (He.ga K "is_delay") fd_is_delay := toFun D_is_delay
  have g_is_delay := He.glo_ok X G (cD.fact 35 (f := .glo "is_delay") rfl)
  have U_is_delay : Use K mg "is_delay" (He.ga K "is_delay") fd_is_delay ["value"] := ⟨g_is_delay, F_is_delay.kp, F_is_delay.binds fun _ _ _ _ _ _ us hl => match us, hl with | [_], _ => rfl⟩
  obtain ⟨fd_is_losses, D_is_losses⟩ := cD.def_ 4 (d := dg "is_losses" s_is_losses) rfl
  have F_is_losses : L2.Fun K "is_losses" "is_losses" s_is_losses (He.ga K "is_losses") fd_is_losses := toFun D_is_losses
  have g_is_losses := He.glo_ok X G (cD.fact 36 (f := .glo "is_losses") rfl)
  have U_is_losses : Use K mg "is_losses" (He.ga K "is_losses") fd_is_losses ["value"] := ⟨g_is_losses, F_is_losses.kp, F_is_losses.binds fun _ _ _ _ _ _ us hl => match us, hl with | [_], _ => rfl⟩
  obtain ⟨fd_is_name, D_is_name⟩ := cD.def_ 5 (d := dg "is_name" s_is_name) rfl
  have F_is_name : L2.Fun K "is_name" "is_name" s_is_name (He.ga K "is_name") fd_is_name := toFun D_is_name
  have g_is_name := He.glo_ok X G (cD.fact 37 (f := .glo "is_name") rfl)
  have U_is_name : Use K mg "is_name" (He.ga K "is_name") fd_is_name ["value"] := ⟨g_is_name, F_is_name.kp, F_is_name.binds fun _ _ _ _ _ _ us hl => match us, hl with | [_], _ => rfl⟩
  obtain ⟨fd_pen, D_pen⟩ := cD.def_ 6 (d := dg "_law_pen" s_pen) rfl
  have F_pen : L2.Fun K "_law_pen" "_law_pen" s_pen (He.ga K "_law_pen") fd_pen := toFun D_pen
  have g_pen := He.glo_ok X G (cD.fact 38 (f := .glo "_law_pen") rfl)
  have U_pen : Use K mg "_law_pen" (He.ga K "_law_pen") fd_pen ["_law_script"] := ⟨g_pen, F_pen.kp, F_pen.binds fun _ _ _ _ _ _ us hl => match us, hl with | [_], _ => rfl⟩
  obtain ⟨fd_draw, D_draw⟩ := cD.def_ 7 (d := dg "_law_draw" s_draw) rfl
  have F_draw : L2.Fun K "_law_draw" "_law_draw" s_draw (He.ga K "_law_draw") fd_draw := toFun D_draw
  have g_draw := He.glo_ok X G (cD.fact 39 (f := .glo "_law_draw") rfl)
  have U_draw : Use K mg "_law_draw" (He.ga K "_law_draw") fd_draw ["_law_pen_here", "_law_many"] := ⟨g_draw, F_draw.kp, F_draw.binds fun _ _ _ _ _ _ us hl => match us, hl with | [_, _], _ => rfl⟩
  obtain ⟨fd_pick, D_pick⟩ := cD.def_ 8 (d := dg "_law_pick" s_pick) rfl
  have F_pick : L2.Fun K "_law_pick" "_law_pick" s_pick (He.ga K "_law_pick") fd_pick := toFun D_pick
  have g_pick := He.glo_ok X G (cD.fact 40 (f := .glo "_law_pick") rfl)
  have U_pick : Use K mg "_law_pick" (He.ga K "_law_pick") fd_pick ["_law_pen_here", "_law_some"] := ⟨g_pick, F_pick.kp, F_pick.binds fun _ _ _ _ _ _ us hl => match us, hl with | [_, _], _ => rfl⟩
  obtain ⟨fd_made, D_made⟩ := cD.def_ 9 (d := dg "_law_made" s_made) rfl
  have F_made : L2.Fun K "_law_made" "_law_made" s_made (He.ga K "_law_made") fd_made := toFun D_made
  have g_made := He.glo_ok X G (cD.fact 41 (f := .glo "_law_made") rfl)
  have U_made : Use K mg "_law_made" (He.ga K "_law_made") fd_made ["_law_value", "_law_more"] := ⟨g_made, F_made.kp, F_made.binds fun _ _ _ _ _ _ us hl => match us, hl with | [_, _], _ => rfl⟩
  obtain ⟨fd_classes, D_classes⟩ := cD.def_ 10 (d := dg "_law_classes" s_classes) rfl
  have F_classes : L2.Fun K "_law_classes" "_law_classes" s_classes (He.ga K "_law_classes") fd_classes := toFun D_classes
  have g_classes := He.glo_ok X G (cD.fact 42 (f := .glo "_law_classes") rfl)
  have U_classes : Use K mg "_law_classes" (He.ga K "_law_classes") fd_classes ["_law_error"] := ⟨g_classes, F_classes.kp, F_classes.binds fun _ _ _ _ _ _ us hl => match us, hl with | [_], _ => rfl⟩
  obtain ⟨fd_is_error, D_is_error⟩ := cD.def_ 11 (d := dg "_law_is_error" s_is_error) rfl
  have F_is_error : L2.Fun K "_law_is_error" "_law_is_error" s_is_error (He.ga K "_law_is_error") fd_is_error := toFun D_is_error
  have g_is_error := He.glo_ok X G (cD.fact 43 (f := .glo "_law_is_error") rfl)
  have U_is_error : Use K mg "_law_is_error" (He.ga K "_law_is_error") fd_is_error ["_law_error"] := ⟨g_is_error, F_is_error.kp, F_is_error.binds fun _ _ _ _ _ _ us hl => match us, hl with | [_], _ => rfl⟩
  obtain ⟨fd_errs, D_errs⟩ := cD.def_ 12 (d := dg "_law_errors_right" s_errs) rfl
  have F_errs : L2.Fun K "_law_errors_right" "_law_errors_right" s_errs (He.ga K "_law_errors_right") fd_errs := toFun D_errs
  have g_errs := He.glo_ok X G (cD.fact 44 (f := .glo "_law_errors_right") rfl)
  have U_errs : Use K mg "_law_errors_right" (He.ga K "_law_errors_right") fd_errs ["_law_pen_here"] := ⟨g_errs, F_errs.kp, F_errs.binds fun _ _ _ _ _ _ us hl => match us, hl with | [_], _ => rfl⟩
  obtain ⟨fd_kinds, D_kinds⟩ := cD.def_ 13 (d := dg "_law_kinds_right" s_kinds) rfl
  have F_kinds : L2.Fun K "_law_kinds_right" "_law_kinds_right" s_kinds (He.ga K "_law_kinds_right") fd_kinds := toFun D_kinds
  have g_kinds := He.glo_ok X G (cD.fact 45 (f := .glo "_law_kinds_right") rfl)
  have U_kinds : Use K mg "_law_kinds_right" (He.ga K "_law_kinds_right") fd_kinds ["_law_pen_here"] := ⟨g_kinds, F_kinds.kp, F_kinds.binds fun _ _ _ _ _ _ us hl => match us, hl with | [_], _ => rfl⟩
  obtain ⟨fd_law, D_law⟩ := cD.def_ 14 (d := dg "law" s_law) rfl
  have F_law : L2.Fun K "law" "law" s_law (He.ga K "law") fd_law := toFun D_law
  have g_law := He.glo_ok X G (cD.fact 46 (f := .glo "law") rfl)
  have K_is_integer : UseK K fd_is_integer ["value"] ["value"] id := usek_of F_is_integer (fun _ _ _ _ _ _ ws hl => match ws, hl with | [_], _ => rfl) fun r => r
  have K_is_age : UseK K fd_is_age ["value"] ["value"] id := usek_of F_is_age (fun _ _ _ _ _ _ ws hl => match ws, hl with | [_], _ => rfl) fun r => r
  have K_is_delay : UseK K fd_is_delay ["value"] ["value"] id := usek_of F_is_delay (fun _ _ _ _ _ _ ws hl => match ws, hl with | [_], _ => rfl) fun r => r
  have K_is_losses : UseK K fd_is_losses ["value"] ["value"] id := usek_of F_is_losses (fun _ _ _ _ _ _ ws hl => match ws, hl with | [_], _ => rfl) fun r => r
  have K_is_name : UseK K fd_is_name ["value"] ["value"] id := usek_of F_is_name (fun _ _ _ _ _ _ ws hl => match ws, hl with | [_], _ => rfl) fun r => r
  have K_is_within : UseK K fd_is_within ["value", "least", "most"] ["most", "least", "value"] List.reverse := usek_of F_is_within (fun _ _ _ _ _ _ ws hl => match ws, hl with | [_, _, _], _ => rfl) vals_rev
  obtain ⟨fd_iBadSpace, D_iBadSpace⟩ := cD.def_ 15 (d := de "BadSpace" "__init__" "BadSpace.__init__" s_iBadSpace) rfl
  have F_iBadSpace : L2.Fun K "__init__" "BadSpace.__init__" s_iBadSpace (He.ma K (Cs K 0) "__init__") fd_iBadSpace := toFun D_iBadSpace
  have b_iBadSpace : Binds K fd_iBadSpace ["self", "part"] [] := F_iBadSpace.binds fun _ _ _ _ _ _ us hl => match us, hl with | [_, _], _ => rfl
  have g_iBadSpace : mg "BadSpace" = some (.ref (Cs K 0)) := He.glo_ok X G (cD.fact 15 (f := .glo "BadSpace") rfl)
  have E_iBadSpace : ErrX K (Cs K 0) "part" := errB_ok (t 0 rfl)
  have k_iBadSpace : KwIn K fd_iBadSpace ["self", "part"] ["part"] id := kw_of F_iBadSpace fun _ _ _ _ _ _ _ ws hl => match ws, hl with | [_], _ => rfl
  obtain ⟨fd_iBadTick, D_iBadTick⟩ := cD.def_ 16 (d := de "BadTick" "__init__" "BadTick.__init__" s_iBadTick) rfl
  have F_iBadTick : L2.Fun K "__init__" "BadTick.__init__" s_iBadTick (He.ma K (Cs K 1) "__init__") fd_iBadTick := toFun D_iBadTick
  have b_iBadTick : Binds K fd_iBadTick ["self", "part"] [] := F_iBadTick.binds fun _ _ _ _ _ _ us hl => match us, hl with | [_, _], _ => rfl
  have g_iBadTick : mg "BadTick" = some (.ref (Cs K 1)) := He.glo_ok X G (cD.fact 16 (f := .glo "BadTick") rfl)
  have E_iBadTick : ErrX K (Cs K 1) "part" := errB_ok (t 1 rfl)
  have k_iBadTick : KwIn K fd_iBadTick ["self", "part"] ["part"] id := kw_of F_iBadTick fun _ _ _ _ _ _ _ ws hl => match ws, hl with | [_], _ => rfl
  obtain ⟨fd_iBadPlan, D_iBadPlan⟩ := cD.def_ 17 (d := de "BadPlan" "__init__" "BadPlan.__init__" s_iBadPlan) rfl
  have F_iBadPlan : L2.Fun K "__init__" "BadPlan.__init__" s_iBadPlan (He.ma K (Cs K 2) "__init__") fd_iBadPlan := toFun D_iBadPlan
  have b_iBadPlan : Binds K fd_iBadPlan ["self", "part"] [] := F_iBadPlan.binds fun _ _ _ _ _ _ us hl => match us, hl with | [_, _], _ => rfl
  have g_iBadPlan : mg "BadPlan" = some (.ref (Cs K 2)) := He.glo_ok X G (cD.fact 17 (f := .glo "BadPlan") rfl)
  have E_iBadPlan : ErrX K (Cs K 2) "part" := errB_ok (t 2 rfl)
  have k_iBadPlan : KwIn K fd_iBadPlan ["self", "part"] ["part"] id := kw_of F_iBadPlan fun _ _ _ _ _ _ _ ws hl => match ws, hl with | [_], _ => rfl
  obtain ⟨fd_iBadRule, D_iBadRule⟩ := cD.def_ 18 (d := de "BadRule" "__init__" "BadRule.__init__" s_iBadRule) rfl
  have F_iBadRule : L2.Fun K "__init__" "BadRule.__init__" s_iBadRule (He.ma K (Cs K 3) "__init__") fd_iBadRule := toFun D_iBadRule
  have b_iBadRule : Binds K fd_iBadRule ["self", "part"] [] := F_iBadRule.binds fun _ _ _ _ _ _ us hl => match us, hl with | [_, _], _ => rfl
  have g_iBadRule : mg "BadRule" = some (.ref (Cs K 3)) := He.glo_ok X G (cD.fact 18 (f := .glo "BadRule") rfl)
  have E_iBadRule : ErrX K (Cs K 3) "part" := errB_ok (t 3 rfl)
  have k_iBadRule : KwIn K fd_iBadRule ["self", "part"] ["part"] id := kw_of F_iBadRule fun _ _ _ _ _ _ _ ws hl => match ws, hl with | [_], _ => rfl
  obtain ⟨fd_iBadLosses, D_iBadLosses⟩ := cD.def_ 19 (d := de "BadLosses" "__init__" "BadLosses.__init__" s_iBadLosses) rfl
  have F_iBadLosses : L2.Fun K "__init__" "BadLosses.__init__" s_iBadLosses (He.ma K (Cs K 4) "__init__") fd_iBadLosses := toFun D_iBadLosses
  have b_iBadLosses : Binds K fd_iBadLosses ["self", "value"] [] := F_iBadLosses.binds fun _ _ _ _ _ _ us hl => match us, hl with | [_, _], _ => rfl
  have g_iBadLosses : mg "BadLosses" = some (.ref (Cs K 4)) := He.glo_ok X G (cD.fact 19 (f := .glo "BadLosses") rfl)
  have E_iBadLosses : ErrX K (Cs K 4) "value" := errB_ok (t 4 rfl)
  have k_iBadLosses : KwIn K fd_iBadLosses ["self", "value"] ["value"] id := kw_of F_iBadLosses fun _ _ _ _ _ _ _ ws hl => match ws, hl with | [_], _ => rfl
  obtain ⟨fd_iBadDelay, D_iBadDelay⟩ := cD.def_ 20 (d := de "BadDelay" "__init__" "BadDelay.__init__" s_iBadDelay) rfl
  have F_iBadDelay : L2.Fun K "__init__" "BadDelay.__init__" s_iBadDelay (He.ma K (Cs K 5) "__init__") fd_iBadDelay := toFun D_iBadDelay
  have b_iBadDelay : Binds K fd_iBadDelay ["self", "value"] [] := F_iBadDelay.binds fun _ _ _ _ _ _ us hl => match us, hl with | [_, _], _ => rfl
  have g_iBadDelay : mg "BadDelay" = some (.ref (Cs K 5)) := He.glo_ok X G (cD.fact 20 (f := .glo "BadDelay") rfl)
  have E_iBadDelay : ErrX K (Cs K 5) "value" := errB_ok (t 5 rfl)
  have k_iBadDelay : KwIn K fd_iBadDelay ["self", "value"] ["value"] id := kw_of F_iBadDelay fun _ _ _ _ _ _ _ ws hl => match ws, hl with | [_], _ => rfl
  obtain ⟨fd_iBadCount, D_iBadCount⟩ := cD.def_ 21 (d := de "BadCount" "__init__" "BadCount.__init__" s_iBadCount) rfl
  have F_iBadCount : L2.Fun K "__init__" "BadCount.__init__" s_iBadCount (He.ma K (Cs K 6) "__init__") fd_iBadCount := toFun D_iBadCount
  have b_iBadCount : Binds K fd_iBadCount ["self", "value"] [] := F_iBadCount.binds fun _ _ _ _ _ _ us hl => match us, hl with | [_, _], _ => rfl
  have g_iBadCount : mg "BadCount" = some (.ref (Cs K 6)) := He.glo_ok X G (cD.fact 21 (f := .glo "BadCount") rfl)
  have E_iBadCount : ErrX K (Cs K 6) "value" := errB_ok (t 6 rfl)
  have k_iBadCount : KwIn K fd_iBadCount ["self", "value"] ["value"] id := kw_of F_iBadCount fun _ _ _ _ _ _ _ ws hl => match ws, hl with | [_], _ => rfl
  obtain ⟨fd_iBadStream, D_iBadStream⟩ := cD.def_ 22 (d := de "BadStream" "__init__" "BadStream.__init__" s_iBadStream) rfl
  have F_iBadStream : L2.Fun K "__init__" "BadStream.__init__" s_iBadStream (He.ma K (Cs K 7) "__init__") fd_iBadStream := toFun D_iBadStream
  have b_iBadStream : Binds K fd_iBadStream ["self", "part"] [] := F_iBadStream.binds fun _ _ _ _ _ _ us hl => match us, hl with | [_, _], _ => rfl
  have g_iBadStream : mg "BadStream" = some (.ref (Cs K 7)) := He.glo_ok X G (cD.fact 22 (f := .glo "BadStream") rfl)
  have E_iBadStream : ErrX K (Cs K 7) "part" := errB_ok (t 7 rfl)
  have k_iBadStream : KwIn K fd_iBadStream ["self", "part"] ["part"] id := kw_of F_iBadStream fun _ _ _ _ _ _ _ ws hl => match ws, hl with | [_], _ => rfl
  obtain ⟨fd_iBadPacket, D_iBadPacket⟩ := cD.def_ 23 (d := de "BadPacket" "__init__" "BadPacket.__init__" s_iBadPacket) rfl
  have F_iBadPacket : L2.Fun K "__init__" "BadPacket.__init__" s_iBadPacket (He.ma K (Cs K 8) "__init__") fd_iBadPacket := toFun D_iBadPacket
  have b_iBadPacket : Binds K fd_iBadPacket ["self", "part"] [] := F_iBadPacket.binds fun _ _ _ _ _ _ us hl => match us, hl with | [_, _], _ => rfl
  have g_iBadPacket : mg "BadPacket" = some (.ref (Cs K 8)) := He.glo_ok X G (cD.fact 23 (f := .glo "BadPacket") rfl)
  have E_iBadPacket : ErrX K (Cs K 8) "part" := errB_ok (t 8 rfl)
  have k_iBadPacket : KwIn K fd_iBadPacket ["self", "part"] ["part"] id := kw_of F_iBadPacket fun _ _ _ _ _ _ _ ws hl => match ws, hl with | [_], _ => rfl
  obtain ⟨fd_iBadBench, D_iBadBench⟩ := cD.def_ 24 (d := de "BadBench" "__init__" "BadBench.__init__" s_iBadBench) rfl
  have F_iBadBench : L2.Fun K "__init__" "BadBench.__init__" s_iBadBench (He.ma K (Cs K 9) "__init__") fd_iBadBench := toFun D_iBadBench
  have b_iBadBench : Binds K fd_iBadBench ["self", "part"] [] := F_iBadBench.binds fun _ _ _ _ _ _ us hl => match us, hl with | [_, _], _ => rfl
  have g_iBadBench : mg "BadBench" = some (.ref (Cs K 9)) := He.glo_ok X G (cD.fact 24 (f := .glo "BadBench") rfl)
  have E_iBadBench : ErrX K (Cs K 9) "part" := errB_ok (t 9 rfl)
  have k_iBadBench : KwIn K fd_iBadBench ["self", "part"] ["part"] id := kw_of F_iBadBench fun _ _ _ _ _ _ _ ws hl => match ws, hl with | [_], _ => rfl
  obtain ⟨fd_iBadCommand, D_iBadCommand⟩ := cD.def_ 25 (d := de "BadCommand" "__init__" "BadCommand.__init__" s_iBadCommand) rfl
  have F_iBadCommand : L2.Fun K "__init__" "BadCommand.__init__" s_iBadCommand (He.ma K (Cs K 10) "__init__") fd_iBadCommand := toFun D_iBadCommand
  have b_iBadCommand : Binds K fd_iBadCommand ["self", "word"] [] := F_iBadCommand.binds fun _ _ _ _ _ _ us hl => match us, hl with | [_, _], _ => rfl
  have g_iBadCommand : mg "BadCommand" = some (.ref (Cs K 10)) := He.glo_ok X G (cD.fact 25 (f := .glo "BadCommand") rfl)
  have E_iBadCommand : ErrX K (Cs K 10) "word" := errB_ok (t 10 rfl)
  have k_iBadCommand : KwIn K fd_iBadCommand ["self", "word"] ["word"] id := kw_of F_iBadCommand fun _ _ _ _ _ _ _ ws hl => match ws, hl with | [_], _ => rfl
  obtain ⟨fd_iBadName, D_iBadName⟩ := cD.def_ 26 (d := de "BadName" "__init__" "BadName.__init__" s_iBadName) rfl
  have F_iBadName : L2.Fun K "__init__" "BadName.__init__" s_iBadName (He.ma K (Cs K 11) "__init__") fd_iBadName := toFun D_iBadName
  have b_iBadName : Binds K fd_iBadName ["self", "value"] [] := F_iBadName.binds fun _ _ _ _ _ _ us hl => match us, hl with | [_, _], _ => rfl
  have g_iBadName : mg "BadName" = some (.ref (Cs K 11)) := He.glo_ok X G (cD.fact 26 (f := .glo "BadName") rfl)
  have E_iBadName : ErrX K (Cs K 11) "value" := errB_ok (t 11 rfl)
  have k_iBadName : KwIn K fd_iBadName ["self", "value"] ["value"] id := kw_of F_iBadName fun _ _ _ _ _ _ _ ws hl => match ws, hl with | [_], _ => rfl
  obtain ⟨fd_iNoName, D_iNoName⟩ := cD.def_ 27 (d := de "NoName" "__init__" "NoName.__init__" s_iNoName) rfl
  have F_iNoName : L2.Fun K "__init__" "NoName.__init__" s_iNoName (He.ma K (Cs K 12) "__init__") fd_iNoName := toFun D_iNoName
  have b_iNoName : Binds K fd_iNoName ["self", "name"] [] := F_iNoName.binds fun _ _ _ _ _ _ us hl => match us, hl with | [_, _], _ => rfl
  have g_iNoName : mg "NoName" = some (.ref (Cs K 12)) := He.glo_ok X G (cD.fact 27 (f := .glo "NoName") rfl)
  have E_iNoName : ErrX K (Cs K 12) "name" := errB_ok (t 12 rfl)
  have k_iNoName : KwIn K fd_iNoName ["self", "name"] ["name"] id := kw_of F_iNoName fun _ _ _ _ _ _ _ ws hl => match ws, hl with | [_], _ => rfl
  obtain ⟨fd_iNoPhase, D_iNoPhase⟩ := cD.def_ 28 (d := de "NoPhase" "__init__" "NoPhase.__init__" s_iNoPhase) rfl
  have F_iNoPhase : L2.Fun K "__init__" "NoPhase.__init__" s_iNoPhase (He.ma K (Cs K 13) "__init__") fd_iNoPhase := toFun D_iNoPhase
  have b_iNoPhase : Binds K fd_iNoPhase ["self", "at"] [] := F_iNoPhase.binds fun _ _ _ _ _ _ us hl => match us, hl with | [_, _], _ => rfl
  have g_iNoPhase : mg "NoPhase" = some (.ref (Cs K 13)) := He.glo_ok X G (cD.fact 28 (f := .glo "NoPhase") rfl)
  have E_iNoPhase : ErrX K (Cs K 13) "at" := errB_ok (t 13 rfl)
  have k_iNoPhase : KwIn K fd_iNoPhase ["self", "at"] ["at"] id := kw_of F_iNoPhase fun _ _ _ _ _ _ _ ws hl => match ws, hl with | [_], _ => rfl
  obtain ⟨fd_iBadText, D_iBadText⟩ := cD.def_ 29 (d := de "BadText" "__init__" "BadText.__init__" s_iBadText) rfl
  have F_iBadText : L2.Fun K "__init__" "BadText.__init__" s_iBadText (He.ma K (Cs K 14) "__init__") fd_iBadText := toFun D_iBadText
  have b_iBadText : Binds K fd_iBadText ["self", "line", "word"] [] := F_iBadText.binds fun _ _ _ _ _ _ us hl => match us, hl with | [_, _, _], _ => rfl
  have g_iBadText : mg "BadText" = some (.ref (Cs K 14)) := He.glo_ok X G (cD.fact 29 (f := .glo "BadText") rfl)
  have E_iBadText : ErrX K (Cs K 14) "line" := errB_ok (t 14 rfl)
  have k_iBadText : KwIn K fd_iBadText ["self", "line", "word"] ["word", "line"] List.reverse := kw_of F_iBadText fun _ _ _ _ _ _ _ ws hl => match ws, hl with | [_, _], _ => rfl
  obtain ⟨fd_iTooMany, D_iTooMany⟩ := cD.def_ 30 (d := de "TooMany" "__init__" "TooMany.__init__" s_iTooMany) rfl
  have F_iTooMany : L2.Fun K "__init__" "TooMany.__init__" s_iTooMany (He.ma K (Cs K 15) "__init__") fd_iTooMany := toFun D_iTooMany
  have b_iTooMany : Binds K fd_iTooMany ["self", "what", "most"] [] := F_iTooMany.binds fun _ _ _ _ _ _ us hl => match us, hl with | [_, _, _], _ => rfl
  have g_iTooMany : mg "TooMany" = some (.ref (Cs K 15)) := He.glo_ok X G (cD.fact 30 (f := .glo "TooMany") rfl)
  have E_iTooMany : ErrX K (Cs K 15) "what" := errB_ok (t 16 rfl)
  have k_iTooMany : KwIn K fd_iTooMany ["self", "what", "most"] ["most", "what"] List.reverse := kw_of F_iTooMany fun _ _ _ _ _ _ _ ws hl => match ws, hl with | [_, _], _ => rfl
  obtain ⟨fd_iNothing, D_iNothing⟩ := cD.def_ 31 (d := de "Nothing" "__init__" "Nothing.__init__" s_iNothing) rfl
  have F_iNothing : L2.Fun K "__init__" "Nothing.__init__" s_iNothing (He.ma K (Cs K 16) "__init__") fd_iNothing := toFun D_iNothing
  have b_iNothing : Binds K fd_iNothing ["self"] [] := F_iNothing.binds fun _ _ _ _ _ _ us hl => match us, hl with | [_], _ => rfl
  have g_iNothing : mg "Nothing" = some (.ref (Cs K 16)) := He.glo_ok X G (cD.fact 31 (f := .glo "Nothing") rfl)
  have E_iNothing : ErrX K (Cs K 16) "part" := errB_ok (t 18 rfl)
  have gR := He.glo_ok X G (cD.fact 14 (f := .glo "RepairError") rfl)
  have fr_len := He.free_ok X G (cD.fact 0 (f := .free "len") rfl)
  have fr_isinstance := He.free_ok X G (cD.fact 1 (f := .free "isinstance") rfl)
  have fr_int := He.free_ok X G (cD.fact 2 (f := .free "int") rfl)
  have fr_bool := He.free_ok X G (cD.fact 3 (f := .free "bool") rfl)
  have fr_str := He.free_ok X G (cD.fact 4 (f := .free "str") rfl)
  have fr_abs := He.free_ok X G (cD.fact 5 (f := .free "abs") rfl)
  have fr_list := He.free_ok X G (cD.fact 6 (f := .free "list") rfl)
  have fr_range := He.free_ok X G (cD.fact 7 (f := .free "range") rfl)
  have fr_repr := He.free_ok X G (cD.fact 8 (f := .free "repr") rfl)
  have fr_ValueError := He.free_ok X G (cD.fact 9 (f := .free "ValueError") rfl)
  have T : Nm mg := ⟨fr_len, fr_isinstance, fr_int, fr_bool, fr_str, fr_abs, fr_list, fr_range, fr_repr, fr_ValueError, He.int_ok X G (cD.fact 10 (f := .int "MOST_AGE" 8) rfl), He.int_ok X G (cD.fact 11 (f := .int "MOST_DELAY" 8) rfl), He.int_ok X G (cD.fact 12 (f := .int "MOST_NAME" 8) rfl), He.str_ok X G (cD.fact 13 (f := .str "LETTERS" "abcdefghijklmnopqrstuvwxyz") rfl)⟩
  have kit : ∀ i < 17, ∀ j < 17, PySem.W.kitOne K (.ref (Cs K i)) (.ref (Cs K j)) = some (decide (i = j)) := fun i hi j hj =>
    of_decide_eq_true (List.all_eq_true.mp (List.all_eq_true.mp (t 19 (b := (List.range 17).all fun i => (List.range 17).all fun j => decide (PySem.W.kitOne K (.ref (Cs K i)) (.ref (Cs K j)) = some (decide (i = j)))) rfl) i (List.mem_range.mpr hi)) j (List.mem_range.mpr hj))
  have kR : ∀ i < 17, PySem.W.kitOne K (.ref (Cs K i)) (.ref (He.ga K "RepairError")) = some true := fun i hi =>
    of_decide_eq_true (List.all_eq_true.mp (t 20 (b := (List.range 17).all fun i => decide (PySem.W.kitOne K (.ref (Cs K i)) (.ref (He.ga K "RepairError")) = some true)) rfl) i (List.mem_range.mpr hi))
  have kV : ∀ i < 17, PySem.W.kitOne K (.ref (Cs K i)) (.type "ValueError") = some true := fun i hi =>
    of_decide_eq_true (List.all_eq_true.mp (t 21 (b := (List.range 17).all fun i => decide (PySem.W.kitOne K (.ref (Cs K i)) (.type "ValueError") = some true)) rfl) i (List.mem_range.mpr hi))
  have ec : ∀ i < 17, L2.ExcC K (Cs K i) := fun i hi => match i, hi with
    | 0, _ => E_iBadSpace.ec
    | 1, _ => E_iBadTick.ec
    | 2, _ => E_iBadPlan.ec
    | 3, _ => E_iBadRule.ec
    | 4, _ => E_iBadLosses.ec
    | 5, _ => E_iBadDelay.ec
    | 6, _ => E_iBadCount.ec
    | 7, _ => E_iBadStream.ec
    | 8, _ => E_iBadPacket.ec
    | 9, _ => E_iBadBench.ec
    | 10, _ => E_iBadCommand.ec
    | 11, _ => E_iBadName.ec
    | 12, _ => E_iNoName.ec
    | 13, _ => E_iNoPhase.ec
    | 14, _ => E_iBadText.ec
    | 15, _ => E_iTooMany.ec
    | 16, _ => E_iNothing.ec
    | n + 17, hi => absurd hi (by omega)
  have hS : (K.lookup sysModules).isSome = true := t 22 rfl
  have e := hfa.symm.trans g_law
  cases e
  refine ⟨fd_law, fun s v => ?_, fun base _ _ => ?_⟩
  · obtain ⟨oc, od, kV, doc, pm, an, cdv, ct, osl, rfl, lk, hc⟩ := F_law.ex
    exact .of_eq rfl
  · have R : Ers P w K mg base (Cs K) (He.ga K "RepairError") := ⟨⟨_, fd_iBadSpace, ⟨E_iBadSpace.ox, E_iBadSpace.ic, E_iBadSpace.ti, g_iBadSpace, ok_iBadSpace F_iBadSpace, b_iBadSpace, E_iBadSpace.xf⟩, k_iBadSpace, E_iBadSpace.no⟩,
      ⟨_, fd_iBadTick, ⟨E_iBadTick.ox, E_iBadTick.ic, E_iBadTick.ti, g_iBadTick, ok_iBadTick F_iBadTick, b_iBadTick, E_iBadTick.xf⟩, k_iBadTick, E_iBadTick.no⟩,
      ⟨_, fd_iBadPlan, ⟨E_iBadPlan.ox, E_iBadPlan.ic, E_iBadPlan.ti, g_iBadPlan, ok_iBadPlan F_iBadPlan, b_iBadPlan, E_iBadPlan.xf⟩, k_iBadPlan, E_iBadPlan.no⟩,
      ⟨_, fd_iBadRule, ⟨E_iBadRule.ox, E_iBadRule.ic, E_iBadRule.ti, g_iBadRule, ok_iBadRule F_iBadRule, b_iBadRule, E_iBadRule.xf⟩, k_iBadRule, E_iBadRule.no⟩,
      ⟨_, fd_iBadLosses, ⟨E_iBadLosses.ox, E_iBadLosses.ic, E_iBadLosses.ti, g_iBadLosses, ok_iBadLosses F_iBadLosses, b_iBadLosses, E_iBadLosses.xf⟩, k_iBadLosses, E_iBadLosses.no⟩,
      ⟨_, fd_iBadDelay, ⟨E_iBadDelay.ox, E_iBadDelay.ic, E_iBadDelay.ti, g_iBadDelay, ok_iBadDelay F_iBadDelay, b_iBadDelay, E_iBadDelay.xf⟩, k_iBadDelay, E_iBadDelay.no⟩,
      ⟨_, fd_iBadCount, ⟨E_iBadCount.ox, E_iBadCount.ic, E_iBadCount.ti, g_iBadCount, ok_iBadCount F_iBadCount, b_iBadCount, E_iBadCount.xf⟩, k_iBadCount, E_iBadCount.no⟩,
      ⟨_, fd_iBadStream, ⟨E_iBadStream.ox, E_iBadStream.ic, E_iBadStream.ti, g_iBadStream, ok_iBadStream F_iBadStream, b_iBadStream, E_iBadStream.xf⟩, k_iBadStream, E_iBadStream.no⟩,
      ⟨_, fd_iBadPacket, ⟨E_iBadPacket.ox, E_iBadPacket.ic, E_iBadPacket.ti, g_iBadPacket, ok_iBadPacket F_iBadPacket, b_iBadPacket, E_iBadPacket.xf⟩, k_iBadPacket, E_iBadPacket.no⟩,
      ⟨_, fd_iBadBench, ⟨E_iBadBench.ox, E_iBadBench.ic, E_iBadBench.ti, g_iBadBench, ok_iBadBench F_iBadBench, b_iBadBench, E_iBadBench.xf⟩, k_iBadBench, E_iBadBench.no⟩,
      ⟨_, fd_iBadCommand, ⟨E_iBadCommand.ox, E_iBadCommand.ic, E_iBadCommand.ti, g_iBadCommand, ok_iBadCommand F_iBadCommand, b_iBadCommand, E_iBadCommand.xf⟩, k_iBadCommand, E_iBadCommand.no⟩,
      ⟨_, fd_iBadName, ⟨E_iBadName.ox, E_iBadName.ic, E_iBadName.ti, g_iBadName, ok_iBadName F_iBadName, b_iBadName, E_iBadName.xf⟩, k_iBadName, E_iBadName.no⟩,
      ⟨_, fd_iNoName, ⟨E_iNoName.ox, E_iNoName.ic, E_iNoName.ti, g_iNoName, ok_iNoName F_iNoName, b_iNoName, E_iNoName.xf⟩, k_iNoName, E_iNoName.no⟩,
      ⟨_, fd_iNoPhase, ⟨E_iNoPhase.ox, E_iNoPhase.ic, E_iNoPhase.ti, g_iNoPhase, ok_iNoPhase F_iNoPhase, b_iNoPhase, E_iNoPhase.xf⟩, k_iNoPhase, E_iNoPhase.no⟩,
      ⟨_, fd_iBadText, ⟨E_iBadText.ox, E_iBadText.ic, E_iBadText.ti, g_iBadText, ok_iBadText F_iBadText, b_iBadText, E_iBadText.xf⟩, k_iBadText, E_iBadText.no, none_ok (t 15 rfl)⟩,
      ⟨_, fd_iTooMany, ⟨E_iTooMany.ox, E_iTooMany.ic, E_iTooMany.ti, g_iTooMany, ok_iTooMany F_iTooMany, b_iTooMany, E_iTooMany.xf⟩, k_iTooMany, E_iTooMany.no, none_ok (t 17 rfl)⟩,
      ⟨_, fd_iNothing, ⟨E_iNothing.ox, E_iNothing.ic, E_iNothing.ti, g_iNothing, ok_iNothing F_iNothing, b_iNothing, E_iNothing.xf⟩⟩,
      kit, kR, kV, ec, gR⟩
    have GD : FnOk P w K mg base CX0 1 (He.ga K "_law_draw") fd_draw ["_law_pen_here", "_law_many"] spDraw := ok_draw F_draw T
    have GP : FnOk P w K mg base CX0 2 (He.ga K "_law_pick") fd_pick ["_law_pen_here", "_law_some"] spPickV := ok_pickV F_pick F_draw U_draw.b U_draw.g T
    have GE : Og.FnG P w K mg base CX0 4 (He.ga K "_law_errors_right") fd_errs ["_law_pen_here"] spTurn := ok_errs F_errs GP U_pick (ok_made F_made R) U_made (ok_classes F_classes R T) U_classes (ok_isE F_is_error R T) U_is_error R hS T
    have GY : FnOk P w K mg base CX0 4 (He.ga K "_law_kinds_right") fd_kinds ["_law_pen_here"] spTurn := ok_kinds F_kinds GP U_pick GD U_draw (ok_isIntV F_is_integer T) U_is_integer K_is_integer (ok_withinV F_is_within F_is_integer U_is_integer.b U_is_integer.g T) U_is_within K_is_within
      (ok_ageV F_is_age F_is_within U_is_within F_is_integer U_is_integer T) U_is_age K_is_age (ok_delayV F_is_delay F_is_within U_is_within F_is_integer U_is_integer T) U_is_delay K_is_delay (ok_lossV F_is_losses T) U_is_losses K_is_losses (ok_nameV F_is_name T) U_is_name K_is_name T
    exact ok_law F_law (ok_pen F_pen T) U_pen GE U_errs GY U_kinds T
end Hk
open PySem PySem.W PySem.Calls PyProof.Rows
theorem PySem.Challenge.cw_laterepair_k01_errors_and_kinds_of_value_holds : PySem.Challenge.rw_laterepair_k01_errors_and_kinds_of_value.Holds := by
  w_on; o_law
  refine HandSHeadRun.head_any (r := Hk.R) (q := view Hk.R.prog [39]) (H := Hk.hook) (ob := Hk.ob) (M := 20000) (loose := Hk.names) (d := HandSHeadRun.topDef Hk.R.prog 39) (kwd := []) Hk.ob_eq
    (by kernel_rfl) (fun s => by kernel_rfl) Hk.run (by kernel_rfl) (by kernel_rfl) (by kernel_rfl) (by rfl) (by first | assumption | decide +kernel) (by decide +kernel) ⟨rfl, rfl, rfl, rfl, rfl, by decide +kernel⟩ ?hw ?hc
  case hw => w_witness2
  case hc =>
    refine Og.walk_end (l := PySem.Challenge.rw_laterepair_k01_errors_and_kinds_of_value) (n := 63) (k := 5) (x := "_law_script") (CX := L2.CX0) rfl (by decide) (by kernel_rfl) ⟨rfl, by decide, by decide⟩ ?F (fun _ _ _ _ z => z)
    intro w mg fa h Y G hmg0
    obtain ⟨K, KX, c⟩ := Y
    have hmg : mg ("law" : PySem.Str) = some (.ref fa) := by
      have e : (HandSHeadRun.topDef Hk.R.prog 39).name = ("law" : PySem.Str) := by kernel_rfl
      rw [← e]
      exact hmg0
    obtain ⟨fd, hb, hF⟩ := Hk.facts (P := (PySem.Challenge.rw_laterepair_k01_errors_and_kinds_of_value).prog) (w := w) KX G hmg c
    exact ⟨K, fd, Lr.spLaw K, KX, hb, fun H a ns hl _ hS => ⟨a, ns, rfl, hS, hl, fun _ => rfl⟩, hF⟩
#print axioms PySem.Challenge.cw_laterepair_k01_errors_and_kinds_of_value_holds

