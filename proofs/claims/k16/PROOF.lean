import PyProof.Rows.All
import Wide.All
import OpenK.AllK
import Wide.FinOn
import HandS.ForMost
import HandS.Star
import HandS.SlotsOwn
import HandS.MakeKwOnly
import HandS.ClsMeth
import HandS.Property
import PyProof.InstEq
import HandS.IterVal
import PyProof.ReprRoads
import KE.DatumIndex
import HandS.Lambda
import HandS.ExcOwn
import HandS.ExcField
import HandS.ExcIs
import HandS.ExcInit
import HandS.ExcValue
import KE.KExcIs
import HandS.IsInst
import HandS.SortInts
import HandS.WideBits
import HandS.Conv
import HandS.Style
import HandS.Small
import HandS.Deep
import HandS.Walk
import HandS.WordsExc
import HandS.TupAny
import HandS.TupMul
import HandS.TupLe
import HandS.Iter
import KE.GoesMore
import PyProof.P3In
import HandS.Defaults
import KE.KOpsOwn
import PyProof.ZipIter
import PyProof.MeetsIn
import HandS.Zip0
import HandS.Zip
import HandS.Gcd
import HandS.Text
import HandS.Codes
import HandS.EndTab
import HandS.EndOwn
import HandS.HeadHook1
import HandS.NoneIn
import HandS.SortKw
import KE.DataMinMax
import OpenK.KEqL
import HandS.RaiseMore
import KE.KStar
import HandS.FStr
import HandS.StrMore
import KE.KCallOwn
import KE.KEqNest
import PyProof.NeKinds
import PySem.Challenge.RW_laterepair_k16_copies_and_parities
import HandS.Words
import HandS.WordsList
import KE.KStateDown
import Lean
import HandS.Head0
import HandS.Head1
import HandS.Head2
import HandS.HeadEnd
import HandS.HeadHook2
import HandS.Head3
set_option Elab.async false
set_option linter.all false
set_option maxRecDepth 100000
set_option maxHeartbeats 4000000
/-! Operators of an own class, methods called by name, static methods, instances made of starred arguments: readings over the hand layer. -/
namespace Ow
open PySem PySem.Spec PyProof.Rows L2
theorem pe_imp {X : Cx} {e : Expr} {t t' : TE} (he : PE X e t) (h : ∀ σ H Q, t' σ H Q → t σ H Q) : PE X e t' := ⟨fun pins s σ H Q I q => he.run pins s σ H Q I (h σ H Q q)⟩
section
variable {X : Cx} {CX : CXT} {pins : List (Addr × Obj)} {σ : L2.St} {H : Hp} {s : Shared} {a C g : Addr} {n : Nat} {sp : Sp} {E : XK}
/-- x op y, both instances of the class at C whose def for op is at g -/
def rBinO (C : Addr) (sp : Sp) (E : XK) : R2 := fun x y H Q => ∃ a dx fs b dy gs, x = .ref a ∧ y = .ref b ∧ H a = some (.ins C dx fs) ∧ H b = some (.ins C dy gs) ∧ sp [x, y] H Q E
theorem op_binO {op : Operator} (hc : PySem.W.selfFirst X.K C = true) (hs : PySem.W.findIn X.K (.ref C) (PySem.dunder op.info.2) = some (some (.ref g))) (hf : PySem.W.isFn X.K (.ref g) = true) (F : FnR X.prog X.w X.K X.mg X.base CX n g sp)
    (hr : Room n X.A) (hx : Passes CX X E) : OpR X (binaryOp op) (rBinO C sp E) := by
  intro pins s σ H x y v u Q I rx ry h
  obtain ⟨a, dx, fs, b, dy, gs, rfl, rfl, ha, hb, q⟩ := h
  cases (show v = Value.ref a from rx)
  cases (show u = Value.ref b from ry)
  obtain ⟨ox, od, J, _⟩ := StX.insC_at (X := X) I (.inr ⟨dx, fs, ha⟩)
  obtain ⟨ox', od', J', _⟩ := StX.insC_at (X := X) I (.inr ⟨dy, gs, hb⟩)
  obtain ⟨m, hF⟩ := I.fr
  refine PySem.W.binop_K (op := op) hF I.ok.mod.kin J J'.type hc hs hf ?_
  refine wpAny_mono (wpAny_call (run_fnR (us := [.ref a, .ref b]) (vs := [.ref a, .ref b]) F hr hx I (.cons rfl (.cons rfl .nil)) q)) (fun w s' z => ?_) fun _ _ x => x
  obtain ⟨z', H', I', rz, qz⟩ := z
  exact SlX.cmpback rz ⟨z', H', I', rz, qz⟩
/-! ### o.m(k = v, ..) -/
def tMethK (C : Addr) (m : Str) (nk : Nat) (sp : Sp) (E : XK) (ta : TE) (tk : TA) : TE := fun σ H Q => ta σ H fun x H1 => ∃ a dx fs, x = .ref a ∧ H1 a = some (.ins C dx fs) ∧ fs.lookup m = none ∧ tk σ H1 fun zs H2 => zs.length = nk ∧ sp (x :: zs) H2 Q E
/-- binds: the instance by position, the rest by name in the def's order -/
def KB1 (K : PySem.W.Frag) (fd : FuncData) (ps ks : List Str) : Prop := ∀ (s : Shared) (u : Value) (ws : List Value), K.In s.heap → ws.length = ks.length → BindsTo s fd ⟨[u], ks.zip ws⟩ (ps.zip (u :: ws))
theorem pe_methK {fd : FuncData} {ps ks : List Str} {m : Str} {k : Nat} {pl : Sem Bool} {o : Expr} {kws : List Keyword} {ta : TE} {tk : TA} {apos pos : Pos} (he : PE X o ta) (c : Cls X.K C) (hm : Meth X.K C m g) (F : FnOk X.prog X.w X.K X.mg X.base CX k g fd ps sp) (hr : Room k X.A) (hb : KB1 X.K fd ps ks) (hx : Passes CX X E)
    (hkw : PK X kws tk) (hall : (backToKw pos (keywordEach kws X.env)).all (·.1.isSome) = true := by rfl) (hks : (backToKw pos (keywordEach kws X.env)).filterMap (·.1) = ks := by rfl)
    (hpl : ((backTo pos (starEach [] X.env)).any (·.1) || (backToKw pos (keywordEach kws X.env)).any (·.1.isNone)) = false := by rfl)
    (ht : eval (.Call (.Attribute o m apos) [] kws pos) X.env = (do
      let ov ← eval o X.env
      standAt apos.atName
      let (f, first) ← holding [ov] (getMethod ov m pl)
      callWith pos f first (backTo pos (starEach [] X.env)) (backToKw pos (keywordEach kws X.env))) := by rfl) :
    PE X (.Call (.Attribute o m apos) [] kws pos) (tMethK C m ks.length sp E ta tk) := by
  refine ⟨fun pins s σ H Q I h => ?_⟩
  refine PySem.W.methodCall_KW (pl := pl) (thn (he.run pins s σ H _ I h) fun u s1 ⟨x, H1, I1, rx, a, dx, fs, ex, ea, l, q⟩ => ?_) ht
  subst ex
  obtain rfl : u = Value.ref a := rx
  refine getmeth_ok I1 ea c hm l ?_
  refine PySem.W.callWith_KW0 (first := [.ref a]) (h₀ := X.base) I.ok.mod.kin hm.kp hall ?_ hpl
  refine thn (hkw.run pos pins s1 σ H1 _ I1 q) fun ws s2 ⟨zs, H2, I2, rz, hl, q2⟩ => ⟨I2.kIn, ?_⟩
  rw [hks]
  have hlw : ws.length = ks.length := by rw [← rz.length]; exact hl
  have r2 : Vals (V.ref a :: zs) (Value.ref a :: ws) := .cons rfl rz
  refine wpAny_call (codeAny_mono (F.run X.A X.stack s2 H2 ⟨[Value.ref a], ks.zip ws⟩ (Value.ref a :: ws) (V.ref a :: zs) Q E hr I2.env0 (hb s2 (.ref a) ws I2.kIn hlw) r2 q2) fun r s' hq => ?_)
  cases r with
  | error e => exact hx pins σ H2 s2 e s' I2 hq
  | ok fl =>
    cases fl with
    | ret u => exact I2.after hq
    | next => exact False.elim hq
    | brk => exact False.elim hq
    | cont => exact False.elim hq
/-! ### C.m(e), m a static method -/
structure SMet (K : PySem.W.Frag) (C : Addr) (mc : Value) (m : Str) (p g : Addr) : Prop where
  at_ : PySem.W.findCls K (.ref C) mc m = some (.get (.builtin "staticmethod.__get__") (.ref p) .none (.ref C))
  rc : ∃ rest, PySem.W.recIn K p "staticmethod" = some (.ref g :: rest)
  kp : PySem.W.keepIn K (.ref g) = true
def tSMeth (C : Addr) (sp : Sp) (E : XK) (ta : TE) (t : TA) : TE := fun σ H Q => ta σ H fun x H1 => x = .ref C ∧ t σ H1 fun vs H2 => sp vs H2 Q E
theorem pe_smeth {m : Str} {k : Nat} {mc : Value} {p : Addr} {pl : Sem Bool} {o e : Expr} {es : List Expr} {ta : TE} {t : TA} {apos pos : Pos} (he : PE X o ta) (r : ClX.CRead X.K C mc) (c : SMet X.K C mc m p g) (F : FnR X.prog X.w X.K X.mg X.base CX k g sp) (hr : Room k X.A) (hx : Passes CX X E) (ha : PA X (e :: es) t)
    (hst : starEach (e :: es) X.env = (false, eval e X.env) :: starEach es X.env := by rfl) (hpl : (backTo pos (starEach es X.env)).any (·.1) = false := by rfl)
    (ht : eval (.Call (.Attribute o m apos) (e :: es) [] pos) X.env = (do
      let ov ← eval o X.env
      standAt apos.atName
      let (f, first) ← holding [ov] (getMethod ov m pl)
      callWith pos f first (backTo pos (starEach (e :: es) X.env)) (backToKw pos (keywordEach [] X.env))) := by rfl) :
    PE X (.Call (.Attribute o m apos) (e :: es) [] pos) (tSMeth C sp E ta t) := by
  refine ⟨fun pins s σ H Q I h => ?_⟩
  refine PySem.W.methodCall_KW (pl := pl) (thn (he.run pins s σ H _ I h) fun u s1 ⟨x, H1, I1, rx, ex, q⟩ => ?_) ht
  subst ex
  obtain rfl : u = Value.ref C := rx
  obtain ⟨rest, hp⟩ := c.rc
  refine PySem.W.method_cls I1.kIn r.ga (PySem.W.cls_bind I1.kIn r.rd c.at_ (wpAny_call (PySem.W.sm_get (s := { s1 with toks := s1.toks + 1 }) I1.kIn hp (PySem.W.handed_on rfl ?_))))
  have I2 : Inv X pins σ H1 { s1 with toks := s1.toks + 1 } := I1.tok _
  refine PySem.W.callWith_K (first := []) (h₀ := X.base) I.ok.mod.kin c.kp (thn (ha.run pos pins _ σ H1 _ I2 q) fun us s3 ⟨vs, H3, I3, rv, q3⟩ => ⟨I3.kIn, ?_⟩) hst hpl
  exact wpAny_call (run_fnR (us := us) (vs := vs) F hr hx I3 rv q3)
end
/-! ### instances made: of no arguments, of a starred one -/
section
variable {X : Cx} {CX : CXT} {k : Nat} {f C : Addr} {sp : Sp} {E : XK} {x : Str} {e : Expr} {te : TE} {p pos sp_ : Pos}
/-- what making an instance of the class at C asks -/
def mkAsk (C : Addr) (sp : Sp) (E : XK) (vs : List V) (H1 : Hp) (Q : VK) : Prop := ∀ x dx, H1 x = Option.none → H1 dx = Option.none → dx ≠ x →
  sp (V.ref x :: vs) (upd (upd H1 dx (.own x)) x (.ins C dx [])) (fun v H2 => v = .non ∧ Q (.ref x) H2) E
theorem pe_makeR0 (M : Mk X.K C f) (F : FnR X.prog X.w X.K X.mg X.base CX k f sp) (hr : Room (k + 1) X.A) (hg : Gl X x) (hm : X.mg x = some (.ref C)) (hx : Passes CX X E) (hdb : (x == ("__debug__" : Str)) = false := by decide) :
    PE X (.Call (.Name x p) [] [] pos) (fun σ H Q => mkAsk C sp E [] H Q) := by
  refine ⟨fun pins s σ H Q I h => ?_⟩
  refine wpAny_Call_Name_kw (ld_glob I hg hm ?_ hdb)
  exact PySem.W.callWith_K0 I.kIn M.kp (StX.run_makeR M F hr hx I .nil h)
theorem pe_makeS1 (M : Mk X.K C f) (F : FnR X.prog X.w X.K X.mg X.base CX k f sp) (hr : Room (k + 1) X.A) (hg : Gl X x) (hm : X.mg x = some (.ref C)) (hx : Passes CX X E) (he : PE X e te) (hd : (x == ("__debug__" : Str)) = false := by decide)
    (hst : starEach [.Starred e sp_] X.env = [(true, eval e X.env)] := by rfl) :
    PE X (.Call (.Name x p) [.Starred e sp_] [] pos) (fun σ H Q => te σ H fun y H1 => ∃ a xs, y = V.ref a ∧ (SqT X.K H1 a xs ∨ SqL X.K H1 a xs) ∧ mkAsk C sp E xs H1 Q) := by
  refine ⟨fun pins s σ H Q I h => ?_⟩
  refine wpAny_Call_Name_kw (ld_glob I hg hm ?_ hd)
  refine PySem.W.callWith_S (h₀ := X.base) I.ok.mod.kin M.kp (thn (he.run pins s σ H _ I h) fun v s1 ⟨y, H1, I1, ry, a, xs, ey, hxs, q⟩ => ?_) hst
  subst ey
  obtain rfl : v = Value.ref a := ry
  exact StX.star_any I1 hxs fun us s2 I2 rv => ⟨I2.kIn, StX.run_makeR M F hr hx I2 rv q⟩
theorem pe_makeRs {es : List Expr} {t : TA} (M : Mk X.K C f) (F : FnR X.prog X.w X.K X.mg X.base CX k f sp) (hr : Room (k + 1) X.A) (hg : Gl X x) (hm : X.mg x = some (.ref C)) (hx : Passes CX X E) (ha : PA X (e :: es) t) (hdb : (x == ("__debug__" : Str)) = false := by decide)
    (he : starEach (e :: es) X.env = (false, eval e X.env) :: starEach es X.env := by rfl) (hpl : (backTo pos (starEach es X.env)).any (·.1) = false := by rfl) : PE X (.Call (.Name x p) (e :: es) [] pos) (fun σ H Q => t σ H fun vs H1 => mkAsk C sp E vs H1 Q) :=
  StX.pe_makeR M F hr hg hm hx ha hdb he hpl
end
end Ow

set_option Elab.async false
set_option linter.all false
set_option maxRecDepth 100000
set_option maxHeartbeats 4000000
/-! ==, != by an own __eq__: readings over the hand layer. -/
namespace Ow
open PySem PySem.Spec PyProof.Rows L2
section
variable {X : Cx} {CX : CXT} {pins : List (Addr × Obj)} {σ : L2.St} {H : Hp} {s : Shared} {a C g : Addr} {n : Nat} {sp : Sp} {E : XK}
/-- x == y (or another comparison with its own def), both instances of the class at C -/
theorem op_cmpO {op : CmpOp} (hop : ∀ a b, compareOp op a b = richCompare op a b) (hs : PySem.W.findIn X.K (.ref C) (cmpInfo op).2.1 = some (some (.ref g))) (hf : PySem.W.isFn X.K (.ref g) = true)
    (F : FnR X.prog X.w X.K X.mg X.base CX n g sp) (hr : Room n X.A) (hx : Passes CX X E) : OpR X (compareOp op) (rBinO C sp E) := by
  intro pins s σ H x y v u Q I rx ry h
  obtain ⟨a, dx, fs, b, dy, gs, rfl, rfl, ha, hb, q⟩ := h
  cases (show v = Value.ref a from rx)
  cases (show u = Value.ref b from ry)
  obtain ⟨ox, od, J, _⟩ := StX.insC_at (X := X) I (.inr ⟨dx, fs, ha⟩)
  obtain ⟨ox', od', J', _⟩ := StX.insC_at (X := X) I (.inr ⟨dy, gs, hb⟩)
  obtain ⟨m, hF⟩ := I.fr
  rw [hop]
  refine PySem.W.cmp_K (op := op) (tb := .ref C) hr.units0 hF I.ok.mod.kin J J'.type (by simp [PySem.W.notFirst]) hs hf ?_
  refine wpAny_mono (wpAny_call (run_fnR (us := [.ref a, .ref b]) (vs := [.ref a, .ref b]) F hr hx I (.cons rfl (.cons rfl .nil)) q)) (fun w s' z => ?_) fun _ _ x => x
  obtain ⟨z', H', I', rz, qz⟩ := z
  exact SlX.cmpback rz ⟨z', H', I', rz, qz⟩
/-- what != asks of a class with its own == and without an own != -/
structure NeC (K : PySem.W.Frag) (C g : Addr) : Prop where
  eq : PySem.W.findIn K (.ref C) "__eq__" = some (some (.ref g))
  fn : PySem.W.isFn K (.ref g) = true
  ne : PySem.W.findIn K (.ref C) "__ne__" = some (some (.builtin "object.__ne__"))
  ob : PySem.W.mroIn K C (.type "object") = some true
theorem bound_ne {K : PySem.W.Frag} {M : Model} {A : Around} {E : Value → Shared → Prop} {s : Shared} {x C : Addr} {ox : Obj} {od : Option Obj} {args : List Value} {Q : Option Value → Shared → Prop} (Xk : K.In s.heap) (I : PySem.W.InstAt s.heap x ox C od)
    (hs : PySem.W.findIn K (.ref C) "__ne__" = some (some (.builtin "object.__ne__")))
    (h : wpAny M A (call (.builtin "object.__ne__") (.ref x :: args)) (fun v => Q (some v)) E s) : wpAny M A (callSpecialIfBound? (.ref x) "__ne__" args) Q E s := by
  unfold callSpecialIfBound? bindSpecialIfBound?
  refine wpAny_holding (wpAny_bind (wpAny_bind (wpAny_bind (I.type.here ((PySem.W.looks_findIn Xk hs).here ?_)))))
  have hb := PySem.F.cmp_object.ne.bind (.ref x)
  simp only [hb]
  refine wpAny_bind (wpAny_askSetting (wpAny_ite ?_))
  have last : wpAny M A (call (.builtin "object.__ne__") ([.ref x] ++ args) >>= fun r => pure (some r)) Q E s :=
    wpAny_bind (wpAny_mono h (fun r s' z => wpAny_pure z) fun _ _ z => z)
  split
  · exact wpAny_bind (wpAny_pure (wpAny_pure last))
  · exact wpAny_tryCatch (wpAny_bind (wpAny_pure (wpAny_pure last)))
/-- x != y -/
def rNeO (C : Addr) (sp : Sp) (E : XK) : R2 := fun x y H Q => ∃ a dx fs b dy gs, x = .ref a ∧ y = .ref b ∧ H a = some (.ins C dx fs) ∧ H b = some (.ins C dy gs) ∧ sp [x, y] H (fun v H' => ∃ k, v = .bl k ∧ Q (.bl (!k)) H') E
theorem op_neO (c : NeC X.K C g) (F : FnR X.prog X.w X.K X.mg X.base CX n g sp) (hr : Room (n + 1) X.A) (hx : Passes CX X E) : OpR X (compareOp .NotEq) (rNeO C sp E) := by
  intro pins s σ H x y v u Q I rx ry h
  obtain ⟨a, dx, fs, b, dy, gs, rfl, rfl, ha, hb, q⟩ := h
  cases (show v = Value.ref a from rx)
  cases (show u = Value.ref b from ry)
  obtain ⟨ox, od, J, _⟩ := StX.insC_at (X := X) I (.inr ⟨dx, fs, ha⟩)
  obtain ⟨ox', od', J', _⟩ := StX.insC_at (X := X) I (.inr ⟨dy, gs, hb⟩)
  have hr1 : Room n X.A.in1 := hr.in1
  have body : wpAny (model X.prog X.w) X.A.in1 (call (.ref g) [.ref a, .ref b]) (EP X pins σ fun v H' => ∃ k, v = .bl k ∧ Q (.bl (!k)) H') X.xe s :=
    wpAny_call (SlX.run_at (us := [.ref a, .ref b]) (ws := [.ref a, .ref b]) F hr1 I.env0.in1 hx I (.cons rfl (.cons rfl .nil)) q)
  have entry : wpAny (model X.prog X.w) X.A.in1 (Builtin.«object.__ne__» ⟨[.ref a, .ref b], []⟩) (fun fin s' => ∃ k, fin = .done (.ret (.bool k)) ∧ EP X pins σ Q (.bool k) s') X.xe s := by
    unfold Builtin.«object.__ne__»
    repeat (first
      | with_reducible refine wpAny_cRoomFor hr1.units0 ?_
      | (refine wpAny_bind (m := callSpecialIfBound? (.ref a) (Str.ofString "__eq__") [.ref b])
          (PySem.W.ifBound_K I.kIn J c.eq c.fn (wpAny_mono body (fun r s' hr => by
            obtain ⟨z, H', I', rz, k, ek, qk⟩ := hr
            subst ek
            cases (show r = Value.bool k from rz)
            repeat (first | exact ⟨_, rfl, .bl (!k), H', I', rfl, qk⟩ | exact wpAny_pure ⟨_, rfl, .bl (!k), H', I', rfl, qk⟩ | exact wpAny_truthy_bool ⟨_, rfl, .bl (!k), H', I', rfl, qk⟩ | (refine wpAny_bind (m := truthy (.bool _)) (wpAny_truthy_bool ?_)) | wp_step)) fun _ _ e => e)))
      | wp_step)
  have called : wpAny (model X.prog X.w) X.A (call (.builtin "object.__ne__") [.ref a, .ref b]) (fun r s' => ∃ k, r = .bool k ∧ EP X pins σ Q (.bool k) s') X.xe s := by
    refine wpAny_call (codeAny_call_builtin PySem.F.cmp_object.ne.plain PySem.F.cmpEntry_ne (PySem.W.check_slot PySem.F.cmpKind_ne PySem.F.cmpSplit_ne (J.type.andThen (PySem.W.looks_mroIn I.kIn c.ob)) (PySem.F.cmpArgs_ne _ _) (wpAny_mono entry (fun fin s' z => ?_) fun _ _ z => z)))
    obtain ⟨k, rfl, z⟩ := z
    exact ⟨k, rfl, z⟩
  show wpAny (model X.prog X.w) X.A (richCompare .NotEq (.ref a) (.ref b)) _ _ s
  unfold richCompare
  simp only [oneThing_ref]
  refine wpAny_holding (wpAny_bind (wpAny_cRoomFor hr.units0 ?_))
  refine wpAny_bind (J.type.here (wpAny_bind (J'.type.here ?_)))
  rw [if_neg (by simp)]
  refine wpAny_bind (wpAny_pure ?_)
  rw [if_neg (by simp)]
  refine wpAny_bind (m := tryCompare (.ref a) (cmpInfo .NotEq).2.1 (.ref b)) ?_
  unfold tryCompare
  refine wpAny_bind (m := callSpecialIfBound? (.ref a) (Str.ofString "__ne__") [.ref b]) (bound_ne I.kIn J c.ne (wpAny_mono called (fun r s' z => ?_) fun _ _ z => z))
  obtain ⟨k, rfl, z⟩ := z
  first
    | exact wpAny_pure (wpAny_pure z)
    | exact wpAny_pure z
end
end Ow

set_option Elab.async false
set_option linter.all false
set_option maxRecDepth 100000
set_option maxHeartbeats 4000000
/-! len(x), e in x by own methods: readings over the hand layer. -/
namespace Ow
open PySem PySem.Spec PyProof.Rows L2
section
variable {X : Cx} {CX : CXT} {C g : Addr} {n : Nat} {sp : Sp} {E : XK}
def rLenO (C : Addr) (sp : Sp) (E : XK) : List V → Hp → VK → Prop := fun xs H Q => ∃ a dx fs, xs = [V.ref a] ∧ H a = some (.ins C dx fs) ∧ sp [.ref a] H (fun v H' => ∃ i : Nat, v = .int (i : Int) ∧ i < 1000000 ∧ Q v H') E
theorem call_lenO (hs : PySem.W.findIn X.K (.ref C) "__len__" = some (some (.ref g))) (hf : PySem.W.isFn X.K (.ref g) = true) (F : FnR X.prog X.w X.K X.mg X.base CX n g sp) (hr : Room (n + 1) X.A) (hx : Passes CX X E) : CallR X (.builtin "len") (rLenO C sp E) := by
  intro pins s σ H xs us Q I r h
  obtain ⟨a, dx, fs, rfl, ha, q⟩ := h
  obtain ⟨u, rfl, ru⟩ := r.one
  cases (show u = Value.ref a from ru)
  obtain ⟨ox, od, J, _⟩ := StX.insC_at (X := X) I (.inr ⟨dx, fs, ha⟩)
  obtain ⟨m, hF⟩ := I.fr
  have hr1 : Room n X.A.in1 := hr.in1
  refine PySem.W.len_K hF I.ok.mod.kin J hs hf (wpAny_mono (wpAny_call (SlX.run_at (us := [.ref a]) (ws := [.ref a]) F hr1 I.env0.in1 hx I (.cons rfl .nil) q)) (fun w s' z => ?_) fun _ _ e => e)
  obtain ⟨z', H', I', rz, i, ei, hi, qz⟩ := z
  subst ei
  obtain ⟨t, e⟩ := (show ∃ t, w = Value.int (i : Int) t from rz)
  subst e
  exact ⟨⟨by omega, by omega⟩, .int (i : Int), H', I'.tok _, ⟨_, rfl⟩, qz⟩
/-- e in x -/
def rInO (C : Addr) (sp : Sp) (E : XK) : R2 := fun x y H Q => ∃ a dx fs, y = V.ref a ∧ H a = some (.ins C dx fs) ∧ sp [.ref a, x] H (fun v H' => ∃ k, v = .bl k ∧ Q (.bl k) H') E
theorem op_inO (hs : PySem.W.findIn X.K (.ref C) "__contains__" = some (some (.ref g))) (hf : PySem.W.isFn X.K (.ref g) = true) (F : FnR X.prog X.w X.K X.mg X.base CX n g sp) (hr : Room n X.A) (hx : Passes CX X E) : OpR X (compareOp .In) (rInO C sp E) := by
  intro pins s σ H x y v u Q I rx ry h
  obtain ⟨a, dx, fs, rfl, ha, q⟩ := h
  cases (show u = Value.ref a from ry)
  obtain ⟨ox, od, J, _⟩ := StX.insC_at (X := X) I (.inr ⟨dx, fs, ha⟩)
  obtain ⟨m, hF⟩ := I.fr
  refine PySem.W.in_K hF I.ok.mod.kin J hs hf (wpAny_mono (wpAny_call (SlX.run_at (us := [.ref a, v]) (ws := [.ref a, x]) F hr I.env0 hx I (.cons rfl (.cons rx .nil)) q)) (fun w s' z => ?_) fun _ _ e => e)
  obtain ⟨z', H', I', rz, k, ek, qz⟩ := z
  subst ek
  cases (show w = Value.bool k from rz)
  exact wpAny_truthy_bool ⟨.bl k, H', I', rfl, qz⟩
end
end Ow

set_option Elab.async false
set_option linter.all false
set_option maxRecDepth 100000
set_option maxHeartbeats 4000000
/-! A walk over an instance whose __iter__ gives an iterator over a tuple. -/
namespace Ow
open PySem PySem.Spec PyProof.Rows L2
section
variable {prog : Program} {w : World} {A : Around} {E : Value → Shared → Prop} {s : Shared} {l : Addr} {items : Array Value}
theorem iter_tup {Q : Value → Shared → Prop} (hl : s.heap.IsTuple l items) (h : Q (.ref s.heap.objs.size) { s with heap := s.heap.push { cls := .type "tuple_iterator", data := .fields #[.ref l, .int 0 0] } }) : wpAny (model prog w) A (call (.builtin "iter") [.ref l]) Q E s := by
  have en := PySem.W.kdk_entry_iter
  refine Calls.call_function_entry (s := s) (by decide +kernel) (by decide +kernel) en (PySem.W.kdk_args_iter (.ref l)) ?_
  unfold Builtin.«iter»
  refine wpAny_bind (m := someArgs "iter" 1 2 ⟨[.ref l], []⟩) (wpAny_of_eq (a := [Value.ref l]) (by first | rfl | kernel_rfl) ?_)
  show wpAny (model prog w) _ (pyIter (.ref l) >>= fun z => ret z) _ _ s
  refine wpAny_bind (wpAny_pyIter_tuple hl ?_)
  exact wpAny_pure ⟨_, rfl, h⟩
end
/-- an iterator over the tuple at t stands at it, at its beginning -/
def ItT (t it : Addr) : HO := .ext fun h => h.IsTupleIter it t 0
section
variable {X : Cx}
/-- iter(t), a tuple -/
def rIterT (K : PySem.W.Frag) (n : Nat) : List V → Hp → VK → Prop := fun xs H Q => ∃ (t : Addr) (zs : List V), xs = [.ref t] ∧ SqT K H t zs ∧ ∀ it, H it = Option.none → n ≤ it → Q (.ref it) (upd H it (ItT t it))
theorem call_iterT : CallR X (.builtin "iter") (rIterT X.K X.s_0.heap.objs.size) := by
  intro pins s σ H xs us Q I r h
  obtain ⟨t, zs, rfl, hq, q⟩ := h
  obtain ⟨u, rfl, ru⟩ := vals1 r
  cases ru
  obtain ⟨its, rv, p, hz⟩ := I.tuple hq
  refine iter_tup (show s.heap.IsTuple t its.toArray from p) ?_
  have st : (s.heap.push { cls := .type "tuple_iterator", data := .fields #[.ref t, .int 0 0] }).IsTupleIter s.heap.objs.size t 0 := ⟨_, Heap.get?_push_size _ rfl, rfl, rfl⟩
  refine ⟨.ref s.heap.objs.size, _, I.laid (t' := s.toks) (o := ItT t s.heap.objs.size) (fun b u e => Heap.get?_push_of_some _ e) (Nat.le_refl _) ⟨st, ⟨_, Heap.get?_push_size _ rfl⟩, fun h1 h2 z k => ?_⟩, rfl, q _ (I.hok.fresh (Nat.le_refl _)) I.sz⟩
  exact z.at fun o e => k o e
end
/-- a def with one parameter, called at this state: what its body's reading gives -/
theorem run_here {CX : CXT} {P : Program} {w : World} {K : PySem.W.Frag} {mg : Str → Option Value} {base : Heap} {k : Nat} {f : Addr} {fd : FuncData} {x q : Str} {st : Stmt} {N ps : List Str} {A : Around} {outer : List Env} {s : Shared} {H : Hp} {us : List Value} {vs : List V} {R : V → Hp → Shared → Prop} {E : XK}
    (F : L2.Fun K x q st f fd) (S : FnScope N ps (defScope st)) (hl : vs.length = ps.length) (hr : Room (k + 1) A) (e0 : Env0 P w K mg base A outer s H) (hb : BindsTo s fd ⟨us, []⟩ (ps.zip us)) (r : Vals vs us)
    (body : ∀ cdv : Value, Room k (A.deeper (envOfC q (defScope st) s.heap.objs.size f cdv)) → ∃ t, PSs (cxOf CX P w K mg base N q (defScope st) f cdv A outer s H E).nox (defBody st) t ∧ t { nx := fun _ _ => False, rt := fun v H' => ∀ (pins : List (Addr × Obj)) (σ : L2.St) (s' : Shared), Inv (cxOf CX P w K mg base N q (defScope st) f cdv A outer s H E).nox pins σ H' s' → R v H' s' } (start N vs) H) :
    codeAny (model P w) A (.call (.ref f) ⟨us, []⟩) (fun r s' => ∃ v u H', r = .ok (.ret u) ∧ RelV v u ∧ R v H' s') s := by
  obtain ⟨oc, od, kV, doc, pm, an, cdv, ct, osl, rfl, lk, hcd⟩ := F.ex
  have Xin : K.In s.heap := e0.mod.kin.keeps fun b o z => (e0.bs b o z).1
  have free : s.heap.NoLimit := e0.mod.nolimit.keeps fun b o z => (e0.bs b o z).1
  have kinds : ∀ y ∈ ps.zip us, (defScope st).names.lookup y.1 = some .local ∨ ((defScope st).names.lookup y.1 = some .cell ∧ ((cellsFrom (s.heap.objs.size + 1) (defScope st).names []).lookup y.1).isSome = true) := by
    rintro ⟨n, v⟩ hy
    rcases S.par n (List.of_mem_zip hy).1 with z | z
    · exact .inl z
    · exact .inr ⟨z, PySem.W.cellsFrom_some _ _ _ (.inl z)⟩
  refine codeAny_call_function hr.depth (Xin _ _ lk) rfl S.co S.gen rfl (PySem.W.codeRec_of Xin hcd) (hb _ _ _ _ ?_)
  refine wpAny_newFunctionEnv_cells S.kind kinds fun env he s1 z => ?_
  subst he
  refine ⟨free.keeps z.toInCall.keep, codeAny_func ?_⟩
  obtain ⟨t, ht, hq⟩ := body cdv (hr.deeper _)
  have J := inv_start (CX := CX) (E := E) S hr.hd e0 hl r z
  refine wpAny_mono (ht.run [] s1 (start N vs) H _ (J.wish _) hq) (fun fl s' hs => ?_) fun e s' hs => False.elim hs
  cases fl with
  | ret u =>
    obtain ⟨v, σ', H', I', rv, hR⟩ := hs
    exact ⟨v, u, H', rfl, rv, hR _ _ _ I'⟩
  | next =>
    obtain ⟨_, _, _, z⟩ := hs
    exact z.elim
  | brk =>
    obtain ⟨_, _, _, z⟩ := hs
    exact z.elim
  | cont =>
    obtain ⟨_, _, _, z⟩ := hs
    exact z.elim
/-! ### the walk -/
/-- what the class's __iter__ does with an instance: a new iterator over the tuple that its field holds -/
def ItRun (P : Program) (w : World) (K : PySem.W.Frag) (mg : Str → Option Value) (base : Heap) (k : Nat) (C g : Addr) (nm : Str) : Prop := ∀ (A : Around) (outer : List Env) (s : Shared) (H : Hp) (a dx t : Addr) (zs : List V), Room k A → Env0 P w K mg base A outer s H →
  H a = some (.ins C dx [(nm, V.ref t)]) → SqT K H t zs →
  codeAny (model P w) A (.call (.ref g) ⟨[.ref a], []⟩) (fun r s' => ∃ it : Addr, r = .ok (.ret (.ref it)) ∧ s.heap.objs.size ≤ it ∧ s'.heap.IsTupleIter it t 0 ∧ CE outer P w H s (fun v H' => v = .ref it ∧ H' = H) (.ref it) s') s
theorem it_run {P : Program} {w : World} {K : PySem.W.Frag} {mg : Str → Option Value} {base : Heap} {C g : Addr} {fd : FuncData} {st : Stmt} {q nm : Str} (F : L2.Fun K "__iter__" q st g fd) (S : FnScope ["self"] ["self"] (defScope st)) (b : Binds K fd ["self"] []) (cl : Cls K C) (nR : NoAttr K C nm)
    (body : ∀ (cdv : Value) (A : Around) (outer : List Env) (s : Shared) (H : Hp), PSs (cxOf CX0 P w K mg base ["self"] q (defScope st) g cdv A outer s H E0).nox (defBody st) (tRet (tCB (rIterT K s.heap.objs.size) (tCons (tFld K (tVar 0) nm) tNil)))) : ItRun P w K mg base 1 C g nm := by
  intro A outer s H a dx t zs hr e0 ha ht
  have hb : BindsTo s fd ⟨[.ref a], []⟩ ([("self" : Str)].zip [Value.ref a]) := b s [.ref a] (e0.mod.kin.keeps fun c o z => (e0.bs c o z).1) rfl
  refine codeAny_mono (run_here (CX := CX0) (k := 0) (E := E0) (vs := [V.ref a]) (R := fun v H' s' => ∃ it, v = .ref it ∧ s.heap.objs.size ≤ it ∧ s'.heap.IsTupleIter it t 0 ∧ CE outer P w H s (fun v H' => v = .ref it ∧ H' = H) (.ref it) s') F S rfl hr e0 hb (.cons rfl .nil) fun cdv _ => ⟨_, body cdv A outer s H, ?_⟩) fun r s' z => ?_
  · refine ⟨_, rfl, a, C, dx, _, _, rfl, ha, cl, nR, by simp [List.lookup], t, zs, rfl, ht, fun it nit hit pins σ s' I => ⟨it, rfl, hit, ?_, ?_⟩⟩
    · exact (I.hok it _ upd_same).1
    · have I2 := ItX.inv_drop (φ := fun h => h.IsTupleIter it t 0) I upd_same
      rw [ItX.dropH_upd nit] at I2
      exact ⟨.ref it, H, I2.os, I2.bare, I2.base, I2.hok, rfl, rfl, rfl⟩
  · obtain ⟨v, u, H', rfl, ru, it, rfl, h1, h2, h3⟩ := z
    cases (show u = Value.ref it from ru)
    exact ⟨it, rfl, h1, h2, h3⟩
section
variable {X : Cx} {tg : Expr} {C g : Addr} {k : Nat} {nm : Str}
/-- an instance of the class at C walked: the items of the tuple in its field -/
def iOwn (K : PySem.W.Frag) (C : Addr) (nm : Str) (tl : TE) : TI := fun σ H R => tl σ H fun x H1 => ∃ a dx t, x = V.ref a ∧ H1 a = some (.ins C dx [(nm, V.ref t)]) ∧ (∃ zs, SqT K H1 t zs) ∧ R (Itt K t) H1
theorem pi_own {l : Expr} {tl : TE} (hs : PySem.W.findIn X.K (.ref C) "__iter__" = some (some (.ref g))) (hf : PySem.W.isFn X.K (.ref g) = true) (G : ItRun X.prog X.w X.K X.mg X.base k C g nm) (hr : Room k X.A) (hl : PE X l tl) : PI X tg l (iOwn X.K C nm tl) := by
  refine ⟨fun pins s σ H R I h => ?_⟩
  refine thn (hl.run pins s σ H _ I h) fun v s1 ⟨x, H1, I1, r1, a, dx, t, ex, ha, ⟨zs, ht⟩, q⟩ => ?_
  subst ex
  cases (show v = Value.ref a from r1)
  obtain ⟨ox, od, J, _⟩ := StX.insC_at (X := X) I1 (.inr ⟨dx, _, ha⟩)
  have called : wpAny (model X.prog X.w) X.A (call (.ref g) [.ref a]) (fun r s' => ∃ it : Addr, r = .ref it ∧ s1.heap.objs.size ≤ it ∧ s'.heap.IsTupleIter it t 0 ∧ CE X.stack X.prog X.w H1 s1 (fun v H' => v = .ref it ∧ H' = H1) (.ref it) s') X.xe s1 := by
    refine wpAny_call (codeAny_mono (G X.A X.stack s1 H1 a dx t zs hr I1.env0 ha ht) fun r s' z => ?_)
    obtain ⟨it, rfl, z1, z2, z3⟩ := z
    exact ⟨it, rfl, z1, z2, z3⟩
  obtain ⟨m, hF⟩ := I1.fr
  refine PySem.W.owit_iter hF I1.ok.mod.kin J hs hf (wpAny_mono called (fun r s' z => ?_) fun _ _ z => z)
  obtain ⟨it, rfl, z1, z2, z3⟩ := z
  unfold PySem.W.OwitIt
  refine wpAny_specialOf z2.typeIs PySem.F.slot_tuple_iterator_next.lookup ?_
  obtain ⟨v, H', I2, rv, ev, eH⟩ := I1.after z3
  subst eH
  refine ⟨it, [it], _, _, H', rfl, I2, turn_tuple t it, z2, fun b hb => ?_, q⟩
  obtain rfl := List.mem_singleton.mp hb
  exact I1.fpOk z1 (I1.hok.fresh z1)
end
end Ow

set_option Elab.async false
set_option linter.all false
set_option maxRecDepth 100000
set_option maxHeartbeats 4000000
/-! Defs that are called while no repr is under way: their promise, their body, their call, the law's end; repr of data of any depth. -/
namespace Og
open PySem PySem.Spec PyProof.Rows L2 Ow
/-- the promise of a def at a state under which no repr is under way -/
structure FnG (P : Program) (w : World) (K : PySem.W.Frag) (mg : Str → Option Value) (base : Heap) (CX : CXT) (k : Nat) (f : Addr) (fd : FuncData) (ps : List Str) (sp : Sp) : Prop where
  len : ∀ {vs H Q E}, sp vs H Q E → vs.length = ps.length
  go : ∀ {A : Around} {outer : List Env} {s : Shared} {H : Hp} {ar : Args} {us : List Value} {vs : List V} {Q : VK} {E : XK}, Room k A → A.guards = some [] → Env0 P w K mg base A outer s H → BindsTo s fd ar (ps.zip us) → Vals vs us →
    sp vs H Q E → codeAny (model P w) A (.call (.ref f) ar) (CR CX outer P w H s Q E) s
section
variable {P : Program} {w : World} {K : PySem.W.Frag} {mg : Str → Option Value} {base : Heap} {CX : CXT} {j k : Nat} {f : Addr} {fd : FuncData} {ps : List Str} {sp sp' : Sp}
theorem FnG.of (F : FnOk P w K mg base CX k f fd ps sp) : FnG P w K mg base CX k f fd ps sp := ⟨fun h => F.len _ _ _ _ h, fun hr _ e0 hb r h => F.run _ _ _ _ _ _ _ _ _ hr e0 hb r h⟩
theorem FnG.mono (F : FnG P w K mg base CX j f fd ps sp) (h : j ≤ k) : FnG P w K mg base CX k f fd ps sp := ⟨F.len, fun hr => F.go (hr.mono h)⟩
theorem FnG.imp (F : FnG P w K mg base CX k f fd ps sp) (h : ∀ vs H Q E, sp' vs H Q E → sp vs H Q E) : FnG P w K mg base CX k f fd ps sp' := ⟨fun q => F.len (h _ _ _ _ q), fun hr hg e0 hb r q => F.go hr hg e0 hb r (h _ _ _ _ q)⟩
/-- a def's body, run at this state -/
theorem run_gen {x q : Str} {st : Stmt} {N : List Str} {A : Around} {outer : List Env} {s : Shared} {H : Hp} {ar : Args} {us : List Value} {vs : List V} {Q : VK} {E : XK}
    (F : L2.Fun K x q st f fd) (S : FnScope N ps (defScope st)) (hl : vs.length = ps.length) (hr : Room (k + 1) A) (e0 : Env0 P w K mg base A outer s H) (hb : BindsTo s fd ar (ps.zip us)) (r : Vals vs us)
    (body : ∀ cdv : Value, Room k (A.deeper (envOfC q (defScope st) s.heap.objs.size f cdv)) → ∃ t, PSs (cxOf CX P w K mg base N q (defScope st) f cdv A outer s H E) (defBody st) t ∧ t { nx := fun _ H' => Q .non H', rt := Q } (start N vs) H) :
    codeAny (model P w) A (.call (.ref f) ar) (CR CX outer P w H s Q E) s := by
  obtain ⟨oc, od, kV, doc, pm, an, cdv, ct, osl, rfl, lk, hcd⟩ := F.ex
  have Xin : K.In s.heap := e0.mod.kin.keeps fun b o z => (e0.bs b o z).1
  have free : s.heap.NoLimit := e0.mod.nolimit.keeps fun b o z => (e0.bs b o z).1
  have kinds : ∀ y ∈ ps.zip us, (defScope st).names.lookup y.1 = some .local ∨ ((defScope st).names.lookup y.1 = some .cell ∧ ((cellsFrom (s.heap.objs.size + 1) (defScope st).names []).lookup y.1).isSome = true) := by
    rintro ⟨n, v⟩ hy
    rcases S.par n (List.of_mem_zip hy).1 with z | z
    · exact .inl z
    · exact .inr ⟨z, PySem.W.cellsFrom_some _ _ _ (.inl z)⟩
  refine codeAny_call_function hr.depth (Xin _ _ lk) rfl S.co S.gen rfl (PySem.W.codeRec_of Xin hcd) (hb _ _ _ _ ?_)
  refine wpAny_newFunctionEnv_cells S.kind kinds fun env he s1 z => ?_
  subst he
  refine ⟨free.keeps z.toInCall.keep, codeAny_func ?_⟩
  obtain ⟨t, ht, hq⟩ := body cdv (hr.deeper _)
  have J := inv_start (CX := CX) (E := E) S hr.hd e0 hl r z
  have fin : ∀ {σ' : L2.St} {H' : Hp} {v : V} {u : Value} {s' : Shared}, Inv (cxOf CX P w K mg base N q (defScope st) f cdv A outer s H E) [] σ' H' s' → RelV v u → Q v H' → CE outer P w H s Q u s' :=
    fun J2 rv y => ⟨_, _, J2.os, J2.bare, J2.base, J2.hok, rv, y⟩
  refine wpAny_mono (ht.run [] s1 (start N vs) H _ J hq) (fun fl s' hs => ?_) fun e s' hs => hs
  cases fl with
  | ret u =>
    obtain ⟨v, σ', H', J2, rv, y⟩ := hs
    exact fin J2 rv y
  | next =>
    obtain ⟨σ', H', J2, y⟩ := hs
    exact fin (v := V.non) (u := Value.none) J2 rfl y
  | brk =>
    obtain ⟨_, _, _, z⟩ := hs
    exact z.elim
  | cont =>
    obtain ⟨_, _, _, z⟩ := hs
    exact z.elim
/-- the rule for a def of which nothing is let out -/
theorem okG {x q : Str} {st : Stmt} {N : List Str} (F : L2.Fun K x q st f fd) (S : FnScope N ps (defScope st)) (len : ∀ vs H Q E, sp vs H Q E → vs.length = ps.length)
    (body : ∀ (cdv : Value) (A : Around) (outer : List Env) (s : Shared) (H : Hp) (vs : List V) (Q : VK) (E : XK), Room k (A.deeper (envOfC q (defScope st) s.heap.objs.size f cdv)) → A.guards = some [] → sp vs H Q E →
      ∃ t, PSs (cxOf CX P w K mg base N q (defScope st) f cdv A outer s H E).nox (defBody st) t ∧ t { nx := fun _ H' => Q .non H', rt := Q } (start N vs) H) : FnG P w K mg base CX (k + 1) f fd ps sp :=
  ⟨fun h => len _ _ _ _ h, fun hr hg e0 hb r h => run_gen F S (len _ _ _ _ h) hr e0 hb r fun cdv hr2 => by
    obtain ⟨t, ht, hq⟩ := body cdv _ _ _ _ _ _ _ hr2 hg h
    exact ⟨t, ht.nox, hq⟩⟩
/-- .. for a def that may raise -/
theorem okGX {x q : Str} {st : Stmt} {N : List Str} (F : L2.Fun K x q st f fd) (S : FnScope N ps (defScope st)) (len : ∀ vs H Q E, sp vs H Q E → vs.length = ps.length)
    (body : ∀ (cdv : Value) (A : Around) (outer : List Env) (s : Shared) (H : Hp) (vs : List V) (Q : VK) (E : XK), Room k (A.deeper (envOfC q (defScope st) s.heap.objs.size f cdv)) → A.guards = some [] → sp vs H Q E →
      ∃ t, PSs (cxOf CX P w K mg base N q (defScope st) f cdv A outer s H E) (defBody st) t ∧ t { nx := fun _ H' => Q .non H', rt := Q } (start N vs) H) : FnG P w K mg base CX (k + 1) f fd ps sp :=
  ⟨fun h => len _ _ _ _ h, fun hr hg e0 hb r h => run_gen F S (len _ _ _ _ h) hr e0 hb r fun cdv hr2 => body cdv _ _ _ _ _ _ _ hr2 hg h⟩
end
section
variable {X : Cx} {CX : CXT} {k : Nat} {f : Addr} {fd : FuncData} {ps : List Str} {sp : Sp} {dvs : List V} {ds : List Value} {E : XK} {x : Str} {p pos : Pos} {e : Expr} {es : List Expr} {t : TA}
theorem pe_callG (F : FnG X.prog X.w X.K X.mg X.base CX k f fd ps sp) (hr : Room k X.A) (hG : X.A.guards = some []) (hg : Gl X x) (hm : X.mg x = some (.ref f)) (hk : PySem.W.keepIn X.K (.ref f) = true) (hb : Binds X.K fd ps ds) (hd : Vals dvs ds) (hx : Passes CX X E)
    (ha : PA X (e :: es) t) (hdb : (x == ("__debug__" : Str)) = false := by decide) (he : starEach (e :: es) X.env = (false, eval e X.env) :: starEach es X.env := by rfl) (hpl : (backTo pos (starEach es X.env)).any (·.1) = false := by rfl) :
    PE X (.Call (.Name x p) (e :: es) [] pos) (tCall sp dvs E t) := by
  refine ⟨fun pins s σ H Q I h => wpAny_Call_Name_kw (ld_glob I hg hm ?_ hdb)⟩
  refine PySem.W.callWith_K (h₀ := X.base) I.ok.mod.kin hk (thn (ha.run pos pins s σ H _ I h) fun us s1 ⟨vs, H1, J, r, q⟩ => ⟨J.kIn, ?_⟩) he hpl
  have rr : Vals (vs ++ dvs) (us ++ ds) := r.append hd
  have ll : (us ++ ds).length = ps.length := rr.length.symm.trans (F.len q)
  refine wpAny_call (codeAny_mono (F.go hr hG J.env0 (hb s1 us J.kIn ll) rr q) fun z s' hq => ?_)
  cases z with
  | error e => exact hx pins σ H1 s1 e s' J hq
  | ok fl =>
    cases fl with
    | ret u => exact J.after hq
    | next => exact hq.elim
    | brk => exact hq.elim
    | cont => exact hq.elim
/-- repr(x), x data of any depth without dicts -/
def rRepr (K : PySem.W.Frag) : List V → Hp → VK → Prop := fun xs H Q => ∃ (x : V) (d : PyData), xs = [x] ∧ Dp K H x d ∧ d.showable = true ∧ d.depth ≤ 20 ∧ d.shown.length ≤ sizeLine ∧ Q (.str d.shown) H
theorem dp_noDict {K : PySem.W.Frag} {H : Hp} : ∀ (d : PyData) {v : V}, Dp K H v d → d.hasDict = false := by
  intro d v h
  refine Dp.rec (motive_1 := fun v d _ => d.hasDict = false) (motive_2 := fun vs ds _ => PyData.hasDictAll ds = false) ?_ ?_ ?_ ?_ ?_ ?_ ?_ ?_ h
  · rfl
  · intro b; rfl
  · intro i; rfl
  · intro x; rfl
  · intro a xs ds h1 h2 ih
    simpa only [PyData.hasDict] using ih
  · intro a xs ds h1 h2 ih
    simpa only [PyData.hasDict] using ih
  · rfl
  · intro v vs d ds h1 h2 i1 i2
    simp only [PyData.hasDictAll, i1, i2, Bool.or_self]
theorem call_reprD (hG : X.A.guards = some []) (hu : X.A.units + 64 < cLine) : CallR X (.builtin "repr") (rRepr X.K) := by
  intro pins s σ H xs us Q I r h
  obtain ⟨x, d, rfl, hd, hs, hdep, hsz, q⟩ := h
  obtain ⟨u, rfl, ru⟩ := r.one
  obtain ⟨as, R⟩ := Dp.reads I d x u hd ru
  have fin : ∀ (h' : Heap) (t : Tok) (tk : Tok), (∀ b o, s.heap.get? b = some o → h'.get? b = some o) → EP X pins σ Q (.str d.shown t) { s with heap := h', toks := tk } := fun h' t tk hk => ⟨.str _, H, I.kept hk, ⟨_, rfl⟩, q⟩
  have same : EP X pins σ Q (.str d.shown s.toks) { s with toks := s.toks + 1 } := ⟨.str _, H, I.tok _, ⟨_, rfl⟩, q⟩
  cases R with
  | none => exact PySem.P.repr_of_none same
  | bool b => exact PySem.P.repr_of_bool same
  | int i t => exact PySem.P.repr_of_int (by simpa [PyData.showable] using hs) same
  | str x t => exact PySem.P.repr_of_str same hsz
  | list a b c d' => exact repr_of_reads' (Reads.list a b c d') hs (fun z => by rw [dp_noDict _ hd] at z; cases z) hG (by omega) (fun _ _ e => e) (fun h' u tk hk => fin h' u tk hk) hsz
  | tuple a b c d' => exact repr_of_reads' (Reads.tuple a b c d') hs (fun z => by rw [dp_noDict _ hd] at z; cases z) hG (by omega) (fun _ _ e => e) (fun h' u tk hk => fin h' u tk hk) hsz
  | dict a b c d' e => cases hd
end
/-! ### the law's end -/
section
variable {P : Program} {w : World} {K : PySem.W.Frag} {mg mb : Str → Option Value} {CX : CXT} {k : Nat} {fa a : Addr} {fd : FuncData} {x : Str} {sp : Sp} {s0 : Shared} {vs : List Value} {ns : List Int}
/-- the law's call at a heap in which at most the script is tracked -/
theorem end_at {H : Hp} (Ki : K.In s0.heap) (g1 : s0.heap.Ns mainGlobals mg) (g2 : s0.heap.Ns builtinsNs mb) (g3 : ∀ x : Str, x ≠ "__name__" → mb x = bootBuiltins x) (g4 : s0.heap.NoLimit) (g5 : s0.gens = #[])
    (ea : s0.heap.get? a = some { cls := .type "list", data := .seq vs.toArray }) (hr : Room k callerA) (F : ∀ base : Heap, K.In base → base.Ns mainGlobals mg → FnG P w K mg base CX k fa fd [x] sp)
    (hb : ∀ (s : Shared) (u : Value), BindsTo s fd ⟨[u], []⟩ [(x, u)]) (hO : Only H) (only : ∀ b, H b ≠ none → b = a) (own : H a ≠ none → K.lookup a = none) (hok : HOk P w H s0.heap) (hs : sp [.ref a] H (fun v _ => v = .bl true) fun _ _ _ => False)
    (hX : ∀ e s', CX [] H s0 (fun _ _ _ => False) e s' → False) :
    codeAny (model P w) callerA (.call (.ref fa) ⟨[.ref a], []⟩) (fun r s' => r = .ok (.ret (.bool true)) ∧ OldK s0.heap s'.heap ∧ s'.os = s0.os ∧ AllBare s'.gens) s0 := by
  -- what is tracked is the script, a list: no dict
  have dfree : ∀ {b : Addr} {o : Obj} {es : Array DictEntry} {ep : Nat}, s0.heap.get? b = some o → o.data = .dict es ep → H b = none := by
    intro b o es ep e1 e2
    rcases Option.eq_none_or_eq_some (H b) with z | ⟨y, z⟩
    · exact z
    · obtain rfl := only b (by rw [z]; exact Option.some_ne_none _)
      rw [ea] at e1
      cases e1
      exact nomatch e2
  have names : ∀ {b : Addr} {m : Str → Option Value}, s0.heap.Ns b m → (hidT s0.heap H).Ns b m := by
    rintro b m ⟨o, es, ep, e1, e2, r⟩
    exact ⟨o, es, ep, hidT_get e1 (dfree e1 e2), e2, r⟩
  have Kb : K.In (hidT s0.heap H) := fun b o e => hidT_get (Ki b o e) (by
    rcases Option.eq_none_or_eq_some (H b) with z | ⟨y, z⟩
    · exact z
    · obtain rfl := only b (by rw [z]; exact Option.some_ne_none _)
      rw [own (by rw [z]; exact Option.some_ne_none _)] at e
      cases e)
  obtain ⟨mc, l1, l2⟩ := g4
  have M : Mod K mg (hidT s0.heap H) := ⟨Kb, names g1, ⟨mb, names g2, g3⟩, ⟨mc, names l1, l2⟩⟩
  have e0 : Env0 P w K mg (hidT s0.heap H) callerA [] s0 H := by
    refine ⟨rfl, M, fun b o e => of_hidT e, Nat.le_of_eq (hidT_size _ _), trivial, fun b z => ?_, hok, .of_eq g5⟩
    cases (show b ∈ ([] : List Addr) from z)
  refine codeAny_mono ((F _ Kb (names g1)).go (us := [.ref a]) (vs := [.ref a]) hr rfl e0 (hb s0 (.ref a)) (.cons (show RelV (.ref a) (.ref a) from rfl) .nil) hs) fun r s' z => ?_
  cases r with
  | error e => exact (hX e s' z).elim
  | ok fl =>
    cases fl with
    | ret u =>
      obtain ⟨v, H', os, bare, un, hok', ru, y⟩ := z
      obtain rfl : v = .bl true := y
      cases (show u = Value.bool true from ru)
      refine ⟨rfl, OldK.of_keep fun b o e => ?_, os, bare⟩
      rcases hO b with y | ⟨ob, xs, y⟩
      · exact un.keep b o e y (fun q => nomatch (show b ∈ ([] : List Addr) from q)) (by simp)
      · have e1 := (hok b _ y).1
        have e2 := (hok' b _ (un.frzs b ob _ y)).1
        rw [e] at e1
        cases e1
        exact e2
    | next => exact z.elim
    | brk => exact z.elim
    | cont => exact z.elim
theorem end_call (Ki : K.In s0.heap) (g1 : s0.heap.Ns mainGlobals mg) (g2 : s0.heap.Ns builtinsNs mb) (g3 : ∀ x : Str, x ≠ "__name__" → mb x = bootBuiltins x) (g4 : s0.heap.NoLimit) (g5 : s0.gens = #[])
    (ea : s0.heap.get? a = some { cls := .type "list", data := .seq vs.toArray }) (hi : IntsAre vs ns) (hl : ns.length ≤ sizeLine) (hr : Room k callerA) (F : ∀ base : Heap, K.In base → base.Ns mainGlobals mg → FnG P w K mg base CX k fa fd [x] sp)
    (hb : ∀ (s : Shared) (u : Value), BindsTo s fd ⟨[u], []⟩ [(x, u)]) (hs : ∀ H : Hp, Only H → SqL K H a (ns.map V.int) → sp [.ref a] H (fun v _ => v = .bl true) fun _ _ _ => False)
    (hX : ∀ H e s', CX [] H s0 (fun _ _ _ => False) e s' → False) :
    codeAny (model P w) callerA (.call (.ref fa) ⟨[.ref a], []⟩) (fun r s' => r = .ok (.ret (.bool true)) ∧ OldK s0.heap s'.heap ∧ s'.os = s0.os ∧ AllBare s'.gens) s0 := by
  have rv : Vals (ns.map V.int) vs := vals_ints hi
  rcases Option.eq_none_or_eq_some (K.lookup a) with kn | ⟨o, kn⟩
  · -- the script is tracked, as an object that nothing changes
    have at_a : (fun b => if b = a then some (HO.frz { cls := .type "list", data := .seq vs.toArray } (.lst (ns.map V.int))) else none : Hp) a = some (.frz { cls := .type "list", data := .seq vs.toArray } (.lst (ns.map V.int))) := if_pos rfl
    have off : ∀ b, b ≠ a → (fun b => if b = a then some (HO.frz { cls := .type "list", data := .seq vs.toArray } (.lst (ns.map V.int))) else none : Hp) b = none := fun b h => if_neg h
    generalize (fun b => if b = a then some (HO.frz { cls := .type "list", data := .seq vs.toArray } (.lst (ns.map V.int))) else none : Hp) = H at at_a off
    have oo : Only H := fun b => by
      by_cases h : b = a
      · subst h
        exact .inr ⟨_, _, at_a⟩
      · exact .inl (off b h)
    refine end_at Ki g1 g2 g3 g4 g5 ea hr F hb oo (fun b h => Classical.byContradiction fun n => h (off b n)) (fun _ => kn) (fun b u z => ?_) (hs H oo (.inl (.inr ⟨_, at_a⟩))) (hX H)
    by_cases h : b = a
    · subst h
      rw [at_a] at z
      cases z
      exact ⟨ea, by rw [List.length_map]; exact hl, vs, _, rv, ea⟩
    · rw [off b h] at z
      cases z
  · -- the script is an object of the module
    have e := Ki a o kn
    rw [ea] at e
    cases e
    have oo : Only (fun _ => none) := fun _ => .inl rfl
    refine end_at Ki g1 g2 g3 g4 g5 ea hr F hb oo (fun b h => (h rfl).elim) (fun h => (h rfl).elim) (fun b u z => nomatch (show (none : Option HO) = some u from z)) (hs _ oo (.inr ⟨_, vs.toArray, _, kn, rfl, rfl, rfl, ?_, by simpa using rv⟩)) (hX _)
    rw [List.size_toArray, ← rv.length, List.length_map]
    exact hl
end
/-- the end: what the law's def promises, at each heap that the top leaves -/
theorem walk_end {l : PySem.W.OpenLaw} {n k : Nat} {q : Program} {loose : List Str} {XP : (Str → Option Value) → Heap → Prop} {YP : World → Heap → Prop} {d : DefRec} {CX : CXT} {x : Str} (most : l.most = some n) (lt : n ≤ sizeLine) (nod : d.params.defaults = []) (room : Room k callerA)
    (F : ∀ (w : World) (mg : Str → Option Value) (fa : Addr) (h : Heap), YP w h → h.Ns mainGlobals mg → mg d.name = some (.ref fa) → ∃ (K : PySem.W.Frag) (fd : FuncData) (sp : Sp), K.In h ∧ (∀ (s : Shared) (u : Value), BindsTo s fd ⟨[u], []⟩ [(x, u)]) ∧
      (∀ (H : Hp) (a : Addr) (ns : List Int), ns.length ≤ n → Only H → SqL K H a (ns.map V.int) → sp [.ref a] H (fun v _ => v = .bl true) fun _ _ _ => False) ∧ ∀ base : Heap, K.In base → base.Ns mainGlobals mg → FnG l.prog w K mg base CX k fa fd [x] sp)
    (hX : ∀ (H : Hp) (s : Shared) (e : Value) (s' : Shared), CX [] H s (fun _ _ _ => False) e s' → False) : PySem.W.WalkO q loose XP YP l.row.toRowW d [] (fun f vs => PySem.call f vs) := by
  refine Att.attach_call most nod fun w s₀ s1 mg mb fa o pm cd doc a vs ns G Y z1 z2 z3 z4 obj its short gens => ?_
  obtain ⟨K, fd, sp, Ki, bd, pr, fn⟩ := F w mg fa _ Y G.T.g z4
  exact end_call Ki G.T.g G.T.b G.T.builtins G.T.nolimit gens obj its (Nat.le_trans short lt) room fn bd (fun H o q => pr H a ns short o q) fun H e s' => hX H s1 e s'
end Og

set_option Elab.async false
set_option linter.all false
set_option maxRecDepth 100000
set_option maxHeartbeats 4000000
/-! A caught exception that stays a value behind its handler: tracked, asked by isinstance, its fields read. -/
namespace Oe
open PySem PySem.Spec PyProof.Rows L2
/-- at a: an exception object of the class cls, its dict at d -/
def ExK (cls : Value) (d : Option Addr) (a : Addr) : HO := .ext fun h => ∃ (oe : Obj) (vs : Array Value), h.get? a = some oe ∧ Zc cls d oe ∧ oe.data = .fields vs
theorem exK_ok {P : Program} {w : World} {H : Hp} {h : Heap} {a : Addr} {cls : Value} {d : Option Addr} {oe : Obj} {vs : Array Value} (e : h.get? a = some oe) (z : Zc cls d oe) (hd : oe.data = .fields vs) : ObjOk P w H h a (ExK cls d a) :=
  ⟨⟨oe, vs, e, z, hd⟩, ⟨oe, e⟩, fun _ _ ⟨o, v, q, r⟩ k => ⟨o, v, k o q, r⟩⟩
section
variable {X : Cx} {pins : List (Addr × Obj)} {σ : L2.St} {H : Hp} {s : Shared}
theorem Inv.track {a : Addr} {cls : Value} {d : Option Addr} {oe : Obj} {vs : Array Value} (I : Inv X pins σ H s) (he : s.heap.get? a = some oe) (hz : Zc cls d oe) (hd : oe.data = .fields vs) (na : H a = none) (n0 : X.s_0.heap.get? a = none) (nL : a ≠ X.env.locals)
    (nc : ∀ y c, X.env.cells.lookup y = some c → c ≠ a) (np : ∀ p ∈ X.pn ++ pins, p.1 ≠ a) : Inv X pins σ (upd H a (ExK cls d a)) s := by
  have ne0 : ∀ b o, X.s_0.heap.get? b = some o → b ≠ a := fun b o e z => by
    rw [z, n0] at e
    cases e
  refine ⟨I.ok, I.os, I.bare, ⟨I.base.keep, I.base.slot, fun b o e n hq => ?_, I.base.there, fun b xs e => ?_, fun b o u e => ?_, fun b ps e => ?_⟩, I.loc, I.cell, ?_, fun x c e => ?_, fun p hp => ?_, I.hok.laidN (fun _ _ q => q) na (exK_ok he hz hd), I.len⟩
  · rw [upd_ne (ne0 b o e)]
    exact I.base.free b o e n hq
  · have q := I.base.tups b xs e
    rw [upd_ne (ne_of_none q na)]
    exact q
  · have q := I.base.frzs b o u e
    rw [upd_ne (ne_of_none q na)]
    exact q
  · obtain ⟨m, q⟩ := I.base.tbls b ps e
    exact ⟨m, by rw [upd_ne (ne_of_none q na)]; exact q⟩
  · rw [upd_ne (Ne.symm nL)]
    exact I.free
  · rw [upd_ne (nc x c e)]
    exact I.freeC x c e
  · obtain ⟨e, n, ne, nf, d⟩ := I.pin p hp
    exact ⟨e, by rw [upd_ne (np p hp)]; exact n, ne, nf, d⟩
end
/-- what 'except x as n: m = n' wishes of an exception of the body: x's class takes it, slot j is m's, and the exception stays a value -/
def wHeld (K : PySem.W.Frag) (c : Value) (i j n : Nat) (D : Ends) : WX := fun cls d σ H =>
  PySem.W.exmOne K cls c = some true ∧ ∀ a, H a = none → σ.length = n → D.nx (((σ.set i (some (.ref a))).set j (some (.ref a))).set i none) (upd H a (ExK cls d a))
section
variable {X : Cx} {x n m : Str} {c : Value} {i j : Nat} {body : List Stmt} {q1 q2 q3 np pos pos' : Pos} {tb : WX → TS}
/-- try: body / except x as n: m = n, every exception of the body one that x takes -/
theorem ps_try_held (hex : X.ex = []) (hs : X.stack = X.env :: X.outer) (hf : X.env.frame = some X.env.locals) (hN : X.N.Nodup) (hi : X.N[i]? = some n) (hj : X.N[j]? = some m) (hln : X.env.kindOf n = some .local) (hlm : X.env.kindOf m = some .local) (hc : Names X x c)
    (hb : ∀ (W : WX) (pn : List (Addr × Obj)) (xe : Value → Shared → Prop), Takes (X.tr pn xe) W → PassesOwn (model X.prog X.w) X.A X.env xe → PSs (X.tr pn xe) body (tb W))
    (hsu : ∀ (a : Addr) (oe : Obj) (pn : List (Addr × Obj)), PSs (X.suite a ((a, oe) :: pn)) [.Assign [.Name m q1] (.Name n q2) q3] (tAsg (tVar i) (gName j))) :
    PS X (.Try body [.ExceptHandler (some (.Name x np)) (some n) [.Assign [.Name m q1] (.Name n q2) q3] pos'] [] [] pos) (fun D σ H => tb (wHeld X.K c i j X.N.length D) D σ H) := by
  refine ⟨fun pins s σ H D I h => ?_⟩
  have ok := I.ok
  have hfr : X.A.frames = some (X.env :: X.outer) := by rw [ok.frames, hs]
  refine wpAny_Try_except ?_
  let land : Value → Shared → Prop := fun e t => wpAny (model X.prog X.w) X.A (noteFrame e X.env) (fun _ t2 => wpAny (model X.prog X.w) X.A (setFlight e none) (fun _ t3 =>
    wpAny (model X.prog X.w) X.A (handleBy e X.env [.ExceptHandler (some (.Name x np)) (some n) [.Assign [.Name m q1] (.Name n q2) q3] pos']) (SP X pins D) X.xe t3) X.xe t2) X.xe t
  have tk : Takes (X.tr (X.pn ++ pins) land) (wHeld X.K c i j X.N.length D) := fun u s' xx => ?caught
  refine wpAny_mono ((hb (wHeld X.K c i j X.N.length D) (X.pn ++ pins) land tk PassesOwn.looking).run [] s σ H D (I.toTry _) h) (fun f s1 hsp => ?through) (fun e s1 he => he)
  case through =>
    cases f with
    | next => exact hsp.elim fun σ' z => z.elim fun H' y => wpAny_execs_nil ⟨σ', H', y.1.ofTry ok, y.2⟩
    | brk => exact hsp.elim fun σ' z => z.elim fun H' y => ⟨σ', H', y.1.ofTry ok, y.2⟩
    | cont => exact hsp.elim fun σ' z => z.elim fun H' y => ⟨σ', H', y.1.ofTry ok, y.2⟩
    | ret u => exact hsp.elim fun v z => z.elim fun σ' y => y.elim fun H' x => ⟨v, σ', H', x.1.ofTry ok, x.2⟩
  case caught =>
    obtain ⟨a, B, sI, pins', σ', H', cls, d, rfl, J', nb, up, sky, na, os, ag, hx1, hyes⟩ := xx
    have J : Inv X pins σ' H' sI := J'.ofTry ok
    rw [show X.stack = X.env :: X.outer from hs] at nb
    show land (.ref a) s'
    refine Sky.land Zc.steady hfr hf (show Sky B (X.env :: X.outer) a (Zc cls d) X.env.locals s'.heap by rw [← hs]; exact sky) fun h3 fl3 up3 => ?_
    -- where the exception lies: no frame, not there at the entry
    have far : ∀ {h : Heap}, HandSPX.FlyingZ B (X.env :: X.outer) a (Zc cls d) h → a ∉ frs (X.env :: X.outer) := fun fl hm => by
      obtain ⟨oe, vs, e, _, dd⟩ := fl.there
      obtain ⟨_, o', e', hnf⟩ := fl.2.2.1.mem hm
      rw [e] at e'
      cases e'
      exact hnf _ dd
    have nfr := far fl3
    have nL : a ≠ X.env.locals := fun z => nfr (List.mem_filterMap.mpr ⟨X.env, List.mem_cons_self, by rw [hf, z]⟩)
    have nF : a ∉ X.fs := fun hm => by
      obtain ⟨e, he, q⟩ := List.mem_filterMap.mp hm
      exact nfr (List.mem_filterMap.mpr ⟨e, List.mem_cons_of_mem _ he, q⟩)
    have s0 : sI.heap.get? a = none := by
      cases z : sI.heap.get? a with
      | none => rfl
      | some o =>
        have z2 := nb a o z nfr
        rw [fl3.2.1] at z2
        cases z2
    have gone : ∀ {b : Addr} {o : Obj}, sI.heap.get? b = some o → b ≠ a := fun {b o} e z => by
      rw [z, s0] at e
      cases e
    have n0 : X.s_0.heap.get? a = none := by
      cases z : X.s_0.heap.get? a with
      | none => rfl
      | some o =>
        obtain ⟨o', z2⟩ := J.base.there a o z (by rw [hex]; exact fun z => nomatch z)
        exact absurd rfl (gone z2)
    obtain ⟨oe3, vs3, he3, hz3, hd3⟩ := fl3.there
    have back : ∀ {h4 : Heap}, HandSPX.FlyingZ B (X.env :: X.outer) a (Zc cls d) h4 → sI.heap.UpToSlots h4 → Inv X pins σ' H' { s' with heap := h4 } := fun fl u => J.landed (by rw [hs]; exact nb) fl.1 u os ag
    have J3 := back fl3 (up.trans up3)
    have S3 := J3.suite he3 hd3 na nL nF
    -- the class fits
    refine wpAny_handleBy_cons (codeAny_handlers_test ?_) (by intro q; cases q)
    have LT : PySem.W.Looks (model X.prog X.w) h3 (typeOf (.ref a)) cls := fun A Q E s k q => wpAny_typeOf_ref (k _ _ he3) (by rw [hz3.1]; exact q)
    have fits := PySem.W.exm_one (M := model X.prog X.w) J3.kIn LT hx1
    have named : ∀ {Q E : Value → Shared → Prop}, Q c { s' with heap := h3 } → wpAny (model X.prog X.w) (X.A.mark (some (.ref a))) (eval (.Name x np) X.env) Q E { s' with heap := h3 } := fun {Q E} q => by
      obtain ⟨hg, hdbg, hm | ⟨hm, hv, hnn⟩⟩ := hc
      · exact ld_glob (X := X.suite a ((a, oe3) :: (X.pn ++ pins))) S3 hg hm q hdbg
      · exact ld_blt (X := X.suite a ((a, oe3) :: (X.pn ++ pins))) S3 hg hm hv q hnn hdbg
    refine named (fits.here (codeAny_handlers_suite_as (HandSPX.lands_againZ fl3 fun h4 fl4 up4 => ?_)))
    obtain ⟨oe4, vs4, he4, hz4, hd4⟩ := fl4.there
    have S4 := (back fl4 ((up.trans up3).trans up4)).suite he4 hd4 na nL nF
    refine store_ok (X := X.suite a ((a, oe4) :: (X.pn ++ pins))) (v := .ref a) S4 hN hi (.inl hln) rfl (fun s5 S5 => ?_) (.inr hln)
    refine wpAny_mono ((hsu a oe4 (X.pn ++ pins)).run [] s5 _ H' { nx := fun σ6 H6 => σ6 = (σ'.set i (some (.ref a))).set j (some (.ref a)) ∧ H6 = H', rt := fun _ _ => False, bk := fun _ _ => False, ct := fun _ _ => False } S5 ?_) (fun f s6 hsp => ?_) (fun _ _ z => False.elim z)
    · have li : i < σ'.length := by
        rw [J.len]
        exact (List.getElem?_eq_some_iff.mp hi).1
      exact ⟨.ref a, List.getElem?_set_self li, rfl, rfl⟩
    cases f with
    | brk => exact hsp.elim fun _ z => z.elim fun _ y => y.2.elim
    | cont => exact hsp.elim fun _ z => z.elim fun _ y => y.2.elim
    | ret u => exact hsp.elim fun _ w => w.elim fun _ z => z.elim fun _ y => y.2.2.elim
    | next =>
      obtain ⟨σ6, H6, S6, rfl, rfl⟩ := hsp
      have hp6 := S6.pin (a, oe4) (List.mem_append_left _ List.mem_cons_self)
      have T6 := Inv.track (S6.unsuite ok) hp6.1 hz4 hd4 na n0 nL (fun y c e => (J.cell y c e).elim fun v z => z.elim fun o z2 => gone z2.1) fun p hp => gone (J.pin p hp).1
      exact gone_ok T6 hN hi hln fun s7 J7 => ⟨_, _, J7, hyes a na J.len⟩
end
/-! ### isinstance of it, a field of it -/
section
variable {X : Cx}
/-- isinstance(x, c), x an exception value of the own class D -/
def rIsX (K : PySem.W.Frag) : List V → Hp → VK → Prop := fun xs H Q => ∃ (a D : Addr) (d : Option Addr) (c : V) (cv : Value) (b : Bool), xs = [.ref a, c] ∧ H a = some (ExK (.ref D) d a) ∧ (∀ dd, d = some dd → ∃ fs, H dd = some (.xd fs)) ∧ L2.ExcC K D ∧ (∀ u, RelV c u → u = cv) ∧ PySem.W.kitOne K (.ref D) cv = some b ∧ Q (.bl b) H
theorem exK_at {P : Program} {w : World} {H : Hp} {h : Heap} {a : Addr} {cls : Value} {d : Option Addr} (hok : HOk P w H h) (he : H a = some (ExK cls d a)) : ∃ (oe : Obj) (vs : Array Value), h.get? a = some oe ∧ Zc cls d oe ∧ oe.data = .fields vs := by
  have x : ObjOk P w H h a (.ext fun h => ∃ (oe : Obj) (vs : Array Value), h.get? a = some oe ∧ Zc cls d oe ∧ oe.data = .fields vs) := hok a _ he
  exact x.1
/-- the object of a dict of an exception -/
theorem xd_obj {P : Program} {w : World} {H : Hp} {h : Heap} {dd : Addr} {fs : List (Str × V)} (hok : HOk P w H h) (e : H dd = some (.xd fs)) : ∃ mA, h.Ns1 dd mA ∧ ∀ f, RelO (fs.lookup f) (mA f) := by
  have hx : ObjOk P w H h dd (.xd fs) := hok dd _ e
  obtain ⟨mA, hns, hr⟩ := hx
  exact ⟨mA, hns, hr⟩
theorem exK_inst {P : Program} {w : World} {H : Hp} {h : Heap} {a D : Addr} {d : Option Addr} (hok : HOk P w H h) (he : H a = some (ExK (.ref D) d a)) (hd : ∀ dd, d = some dd → ∃ fs, H dd = some (.xd fs)) : ∃ oe od, PySem.W.InstAt h a oe D od := by
  obtain ⟨oe, vs, e1, hz, e2⟩ := exK_at hok he
  cases d with
  | none => exact ⟨oe, none, e1, hz.1, by unfold PySem.W.notCls; rw [e2] <;> rfl, by rw [hz.2]; trivial⟩
  | some dd =>
    obtain ⟨fs, ed⟩ := hd dd rfl
    obtain ⟨mA, hns, _⟩ := xd_obj hok ed
    obtain ⟨od, es, ep, ho, _⟩ := hns
    exact ⟨oe, some od, e1, hz.1, by unfold PySem.W.notCls; rw [e2] <;> rfl, by rw [hz.2]; exact ho⟩
theorem call_isX : CallR X (.builtin "isinstance") (rIsX X.K) := by
  intro pins s σ H xs us Q I r h
  obtain ⟨a, D, d, c, cv, b, rfl, he, hd, C, hcv, e, q⟩ := h
  cases r with
  | cons rx rr =>
    cases rr with
    | cons rt rr =>
      cases rr
      cases rx
      have ec := hcv _ rt
      subst ec
      obtain ⟨oe, od, J⟩ := exK_inst I.hok he hd
      have hcl : (PySem.W.clsIn X.K D).isSome = true := by
        obtain ⟨cd, hc, _⟩ := PySem.W.any_some C.hd
        rw [hc]
        rfl
      exact PySem.W.kia_one (PySem.W.kitx_exc hcl C.hg C.hk C.hs C.ha C.hn C.ht C.hm) I.kIn J e (fun z => nomatch z) fun tk => ⟨.bl b, H, I.kept (t' := tk) fun _ _ z => z, rfl, q⟩
/-- x.f, x an exception value of the own class C -/
def tXk (K : PySem.W.Frag) (f : Str) (te : TE) : TE := fun σ H Q => te σ H fun x H1 => ∃ (a C dd : Addr) (fs : List (Str × V)) (v : V), x = .ref a ∧ H1 a = some (ExK (.ref C) (some dd) a) ∧ H1 dd = some (.xd fs) ∧ XfC K C ∧ PySem.W.findIn K (.ref C) f = some none ∧ fs.lookup f = some v ∧ Q v H1
theorem pe_xk {e : Expr} {te : TE} {pos : Pos} {n : Str} (he : PE X e te) (hb : attributeBase e n X.env (eval e X.env) = eval e X.env := by rfl) : PE X (.Attribute e n pos) (tXk X.K n te) := by
  refine ⟨fun pins s σ H Q I h => ?_⟩
  refine attr_of hb (thn (he.run pins s σ H _ I h) fun u s1 hh => ?_)
  obtain ⟨x, H1, I1, rx, a, C, dd, fs, v, ex, ea, ed, T, hno, l, q⟩ := hh
  subst ex
  obtain rfl : u = Value.ref a := rx
  obtain ⟨oe, vs, e1, hz, e2⟩ := exK_at I1.hok ea
  obtain ⟨mA, hns, hr⟩ := xd_obj I1.hok ed
  obtain ⟨od, ho, hl⟩ := lookIn_ns hns
  obtain ⟨u, hu, ru⟩ := RelO.some_of (v := v) (o := mA n) (by rw [← l]; exact hr n)
  have J : PySem.W.InstAt s1.heap a oe C (some od) := ⟨e1, hz.1, by unfold PySem.W.notCls; rw [e2] <;> rfl, by rw [hz.2]; exact ho⟩
  exact HandSPX.exc_get I1.kIn J T.ga T.gg T.exC (PySem.W.findObj_own T.hdC hno rfl (by rw [hl, hu])) (handed_of ru) ⟨v, H1, I1.tok _, ru, q⟩
end
end Oe

set_option Elab.async false
set_option linter.all false
set_option maxRecDepth 100000
set_option maxHeartbeats 4000000
/-! Dl: values as data, what a piece of the program asks of data alone (W..), and its rules over the layer. -/
namespace Dl
open PySem PySem.Spec PyProof.Rows L2 LamX
/-! ### data -/
inductive D where
  | non | bl (b : Bool) | int (i : Int) | str (x : Str)
  | tup (xs : List D) | lst (xs : List D)
  | dct (kvs : List (Key × D))
  | ins (C : Addr) (fs : List (Str × D))
  | pen | obj (a : Addr) | ty (n : String)
  | exc (C : Addr) (fs : List (Str × D))
  deriving Inhabited
mutual
inductive Rep (K : PySem.W.Frag) (pn : Addr) (M : Hp) : V → D → Prop
  | non : Rep K pn M .non .non
  | bl (b : Bool) : Rep K pn M (.bl b) (.bl b)
  | int (i : Int) : Rep K pn M (.int i) (.int i)
  | str (x : Str) : Rep K pn M (.str x) (.str x)
  | tup {a : Addr} {xs : List V} {ds : List D} : SqT K M a xs → Reps K pn M xs ds → Rep K pn M (.ref a) (.tup ds)
  | lst {a : Addr} {xs : List V} {ds : List D} : M a = some (.lst xs) → Reps K pn M xs ds → Rep K pn M (.ref a) (.lst ds)
  | dct {a : Addr} {xs : List (Key × V)} {ds : List (Key × D)} : M a = some (.dK xs) → RepKs K pn M xs ds → Rep K pn M (.ref a) (.dct ds)
  | ins {a C dx : Addr} {fs : List (Str × V)} {gs : List (Str × D)} : M a = some (.ins C dx fs) → RepFs K pn M fs gs → Rep K pn M (.ref a) (.ins C gs)
  | pen : Rep K pn M (.ref pn) .pen
  | obj (a : Addr) : Rep K pn M (.ref a) (.obj a)
  | ty (n : String) : Rep K pn M (.ty n) (.ty n)
  | exc {a C dd : Addr} {fs : List (Str × V)} {gs : List (Str × D)} : M a = some (Oe.ExK (.ref C) (some dd) a) → M dd = some (.xd fs) → RepFs K pn M fs gs → Rep K pn M (.ref a) (.exc C gs)
inductive Reps (K : PySem.W.Frag) (pn : Addr) (M : Hp) : List V → List D → Prop
  | nil : Reps K pn M [] []
  | cons {v : V} {d : D} {vs : List V} {ds : List D} : Rep K pn M v d → Reps K pn M vs ds → Reps K pn M (v :: vs) (d :: ds)
inductive RepKs (K : PySem.W.Frag) (pn : Addr) (M : Hp) : List (Key × V) → List (Key × D) → Prop
  | nil : RepKs K pn M [] []
  | cons {k : Key} {v : V} {d : D} {vs : List (Key × V)} {ds : List (Key × D)} : Rep K pn M v d → RepKs K pn M vs ds → RepKs K pn M ((k, v) :: vs) ((k, d) :: ds)
inductive RepFs (K : PySem.W.Frag) (pn : Addr) (M : Hp) : List (Str × V) → List (Str × D) → Prop
  | nil : RepFs K pn M [] []
  | cons {k : Str} {v : V} {d : D} {vs : List (Str × V)} {ds : List (Str × D)} : Rep K pn M v d → RepFs K pn M vs ds → RepFs K pn M ((k, v) :: vs) ((k, d) :: ds)
end
def Same (H H' : Hp) : Prop := ∀ a o, H a = some o → H' a = some o
theorem Same.refl (H : Hp) : Same H H := fun _ _ h => h
theorem Same.trans {H H1 H2 : Hp} (x : Same H H1) (y : Same H1 H2) : Same H H2 := fun a o h => y a o (x a o h)
theorem same_upd {H : Hp} {p : Addr} {o : HO} (h : H p = none) : Same H (upd H p o) := fun b x e => by
  rw [upd_ne (ne_of_none e h)]
  exact e
theorem same_tup {K : PySem.W.Frag} {H H' : Hp} {a : Addr} {xs : List V} (e : Same H H') (h : SqT K H a xs) : SqT K H' a xs := by
  rcases h with (h | ⟨o, h⟩) | h
  · exact .inl (.inl (e _ _ h))
  · exact .inl (.inr ⟨o, e _ _ h⟩)
  · exact .inr h
theorem same_lst {K : PySem.W.Frag} {H H' : Hp} {a : Addr} {xs : List V} (e : Same H H') (h : SqL K H a xs) : SqL K H' a xs := by
  rcases h with (h | ⟨o, h⟩) | h
  · exact .inl (.inl (e _ _ h))
  · exact .inl (.inr ⟨o, e _ _ h⟩)
  · exact .inr h
section
variable {K : PySem.W.Frag} {pn : Addr} {M M' : Hp}
mutual
theorem Rep.mono (s : Same M M') : ∀ {v : V} {d : D}, Rep K pn M v d → Rep K pn M' v d
  | _, _, .non => .non
  | _, _, .bl b => .bl b
  | _, _, .int b => .int b
  | _, _, .str b => .str b
  | _, _, .tup h r => .tup (same_tup s h) (Reps.mono s r)
  | _, _, .lst h r => .lst (s _ _ h) (Reps.mono s r)
  | _, _, .dct h r => .dct (s _ _ h) (RepKs.mono s r)
  | _, _, .ins h r => .ins (s _ _ h) (RepFs.mono s r)
  | _, _, .pen => .pen
  | _, _, .obj a => .obj a
  | _, _, .ty n => .ty n
  | _, _, .exc h h2 r => .exc (s _ _ h) (s _ _ h2) (RepFs.mono s r)
theorem Reps.mono (s : Same M M') : ∀ {v : List V} {d : List D}, Reps K pn M v d → Reps K pn M' v d
  | _, _, .nil => .nil
  | _, _, .cons h t => .cons (Rep.mono s h) (Reps.mono s t)
theorem RepKs.mono (s : Same M M') : ∀ {v : List (Key × V)} {d : List (Key × D)}, RepKs K pn M v d → RepKs K pn M' v d
  | _, _, .nil => .nil
  | _, _, .cons h t => .cons (Rep.mono s h) (RepKs.mono s t)
theorem RepFs.mono (s : Same M M') : ∀ {v : List (Str × V)} {d : List (Str × D)}, RepFs K pn M v d → RepFs K pn M' v d
  | _, _, .nil => .nil
  | _, _, .cons h t => .cons (Rep.mono s h) (RepFs.mono s t)
end
theorem Reps.len : ∀ {v : List V} {d : List D}, Reps K pn M v d → v.length = d.length
  | _, _, .nil => rfl
  | _, _, .cons _ t => congrArg Nat.succ (Reps.len t)
theorem Reps.get : ∀ {v : List V} {d : List D} {i : Nat} {y : D}, Reps K pn M v d → d[i]? = some y → ∃ x, v[i]? = some x ∧ Rep K pn M x y
  | _, _, _, _, .nil, e => by simp at e
  | _, _, 0, _, .cons h t, e => by simp at e; subst e; exact ⟨_, rfl, h⟩
  | _, _, i + 1, _, .cons h t, e => Reps.get (i := i) t (by simpa using e)
theorem Reps.getL : ∀ {v : List V} {d : List D} {i : Nat} {x : V}, Reps K pn M v d → v[i]? = some x → ∃ y, d[i]? = some y ∧ Rep K pn M x y
  | _, _, _, _, .nil, e => by simp at e
  | _, _, 0, _, .cons h t, e => by simp at e; subst e; exact ⟨_, rfl, h⟩
  | _, _, i + 1, _, .cons h t, e => Reps.getL (i := i) t (by simpa using e)
theorem Reps.append : ∀ {v v' : List V} {d d' : List D}, Reps K pn M v d → Reps K pn M v' d' → Reps K pn M (v ++ v') (d ++ d')
  | _, _, _, _, .nil, s => s
  | _, _, _, _, .cons h t, s => .cons h (Reps.append t s)
theorem Reps.take : ∀ {v : List V} {d : List D} (n : Nat), Reps K pn M v d → Reps K pn M (v.take n) (d.take n)
  | _, _, 0, _ => by simpa using Reps.nil
  | _, _, _ + 1, .nil => .nil
  | _, _, n + 1, .cons h t => .cons h (Reps.take n t)
theorem Reps.drop : ∀ {v : List V} {d : List D} (n : Nat), Reps K pn M v d → Reps K pn M (v.drop n) (d.drop n)
  | _, _, 0, h => by simpa using h
  | _, _, _ + 1, .nil => .nil
  | _, _, n + 1, .cons h t => Reps.drop n t
theorem Reps.snoc {v : List V} {d : List D} {x : V} {y : D} (h : Reps K pn M v d) (r : Rep K pn M x y) : Reps K pn M (v ++ [x]) (d ++ [y]) := h.append (.cons r .nil)
theorem Reps.set : ∀ {v : List V} {d : List D} (i : Nat) {x : V} {y : D}, Reps K pn M v d → Rep K pn M x y → Reps K pn M (v.set i x) (d.set i y)
  | _, _, _, _, _, .nil, _ => .nil
  | _, _, 0, _, _, .cons _ t, r => .cons r t
  | _, _, i + 1, _, _, .cons h t, r => .cons h (Reps.set i t r)
theorem Reps.nil_iff {v : List V} {d : List D} (h : Reps K pn M v d) : v = [] ↔ d = [] := by
  cases h <;> simp
theorem RepFs.look : ∀ {fs : List (Str × V)} {gs : List (Str × D)} {f : Str} {d : D}, RepFs K pn M fs gs → gs.lookup f = some d → ∃ v, fs.lookup f = some v ∧ Rep K pn M v d
  | _, _, _, _, .nil, e => by simp at e
  | (k, v) :: fs, _ :: gs, f, d, .cons h t, e => by
    simp only [List.lookup_cons] at e ⊢
    cases q : f == k with
    | true =>
      rw [q] at e
      cases e
      exact ⟨_, rfl, h⟩
    | false =>
      rw [q] at e
      exact RepFs.look t e
theorem RepFs.none : ∀ {fs : List (Str × V)} {gs : List (Str × D)} {f : Str}, RepFs K pn M fs gs → gs.lookup f = none → fs.lookup f = none
  | _, _, _, .nil, _ => rfl
  | (k, v) :: fs, _ :: gs, f, .cons h t, e => by
    simp only [List.lookup_cons] at e ⊢
    cases q : f == k with
    | true =>
      rw [q] at e
      cases e
    | false =>
      rw [q] at e
      exact RepFs.none t e
def putD (f : Str) (d : D) : List (Str × D) → List (Str × D)
  | [] => [(f, d)]
  | (g, x) :: r => if g = f then (g, d) :: r else (g, x) :: putD f d r
end
end Dl

set_option Elab.async false
set_option linter.all false
set_option maxRecDepth 100000
set_option maxHeartbeats 4000000
namespace Dl
open PySem PySem.Spec PyProof.Rows L2 LamX
/-! ### where one stands -/
/-- a pen at a: from at most n draws -/
def PenAt (H : Hp) (a b : Addr) (n : Nat) : Prop := ∃ (ns : List Int) (i : Nat) (g : Int), H a = some (.lst [.ref b, .int (i : Int), .int g]) ∧ H b = some (.lst (ns.map V.int)) ∧ ns.length ≤ 63 ∧ i ≤ n
structure Gh where
  pn : Addr
  b : Addr
  M0 : Hp
  H0 : Hp
  stm : Bool
/-- nothing but a table may stand there -/
def Nt (H : Hp) (a : Addr) : Prop := ∀ u, H a = some u → ∃ ps, u = .tbl ps
structure Ext (pn : Addr) (H0 H : Hp) : Prop where
  rl : ∀ c u, c ≠ pn → H0 c = some u → (∀ ps, u ≠ .tbl ps) → H c = some u
theorem Ext.refl (pn : Addr) (H : Hp) : Ext pn H H := ⟨fun _ _ _ h _ => h⟩
theorem Ext.trans {pn : Addr} {H H1 H2 : Hp} (a : Ext pn H H1) (b : Ext pn H1 H2) : Ext pn H H2 := ⟨fun c u n h t => b.rl c u n (a.rl c u n h t) t⟩
theorem Ext.of_same {pn : Addr} {H H1 : Hp} (s : Same H H1) : Ext pn H H1 := ⟨fun c u _ h _ => s c u h⟩
/-- an object that is no table and no code object -/
def Pl : HO → Prop
  | .tbl _ => False
  | .ext _ => False
  | _ => True
/-- where a lambda's caller stood -/
structure Pin where
  pn : Addr
  b : Addr
  M : Hp
  H : Hp
structure Tb where
  tabs : List (Addr × Str)
  pin : Option Pin := none
structure PinOk (q : Pin) (pn b : Addr) (H0 M H : Hp) : Prop where
  epn : pn = q.pn
  eb : b = q.b
  sub : Same q.M M
  ext : Ext pn q.H H
  mnew : ∀ a, M a ≠ none → q.M a ≠ none ∨ Nt q.H a
  nt : ∀ a, Nt H0 a → Nt q.H a
structure Bs (K : PySem.W.Frag) (T : Tb) (g : Gh) (n : Nat) (M H : Hp) : Prop where
  sub : Same M H
  pen : PenAt H g.pn g.b n
  npn : M g.pn = none
  pen0 : ¬ Nt g.H0 g.pn
  b0 : ¬ Nt g.H0 g.b
  tab : Tabs T.tabs H
  ntb : ∀ a ps, M a ≠ some (.tbl ps)
  ext : Ext g.pn g.H0 H
  mnew : ∀ a, M a ≠ none → g.M0 a ≠ none ∨ Nt g.H0 a
  msub : Same g.M0 M
  pinned : ∀ q, T.pin = some q → PinOk q g.pn g.b g.H0 M H
inductive Sl where
  | un | val (d : D) | own (ds : List D) | ownD (kvs : List (Key × D)) | ownI (a C : Addr) (fs : List (Str × D))
  deriving Inhabited
def Sl.isOwn : Sl → Bool
  | .own _ => true
  | .ownD _ => true
  | .ownI _ _ _ => true
  | _ => false
inductive SlR (K : PySem.W.Frag) (pn : Addr) (M H : Hp) : Sl → Option V → Prop
  | un {o : Option V} : SlR K pn M H .un o
  | val {v : V} {d : D} : Rep K pn M v d → SlR K pn M H (.val d) (some v)
  | own {a : Addr} {vs : List V} {ds : List D} : H a = some (.lst vs) → M a = none → a ≠ pn → Reps K pn M vs ds → SlR K pn M H (.own ds) (some (.ref a))
  | ownD {a : Addr} {vs : List (Key × V)} {ds : List (Key × D)} : H a = some (.dK vs) → M a = none → a ≠ pn → RepKs K pn M vs ds → SlR K pn M H (.ownD ds) (some (.ref a))
  | ownI {a C dx : Addr} {vs : List (Str × V)} {ds : List (Str × D)} : H a = some (.ins C dx vs) → M a = none → a ≠ pn → RepFs K pn M vs ds → SlR K pn M H (.ownI a C ds) (some (.ref a))
structure Rel (K : PySem.W.Frag) (T : Tb) (g : Gh) (n : Nat) (S : List Sl) (σ : L2.St) (M H : Hp) : Prop where
  bs : Bs K T g n M H
  len : S.length = σ.length
  sl : ∀ (i : Nat) (s : Sl), S[i]? = some s → ∃ o, σ[i]? = some o ∧ SlR K g.pn M H s o
  sep : ∀ (i j : Nat) (s t : Sl) (a : Addr), S[i]? = some s → S[j]? = some t → s.isOwn = true → t.isOwn = true → σ[i]? = some (some (.ref a)) → σ[j]? = some (some (.ref a)) → i = j
  fr : ∀ (i : Nat) (s : Sl) (a : Addr), S[i]? = some s → s.isOwn = true → σ[i]? = some (some (.ref a)) → (g.stm = true → Nt g.H0 a) ∧ ∀ q, T.pin = some q → Nt q.H a
section
variable {K : PySem.W.Frag} {T : Tb} {g : Gh} {n : Nat} {S : List Sl} {σ : L2.St} {M H M' H' : Hp}
theorem PenAt.same {a b : Addr} (p : PenAt H a b n) (s : Same H H') : PenAt H' a b n := by
  obtain ⟨ns, i, g, h1, h2, h3⟩ := p
  exact ⟨ns, i, g, s _ _ h1, s _ _ h2, h3⟩
theorem PenAt.put {a b c : Addr} {o : HO} (p : PenAt H a b n) (ca : c ≠ a) (cb : c ≠ b) : PenAt (upd H c o) a b n := by
  obtain ⟨ns, i, g, h1, h2, h3⟩ := p
  exact ⟨ns, i, g, by rw [upd_ne (Ne.symm ca)]; exact h1, by rw [upd_ne (Ne.symm cb)]; exact h2, h3⟩
theorem tabs_put {Tt : List (Addr × Str)} {p : Addr} {o u : HO} (e : H p = some o) (pl : Pl o) (t : Tabs Tt H) : Tabs Tt (upd H p u) := fun q hq => by
  obtain ⟨ps, h1, h2, h3⟩ := t q hq
  have pa : q.1 ≠ p := fun z => by
    rw [z, e] at h1
    cases h1
    exact pl
  refine ⟨ps, by rw [upd_ne pa]; exact h1, h2, fun pos cv hc => ?_⟩
  obtain ⟨c, e1, e2⟩ := h3 pos cv hc
  have ca : c ≠ p := fun z => by
    rw [z, e] at e2
    unfold CodeO at e2
    cases e2
    exact pl
  exact ⟨c, e1, by rw [upd_ne ca]; exact e2⟩
theorem L2tabs {Tt : List (Addr × Str)} (e : Same H H') (t : Tabs Tt H) : Tabs Tt H' := t.ext e
theorem SlR.grow {s : Sl} {o : Option V} (h : SlR K g.pn M H s o) (e : Same H H') : SlR K g.pn M H' s o := by
  cases h with
  | un => exact .un
  | val r => exact .val r
  | own h1 h2 h3 r => exact .own (e _ _ h1) h2 h3 r
  | ownD h1 h2 h3 r => exact .ownD (e _ _ h1) h2 h3 r
  | ownI h1 h2 h3 r => exact .ownI (e _ _ h1) h2 h3 r
theorem Bs.grow (r : Bs K T g n M H) (e : Same H H') : Bs K T g n M H' :=
  ⟨r.sub.trans e, r.pen.same e, r.npn, r.pen0, r.b0, L2tabs e r.tab, r.ntb, r.ext.trans (.of_same e), r.mnew, r.msub, fun q h => have z := r.pinned q h; ⟨z.epn, z.eb, z.sub, z.ext.trans (.of_same e), z.mnew, z.nt⟩⟩
theorem Rel.grow (r : Rel K T g n S σ M H) (e : Same H H') : Rel K T g n S σ M H' :=
  ⟨r.bs.grow e, r.len, fun i s h => by
    obtain ⟨o, h1, h2⟩ := r.sl i s h
    exact ⟨o, h1, h2.grow e⟩, r.sep, r.fr⟩
theorem Bs.nt (r : Bs K T g n M H) {p : Addr} (h : Nt H p) : Nt g.H0 p := fun u e => by
  have np : p ≠ g.pn := fun z => by
    obtain ⟨_, _, _, h1, _⟩ := r.pen
    obtain ⟨ps, e⟩ := h _ (by rw [z]; exact h1)
    cases e
  cases u with
  | tbl ps => exact ⟨ps, rfl⟩
  | _ => exact h _ (r.ext.rl p _ np e (fun ps z => by cases z))
theorem nt_none {H : Hp} {p : Addr} (h : H p = none) : Nt H p := fun u e => by rw [h] at e; cases e
theorem Bs.h0 (r : Bs K T g n M H) {p : Addr} (h : H p = none) : Nt g.H0 p := r.nt (nt_none h)
theorem Bs.mn (r : Bs K T g n M H) {p : Addr} (h : H p = none) : M p = none := by
  cases e : M p with
  | none => rfl
  | some o => rw [r.sub _ _ e] at h; cases h
theorem Bs.pnn (r : Bs K T g n M H) {p : Addr} (h : H p = none) : p ≠ g.pn := fun z => by
  obtain ⟨_, _, _, h1, _⟩ := r.pen
  rw [← z, h] at h1
  cases h1
/-- what stands at p in H is taken among the frozen -/
theorem Bs.freeze (r : Bs K T g n M H) {p : Addr} {o : HO} (e : H p = some o) (mn : M p = none) (np : p ≠ g.pn) (h0 : Nt g.H0 p) (nt : ∀ ps, o ≠ .tbl ps) : Bs K T g n (upd M p o) H :=
  ⟨fun a u h => by
    by_cases z : a = p
    · subst z; rw [upd_same] at h; cases h; exact e
    · rw [upd_ne z] at h; exact r.sub _ _ h,
   r.pen, by rw [upd_ne (Ne.symm np)]; exact r.npn, r.pen0, r.b0, r.tab, fun a ps h => by
    by_cases z : a = p
    · subst z; rw [upd_same] at h; cases h; exact nt ps rfl
    · rw [upd_ne z] at h; exact r.ntb a ps h,
   r.ext, fun a h => by
    by_cases z : a = p
    · subst z; exact .inr h0
    · rw [upd_ne z] at h; exact r.mnew a h,
   fun a u h => by
    have h1 := r.msub _ _ h
    rw [upd_ne (ne_of_none h1 mn)]
    exact h1, fun q h => have z := r.pinned q h; ⟨z.epn, z.eb, fun a u h => by
    have h1 := z.sub _ _ h
    rw [upd_ne (ne_of_none h1 mn)]
    exact h1, z.ext, fun a h => by
    by_cases e : a = p
    · subst e; exact .inr (z.nt _ h0)
    · rw [upd_ne e] at h; exact z.mnew a h, z.nt⟩⟩
theorem SlR.freeze {s : Sl} {o : Option V} {p : Addr} {u : HO} (h : SlR K g.pn M H s o) (mn : M p = none) (no : s.isOwn = true → o ≠ some (.ref p)) : SlR K g.pn (upd M p u) H s o := by
  have sm := same_upd (o := u) mn
  cases h with
  | un => exact .un
  | val r => exact .val (r.mono sm)
  | @own a _ _ h1 h2 h3 r => exact .own h1 (by rw [upd_ne (fun z => no rfl (by rw [z]))]; exact h2) h3 (r.mono sm)
  | @ownD a _ _ h1 h2 h3 r => exact .ownD h1 (by rw [upd_ne (fun z => no rfl (by rw [z]))]; exact h2) h3 (r.mono sm)
  | @ownI a _ _ _ _ h1 h2 h3 r => exact .ownI h1 (by rw [upd_ne (fun z => no rfl (by rw [z]))]; exact h2) h3 (r.mono sm)
theorem Rel.freeze (r : Rel K T g n S σ M H) {p : Addr} {o : HO} (e : H p = some o) (mn : M p = none) (np : p ≠ g.pn) (h0 : Nt g.H0 p) (nt : ∀ ps, o ≠ .tbl ps)
    (no : ∀ (i : Nat) (s : Sl), S[i]? = some s → s.isOwn = true → σ[i]? ≠ some (some (.ref p))) : Rel K T g n S σ (upd M p o) H :=
  ⟨r.bs.freeze e mn np h0 nt, r.len, fun i s h => by
    obtain ⟨v, h1, h2⟩ := r.sl i s h
    exact ⟨v, h1, h2.freeze mn fun z y => no i s h z (by rw [h1, y])⟩, r.sep, r.fr⟩
theorem Rel.own_at (r : Rel K T g n S σ M H) {i : Nat} {s : Sl} {a : Addr} (h : S[i]? = some s) (o : s.isOwn = true) (e : σ[i]? = some (some (.ref a))) : ∃ u, H a = some u ∧ Pl u := by
  obtain ⟨v, h1, h2⟩ := r.sl i s h
  rw [e] at h1
  cases h1
  cases h2 with
  | un => cases o
  | val _ => cases o
  | own h1 _ _ _ => exact ⟨_, h1, trivial⟩
  | ownD h1 _ _ _ => exact ⟨_, h1, trivial⟩
  | ownI h1 _ _ _ => exact ⟨_, h1, trivial⟩
/-- a new object, frozen at once -/
theorem Rel.new (r : Rel K T g n S σ M H) {p : Addr} {o : HO} (np : H p = none) (nt : ∀ ps, o ≠ .tbl ps) : Rel K T g n S σ (upd M p o) (upd H p o) :=
  (r.grow (same_upd np)).freeze upd_same (r.bs.mn np) (r.bs.pnn np) (r.bs.h0 np) nt fun i s h z y => by
    obtain ⟨u, e, _⟩ := r.own_at h z y
    rw [np] at e
    cases e
theorem Bs.new (r : Bs K T g n M H) {p : Addr} {o : HO} (np : H p = none) (nt : ∀ ps, o ≠ .tbl ps) : Bs K T g n (upd M p o) (upd H p o) :=
  (r.grow (same_upd np)).freeze upd_same (r.mn np) (r.pnn np) (r.h0 np) nt
/-- behind a def that was called from here -/
def Gh.at (g : Gh) (M H : Hp) (st : Bool) : Gh := ⟨g.pn, g.b, M, H, st⟩
theorem Bs.enter (r : Bs K T g n M H) (st : Bool) : Bs K T (g.at M H st) n M H :=
  ⟨r.sub, r.pen, r.npn, (fun z => by
    obtain ⟨_, _, _, h1, _⟩ := r.pen
    obtain ⟨ps, e⟩ := z _ h1
    cases e), (fun z => by
    obtain ⟨_, _, _, _, h1, _⟩ := r.pen
    obtain ⟨ps, e⟩ := z _ h1
    cases e), r.tab, r.ntb, .refl _ _, fun a h => .inl h, Same.refl _, fun q h => have z := r.pinned q h; ⟨z.epn, z.eb, z.sub, z.ext, z.mnew, fun a ha u hu => by
    have np : a ≠ g.pn := fun e => by
      obtain ⟨_, _, _, h1, _⟩ := r.pen
      obtain ⟨ps, e⟩ := ha _ (by rw [e]; exact h1)
      cases e
    cases u with
    | tbl ps => exact ⟨ps, rfl⟩
    | _ => exact ha _ (z.ext.rl a _ np hu (fun ps z => by cases z))⟩⟩
theorem Bs.back (r : Bs K T g n M H) {st : Bool} {n' : Nat} (q : Bs K T (g.at M H st) n' M' H') : Bs K T g n' M' H' :=
  ⟨q.sub, q.pen, q.npn, r.pen0, r.b0, q.tab, q.ntb, r.ext.trans q.ext, fun a h => by
    rcases q.mnew a h with z | z
    · exact r.mnew a z
    · exact .inr (r.nt z), r.msub.trans q.msub, fun p h => have z := q.pinned p h; ⟨z.epn, z.eb, z.sub, z.ext, z.mnew, (r.pinned p h).nt⟩⟩
theorem SlR.back {s : Sl} {o : Option V} {st : Bool} {n' : Nat} (h : SlR K g.pn M H s o) (q : Bs K T (g.at M H st) n' M' H') : SlR K g.pn M' H' s o := by
  have mm : ∀ {a : Addr} {u : HO}, H a = some u → Pl u → M a = none → M' a = none := fun {a u} h1 hp h2 => by
    cases e : M' a with
    | none => rfl
    | some w =>
      rcases q.mnew a (by rw [e]; simp) with z | z
      · exact absurd h2 z
      · obtain ⟨ps, e⟩ := z u h1
        rw [e] at hp
        exact hp.elim
  cases h with
  | un => exact .un
  | val r => exact .val (r.mono q.msub)
  | own h1 h2 h3 r => exact .own (q.ext.rl _ _ h3 h1 (fun _ z => by cases z)) (mm h1 trivial h2) h3 (r.mono q.msub)
  | ownD h1 h2 h3 r => exact .ownD (q.ext.rl _ _ h3 h1 (fun _ z => by cases z)) (mm h1 trivial h2) h3 (r.mono q.msub)
  | ownI h1 h2 h3 r => exact .ownI (q.ext.rl _ _ h3 h1 (fun _ z => by cases z)) (mm h1 trivial h2) h3 (r.mono q.msub)
theorem Rel.back (r : Rel K T g n S σ M H) {st : Bool} {n' : Nat} (q : Bs K T (g.at M H st) n' M' H') : Rel K T g n' S σ M' H' :=
  ⟨r.bs.back q, r.len, fun i s h => by
    obtain ⟨o, h1, h2⟩ := r.sl i s h
    exact ⟨o, h1, h2.back q⟩, r.sep, r.fr⟩
/-- an object that nothing of here leans on is laid or changed -/
theorem Bs.put (r : Bs K T g n M H) {p : Addr} {o u : HO} (e : H p = some u) (pl : Pl u) (mn : M p = none) (h0 : Nt g.H0 p) : Bs K T g n M (upd H p o) := by
  have npn : p ≠ g.pn := fun z => r.pen0 (by rw [← z]; exact h0)
  have npb : p ≠ g.b := fun z => r.b0 (by rw [← z]; exact h0)
  refine ⟨fun a w h => by rw [upd_ne (ne_of_none h mn)]; exact r.sub _ _ h, r.pen.put npn npb, r.npn, r.pen0, r.b0, tabs_put e pl r.tab, r.ntb, ⟨fun c w nc h t => ?_⟩, r.mnew, r.msub, fun q h => have z := r.pinned q h; ⟨z.epn, z.eb, z.sub, ⟨fun c w nc h t => ?_⟩, z.mnew, z.nt⟩⟩
  rotate_left
  · rw [upd_ne (fun y => by
      rw [y] at h
      obtain ⟨ps, e⟩ := z.nt p h0 w h
      exact t ps e)]
    exact z.ext.rl c w nc h t
  rw [upd_ne (fun z => by
    rw [z] at h
    obtain ⟨ps, e⟩ := h0 w h
    exact t ps e)]
  exact r.ext.rl c w nc h t
theorem SlR.put {s : Sl} {v : Option V} {p : Addr} {o : HO} (h : SlR K g.pn M H s v) (no : s.isOwn = true → v ≠ some (.ref p)) : SlR K g.pn M (upd H p o) s v := by
  cases h with
  | un => exact .un
  | val r => exact .val r
  | own h1 h2 h3 r => exact .own (by rw [upd_ne (fun z => no rfl (by rw [z]))]; exact h1) h2 h3 r
  | ownD h1 h2 h3 r => exact .ownD (by rw [upd_ne (fun z => no rfl (by rw [z]))]; exact h1) h2 h3 r
  | ownI h1 h2 h3 r => exact .ownI (by rw [upd_ne (fun z => no rfl (by rw [z]))]; exact h1) h2 h3 r
theorem Rel.put (r : Rel K T g n S σ M H) {p : Addr} {o u : HO} (e : H p = some u) (pl : Pl u) (mn : M p = none) (h0 : Nt g.H0 p)
    (no : ∀ (i : Nat) (s : Sl), S[i]? = some s → s.isOwn = true → σ[i]? ≠ some (some (.ref p))) : Rel K T g n S σ M (upd H p o) :=
  ⟨r.bs.put e pl mn h0, r.len, fun i s h => by
    obtain ⟨v, h1, h2⟩ := r.sl i s h
    exact ⟨v, h1, h2.put fun z y => no i s h z (by rw [h1, y])⟩, r.sep, r.fr⟩
theorem set_get {α : Type} {l : List α} {i j : Nat} {x y : α} (h : (l.set i x)[j]? = some y) : (i = j ∧ y = x ∧ i < l.length) ∨ (i ≠ j ∧ l[j]? = some y) := by
  by_cases e : i = j
  · subst e
    by_cases hl : i < l.length
    · rw [List.getElem?_set_self hl] at h
      exact .inl ⟨rfl, (Option.some.inj h).symm, hl⟩
    · rw [List.getElem?_eq_none (by rw [List.length_set]; omega)] at h
      cases h
  · rw [List.getElem?_set_ne e] at h
    exact .inr ⟨e, h⟩
/-- a value in a slot -/
theorem Rel.set (r : Rel K T g n S σ M H) {i : Nat} {v : V} {d : D} (h : Rep K g.pn M v d) : Rel K T g n (S.set i (.val d)) (σ.set i (some v)) M H := by
  refine ⟨r.bs, by rw [List.length_set, List.length_set]; exact r.len, fun j s e => ?_, fun j k s t a e1 e2 o1 o2 q1 q2 => ?_, fun j s a e o q => ?_⟩
  · rcases set_get e with ⟨rfl, rfl, hl⟩ | ⟨ne, e⟩
    · exact ⟨some v, List.getElem?_set_self (by rw [← r.len]; exact hl), .val h⟩
    · rw [List.getElem?_set_ne ne]
      exact r.sl j s e
  · rcases set_get e1 with ⟨rfl, rfl, _⟩ | ⟨ne1, e1⟩
    · cases o1
    · rcases set_get e2 with ⟨rfl, rfl, _⟩ | ⟨ne2, e2⟩
      · cases o2
      · rw [List.getElem?_set_ne ne1] at q1
        rw [List.getElem?_set_ne ne2] at q2
        exact r.sep j k s t a e1 e2 o1 o2 q1 q2
  · rcases set_get e with ⟨rfl, rfl, _⟩ | ⟨ne, e⟩
    · cases o
    · rw [List.getElem?_set_ne ne] at q
      exact r.fr j s a e o q
theorem Rel.unset (r : Rel K T g n S σ M H) {i : Nat} {v : Option V} : Rel K T g n (S.set i .un) (σ.set i v) M H := by
  refine ⟨r.bs, by rw [List.length_set, List.length_set]; exact r.len, fun j s e => ?_, fun j k s t a e1 e2 o1 o2 q1 q2 => ?_, fun j s a e o q => ?_⟩
  · rcases set_get e with ⟨rfl, rfl, hl⟩ | ⟨ne, e⟩
    · exact ⟨v, List.getElem?_set_self (by rw [← r.len]; exact hl), .un⟩
    · rw [List.getElem?_set_ne ne]
      exact r.sl j s e
  · rcases set_get e1 with ⟨rfl, rfl, _⟩ | ⟨ne1, e1⟩
    · cases o1
    · rcases set_get e2 with ⟨rfl, rfl, _⟩ | ⟨ne2, e2⟩
      · cases o2
      · rw [List.getElem?_set_ne ne1] at q1
        rw [List.getElem?_set_ne ne2] at q2
        exact r.sep j k s t a e1 e2 o1 o2 q1 q2
  · rcases set_get e with ⟨rfl, rfl, _⟩ | ⟨ne, e⟩
    · cases o
    · rw [List.getElem?_set_ne ne] at q
      exact r.fr j s a e o q
/-- an object of one's own in a slot -/
theorem Rel.setOwn (r : Rel K T g n S σ M H) {i : Nat} {a : Addr} {s0 : Sl} (so : s0.isOwn = true) (h : SlR K g.pn M H s0 (some (.ref a))) (h0 : Nt g.H0 a)
    (no : ∀ (j : Nat) (s : Sl), j ≠ i → S[j]? = some s → s.isOwn = true → σ[j]? ≠ some (some (.ref a))) : Rel K T g n (S.set i s0) (σ.set i (some (.ref a))) M H := by
  refine ⟨r.bs, by rw [List.length_set, List.length_set]; exact r.len, fun j s e => ?_, fun j k s t c e1 e2 o1 o2 q1 q2 => ?_, fun j s c e o q => ?_⟩
  · rcases set_get e with ⟨rfl, rfl, hl⟩ | ⟨ne, e⟩
    · exact ⟨_, List.getElem?_set_self (by rw [← r.len]; exact hl), h⟩
    · rw [List.getElem?_set_ne ne]
      exact r.sl j s e
  · rcases set_get e1 with ⟨rfl, rfl, l1⟩ | ⟨ne1, e1⟩
    · rcases set_get e2 with ⟨rfl, _, _⟩ | ⟨ne2, e2⟩
      · rfl
      · rw [List.getElem?_set_self (by rw [← r.len]; exact l1)] at q1
        cases q1
        rw [List.getElem?_set_ne ne2] at q2
        exact absurd q2 (no k t (Ne.symm ne2) e2 o2)
    · rw [List.getElem?_set_ne ne1] at q1
      have e1' := e1
      clear e1
      rcases set_get e2 with ⟨rfl, rfl, l2⟩ | ⟨ne2, e2⟩
      · rw [List.getElem?_set_self (by rw [← r.len]; exact l2)] at q2
        cases q2
        exact absurd q1 (no j s (Ne.symm ne1) e1' o1)
      · rw [List.getElem?_set_ne ne2] at q2
        exact r.sep j k s t c e1' e2 o1 o2 q1 q2
  · rcases set_get e with ⟨rfl, rfl, l1⟩ | ⟨ne, e⟩
    · rw [List.getElem?_set_self (by rw [← r.len]; exact l1)] at q
      cases q
      exact ⟨fun _ => h0, fun q e => (r.bs.pinned q e).nt _ h0⟩
    · rw [List.getElem?_set_ne ne] at q
      exact r.fr j s c e o q
theorem Rel.extN (r : Rel K T g n S σ M H) (e : ExtN H H') (t : Tabs T.tabs H') : Rel K T g n S σ M H' := by
  refine ⟨⟨fun a o h => e _ _ (r.bs.sub _ _ h) (fun ps z => r.bs.ntb a ps (by rw [h, z])), ?_, r.bs.npn, r.bs.pen0, r.bs.b0, t, r.bs.ntb, ⟨fun c u nc h tb => e _ _ (r.bs.ext.rl c u nc h tb) tb⟩, r.bs.mnew, r.bs.msub, fun q h => have z := r.bs.pinned q h; ⟨z.epn, z.eb, z.sub, ⟨fun c u nc h tb => e _ _ (z.ext.rl c u nc h tb) tb⟩, z.mnew, z.nt⟩⟩, r.len, fun i s h => ?_, r.sep, r.fr⟩
  · obtain ⟨ns, i, g, h1, h2, h3⟩ := r.bs.pen
    exact ⟨ns, i, g, e _ _ h1 (fun ps z => by cases z), e _ _ h2 (fun ps z => by cases z), h3⟩
  · obtain ⟨o, h1, h2⟩ := r.sl i s h
    refine ⟨o, h1, ?_⟩
    cases h2 with
    | un => exact .un
    | val r => exact .val r
    | own h4 h5 h3 r => exact .own (e _ _ h4 (fun ps z => by cases z)) h5 h3 r
    | ownD h4 h5 h3 r => exact .ownD (e _ _ h4 (fun ps z => by cases z)) h5 h3 r
    | ownI h4 h5 h3 r => exact .ownI (e _ _ h4 (fun ps z => by cases z)) h5 h3 r
theorem Rel.val (r : Rel K T g n S σ M H) {i : Nat} {d : D} (h : S[i]? = some (.val d)) : ∃ v, σ[i]? = some (some v) ∧ Rep K g.pn M v d := by
  obtain ⟨o, h1, h2⟩ := r.sl i _ h
  cases h2 with
  | val h2 => exact ⟨_, h1, h2⟩
end
end Dl

set_option Elab.async false
set_option linter.all false
set_option maxRecDepth 100000
set_option maxHeartbeats 4000000
namespace Dl
open PySem PySem.Spec PyProof.Rows L2 LamX
/-! ### what a piece asks of data; how that is read over the heap -/
abbrev KD := D → Nat → Prop
abbrev Err := Addr × List (Str × D)
abbrev KX := Err → Nat → Prop
abbrev WE := List Sl → Nat → KD → KX → Prop
abbrev WT := List Sl → Nat → (Bool → Nat → Prop) → KX → Prop
abbrev WA := List Sl → Nat → (List D → Nat → Prop) → KX → Prop
abbrev WF := List D → Nat → KD → KX → Prop
def RepX (K : PySem.W.Frag) (pn : Addr) (M H : Hp) (c : Value) (dd : Option Addr) (e : Err) : Prop := c = .ref e.1 ∧ ∃ a fs, dd = some a ∧ M a = some (.xd fs) ∧ RepFs K pn M fs e.2
section
variable (K : PySem.W.Frag) (T : Tb) (E : XK)
def ExcP (g : Gh) (x : KX) : Prop := ∀ (e : Err) (n' : Nat) (c : Value) (dd : Option Addr) (M' H' : Hp), Bs K T g n' M' H' → RepX K g.pn M' H' c dd e → x e n' → E c dd H'
def PostE (g : Gh) (S : List Sl) (σ : L2.St) (M : Hp) (k : KD) (x : KX) (Q : VK) : Prop :=
  (∀ (d : D) (n' : Nat) (v : V) (M' H' : Hp), Same M M' → Rel K T g n' S σ M' H' → Rep K g.pn M' v d → k d n' → Q v H') ∧ ExcP K T E g x
def toTE (W : WE) : TE := fun σ H Q => ∃ (g : Gh) (M : Hp) (S : List Sl) (n : Nat) (k : KD) (x : KX), Rel K T g n S σ M H ∧ W S n k x ∧ PostE K T E g S σ M k x Q
def toTT (W : WT) : TT := fun σ H Q => ∃ (g : Gh) (M : Hp) (S : List Sl) (n : Nat) (k : Bool → Nat → Prop) (x : KX), Rel K T g n S σ M H ∧ W S n k x ∧
  (∀ (b : Bool) (n' : Nat) (M' H' : Hp), Same M M' → Rel K T g n' S σ M' H' → k b n' → Q b H') ∧ ExcP K T E g x
def toTA (W : WA) : TA := fun σ H Q => ∃ (g : Gh) (M : Hp) (S : List Sl) (n : Nat) (k : List D → Nat → Prop) (x : KX), Rel K T g n S σ M H ∧ W S n k x ∧
  (∀ (ds : List D) (n' : Nat) (vs : List V) (M' H' : Hp), Same M M' → Rel K T g n' S σ M' H' → Reps K g.pn M' vs ds → k ds n' → Q vs H') ∧ ExcP K T E g x
/-- an operation by values -/
def LR2 (r : R2) (f : D → D → Nat → KD → KX → Prop) : Prop := ∀ (g : Gh) (n : Nat) (S : List Sl) (σ : L2.St) (M H : Hp) (v w : V) (d e : D) (Q : VK) (k : KD) (x : KX),
  Rel K T g n S σ M H → Rep K g.pn M v d → Rep K g.pn M w e → f d e n k x → PostE K T E g S σ M k x Q → r v w H Q
def LR1 (r : V → Hp → VK → Prop) (f : D → Nat → KD → KX → Prop) : Prop := ∀ (g : Gh) (n : Nat) (S : List Sl) (σ : L2.St) (M H : Hp) (v : V) (d : D) (Q : VK) (k : KD) (x : KX),
  Rel K T g n S σ M H → Rep K g.pn M v d → f d n k x → PostE K T E g S σ M k x Q → r v H Q
def LRC (r : List V → Hp → VK → Prop) (f : WF) : Prop := ∀ (g : Gh) (n : Nat) (S : List Sl) (σ : L2.St) (M H : Hp) (vs : List V) (ds : List D) (Q : VK) (k : KD) (x : KX),
  Rel K T g n S σ M H → Reps K g.pn M vs ds → f ds n k x → PostE K T E g S σ M k x Q → r vs H Q
end
section
variable {K : PySem.W.Frag} {T : Tb} {E : XK} {g : Gh} {S : List Sl} {σ : L2.St} {M M' H : Hp} {k : KD} {x : KX} {Q : VK}
theorem PostE.step (p : PostE K T E g S σ M k x Q) (s : Same M M') : PostE K T E g S σ M' k x Q := ⟨fun d n' v M2 H' s2 => p.1 d n' v M2 H' (s.trans s2), p.2⟩
theorem PostE.here {n : Nat} (p : PostE K T E g S σ M k x Q) (r : Rel K T g n S σ M H) {v : V} {d : D} (h : Rep K g.pn M v d) (q : k d n) : Q v H := p.1 d n v M H (Same.refl M) r h q
theorem PostE.put {n : Nat} (p : PostE K T E g S σ M k x Q) (r : Rel K T g n S σ M H) {q : Addr} {o : HO} {d : D} (nq : H q = none) (nt : ∀ ps, o ≠ .tbl ps) (h : Same M (upd M q o) → Rep K g.pn (upd M q o) (.ref q) d) (hk : k d n) : Q (.ref q) (upd H q o) :=
  have sm := same_upd (o := o) (r.bs.mn nq)
  p.1 d n (.ref q) _ _ sm (r.new nq nt) (h sm) hk
end
/-! ### slots -/
def gt : List Sl → Nat → Sl
  | [], _ => .un
  | s :: _, 0 => s
  | _ :: r, i + 1 => gt r i
theorem gt_get : ∀ {S : List Sl} {i : Nat} {s : Sl}, gt S i = s → s ≠ .un → S[i]? = some s
  | [], _, _, h, n => absurd h.symm n
  | s :: _, 0, _, h, _ => by cases h; rfl
  | _ :: r, i + 1, _, h, n => by simpa using gt_get (S := r) (i := i) h n
def slV (s : Sl) (k : D → Prop) : Prop :=
  match s with
  | .val d => k d
  | _ => False
def wVar (i : Nat) : WE := fun S n k _ => slV (gt S i) fun d => k d n
def wC (d : D) : WE := fun _ n k _ => k d n
def wOp (f : D → D → Nat → KD → KX → Prop) (a b : WE) : WE := fun S n k x => a S n (fun d1 n1 => b S n1 (fun d2 n2 => f d1 d2 n2 k x) x) x
def wUn (f : D → Nat → KD → KX → Prop) (a : WE) : WE := fun S n k x => a S n (fun d n1 => f d n1 k x) x
def wNil : WA := fun _ n k _ => k [] n
def wCons (a : WE) (r : WA) : WA := fun S n k x => a S n (fun d n1 => r S n1 (fun ds n2 => k (d :: ds) n2) x) x
def wF (f : WF) (a : WA) : WE := fun S n k x => a S n (fun ds n1 => f ds n1 k x) x
def wTup (a : WA) : WE := fun S n k x => a S n (fun ds n1 => ds.length ≤ 1000 ∧ k (.tup ds) n1) x
def wLst (a : WA) : WE := fun S n k x => a S n (fun ds n1 => ds.length ≤ 1000 ∧ k (.lst ds) n1) x
def tru (d : D) (k : Bool → Prop) : Prop :=
  match d with
  | .non => k false
  | .bl b => k b
  | .int i => k (i != 0)
  | .str y => y.length ≤ sizeLine ∧ k ((y.length : Int) != 0)
  | .tup ds => k (!ds.isEmpty)
  | .lst ds => k (!ds.isEmpty)
  | .dct ds => k (!ds.isEmpty)
  | _ => False
def wTru (a : WE) : WT := fun S n k x => a S n (fun d n1 => tru d fun b => k b n1) x
def isB (d : D) (k : Bool → Prop) : Prop :=
  match d with
  | .bl b => k b
  | _ => False
def wB (a : WE) : WT := fun S n k x => a S n (fun d n1 => isB d fun b => k b n1) x
def wAnd (a b : WT) : WT := fun S n k x => a S n (fun c n1 => if c = true then b S n1 k x else k false n1) x
def wOr (a b : WT) : WT := fun S n k x => a S n (fun c n1 => if c = true then k true n1 else b S n1 k x) x
def wNot (a : WT) : WT := fun S n k x => a S n (fun c n1 => k (!c) n1) x
def wAndV (a b : WE) : WE := fun S n k x => a S n (fun d n1 => isB d fun c => if c = true then b S n1 k x else k (.bl false) n1) x
def wOrV (a b : WE) : WE := fun S n k x => a S n (fun d n1 => isB d fun c => if c = true then k (.bl true) n1 else b S n1 k x) x
def wNotV (a : WE) : WE := fun S n k x => a S n (fun d n1 => isB d fun c => k (.bl (!c)) n1) x
def wIfE (c : WT) (a b : WE) : WE := fun S n k x => c S n (fun t n1 => if t = true then a S n1 k x else b S n1 k x) x
section
variable {X : Cx} {T : Tb} {E : XK} {e a b : Expr} {es : List Expr} {pos : Pos} {wa wb : WE} {ws : WA} {wt wu : WT}
theorem pe_imp {X : Cx} {e : Expr} {t t' : TE} (he : PE X e t) (h : ∀ σ H Q, t' σ H Q → t σ H Q) : PE X e t' := ⟨fun pins s σ H Q I q => he.run pins s σ H Q I (h σ H Q q)⟩
theorem pt_imp {X : Cx} {e : Expr} {t t' : TT} (he : PT X e t) (h : ∀ σ H Q, t' σ H Q → t σ H Q) : PT X e t' := ⟨fun pins s σ H Q I q => he.run pins s σ H Q I (h σ H Q q)⟩
theorem pw_imp {X : Cx} {e : Expr} {t t' : TT} (he : PW X e t) (h : ∀ σ H Q, t' σ H Q → t σ H Q) : PW X e t' := ⟨fun wh pins s σ H Q I q => he.run wh pins s σ H Q I (h σ H Q q)⟩
theorem pa_imp {X : Cx} {es : List Expr} {t t' : TA} (he : PA X es t) (h : ∀ σ H Q, t' σ H Q → t σ H Q) : PA X es t' := ⟨fun p pins s σ H Q I q => he.run p pins s σ H Q I (h σ H Q q)⟩
abbrev DE (X : Cx) (T : Tb) (E : XK) (e : Expr) (W : WE) : Prop := PE X e (toTE X.K T E W)
abbrev DT (X : Cx) (T : Tb) (E : XK) (e : Expr) (W : WT) : Prop := PT X e (toTT X.K T E W)
abbrev DW (X : Cx) (T : Tb) (E : XK) (e : Expr) (W : WT) : Prop := PW X e (toTT X.K T E W)
abbrev DA (X : Cx) (T : Tb) (E : XK) (es : List Expr) (W : WA) : Prop := PA X es (toTA X.K T E W)
theorem slV_get {S : List Sl} {i : Nat} {k : D → Prop} (h : slV (gt S i) k) : ∃ d, S[i]? = some (.val d) ∧ k d := by
  cases e : gt S i with
  | val d => rw [e] at h; exact ⟨d, gt_get e (fun z => by cases z), h⟩
  | _ => rw [e] at h; exact h.elim
theorem de_var {i : Nat} (h : PE X e (tVar i)) : DE X T E e (wVar i) := pe_imp h fun σ H Q ⟨g, M, S, n, k, x, r, w, p⟩ => by
  obtain ⟨d, hs, hk⟩ := slV_get w
  obtain ⟨v, hv, hr⟩ := r.val hs
  exact ⟨v, hv, p.here r hr hk⟩
/-- a constant, or a global that is one -/
theorem de_c {v : V} {d : D} (h : PE X e (tC v)) (hr : ∀ K pn M, Rep K pn M v d) : DE X T E e (wC d) := pe_imp h fun σ H Q ⟨g, M, S, n, k, x, r, w, p⟩ => p.here r (hr _ _ _) w
theorem de_int {i j pos} : DE X T E (.Constant (.int i) j pos) (wC (.int i)) := de_c pe_int fun _ _ _ => .int i
theorem de_bl {b j pos} : DE X T E (.Constant (.bool b) j pos) (wC (.bl b)) := de_c pe_bl fun _ _ _ => .bl b
theorem de_non {j pos} : DE X T E (.Constant .none j pos) (wC .non) := de_c pe_non fun _ _ _ => .non
theorem de_str {y j pos} : DE X T E (.Constant (.str y) j pos) (wC (.str y)) := de_c pe_str fun _ _ _ => .str y
theorem de_gint {i : Int} (h : PE X e (tC (.int i))) : DE X T E e (wC (.int i)) := de_c h fun _ _ _ => .int i
theorem de_gobj {c : Addr} (h : PE X e (tC (.ref c))) : DE X T E e (wC (.obj c)) := de_c h fun _ _ _ => .obj c
theorem de_op {op : Operator} {r : R2} {f : D → D → Nat → KD → KX → Prop} (ho : OpR X (binaryOp op) r) (l : LR2 X.K T E r f) (ha : DE X T E a wa) (hb : DE X T E b wb) : DE X T E (.BinOp a op b pos) (wOp f wa wb) :=
  pe_imp (pe_op ho ha hb) fun σ H Q ⟨g, M, S, n, k, x, rl, w, p⟩ => ⟨g, M, S, n, _, x, rl, w, fun d1 n1 v1 M1 H1 s1 r1 e1 w1 =>
    ⟨g, M1, S, n1, _, x, r1, w1, fun d2 n2 v2 M2 H2 s2 r2 e2 w2 => l g n2 S σ M2 H2 v1 v2 d1 d2 Q k x r2 (e1.mono s2) e2 w2 (p.step (s1.trans s2)), p.2⟩, p.2⟩
theorem de_cmp {op : CmpOp} {r : R2} {f : D → D → Nat → KD → KX → Prop} (ho : OpR X (compareOp op) r) (l : LR2 X.K T E r f) (ha : DE X T E a wa) (hb : DE X T E b wb) (hm : behindInMarks op b = false) : DE X T E (.Compare a [op] [b] pos) (wOp f wa wb) :=
  pe_imp (pe_cmpR ho ha hb hm) fun σ H Q ⟨g, M, S, n, k, x, rl, w, p⟩ => ⟨g, M, S, n, _, x, rl, w, fun d1 n1 v1 M1 H1 s1 r1 e1 w1 =>
    ⟨g, M1, S, n1, _, x, r1, w1, fun d2 n2 v2 M2 H2 s2 r2 e2 w2 => l g n2 S σ M2 H2 v1 v2 d1 d2 Q k x r2 (e1.mono s2) e2 w2 (p.step (s1.trans s2)), p.2⟩, p.2⟩
theorem rep_bl {K : PySem.W.Frag} {pn : Addr} {M : Hp} {v : V} {d : D} {k : Bool → Prop} (h : Rep K pn M v d) (q : isB d k) : ∃ b, v = .bl b ∧ k b := by
  cases h with
  | bl b => exact ⟨b, rfl, q⟩
  | _ => exact q.elim
theorem dt_cmp {op : CmpOp} {r : R2} {f : D → D → Nat → KD → KX → Prop} (ho : OpR X (compareOp op) r) (l : LR2 X.K T E r f) (ha : DE X T E a wa) (hb : DE X T E b wb) (hm : behindInMarks op b = false) : DT X T E (.Compare a [op] [b] pos) (wB (wOp f wa wb)) :=
  pt_imp (pt_cmpR ho ha hb hm) fun σ H Q ⟨g, M, S, n, k, x, rl, w, p⟩ => ⟨g, M, S, n, _, x, rl, w, fun d1 n1 v1 M1 H1 s1 r1 e1 w1 =>
    ⟨g, M1, S, n1, _, x, r1, w1, fun d2 n2 v2 M2 H2 s2 r2 e2 w2 => l g n2 S σ M2 H2 v1 v2 d1 d2 _ _ x r2 (e1.mono s2) e2 w2 ⟨fun d n' v M' H' s' r' h' q => by
      obtain ⟨b, rfl, q⟩ := rep_bl h' q
      exact ⟨b, rfl, p.1 b n' M' H' ((s1.trans s2).trans s') r' q⟩, p.2⟩, p.2⟩, p.2⟩
/-- two comparisons of ints in a row -/
def wChain (f f' : D → D → Nat → KD → KX → Prop) (a b c : WE) : WE := fun S n k x => a S n (fun d1 n1 => b S n1 (fun d2 n2 => f d1 d2 n2 (fun t n3 => isB t fun u => if u = true then c S n3 (fun d3 n4 => f' d2 d3 n4 k x) x else k (.bl false) n3) x) x) x
theorem de_chain {op op' : CmpOp} {r r' : R2} {f f' : D → D → Nat → KD → KX → Prop} {c : Expr} {wc : WE} (ho : OpR X (compareOp op) r) (l : LR2 X.K T E r f) (ho' : OpR X (compareOp op') r') (l' : LR2 X.K T E r' f') (ha : DE X T E a wa) (hb : DE X T E b wb) (hc : DE X T E c wc)
    (he : PE X (.Compare a [op, op'] [b, c] pos) (tChain r r' (toTE X.K T E wa) (toTE X.K T E wb) (toTE X.K T E wc))) : DE X T E (.Compare a [op, op'] [b, c] pos) (wChain f f' wa wb wc) :=
  pe_imp he fun σ H Q ⟨g, M, S, n, k, x, rl, w, p⟩ => ⟨g, M, S, n, _, x, rl, w, fun d1 n1 v1 M1 H1 s1 r1 e1 w1 =>
    ⟨g, M1, S, n1, _, x, r1, w1, fun d2 n2 v2 M2 H2 s2 r2 e2 w2 => l g n2 S σ M2 H2 v1 v2 d1 d2 _ _ x r2 (e1.mono s2) e2 w2 ⟨fun d n' v M' H' s' r' h' q => by
      obtain ⟨b, rfl, q⟩ := rep_bl h' q
      refine ⟨b, rfl, ?_⟩
      cases b with
      | true => exact ⟨g, M', S, n', _, x, r', q, fun d3 n3 v3 M3 H3 s3 r3 e3 w3 => l' g n3 S σ M3 H3 v2 v3 d2 d3 Q k x r3 (e2.mono (s'.trans s3)) e3 w3 (p.step (((s1.trans s2).trans s').trans s3)), p.2⟩
      | false => exact p.1 _ n' (.bl false) M' H' ((s1.trans s2).trans s') r' (.bl false) q, p.2⟩, p.2⟩, p.2⟩
theorem de_un {op : UnaryOp} {r : V → Hp → VK → Prop} {f : D → Nat → KD → KX → Prop} (ho : UnR X (unaryOp op) r) (l : LR1 X.K T E r f) (ha : DE X T E a wa) : DE X T E (.UnaryOp op a pos) (wUn f wa) :=
  pe_imp (pe_un ho ha) fun σ H Q ⟨g, M, S, n, k, x, rl, w, p⟩ => ⟨g, M, S, n, _, x, rl, w, fun d1 n1 v1 M1 H1 s1 r1 e1 w1 => l g n1 S σ M1 H1 v1 d1 Q k x r1 e1 w1 (p.step s1), p.2⟩
theorem da_nil : DA X T E [] wNil := pa_imp pa_nil fun σ H Q ⟨g, M, S, n, k, x, rl, w, p⟩ => p.1 [] n [] M H (Same.refl M) rl .nil w
theorem da_cons (ha : DE X T E e wa) (hr : DA X T E es ws) (hs : starEach (e :: es) X.env = (false, eval e X.env) :: starEach es X.env := by rfl) : DA X T E (e :: es) (wCons wa ws) :=
  pa_imp (pa_cons ha hr hs) fun σ H Q ⟨g, M, S, n, k, x, rl, w, p⟩ => ⟨g, M, S, n, _, x, rl, w, fun d1 n1 v1 M1 H1 s1 r1 e1 w1 =>
    ⟨g, M1, S, n1, _, x, r1, w1, fun ds n2 vs M2 H2 s2 r2 e2 w2 => p.1 (d1 :: ds) n2 (v1 :: vs) M2 H2 (s1.trans s2) r2 (.cons (e1.mono s2) e2) w2, p.2⟩, p.2⟩
theorem sl1000 {m : Nat} (h : m ≤ 1000) : m ≤ sizeLine := by rw [sizeLine_eq]; omega
theorem de_tup {x1} (h : DA X T E es ws) : DE X T E (.Tuple es x1 pos) (wTup ws) :=
  pe_imp (pe_tup h) fun σ H Q ⟨g, M, S, n, k, x, rl, w, p⟩ => ⟨g, M, S, n, _, x, rl, w, fun ds n1 vs M1 H1 s1 r1 e1 w1 => ⟨by rw [e1.len]; exact sl1000 w1.1, fun q nq =>
    (p.step s1).put r1 nq (fun ps z => by cases z) (fun sm => .tup (.of upd_same) (e1.mono sm)) w1.2⟩, p.2⟩
theorem de_lst (h : DA X T E es ws) : DE X T E (.List es pos) (wLst ws) :=
  pe_imp (pe_lst h) fun σ H Q ⟨g, M, S, n, k, x, rl, w, p⟩ => ⟨g, M, S, n, _, x, rl, w, fun ds n1 vs M1 H1 s1 r1 e1 w1 => ⟨by rw [e1.len]; exact sl1000 w1.1, fun q nq =>
    (p.step s1).put r1 nq (fun ps z => by cases z) (fun sm => .lst upd_same (e1.mono sm)) w1.2⟩, p.2⟩
theorem Reps.isEmpty {K : PySem.W.Frag} {pn : Addr} {M : Hp} {vs : List V} {ds : List D} (h : Reps K pn M vs ds) : vs.isEmpty = ds.isEmpty := by cases h <;> rfl
theorem RepKs.isEmpty {K : PySem.W.Frag} {pn : Addr} {M : Hp} {vs : List (Key × V)} {ds : List (Key × D)} (h : RepKs K pn M vs ds) : vs.isEmpty = ds.isEmpty := by cases h <;> rfl
theorem tru_of {K : PySem.W.Frag} {pn : Addr} {M H : Hp} {v : V} {d : D} {k : Bool → Prop} (s : Same M H) (h : Rep K pn M v d) (q : tru d k) : ∃ b, TruV K v H b ∧ k b := by
  cases h with
  | non => exact ⟨_, rfl, q⟩
  | bl b => exact ⟨_, rfl, q⟩
  | int i => exact ⟨_, rfl, q⟩
  | str y => exact ⟨_, ⟨q.1, rfl⟩, q.2⟩
  | tup h r => exact ⟨_, .inr (.inl ⟨_, same_tup s h, rfl⟩), by rw [r.isEmpty]; exact q⟩
  | lst h r => exact ⟨_, .inl ⟨_, .of (s _ _ h), rfl⟩, by rw [r.isEmpty]; exact q⟩
  | dct h r => exact ⟨_, .inr (.inr ⟨_, s _ _ h, rfl⟩), by rw [r.isEmpty]; exact q⟩
  | _ => exact q.elim
theorem dt_val (h : DE X T E a wa) (he : ∀ whole, isTrue a X.env whole = (do let v ← whole; standAt a.pos; holding [v] (truthy v)) := by intro _; rfl) : DT X T E a (wTru wa) :=
  pt_imp (pt_truth h he) fun σ H Q ⟨g, M, S, n, k, x, rl, w, p⟩ => ⟨g, M, S, n, _, x, rl, w, fun d n1 v M1 H1 s1 r1 e1 w1 => by
    obtain ⟨b, h1, h2⟩ := tru_of r1.bs.sub e1 w1
    exact ⟨b, h1, p.1 b n1 M1 H1 s1 r1 h2⟩, p.2⟩
theorem dt_w (h : DW X T E a wt) : DT X T E a wt := h.pt
theorem dw_and1 (ha : DT X T E a wt) : DW X T E (.BoolOp .And [a] pos) wt := pw_and1 ha
theorem dw_or1 (ha : DT X T E a wt) : DW X T E (.BoolOp .Or [a] pos) wt := pw_or1 ha
theorem dw_and (ha : DT X T E a wt) (hb : DW X T E (.BoolOp .And (b :: es) pos) wu) : DW X T E (.BoolOp .And (a :: b :: es) pos) (wAnd wt wu) :=
  pw_imp (pw_and ha hb) fun σ H Q ⟨g, M, S, n, k, x, rl, w, p⟩ => ⟨g, M, S, n, _, x, rl, w, fun c n1 M1 H1 s1 r1 w1 => by
    cases c with
    | true => exact ⟨g, M1, S, n1, k, x, r1, w1, fun c2 n2 M2 H2 s2 => p.1 c2 n2 M2 H2 (s1.trans s2), p.2⟩
    | false => exact p.1 _ n1 M1 H1 s1 r1 w1, p.2⟩
theorem dw_or (ha : DT X T E a wt) (hb : DW X T E (.BoolOp .Or (b :: es) pos) wu) : DW X T E (.BoolOp .Or (a :: b :: es) pos) (wOr wt wu) :=
  pw_imp (pw_or ha hb) fun σ H Q ⟨g, M, S, n, k, x, rl, w, p⟩ => ⟨g, M, S, n, _, x, rl, w, fun c n1 M1 H1 s1 r1 w1 => by
    cases c with
    | true => exact p.1 _ n1 M1 H1 s1 r1 w1
    | false => exact ⟨g, M1, S, n1, k, x, r1, w1, fun c2 n2 M2 H2 s2 => p.1 c2 n2 M2 H2 (s1.trans s2), p.2⟩, p.2⟩
theorem dt_not (ha : DT X T E a wt) : DT X T E (.UnaryOp .Not a pos) (wNot wt) :=
  pt_imp (pt_not ha) fun σ H Q ⟨g, M, S, n, k, x, rl, w, p⟩ => ⟨g, M, S, n, _, x, rl, w, fun c n1 M1 H1 s1 r1 w1 => p.1 _ n1 M1 H1 s1 r1 w1, p.2⟩
theorem de_one {op} (h : DE X T E a wa) : DE X T E (.BoolOp op [a] pos) wa := pe_one h
theorem de_and (ha : DE X T E a wa) (hb : DE X T E (.BoolOp .And (b :: es) pos) wb) : DE X T E (.BoolOp .And (a :: b :: es) pos) (wAndV wa wb) :=
  pe_imp (pe_and ha hb) fun σ H Q ⟨g, M, S, n, k, x, rl, w, p⟩ => ⟨g, M, S, n, _, x, rl, w, fun d n1 v M1 H1 s1 r1 h1 w1 => by
    obtain ⟨c, rfl, q⟩ := rep_bl h1 w1
    refine ⟨c, rfl, ?_⟩
    cases c with
    | true => exact ⟨g, M1, S, n1, k, x, r1, q, p.step s1⟩
    | false => exact (p.step s1).here r1 (.bl _) q, p.2⟩
theorem de_or (ha : DE X T E a wa) (hb : DE X T E (.BoolOp .Or (b :: es) pos) wb) : DE X T E (.BoolOp .Or (a :: b :: es) pos) (wOrV wa wb) :=
  pe_imp (pe_or ha hb) fun σ H Q ⟨g, M, S, n, k, x, rl, w, p⟩ => ⟨g, M, S, n, _, x, rl, w, fun d n1 v M1 H1 s1 r1 h1 w1 => by
    obtain ⟨c, rfl, q⟩ := rep_bl h1 w1
    refine ⟨c, rfl, ?_⟩
    cases c with
    | true => exact (p.step s1).here r1 (.bl _) q
    | false => exact ⟨g, M1, S, n1, k, x, r1, q, p.step s1⟩, p.2⟩
theorem de_not (ha : DE X T E a wa) : DE X T E (.UnaryOp .Not a pos) (wNotV wa) :=
  pe_imp (pe_not ha) fun σ H Q ⟨g, M, S, n, k, x, rl, w, p⟩ => ⟨g, M, S, n, _, x, rl, w, fun d n1 v M1 H1 s1 r1 h1 w1 => by
    obtain ⟨c, rfl, q⟩ := rep_bl h1 w1
    exact ⟨c, rfl, (p.step s1).here r1 (.bl _) q⟩, p.2⟩
theorem de_ifE {c : Expr} (hc : DT X T E c wt) (ha : DE X T E a wa) (hb : DE X T E b wb) : DE X T E (.IfExp c a b pos) (wIfE wt wa wb) :=
  pe_imp (pe_ifExp hc ha hb) fun σ H Q ⟨g, M, S, n, k, x, rl, w, p⟩ => ⟨g, M, S, n, _, x, rl, w, fun t n1 M1 H1 s1 r1 w1 => by
    cases t with
    | true => exact ⟨g, M1, S, n1, k, x, r1, w1, p.step s1⟩
    | false => exact ⟨g, M1, S, n1, k, x, r1, w1, p.step s1⟩, p.2⟩
/-- a call of a built-in function, of a built-in type -/
theorem de_callB {id : String} {y : Str} {p : Pos} {r : List V → Hp → VK → Prop} {f : WF} (hc : CallR X (.builtin id) r) (l : LRC X.K T E r f) (hg : Gl X y) (hm : X.mg y = none) (hv : bootBuiltins y = some (.builtin id)) (ha : DA X T E (e :: es) ws)
    (he : PE X (.Call (.Name y p) (e :: es) [] pos) (tCB r (toTA X.K T E ws))) : DE X T E (.Call (.Name y p) (e :: es) [] pos) (wF f ws) :=
  pe_imp he fun σ H Q ⟨g, M, S, n, k, x, rl, w, p⟩ => ⟨g, M, S, n, _, x, rl, w, fun ds n1 vs M1 H1 s1 r1 e1 w1 => l g n1 S σ M1 H1 vs ds Q k x r1 e1 w1 (p.step s1), p.2⟩
end
end Dl

set_option Elab.async false
set_option linter.all false
set_option maxRecDepth 100000
set_option maxHeartbeats 4000000
namespace Dl
open PySem PySem.Spec PyProof.Rows L2 LamX
abbrev F2 := D → D → Nat → KD → KX → Prop
/-! ### operators by values -/
def fI2 (C : Int → Int → Prop) (h : Int → Int → D) : F2 := fun d e n k _ =>
  match d, e with
  | .int i, .int j => C i j ∧ k (h i j) n
  | _, _ => False
def fI0 (h : Int → Int → D) : F2 := fun d e n k _ =>
  match d, e with
  | .int i, .int j => k (h i j) n
  | _, _ => False
section
variable {K : PySem.W.Frag} {T : Tb} {E : XK}
theorem lr_I {C : Int → Int → Prop} {h : Int → Int → V} {h' : Int → Int → D} (hh : ∀ K pn M i j, Rep K pn M (h i j) (h' i j)) : LR2 K T E (rI C h) (fI2 C h') := fun g n S σ M H v w d e Q k x r rd re f p => by
  cases rd with
  | int i =>
    cases re with
    | int j => exact ⟨i, j, rfl, rfl, f.1, p.here r (hh _ _ _ _ _) f.2⟩
    | _ => exact f.elim
  | _ => exact f.elim
theorem lr_I0 {h : Int → Int → V} {h' : Int → Int → D} (hh : ∀ K pn M i j, Rep K pn M (h i j) (h' i j)) : LR2 K T E (rI0 h) (fI0 h') := fun g n S σ M H v w d e Q k x r rd re f p => by
  cases rd with
  | int i =>
    cases re with
    | int j => exact ⟨i, j, rfl, rfl, p.here r (hh _ _ _ _ _) f⟩
    | _ => exact f.elim
  | _ => exact f.elim
theorem LR2.or {r r' : R2} {f f' : F2} (h : LR2 K T E r f) (h' : LR2 K T E r' f') : LR2 K T E (fun x y H Q => r x y H Q ∨ r' x y H Q) (fun d e n k x => f d e n k x ∨ f' d e n k x) := fun g n S σ M H v w d e Q k x rl rd re f p => by
  rcases f with f | f
  · exact .inl (h g n S σ M H v w d e Q k x rl rd re f p)
  · exact .inr (h' g n S σ M H v w d e Q k x rl rd re f p)
theorem LR2.imp {r r' : R2} {f f' : F2} (h : LR2 K T E r f) (hr : ∀ x y H Q, r x y H Q → r' x y H Q) (hf : ∀ d e n k x, f' d e n k x → f d e n k x) : LR2 K T E r' f' := fun g n S σ M H v w d e Q k x rl rd re f p => hr _ _ _ _ (h g n S σ M H v w d e Q k x rl rd re (hf _ _ _ _ _ f) p)
/-- + : ints, texts, tuples, lists -/
def fAdd : F2 := fun d e n k _ =>
  match d, e with
  | .int i, .int j => k (.int (i + j)) n
  | .str i, .str j => i.length + j.length ≤ sizeLine ∧ k (.str (i ++ j)) n
  | .tup a, .tup b => a.length + b.length ≤ 100000 ∧ k (.tup (a ++ b)) n
  | .lst a, .lst b => a.length + b.length ≤ 100000 ∧ k (.lst (a ++ b)) n
  | _, _ => False
def rAdd (K : PySem.W.Frag) : R2 := fun x y H Q => ((rI0 fun i j => .int (i + j)) x y H Q ∨ (∃ i j, x = .str i ∧ y = .str j ∧ i.length + j.length ≤ sizeLine ∧ Q (.str (i ++ j)) H)) ∨ (rCatA K x y H Q ∨ rCat x y H Q)
theorem op_addA {X : Cx} : OpR X (binaryOp .Add) (rAdd X.K) := (op_add.or op_add_str).or (op_catA.or op_cat)
theorem sl5 {m : Nat} (h : m ≤ 100000) : m ≤ sizeLine := by rw [sizeLine_eq]; omega
theorem lr_add : LR2 K T E (rAdd K) fAdd := fun g n S σ M H v w d e Q k x r rd re f p => by
  cases rd with
  | int i =>
    cases re with
    | int j => exact .inl (.inl ⟨i, j, rfl, rfl, p.here r (.int _) f⟩)
    | _ => exact f.elim
  | str i =>
    cases re with
    | str j => exact .inl (.inr ⟨i, j, rfl, rfl, f.1, p.here r (.str _) f.2⟩)
    | _ => exact f.elim
  | @tup a xs ds ha hx =>
    cases re with
    | @tup b ys es hb hy =>
      refine .inr (.inl ⟨a, b, xs, ys, rfl, rfl, same_tup r.bs.sub ha, same_tup r.bs.sub hb, sl5 (by rw [hx.len, hy.len]; exact f.1), fun z => ?_, fun _ z => ?_, fun _ _ q nq => ?_⟩)
      · have z' := hx.nil_iff.mp z
        subst z'
        exact p.here r (.tup hb hy) f.2
      · have z' := hy.nil_iff.mp z
        subst z'
        have := f.2
        rw [List.append_nil] at this
        exact p.here r (.tup ha hx) this
      · exact p.put r nq (fun ps z => by cases z) (fun sm => .tup (.of upd_same) ((hx.mono sm).append (hy.mono sm))) f.2
    | _ => exact f.elim
  | @lst a xs ds ha hx =>
    cases re with
    | @lst b ys es hb hy => exact .inr (.inr ⟨a, b, xs, ys, rfl, rfl, r.bs.sub _ _ ha, r.bs.sub _ _ hb, sl5 (by rw [hx.len, hy.len]; exact f.1), fun q nq =>
        p.put r nq (fun ps z => by cases z) (fun sm => .lst upd_same ((hx.mono sm).append (hy.mono sm))) f.2⟩)
    | _ => exact f.elim
  | _ => exact f.elim
/-- * : ints, a list or a tuple some times -/
def repD (n : Nat) (ds : List D) : List D := (List.replicate n ds).flatten
def fMul : F2 := fun d e n k _ =>
  match d, e with
  | .int i, .int j => CMul i j ∧ k (.int (i * j)) n
  | .lst a, .int j => (a.length ≤ 1000 ∧ -1000 ≤ j ∧ j ≤ 1000) ∧ k (.lst (repD j.toNat a)) n
  | .tup a, .int j => (a ≠ [] ∧ a.length ≤ 1000 ∧ 2 ≤ j ∧ j ≤ 1000) ∧ k (.tup (repD j.toNat a)) n
  | _, _ => False
def rMulA (K : PySem.W.Frag) : R2 := fun x y H Q => rI CMul (fun i j => .int (i * j)) x y H Q ∨ (rRep x y H Q ∨ rRepT K x y H Q)
theorem op_mulA {X : Cx} : OpR X (binaryOp .Mult) (rMulA X.K) := op_mul.or (op_rep.or op_repT)
theorem Reps.rep {pn : Addr} {M : Hp} {vs : List V} {ds : List D} (h : Reps K pn M vs ds) : ∀ n : Nat, Reps K pn M (List.replicate n vs).flatten (repD n ds)
  | 0 => .nil
  | n + 1 => by
    unfold repD
    rw [List.replicate_succ, List.replicate_succ, List.flatten_cons, List.flatten_cons]
    exact h.append (Reps.rep h n)
theorem lr_mul : LR2 K T E (rMulA K) fMul := fun g n S σ M H v w d e Q k x r rd re f p => by
  cases rd with
  | int i =>
    cases re with
    | int j => exact .inl ⟨i, j, rfl, rfl, f.1, p.here r (.int _) f.2⟩
    | _ => exact f.elim
  | @lst a xs ds ha hx =>
    cases re with
    | int j =>
      obtain ⟨⟨h1, h2, h3⟩, f⟩ := f
      refine .inr (.inl ⟨a, j, xs, rfl, rfl, r.bs.sub _ _ ha, by omega, by omega, ?_, fun q nq => p.put r nq (fun ps z => by cases z) (fun sm => .lst upd_same ((hx.mono sm).rep _)) f⟩)
      rw [hx.len, sizeLine_eq]
      have h4 : j.toNat ≤ 1000 := by omega
      have := Nat.mul_le_mul h1 h4
      omega
    | _ => exact f.elim
  | @tup a xs ds ha hx =>
    cases re with
    | int j =>
      obtain ⟨⟨h0, h1, h2, h3⟩, f⟩ := f
      exact .inr (.inr ⟨a, j, xs, rfl, rfl, same_tup r.bs.sub ha, fun z => h0 (hx.nil_iff.mp z), h2, h3, by rw [hx.len]; exact h1, fun q nq => p.put r nq (fun ps z => by cases z) (fun sm => .tup (.of upd_same) ((hx.mono sm).rep _)) f⟩)
    | _ => exact f.elim
  | _ => exact f.elim
/-! ### data without instances -/
mutual
def toPy : D → Option PyData
  | .non => some .none
  | .bl b => some (.bool b)
  | .int i => some (.int i)
  | .str x => some (.str x)
  | .tup ds => match toPys ds with
    | some ps => some (.tuple ps)
    | none => none
  | .lst ds => match toPys ds with
    | some ps => some (.list ps)
    | none => none
  | _ => none
def toPys : List D → Option (List PyData)
  | [] => some []
  | d :: ds => match toPy d, toPys ds with
    | some p, some ps => some (p :: ps)
    | _, _ => none
end
mutual
theorem rep_dp {pn : Addr} {M H : Hp} (s : Same M H) : ∀ {v : V} {d : D} {p : PyData}, Rep K pn M v d → toPy d = some p → Dp K H v p
  | _, _, _, .non, e => by simp only [toPy] at e; cases e; exact .non
  | _, _, _, .bl b, e => by simp only [toPy] at e; cases e; exact .bl b
  | _, _, _, .int i, e => by simp only [toPy] at e; cases e; exact .int i
  | _, _, _, .str y, e => by simp only [toPy] at e; cases e; exact .str y
  | _, _, _, @Rep.tup _ _ _ _ _ ds h r, e => by
    simp only [toPy] at e
    cases q : toPys ds with
    | none => rw [q] at e; cases e
    | some ps => rw [q] at e; cases e; exact .tup (same_tup s h) (reps_dp s r q)
  | _, _, _, @Rep.lst _ _ _ _ _ ds h r, e => by
    simp only [toPy] at e
    cases q : toPys ds with
    | none => rw [q] at e; cases e
    | some ps => rw [q] at e; cases e; exact .lst (.of (s _ _ h)) (reps_dp s r q)
  | _, _, _, .dct h r, e => by simp only [toPy] at e; cases e
  | _, _, _, .ins h r, e => by simp only [toPy] at e; cases e
  | _, _, _, .pen, e => by simp only [toPy] at e; cases e
  | _, _, _, .obj a, e => by simp only [toPy] at e; cases e
  | _, _, _, .ty a, e => by simp only [toPy] at e; cases e
  | _, _, _, .exc h h2 r, e => by simp only [toPy] at e; cases e
theorem reps_dp {pn : Addr} {M H : Hp} (s : Same M H) : ∀ {v : List V} {d : List D} {p : List PyData}, Reps K pn M v d → toPys d = some p → DpAll K H v p
  | _, _, _, .nil, e => by simp only [toPys] at e; cases e; exact .nil
  | _, _, _, @Reps.cons _ _ _ _ d _ ds h t, e => by
    simp only [toPys] at e
    cases q : toPy d with
    | none => rw [q] at e; cases e
    | some p =>
      cases q2 : toPys ds with
      | none => rw [q, q2] at e; cases e
      | some ps => rw [q, q2] at e; cases e; exact .cons (rep_dp s h q) (reps_dp s t q2)
end
def pyv (d : D) (k : PyData → Prop) : Prop :=
  match toPy d with
  | some p => SeqAt.shaped p = true ∧ k p
  | none => False
theorem pyv_get {d : D} {k : PyData → Prop} (h : pyv d k) : ∃ p, toPy d = some p ∧ SeqAt.shaped p = true ∧ k p := by
  unfold pyv at h
  cases e : toPy d with
  | none => rw [e] at h; exact h.elim
  | some p => rw [e] at h; exact ⟨p, rfl, h.1, h.2⟩
def fEq : F2 := fun d e n k _ => pyv d fun p => pyv e fun q => k (.bl (PyData.eqv p q)) n
def fNe : F2 := fun d e n k _ => pyv d fun p => pyv e fun q => k (.bl (!PyData.eqv p q)) n
theorem lr_eqD : LR2 K T E (rEqD K) fEq := fun g n S σ M H v w d e Q k x r rd re f p => by
  obtain ⟨a, h1, h2, f⟩ := pyv_get f
  obtain ⟨b, h3, h4, f⟩ := pyv_get f
  exact ⟨a, b, rep_dp r.bs.sub rd h1, rep_dp r.bs.sub re h3, h2, h4, p.here r (.bl _) f⟩
theorem lr_neD : LR2 K T E (rNeD K) fNe := fun g n S σ M H v w d e Q k x r rd re f p => by
  obtain ⟨a, h1, h2, f⟩ := pyv_get f
  obtain ⟨b, h3, h4, f⟩ := pyv_get f
  exact ⟨a, b, rep_dp r.bs.sub rd h1, rep_dp r.bs.sub re h3, h2, h4, p.here r (.bl _) f⟩
/-- is, is not None -/
def isNon : D → Bool
  | .non => true
  | _ => false
def fIsN : F2 := fun d e n k _ =>
  match e with
  | .non => k (.bl (isNon d)) n
  | _ => False
def fNotN : F2 := fun d e n k _ =>
  match e with
  | .non => k (.bl (!isNon d)) n
  | _ => False
theorem dec_non {pn : Addr} {M : Hp} {v : V} {d : D} (h : Rep K pn M v d) : decide (v = .non) = isNon d := by cases h <;> rfl
theorem lr_isN : LR2 K T E (fun x y H Q => y = .non ∧ Q (.bl (decide (x = .non))) H) fIsN := fun g n S σ M H v w d e Q k x r rd re f p => by
  cases re with
  | non => exact ⟨rfl, by rw [dec_non rd]; exact p.here r (.bl _) f⟩
  | _ => exact f.elim
theorem lr_notN : LR2 K T E (fun x y H Q => y = .non ∧ Q (.bl (!decide (x = .non))) H) fNotN := fun g n S σ M H v w d e Q k x r rd re f p => by
  cases re with
  | non => exact ⟨rfl, by rw [dec_non rd]; exact p.here r (.bl _) f⟩
  | _ => exact f.elim
def fB2 (h : Bool → Bool → Bool) : F2 := fun d e n k _ =>
  match d, e with
  | .bl i, .bl j => k (.bl (h i j)) n
  | _, _ => False
theorem lr_isB : LR2 K T E (fun x y H Q => ∃ a b, x = .bl a ∧ y = .bl b ∧ Q (.bl (decide (a = b))) H) (fB2 fun a b => decide (a = b)) := fun g n S σ M H v w d e Q k x r rd re f p => by
  cases rd with
  | bl i =>
    cases re with
    | bl j => exact ⟨i, j, rfl, rfl, p.here r (.bl _) f⟩
    | _ => exact f.elim
  | _ => exact f.elim
/-- in, not in: data in a list or a tuple, a text in a text -/
def anyEq (ps : List PyData) (p : PyData) : Bool := ps.any fun z => PyData.eqv z p
def fInD : F2 := fun d e n k _ =>
  match e with
  | .lst es => pyv d fun p => pyv e fun q => match q with
    | .list ps => k (.bl (anyEq ps p)) n
    | _ => False
  | _ => False
theorem lr_inL {b : Bool → Bool} : LR2 K T E (fun x y H Q => ∃ d ds, Dp K H x d ∧ Dp K H y (.list ds) ∧ SeqAt.shaped d = true ∧ SeqAt.shaped (.list ds) = true ∧ Q (.bl (b (ds.any fun z => PyData.eqv z d))) H)
    (fun d e n k _ => pyv d fun p => pyv e fun q => match q with
      | .list ps => k (.bl (b (anyEq ps p))) n
      | _ => False) := fun g n S σ M H v w d e Q k x r rd re f p => by
  obtain ⟨a, h1, h2, f⟩ := pyv_get f
  obtain ⟨q, h3, h4, f⟩ := pyv_get f
  cases q with
  | list ps => exact ⟨a, ps, rep_dp r.bs.sub rd h1, rep_dp r.bs.sub re h3, h2, h4, p.here r (.bl _) f⟩
  | _ => exact f.elim
theorem lr_inT {b : Bool → Bool} : LR2 K T E (fun x y H Q => ∃ d ds, Dp K H x d ∧ Dp K H y (.tuple ds) ∧ SeqAt.shaped d = true ∧ SeqAt.shaped (.tuple ds) = true ∧ Q (.bl (b (ds.any fun z => PyData.eqv z d))) H)
    (fun d e n k _ => pyv d fun p => pyv e fun q => match q with
      | .tuple ps => k (.bl (b (anyEq ps p))) n
      | _ => False) := fun g n S σ M H v w d e Q k x r rd re f p => by
  obtain ⟨a, h1, h2, f⟩ := pyv_get f
  obtain ⟨q, h3, h4, f⟩ := pyv_get f
  cases q with
  | tuple ps => exact ⟨a, ps, rep_dp r.bs.sub rd h1, rep_dp r.bs.sub re h3, h2, h4, p.here r (.bl _) f⟩
  | _ => exact f.elim
/-- x[i] -/
def fIx : F2 := fun d e n k _ =>
  match d, e with
  | .lst ds, .int i => match atI ds i with
    | some y => k y n
    | none => False
  | .tup ds, .int i => match atI ds i with
    | some y => k y n
    | none => False
  | .str z, .int i => z.length ≤ sizeLine ∧ match atI z.cps.toList i with
    | some c => k (.str ⟨#[c]⟩) n
    | none => False
  | _, _ => False
theorem Reps.atI {pn : Addr} {M : Hp} {vs : List V} {ds : List D} (h : Reps K pn M vs ds) {i : Int} {y : D} (e : atI ds i = some y) : ∃ v, atI vs i = some v ∧ Rep K pn M v y := by
  unfold L2.atI at e ⊢
  rw [h.len]
  cases q : ixN ds.length i with
  | none => rw [q] at e; cases e
  | some j =>
    rw [q] at e
    exact h.get e
theorem lr_ix : LR2 K T E (rIx K) fIx := fun g n S σ M H v w d e Q k x r rd re f p => by
  cases re with
  | int i =>
    cases rd with
    | @lst a xs ds ha hx =>
      simp only [fIx] at f
      cases q : L2.atI ds i with
      | none => rw [q] at f; exact f.elim
      | some y =>
        rw [q] at f
        obtain ⟨v, h1, h2⟩ := hx.atI q
        exact .inl ⟨a, xs, i, v, rfl, rfl, .of (r.bs.sub _ _ ha), h1, p.here r h2 f⟩
    | @tup a xs ds ha hx =>
      simp only [fIx] at f
      cases q : L2.atI ds i with
      | none => rw [q] at f; exact f.elim
      | some y =>
        rw [q] at f
        obtain ⟨v, h1, h2⟩ := hx.atI q
        exact .inr (.inl ⟨a, xs, i, v, rfl, rfl, same_tup r.bs.sub ha, h1, p.here r h2 f⟩)
    | str z =>
      simp only [fIx] at f
      cases q : L2.atI z.cps.toList i with
      | none => rw [q] at f; exact f.2.elim
      | some c =>
        rw [q] at f
        exact .inr (.inr ⟨z, i, c, rfl, rfl, f.1, q, p.here r (.str _) f.2⟩)
    | _ => exact f.elim
  | _ => cases rd <;> exact f.elim
end
end Dl

set_option Elab.async false
set_option linter.all false
set_option maxRecDepth 100000
set_option maxHeartbeats 4000000
/-! enumerate over a tuple; x in a tuple, items data of any depth. -/
namespace PySem
open Sem (wp)
open AutoSeq1 (wpAny_loadPart')
set_option maxHeartbeats 8000000 in
theorem meets_enumerate_newT (l : Addr) (items : Array Value) (n : Nat) (dct : Option Addr) (sl : Array (Option Value)) :
    Meets (Builtin.«enumerate.__new__» ⟨[.type "enumerate", .ref l], []⟩) (fun _ R s => s.heap.get? l = some { cls := .type "tuple", dict := dct, data := .seq items n, slots := sl } ∧
      R (.ok (.ret (.ref (s.heap.push { cls := .type "tuple_iterator", data := .fields #[.ref l, .int 0 0] }).objs.size)))
        { s with heap := (s.heap.push { cls := .type "tuple_iterator", data := .fields #[.ref l, .int 0 0] }).push { cls := .type "enumerate", data := .fields #[.none, .bool false, .ref s.heap.objs.size, rawInt 0, .none, .none] } }) :=
  .of_wp fun prog w A R s h => by
    obtain ⟨hp, g, d, tk, os⟩ := s; obtain ⟨hl, h⟩ := h
    have hsub := sub_enumerate
    have hL : Heap.IsTuple (Shared.heap ⟨hp, g, d, tk, os⟩) l items := ⟨_, hl, rfl, n, rfl⟩
    wp_walk using wpAny_loadPart' hl
    refine wpAny_stack_any fun st => wpAny_pure ?_
    split
    · rename_i c _ _ _ _ _
      cases (c == Value.type "enumerate")
      · wp_walk using wpAny_loadPart' hl, wpAny_pyIter_tuple hL
        exact ⟨_, rfl, h⟩
      · wp_walk using wpAny_loadPart' hl, wpAny_pyIter_tuple hL
        exact ⟨_, rfl, h⟩
    · wp_walk using wpAny_loadPart' hl, wpAny_pyIter_tuple hL
      exact ⟨_, rfl, h⟩
section
variable {prog : Program} {w : World} {A : Around} {E : Value → Shared → Prop} {s : Shared}
theorem call_enumerate_tuple {l : Addr} {items : Array Value} {Q : Value → Shared → Prop} (hL : s.heap.IsTuple l items)
    (h : ∀ h', IsEnum h' (s.heap.objs.size + 1) s.heap.objs.size 0 .none → h'.IsTupleIter s.heap.objs.size l 0 → h'.objs.size = s.heap.objs.size + 2 →
      (∀ b o, s.heap.get? b = some o → h'.get? b = some o) → Q (.ref (s.heap.objs.size + 1)) { s with heap := h' }) :
    wpAny (model prog w) A (call (.type "enumerate") [.ref l]) Q E s := by
  obtain ⟨⟨c, dct, dt, sl⟩, hl, hc, n, hd⟩ := hL
  replace hc : c = .type "tuple" := hc
  replace hd : dt = .seq items n := hd
  subst hc hd
  refine callType_new F.called_enumerate (by decide) (F.typeCall_enumerate_1 _) (F.newCall_enumerate_1 _) (fun obj => F.args_object_init_2 obj _) F.entry_enumerate_new
    (meets_enumerate_newT l items n dct sl) ⟨hl, ?_⟩
  have hz : (s.heap.push { cls := .type "tuple_iterator", data := .fields #[.ref l, .int 0 0] }).objs.size = s.heap.objs.size + 1 := Heap.size_push ..
  show _ ∧ _
  rw [hz]
  have he : IsEnum ((s.heap.push { cls := .type "tuple_iterator", data := .fields #[.ref l, .int 0 0] }).push
      { cls := .type "enumerate", data := .fields #[.none, .bool false, .ref s.heap.objs.size, rawInt 0, .none, .none] }) (s.heap.objs.size + 1) s.heap.objs.size 0 .none := by
    have := Heap.get?_push_size (s.heap.push { cls := .type "tuple_iterator", data := .fields #[.ref l, .int 0 0] })
      (o := { cls := .type "enumerate", data := .fields #[.none, .bool false, .ref s.heap.objs.size, rawInt 0, .none, .none] }) rfl
    rw [hz] at this; exact this
  refine ⟨⟨_, he, rfl⟩, h _ he ⟨_, Heap.get?_push_of_some _ (Heap.get?_push_size _ rfl), rfl, rfl⟩ (by rw [Heap.size_push, hz]) fun b o x => Heap.get?_push_of_some _ (Heap.get?_push_of_some _ x)⟩
end
end PySem
namespace L2
open PySem PySem.Spec PyProof.Rows
/-- the tuple at a, each item in a new pair -/
def IteT (K : PySem.W.Frag) (a : Addr) : It :=
  ⟨fun i H => ∃ (xs : List V) (x : V), SqT K H a xs ∧ xs[i]? = some x, fun i H v H' => ∃ T x, v = .ref T ∧ H T = none ∧ H' = upd H T (.tup [.int (i : Nat), x]) ∧ ∀ xs, SqT K H a xs → xs[i]? = some x, fun i H => ∃ xs : List V, SqT K H a xs ∧ xs.length ≤ i⟩
theorem turn_enumT {P : Program} {w : World} {K : PySem.W.Frag} {elts : List Expr} {kk : Nat} {tpos : Pos} (a e it : Addr) :
    Turn P w K (.Tuple elts kk tpos) (IteT K a) [e, it] e (fun i h => (∃ old, IsEnum h e it ((i : Nat) : Int) old) ∧ h.IsTupleIter it a i ∧ e ≠ it) where
  mem := by simp
  obj := fun i h st b hb => by
    obtain ⟨⟨old, he⟩, ⟨o, ho, hc, hd⟩, _⟩ := st
    have e' : b = e ∨ b = it := by simpa using hb
    rcases e' with z | z
    · rw [z]; exact ⟨_, he, fun v q => nomatch q⟩
    · rw [z]; exact ⟨o, ho, fun v q => by rw [hd] at q; cases q⟩
  keep := fun i h h' st k => let ⟨⟨old, he⟩, hi, hne⟩ := st; ⟨⟨old, k e (by simp) _ he⟩, hi.at fun o q => k it (by simp) o q, hne⟩
  item := by
    intro X hP hw hK hc i pins s σ H E I hf st hg
    subst hP hw hK
    obtain ⟨⟨old, he⟩, hit, hne⟩ := st
    obtain ⟨xs, x, hq, hx⟩ := hg
    obtain ⟨its, rv, p, hz⟩ := I.tuple hq
    obtain ⟨u, hu, ru⟩ := rv.get hx
    have hel : e < s.heap.objs.size := Heap.lt_size he
    have hil : it < s.heap.objs.size := by obtain ⟨_, q, _⟩ := hit; exact Heap.lt_size q
    have hT0 : s.heap.IsTuple a its.toArray := p
    have nea : ∀ b ∈ [e, it], a ≠ b := fun b hb z => by
      obtain ⟨o, ho, c, _⟩ := hT0
      rw [z] at ho
      have e' : b = e ∨ b = it := by simpa using hb
      rcases e' with q | q
      · rw [q, he] at ho
        cases ho
        exact absurd (Value.type.inj c) (by decide)
      · rw [q] at ho
        obtain ⟨o2, h2, c2, _⟩ := hit
        rw [h2] at ho
        cases ho
        rw [c2] at c
        exact absurd (Value.type.inj c) (by decide)
    refine wpAny_pyNext_enum_itemD (Draws.tuple (A := X.A.in1) (show X.A.in1.handled = none from I.ok.hd hc) it a (nea it (by simp)) its.toArray) he ⟨hit, hT0⟩ (by
      have := (List.getElem?_eq_some_iff.mp hu).1
      simpa using this) hne (by
        intro z
        have e' : e = it ∨ e = a := by simpa using z
        rcases e' with q | q
        · exact hne q
        · exact nea e (by simp) q.symm) fun x' h' tk hx' ho st' hT hsz hk => ?_
    have ex : x' = u := by
      have h1 : its.toArray[i]? = some x' := hx'
      have h2 : its.toArray[i]? = some u := by simpa using hu
      rw [h1] at h2
      exact Option.some.inj h2
    subst ex
    refine ⟨_, rfl, wpAny_letOwnedTupleGo_enum (s := { s with heap := h', toks := tk + 1 }) ho fun h'' he' sb => ?_⟩
    have hT2 : h''.get? s.heap.objs.size = some { cls := .type "tuple", data := .seq #[.int i tk, x'] } := (sb.2 _ (Nat.ne_of_gt hel)).trans hT
    have new : ObjOk X.prog X.w (upd H s.heap.objs.size (.tup [.int (i : Nat), x])) h'' s.heap.objs.size (.tup [.int (i : Nat), x]) :=
      ⟨by show 2 ≤ sizeLine; decide, [.int i tk, x'], .cons ⟨_, rfl⟩ (.cons ru .nil), ⟨_, hT2, rfl, _, rfl⟩⟩
    have I1 : Inv X pins σ (upd H s.heap.objs.size (.tup [.int (i : Nat), x])) { s with heap := h'', toks := tk + 1 } :=
      I.turnedNew (ch := [e, it]) (fun b ob hb q => (sb.2 b (fun z => hb (by simp [z]))).trans (hk b ob (fun z => hb (by simp [z])) (fun z => hb (by simp [z])) q)) hf (Nat.le_refl _) new
    refine ⟨.ref s.heap.objs.size, _, I1, rfl, ⟨_, x, rfl, I.hok.fresh (Nat.le_refl _), rfl, fun ys hy => by rw [I.tuple_inj hy hq]; exact hx⟩, ⟨⟨x', ?_⟩, st'.1.at fun o q => (sb.2 it (Ne.symm hne)).trans q, hne⟩, fun b hb => ?_⟩
    · have e1 : ((i + 1 : Nat) : Int) = (i : Int) + 1 := by omega
      rw [e1]; exact he'
    · have hb' : b < s.heap.objs.size := by
        have e' : b = e ∨ b = it := by simpa using hb
        rcases e' with z | z
        · rw [z]; exact hel
        · rw [z]; exact hil
      rw [upd_ne (Nat.ne_of_lt hb')]
      exact (hf b hb).1
  done := by
    intro X hP hw hK hc i pins s σ H E I hf st hg
    subst hP hw hK
    obtain ⟨⟨old, he⟩, hit, hne⟩ := st
    obtain ⟨xs, hq, hx⟩ := hg
    obtain ⟨its, rv, p, hz⟩ := I.tuple hq
    obtain ⟨f0, f1, f2, f3, f4, f5⟩ := hf it (by simp)
    have hl := rv.length
    have hT : s.TypeIs (.ref e) "enumerate" := ⟨_, he, rfl⟩
    unfold pyNext
    refine wpAny_bind (wpAny_attempt (wpAny_callSpecial?_slot (name := Str.ofString "__next__") hT F.slot_enumerate_next
      (wpAny_call_entry F.slot_enumerate_next hT F.entry_enumerate_next ?_ (F.args_enumerate_next_1 _))))
    show wpAny _ _ (field (.ref e) 2 >>= _) _ _ _
    refine wpAny_bind (wpAny_field he rfl (x := .ref it) rfl ?_)
    refine wpAny_bind (wpAny_nextOf_tuple_end (A := X.A.in1) (show X.A.in1.handled = none from I.ok.hd hc) hit (show s.heap.IsTuple a its.toArray from p) (by simp; omega) fun h' x he' hx' => ?_)
    obtain ⟨o, ho, hc'⟩ := hx'
    refine wpAny_bind (wpAny_isInstance (T := "StopIteration") (b := true) ⟨o, ho, hc'⟩ isSubtype_stop ?_)
    exact wpAny_pure ⟨rfl, I.turned (t' := s.toks) (fun b o hb q => he' b o hb q) f0 f1 f3 f4 f5⟩
  self := fun A i s Q E st h => let ⟨⟨_, he⟩, _⟩ := st; wpAny_pyIter_enum he h
def iEnumT (K : PySem.W.Frag) (ta : TA) : TI := fun σ H R => ta σ H fun vs H1 => ∃ a xs, vs = [.ref a] ∧ SqT K H1 a xs ∧ R (IteT K a) H1
theorem pi_enumT {X : Cx} {e : Expr} {ta : TA} {p pos tpos : Pos} {elts : List Expr} {kk : Nat} (hg : Gl X "enumerate") (hm : X.mg "enumerate" = none) (ha : PA X [e] ta) (hs : starEach [e] X.env = [(false, eval e X.env)] := by rfl) :
    PI X (.Tuple elts kk tpos) (.Call (.Name "enumerate" p) [e] [] pos) (iEnumT X.K ta) := by
  refine ⟨fun pins s σ H R I h => ?_⟩
  refine Call_ (ld_blt I hg hm boot_enumerate (PyProof.Rows.callWith_type1 (thn (ha.run pos pins s σ H _ I h) fun us s1 ⟨vs, H1, I1, r1, q1⟩ => ?_) hs rfl))
  obtain ⟨a, xs, ex, hq, q⟩ := q1
  subst ex
  cases r1 with
  | cons r rr =>
    cases rr
    cases r
    obtain ⟨its, rv, p', hz⟩ := I1.tuple hq
    refine call_enumerate_tuple (show s1.heap.IsTuple a its.toArray from p') fun h' he hit hsz hk => wpAny_pyIter_enum he ?_
    have I2 : Inv X pins σ H1 { s1 with heap := h' } := I1.kept (t' := s1.toks) hk
    refine ⟨s1.heap.objs.size + 1, [s1.heap.objs.size + 1, s1.heap.objs.size], _, _, H1, rfl, I2, turn_enumT a (s1.heap.objs.size + 1) s1.heap.objs.size, ⟨⟨.none, he⟩, hit, Nat.succ_ne_self _⟩, fun b hb => ?_, q⟩
    have e' : b = s1.heap.objs.size + 1 ∨ b = s1.heap.objs.size := by simpa using hb
    have hle : s1.heap.objs.size ≤ b := by
      rcases e' with z | z
      · rw [z]; exact Nat.le_add_right _ _
      · rw [z]; exact Nat.le_refl _
    exact I1.fpOk hle (I1.hok.fresh hle)
section
variable {X : Cx}
/-- x in a tuple, items data of any depth -/
def rInT (K : PySem.W.Frag) : R2 := fun x y H Q => ∃ d ds, Dp K H x d ∧ Dp K H y (.tuple ds) ∧ SeqAt.shaped d = true ∧ SeqAt.shaped (.tuple ds) = true ∧ Q (.bl (ds.any fun z => PyData.eqv z d)) H
theorem op_inT (hu : X.A.units + 65 < cLine) : OpR X (compareOp .In) (rInT X.K) := by
  intro pins s σ H x y v u Q I rx ry h
  obtain ⟨d, ds, hd, he, sd, se, q⟩ := h
  obtain ⟨as, r1⟩ := Dp.reads I d x v hd rx
  obtain ⟨bs, r2⟩ := Dp.reads I (.tuple ds) y u he ry
  exact SeqAt.in_tuple_reads r2 r1 (SeqAt.canLay_of_shaped se) (SeqAt.canLay_of_shaped sd) (room_in_shaped sd hu) ⟨.bl _, H, I, rfl, q⟩
end
end L2

set_option Elab.async false
set_option linter.all false
set_option maxRecDepth 100000
set_option maxHeartbeats 4000000
namespace Dl
open PySem PySem.Spec PyProof.Rows L2 LamX
/-! ### what is walked -/
/-- at turn i it gives the i-th of ds; a new tuple may be laid -/
def Walks (K : PySem.W.Frag) (pn : Addr) (J : It) (ds : List D) (M : Hp) : Prop := ∃ (G : Hp → Prop) (Y : Nat → Hp → V → Hp → Prop), Walk J ds.length G Y ∧ (∀ H, Same M H → G H) ∧
  ∀ (i : Nat) (H : Hp) (v : V) (H' : Hp), i < ds.length → Same M H → Y i H v H' → (H' = H ∧ ∃ d, ds[i]? = some d ∧ Rep K pn M v d) ∨ (∃ t vs es, v = .ref t ∧ H t = none ∧ H' = upd H t (.tup vs) ∧ ds[i]? = some (.tup es) ∧ Reps K pn M vs es)
def toTI (K : PySem.W.Frag) (T : Tb) (E : XK) (W : WA) : TI := fun σ H R => ∃ (g : Gh) (M : Hp) (S : List Sl) (n : Nat) (k : List D → Nat → Prop) (x : KX), Rel K T g n S σ M H ∧ W S n k x ∧
  (∀ (ds : List D) (n' : Nat) (J : It) (M' H' : Hp), Same M M' → Rel K T g n' S σ M' H' → Walks K g.pn J ds M' → k ds n' → R J H') ∧ ExcP K T E g x
abbrev DI (X : Cx) (T : Tb) (E : XK) (tg iter : Expr) (W : WA) : Prop := PI X tg iter (toTI X.K T E W)
theorem pi_imp {X : Cx} {tg e : Expr} {t t' : TI} (he : PI X tg e t) (h : ∀ σ H Q, t' σ H Q → t σ H Q) : PI X tg e t' := ⟨fun pins s σ H Q I q => he.run pins s σ H Q I (h σ H Q q)⟩
section
variable {X : Cx} {T : Tb} {E : XK} {tg e a b : Expr} {pos : Pos} {wa wb : WE} {ws : WA}
def iSeq (K : PySem.W.Frag) (tl : TE) : TI := fun σ H R => tl σ H fun x H1 => ∃ a, x = .ref a ∧ (((∃ xs, SqL K H1 a xs) ∧ R (Itl K a) H1) ∨ ((∃ xs, SqT K H1 a xs) ∧ R (Itt K a) H1))
theorem pi_seq {l : Expr} {tl : TE} (hl : PE X l tl) : PI X tg l (iSeq X.K tl) := by
  refine ⟨fun pins s σ H R I h => ?_⟩
  refine thn (hl.run pins s σ H _ I h) fun v s1 ⟨x, H1, I1, r1, q1⟩ => ?_
  obtain ⟨a, e, q⟩ := q1
  subst e
  cases r1
  rcases q with ⟨⟨xs, hq⟩, q⟩ | ⟨⟨xs, hq⟩, q⟩
  · obtain ⟨its, rv, p, hz⟩ := I1.list hq
    refine wpAny_pyIter_list p.isList ?_
    refine ⟨s1.heap.objs.size, [s1.heap.objs.size], _, _, H1, rfl, I1.kept (t' := s1.toks) fun b o e => Heap.get?_push_of_some _ e, turn_list a _, ⟨_, Heap.get?_push_size _ rfl, rfl, rfl⟩, fun b hb => ?_, q⟩
    have e : b = s1.heap.objs.size := by simpa using hb
    subst e
    exact I1.fpOk (Nat.le_refl _) (I1.hok.fresh (Nat.le_refl _))
  · obtain ⟨its, rv, p, hz⟩ := I1.tuple hq
    refine wpAny_pyIter_tuple (show s1.heap.IsTuple a its.toArray from p) ?_
    refine ⟨s1.heap.objs.size, [s1.heap.objs.size], _, _, H1, rfl, I1.kept (t' := s1.toks) fun b o e => Heap.get?_push_of_some _ e, turn_tuple a _, ⟨_, Heap.get?_push_size _ rfl, rfl, rfl⟩, fun b hb => ?_, q⟩
    have e : b = s1.heap.objs.size := by simpa using hb
    subst e
    exact I1.fpOk (Nat.le_refl _) (I1.hok.fresh (Nat.le_refl _))
/-- the items of a list or a tuple -/
def seqI (d : D) (k : List D → Prop) : Prop :=
  match d with
  | .tup ds => k ds
  | .lst ds => k ds
  | _ => False
def wSeq (a : WE) : WA := fun S n k x => a S n (fun d n1 => seqI d fun ds => k ds n1) x
theorem walks_yat {K : PySem.W.Frag} {pn : Addr} {J : It} {G : Hp → Prop} {xs : List V} {ds : List D} {M : Hp} (w : Walk J xs.length G (YAt xs)) (hG : ∀ H, Same M H → G H) (h : Reps K pn M xs ds) : Walks K pn J ds M := by
  refine ⟨G, YAt xs, by rw [← h.len]; exact w, hG, fun i H v H' hi s y => .inl ⟨y.1, ?_⟩⟩
  exact h.getL y.2
theorem di_seq (ha : DE X T E e wa) : DI X T E tg e (wSeq wa) :=
  pi_imp (pi_seq ha) fun σ H R ⟨g, M, S, n, k, x, rl, w, p⟩ => ⟨g, M, S, n, _, x, rl, w, fun d n1 v M1 H1 s1 r1 h1 w1 => by
    cases h1 with
    | @tup a xs ds ha hx => exact ⟨a, rfl, .inr ⟨⟨_, same_tup r1.bs.sub ha⟩, p.1 ds n1 _ M1 H1 s1 r1 (walks_yat walk_tup (fun H s => same_tup s ha) hx) w1⟩⟩
    | @lst a xs ds ha hx => exact ⟨a, rfl, .inl ⟨⟨_, .of (r1.bs.sub _ _ ha)⟩, p.1 ds n1 _ M1 H1 s1 r1 (walks_yat walk_list (fun H s => .of (s _ _ ha)) hx) w1⟩⟩
    | _ => exact w1.elim, p.2⟩
/-- range(b), range(a, b) -/
def rngD (lo : Int) (n : Nat) : List D := (List.range n).map fun (i : Nat) => D.int (lo + (i : Int))
def intI (d : D) (k : Int → Prop) : Prop :=
  match d with
  | .int j => k j
  | _ => False
theorem rep_int {K : PySem.W.Frag} {pn : Addr} {M : Hp} {v : V} {d : D} {k : Int → Prop} (h : Rep K pn M v d) (q : intI d k) : ∃ j, v = .int j ∧ d = .int j ∧ k j := by
  cases h with
  | int b => exact ⟨b, rfl, rfl, q⟩
  | _ => exact q.elim
def wRng1 (a : WE) : WA := fun S n k x => a S n (fun d n1 => intI d fun j => (j ≤ 1000000 ∧ -1000000 ≤ j) ∧ k (rngD 0 j.toNat) n1) x
def wRng2 (a b : WE) : WA := fun S n k x => a S n (fun d n1 => b S n1 (fun e n2 => intI d fun i => intI e fun j => (j ≤ 1000000 ∧ -1000000 ≤ j ∧ i ≤ 1000000 ∧ -1000000 ≤ i) ∧ k (rngD i (j - i).toNat) n2) x) x
theorem rngD_len (lo : Int) (n : Nat) : (rngD lo n).length = n := by simp [rngD]
theorem rngD_get {lo : Int} {n i : Nat} (h : i < n) : (rngD lo n)[i]? = some (.int (lo + i)) := by
  unfold rngD
  rw [List.getElem?_map, List.getElem?_range h]
  rfl
theorem walks_rng {K : PySem.W.Frag} {pn : Addr} {lo : Int} {n : Nat} {M : Hp} : Walks K pn (Itr lo n) (rngD lo n) M := by
  refine ⟨fun _ => True, YFn fun i => .int (lo + i), by rw [rngD_len]; exact walk_range, fun _ _ => trivial, fun i H v H' hi s y => .inl ⟨y.1, ?_⟩⟩
  rw [rngD_len] at hi
  exact ⟨_, rngD_get hi, by rw [y.2]; exact .int _⟩
theorem di_rng1 {p : Pos} (hg : Gl X "range") (hm : X.mg "range" = none) (ha : DE X T E a wa) (hs : starEach [a] X.env = [(false, eval a X.env)] := by rfl) : DI X T E tg (.Call (.Name "range" p) [a] [] pos) (wRng1 wa) :=
  pi_imp (pi_range1 hg hm (pa_cons ha pa_nil hs) hs) fun σ H R ⟨g, M, S, n, k, x, rl, w, p⟩ => ⟨g, M, S, n, _, x, rl, w, fun d n1 v M1 H1 s1 r1 h1 w1 => by
    obtain ⟨j, rfl, rfl, hb, w1⟩ := rep_int h1 w1
    exact ⟨j, rfl, by omega, by omega, p.1 _ n1 _ M1 H1 s1 r1 walks_rng w1⟩, p.2⟩
theorem di_rng2 {p : Pos} (hg : Gl X "range") (hm : X.mg "range" = none) (ha : DE X T E a wa) (hb : DE X T E b wb) (hs : starEach [a, b] X.env = [(false, eval a X.env), (false, eval b X.env)] := by rfl) (hs2 : starEach [b] X.env = [(false, eval b X.env)] := by rfl) :
    DI X T E tg (.Call (.Name "range" p) [a, b] [] pos) (wRng2 wa wb) :=
  pi_imp (pi_range2 hg hm (pa_cons ha (pa_cons hb pa_nil hs2) (by rw [hs, hs2])) hs hs2) fun σ H R ⟨g, M, S, n, k, x, rl, w, p⟩ => ⟨g, M, S, n, _, x, rl, w, fun d n1 v M1 H1 s1 r1 h1 w1 =>
    ⟨g, M1, S, n1, _, x, r1, w1, fun e n2 v2 M2 H2 s2 r2 h2 w2 => by
      obtain ⟨i, rfl, rfl, w2⟩ := rep_int h1 w2
      obtain ⟨j, rfl, rfl, hb, w2⟩ := rep_int h2 w2
      exact ⟨i, j, rfl, by omega, p.1 _ n2 _ M2 H2 (s1.trans s2) r2 walks_rng w2⟩, p.2⟩, p.2⟩
/-- enumerate(tuple or list) -/
def enumD : Nat → List D → List D
  | _, [] => []
  | i, d :: ds => .tup [.int (i : Nat), d] :: enumD (i + 1) ds
theorem enumD_len : ∀ (i : Nat) (ds : List D), (enumD i ds).length = ds.length
  | _, [] => rfl
  | i, d :: ds => congrArg Nat.succ (enumD_len (i + 1) ds)
theorem enumD_get : ∀ {ds : List D} {i j : Nat} {d : D}, ds[j]? = some d → (enumD i ds)[j]? = some (.tup [.int ((i + j : Nat) : Int), d])
  | [], _, _, _, h => by simp at h
  | d :: ds, i, 0, _, h => by simp at h; subst h; rfl
  | d :: ds, i, j + 1, e, h => by
    have := enumD_get (ds := ds) (i := i + 1) (j := j) (d := e) (by simpa using h)
    simp only [enumD, List.getElem?_cons_succ, this]
    congr 5
    omega
theorem walk_enumT {K : PySem.W.Frag} {a : Addr} {xs : List V} : Walk (L2.IteT K a) xs.length (fun H => SqT K H a xs) (fun i H v H' => ∃ t x, v = .ref t ∧ H t = none ∧ H' = upd H t (.tup [.int (i : Nat), x]) ∧ xs[i]? = some x) :=
  ⟨fun i H hi h => ⟨xs, xs[i], h, List.getElem?_eq_getElem hi⟩, fun H h => ⟨xs, h, Nat.le_refl _⟩, fun i H x H' hi h y => by
    obtain ⟨t, x, e1, e2, e3, e4⟩ := y
    exact ⟨t, x, e1, e2, e3, e4 xs h⟩⟩
def tupI (d : D) (k : List D → Prop) : Prop :=
  match d with
  | .tup ds => k ds
  | _ => False
def lstI (d : D) (k : List D → Prop) : Prop :=
  match d with
  | .lst ds => k ds
  | _ => False
def wEnT (a : WE) : WA := fun S n k x => a S n (fun d n1 => tupI d fun ds => k (enumD 0 ds) n1) x
def wEnL (a : WE) : WA := fun S n k x => a S n (fun d n1 => lstI d fun ds => k (enumD 0 ds) n1) x
theorem di_enT {elts : List Expr} {kk : Nat} {p tpos : Pos} (hg : Gl X "enumerate") (hm : X.mg "enumerate" = none) (ha : DE X T E e wa) (hs : starEach [e] X.env = [(false, eval e X.env)] := by rfl) :
    DI X T E (.Tuple elts kk tpos) (.Call (.Name "enumerate" p) [e] [] pos) (wEnT wa) :=
  pi_imp (L2.pi_enumT hg hm (pa_cons ha pa_nil hs) hs) fun σ H R ⟨g, M, S, n, k, x, rl, w, p⟩ => ⟨g, M, S, n, _, x, rl, w, fun d n1 v M1 H1 s1 r1 h1 w1 => by
    cases h1 with
    | @tup a xs ds ha hx =>
      refine ⟨a, xs, rfl, same_tup r1.bs.sub ha, p.1 _ n1 _ M1 H1 s1 r1 ⟨fun H => SqT X.K H a xs, _, by rw [enumD_len, ← hx.len]; exact walk_enumT, fun H s => same_tup s ha, fun i H v H' hi s y => .inr ?_⟩ w1⟩
      obtain ⟨t, z, e1, e2, e3, e4⟩ := y
      obtain ⟨d, h3, h4⟩ := hx.getL e4
      exact ⟨t, _, _, e1, e2, e3, by have := enumD_get (i := 0) h3; rw [Nat.zero_add] at this; exact this, .cons (.int _) (.cons h4 .nil)⟩
    | _ => exact w1.elim, p.2⟩
theorem di_enL {elts : List Expr} {kk : Nat} {p tpos : Pos} (hg : Gl X "enumerate") (hm : X.mg "enumerate" = none) (ha : DE X T E e wa) (hs : starEach [e] X.env = [(false, eval e X.env)] := by rfl) :
    DI X T E (.Tuple elts kk tpos) (.Call (.Name "enumerate" p) [e] [] pos) (wEnL wa) :=
  pi_imp (pi_enum hg hm (pa_cons ha pa_nil hs) hs) fun σ H R ⟨g, M, S, n, k, x, rl, w, p⟩ => ⟨g, M, S, n, _, x, rl, w, fun d n1 v M1 H1 s1 r1 h1 w1 => by
    cases h1 with
    | @lst a xs ds ha hx =>
      refine ⟨a, xs, rfl, .of (r1.bs.sub _ _ ha), p.1 _ n1 _ M1 H1 s1 r1 ⟨fun H => SqL X.K H a xs, _, by rw [enumD_len, ← hx.len]; exact walk_enum, fun H s => .of (s _ _ ha), fun i H v H' hi s y => .inr ?_⟩ w1⟩
      obtain ⟨t, z, z2, e1, e2, e3, e5, e4⟩ := y
      obtain ⟨d, h3, h4⟩ := hx.getL e4
      cases e5
      exact ⟨t, _, _, e1, e2, e3, by have := enumD_get (i := 0) h3; rw [Nat.zero_add] at this; exact this, .cons (.int _) (.cons h4 .nil)⟩
    | _ => exact w1.elim, p.2⟩
end
/-! ### targets -/
abbrev WG := D → List Sl → (List Sl → Prop) → Prop
def LG (K : PySem.W.Frag) (T : Tb) (t : TG) (is : List Nat) (w : WG) : Prop := ∀ (g : Gh) (n : Nat) (S : List Sl) (σ : L2.St) (M H : Hp) (v : V) (d : D) (Q : L2.St → Hp → Prop) (kk : List Sl → Prop),
  Rel K T g n S σ M H → Rep K g.pn M v d → w d S kk → (∀ S' σ', Rel K T g n S' σ' M H → (∀ vs : List Nat, (∀ i ∈ is, i ∈ vs) → wipe σ' vs = wipe σ vs) → kk S' → Q σ' H) → t v σ H Q
def LGs (K : PySem.W.Frag) (T : Tb) (t : TGs) (is : List Nat) (w : List D → List Sl → (List Sl → Prop) → Prop) : Prop := ∀ (g : Gh) (n : Nat) (S : List Sl) (σ : L2.St) (M H : Hp) (v : List V) (d : List D) (Q : L2.St → Hp → Prop) (kk : List Sl → Prop),
  Rel K T g n S σ M H → Reps K g.pn M v d → w d S kk → (∀ S' σ', Rel K T g n S' σ' M H → (∀ vs : List Nat, (∀ i ∈ is, i ∈ vs) → wipe σ' vs = wipe σ vs) → kk S' → Q σ' H) → t v σ H Q
theorem wipe_set {v : Option V} {i : Nat} : ∀ {vs : List Nat} (σ : L2.St), i ∈ vs → wipe (σ.set i v) vs = wipe σ vs
  | [], _, h => by cases h
  | j :: vs, σ, h => by
    show (wipe (σ.set i v) vs).set j none = (wipe σ vs).set j none
    rcases List.mem_cons.mp h with rfl | h
    · have key : ∀ (us : List Nat) (σ : L2.St), (wipe (σ.set i v) us).set i none = (wipe σ us).set i none := by
        intro us
        induction us with
        | nil => intro σ; simp [wipe]
        | cons u us ih =>
          intro σ
          show ((wipe (σ.set i v) us).set u none).set i none = ((wipe σ us).set u none).set i none
          by_cases e : u = i
          · subst e
            rw [List.set_set, List.set_set]
            exact ih σ
          · rw [List.set_comm _ _ e, List.set_comm _ _ e, ih σ]
      exact key vs σ
    · rw [wipe_set σ h]
def gwName (i : Nat) : WG := fun d S kk => kk (S.set i (.val d))
theorem lg_name {K : PySem.W.Frag} {T : Tb} (i : Nat) : LG K T (gName i) [i] (gwName i) := fun g n S σ M H v d Q kk r h w q => q _ _ (r.set h) (fun vs hv => wipe_set σ (hv i (by simp))) w
def gwNil : List D → List Sl → (List Sl → Prop) → Prop := fun ds S kk => ds = [] ∧ kk S
def gwCons (w : WG) (u : List D → List Sl → (List Sl → Prop) → Prop) : List D → List Sl → (List Sl → Prop) → Prop := fun ds S kk =>
  match ds with
  | [] => False
  | d :: r => w d S fun S' => u r S' kk
def gwTup (u : List D → List Sl → (List Sl → Prop) → Prop) : WG := fun d S kk =>
  match d with
  | .tup ds => u ds S kk
  | _ => False
theorem lg_nil {K : PySem.W.Frag} {T : Tb} : LGs K T gNil [] gwNil := fun g n S σ M H v d Q kk r h w q => by
  obtain ⟨rfl, w⟩ := w
  cases h
  exact ⟨rfl, q S σ r (fun _ _ => rfl) w⟩
theorem lg_cons {K : PySem.W.Frag} {T : Tb} {t : TG} {u : TGs} {is js : List Nat} {w : WG} {wu : List D → List Sl → (List Sl → Prop) → Prop} (h1 : LG K T t is w) (h2 : LGs K T u js wu) : LGs K T (gCons t u) (is ++ js) (gwCons w wu) := fun g n S σ M H v d Q kk r h w q => by
  cases h with
  | nil => exact w.elim
  | @cons v d vs ds hv hr => exact ⟨v, vs, rfl, h1 g n S σ M H v d _ _ r hv w fun S1 σ1 r1 e1 w1 => h2 g n S1 σ1 M H vs ds Q kk r1 hr w1 fun S2 σ2 r2 e2 w2 => q S2 σ2 r2 (fun us hu => (e2 us fun i hi => hu i (List.mem_append_right _ hi)).trans (e1 us fun i hi => hu i (List.mem_append_left _ hi))) w2⟩
theorem lgs_len {K : PySem.W.Frag} {T : Tb} {u : TGs} {js : List Nat} {wu : List D → List Sl → (List Sl → Prop) → Prop} {m : Nat} (h : LGs K T u js wu) (hl : ∀ ds S kk, wu ds S kk → ds.length = m) : LG K T (gTup K m u) js (gwTup wu) := fun g n S σ M H v d Q kk r hv w q => by
  cases hv with
  | @tup a xs ds ha hx => exact ⟨a, xs, rfl, same_tup r.bs.sub ha, by rw [hx.len]; exact hl _ _ _ w, h g n S σ M H xs ds Q kk r hx w q⟩
  | _ => exact w.elim
theorem gw_len0 : ∀ ds S kk, gwNil ds S kk → ds.length = 0 := fun ds S kk h => by rw [h.1]; rfl
theorem gw_lenN {n : Nat} {w : WG} {u : List D → List Sl → (List Sl → Prop) → Prop} (hw : ∀ d S (kk kk' : List Sl → Prop), w d S kk → ∃ S', kk S') (h : ∀ ds S kk, u ds S kk → ds.length = n) : ∀ ds S kk, gwCons w u ds S kk → ds.length = n + 1 := fun ds S kk q => by
  cases ds with
  | nil => exact q.elim
  | cons d r =>
    obtain ⟨S', q'⟩ := hw d S _ (fun _ => True) q
    exact congrArg Nat.succ (h r S' kk q')
theorem gw_name {i : Nat} : ∀ d S (kk kk' : List Sl → Prop), gwName i d S kk → ∃ S', kk S' := fun d S kk _ h => ⟨_, h⟩
/-! ### slots forgotten -/
def wipeS (S : List Sl) : List Nat → List Sl
  | [] => S
  | v :: vs => (wipeS S vs).set v .un
theorem Rel.wipe {K : PySem.W.Frag} {T : Tb} {g : Gh} {n : Nat} {S : List Sl} {σ : L2.St} {M H : Hp} (r : Rel K T g n S σ M H) : ∀ vs : List Nat, Rel K T g n (wipeS S vs) (L2.wipe σ vs) M H
  | [] => r
  | _ :: vs => (Rel.wipe r vs).unset
theorem Rel.enter {K : PySem.W.Frag} {T : Tb} {g : Gh} {n : Nat} {S : List Sl} {σ : L2.St} {M H : Hp} (r : Rel K T g n S σ M H) : Rel K T (g.at M H false) n S σ M H :=
  ⟨r.bs.enter false, r.len, r.sl, r.sep, fun i s a h o e => ⟨(fun z => by cases z), (r.fr i s a h o e).2⟩⟩
theorem ExcP.back {K : PySem.W.Frag} {T : Tb} {E : XK} {g : Gh} {n : Nat} {M H : Hp} {x : KX} {st : Bool} (p : ExcP K T E g x) (r : Bs K T g n M H) : ExcP K T E (g.at M H st) x := fun e n' c dd M' H' b h q => p e n' c dd M' H' (r.back b) h q
/-! ### [e for x in xs if t] -/
def lcD (gw : WG) (tt : WT) (te : WE) (S0 : List Sl) : List D → List D → Nat → (List D → Nat → Prop) → Prop
  | [], acc, n, k => k acc n
  | d :: ds, acc, n, k => gw d S0 fun S1 => tt S1 n (fun b n1 => if b = true then te S1 n1 (fun y n2 => lcD gw tt te S0 ds (acc ++ [y]) n2 k) (fun _ _ => False) else lcD gw tt te S0 ds acc n1 k) (fun _ _ => False)
def wLc (it : WA) (vs : List Nat) (gw : WG) (tt : WT) (te : WE) : WE := fun S n k x => it S n (fun ds n1 => ds.length ≤ 100000 ∧ lcD gw tt te (wipeS S vs) ds [] n1 fun acc n2 => k (.lst acc) n2) x
def wYes : WT := fun _ n k _ => k true n
theorem excF {K : PySem.W.Frag} {T : Tb} {E : XK} {g : Gh} : ExcP K T E g (fun _ _ => False) := fun _ _ _ _ _ _ _ _ z => z.elim
section
variable {X : Cx} {T : Tb} {E : XK} {pos : Pos}
theorem dts_nil : PTs X [] (toTT X.K T E wYes) := ⟨fun pins s σ H Q I ⟨g, M, S, n, k, x, rl, w, p⟩ => pts_nil.run pins s σ H Q I (p.1 true n M H (Same.refl M) rl w)⟩
theorem dts_one {c : Expr} {wt : WT} (h : DT X T E c wt) : PTs X [c] (toTT X.K T E wt) := pts_one h
/-- a comprehension's new list: at D, held by nothing -/
structure NewL (K : PySem.W.Frag) (T : Tb) (g : Gh) (S : List Sl) (σ : L2.St) (M : Hp) (H : Hp) (p : Addr) (n' : Nat) (acc : List D) : Prop where
  ex : ∃ (M' : Hp) (vs : List V), Same M M' ∧ Rel K T g n' S σ M' H ∧ H p = some (.lst vs) ∧ M' p = none ∧ Reps K g.pn M' vs acc
theorem lc_run {wi : TI} {t : TG} {is : List Nat} {gw : WG} {tt : WT} {te : WE} {vs : List Nat} (hi : ∀ i ∈ is, i ∈ vs) (lg : LG X.K T t is gw) {σ : L2.St} {H0 : Hp} {g : Gh} {M : Hp} {S : List Sl} {n : Nat} (rl : Rel X.K T g n S σ M H0) {J : It} {ds : List D} (wk : Walks X.K g.pn J ds M) (hd : ds.length ≤ 100000)
    {k : List D → Nat → Prop} (w : lcD gw tt te (wipeS S vs) ds [] n k) {Dd : Addr} (nD : H0 Dd = none) {Qd : Hp → Prop} (q : ∀ H acc n', NewL X.K T g S σ M H Dd n' acc → k acc n' → Qd H) :
    ∃ W : Nat → Nat → Hp → Prop, (∃ m, W 0 m (upd H0 Dd (.lst []))) ∧ ∀ i m H, W i m H →
      (J.stop i H ∧ Qd H) ∨ (J.go i H ∧ ∃ Nx : Hp → Prop, (∀ H', Nx H' → ∃ m', m' < m ∧ W (i + 1) m' H') ∧ ∀ x H', J.yld i H x H' → t x (wipe σ vs) H' fun σ2 H2 => wipe σ2 vs = wipe σ vs ∧ (toTT X.K T E0 tt) σ2 H2 fun b H3 =>
        if b = true then (toTE X.K T E0 te) σ2 H3 fun y H4 => ∃ acc, H4 Dd = some (.lst acc) ∧ acc.length < sizeLine ∧ Nx (upd H4 Dd (.lst (acc ++ [y]))) else Nx H3) := by
  obtain ⟨G, Y, wlk, hG, hY⟩ := wk
  have nown : ∀ (i : Nat) (s : Sl), S[i]? = some s → s.isOwn = true → σ[i]? ≠ some (some (.ref Dd)) := fun i s h o z => by
    obtain ⟨u, e, _⟩ := rl.own_at h o z
    rw [nD] at e
    cases e
  have h0 : Nt g.H0 Dd := rl.bs.h0 nD
  have npn := rl.bs.pnn nD
  let Pv : Nat → Hp → Prop := fun i H => ∃ acc n', acc.length ≤ i ∧ NewL X.K T g S σ M H Dd n' acc ∧ lcD gw tt te (wipeS S vs) (ds.drop i) acc n' k
  refine lc_it wlk (g := t) (tt := toTT X.K T E0 tt) (te := toTE X.K T E0 te) (vs := vs) (σ := σ) (H1 := H0) (D := Dd) (Qd := Qd) Pv ?_ ?_ ?_ ?_
  · exact ⟨[], n, Nat.le_refl _, ⟨M, [], Same.refl M, rl.grow (same_upd nD), upd_same, rl.bs.mn nD, .nil⟩, w⟩
  · rintro i H _ ⟨acc, n', _, ⟨M', vl, s, r, _⟩, _⟩
    exact hG H (s.trans r.bs.sub)
  · rintro i x H H' hi' ⟨acc, n', la, ⟨M', vl, s, r, hD, mD, ra⟩, w1⟩ y
    obtain ⟨d, hd'⟩ : ∃ d, ds[i]? = some d := ⟨ds[i], List.getElem?_eq_getElem hi'⟩
    have ed : ds.drop i = d :: ds.drop (i + 1) := by
      obtain ⟨h1, h2⟩ := List.getElem?_eq_some_iff.mp hd'
      rw [List.drop_eq_getElem_cons h1, h2]
    rw [ed] at w1
    -- what is given
    obtain ⟨M1, r1, s1, hx1, hD1, mD1⟩ : ∃ M1, Rel X.K T g n' S σ M1 H' ∧ Same M' M1 ∧ Rep X.K g.pn M1 x d ∧ H' Dd = some (.lst vl) ∧ M1 Dd = none := by
      rcases hY i H x H' hi' (s.trans r.bs.sub) y with ⟨rfl, e, h1, h2⟩ | ⟨t', us, es, rfl, nt, rfl, h1, h2⟩
      · rw [hd'] at h1
        cases h1
        exact ⟨M', r, Same.refl M', h2.mono s, hD, mD⟩
      · rw [hd'] at h1
        cases h1
        have tD : Dd ≠ t' := ne_of_none hD nt
        have sm := same_upd (o := HO.tup us) (r.bs.mn nt)
        exact ⟨_, r.new nt (fun ps z => by cases z), sm, .tup (.of upd_same) (h2.mono (s.trans sm)), by rw [upd_ne tD]; exact hD, by rw [upd_ne tD]; exact mD⟩
    have fin : ∀ {n2 : Nat} {M2 H2 : Hp}, Bs X.K T (g.at M1 H' false) n2 M2 H2 → Rel X.K T g n2 S σ M2 H2 ∧ H2 Dd = some (.lst vl) ∧ M2 Dd = none := fun {n2 M2 H2} b => ⟨r1.back b, b.ext.rl _ _ npn hD1 (fun _ z => by cases z), by
      cases e : M2 Dd with
      | none => rfl
      | some o =>
        rcases b.mnew Dd (by rw [e]; simp) with z | z
        · exact absurd mD1 z
        · obtain ⟨ps, e⟩ := z _ hD1
          cases e⟩
    refine lg (g.at M1 H' false) n' _ _ M1 H' x d _ _ (r1.wipe vs).enter hx1 w1 fun S2 σ2 r2 e2 w2 => ⟨?_, g.at M1 H' false, M1, S2, n', _, _, r2, w2, fun b n2 M2 H2 s2 r3 w3 => ?_, excF⟩
    · have := e2 vs hi
      rw [this]
      have key : ∀ (us ws : List Nat) (σ : L2.St), (∀ i ∈ us, i ∈ ws) → wipe (wipe σ us) ws = wipe σ ws := by
        intro us
        induction us with
        | nil => intro ws σ _; rfl
        | cons u us ih =>
          intro ws σ hu
          show wipe ((wipe σ us).set u none) ws = _
          rw [wipe_set _ (hu u (by simp)), ih ws σ fun i hi => hu i (List.mem_cons_of_mem _ hi)]
      exact key vs vs σ fun _ h => h
    · obtain ⟨rr, hD2, mD2⟩ := fin r3.bs
      cases b with
      | false =>
        refine iteF ?_
        exact ⟨acc, n2, by omega, ⟨M2, vl, (s.trans s1).trans s2, rr, hD2, mD2, ra.mono (s1.trans s2)⟩, w3⟩
      | true =>
        refine iteT ⟨g.at M1 H' false, M2, S2, n2, _, _, r3, w3, fun z n3 v3 M3 H3 s3 r4 h3 w4 => ?_, excF⟩
        obtain ⟨rr3, hD3, mD3⟩ := fin r4.bs
        refine ⟨vl, hD3, ?_, acc ++ [z], n3, by rw [List.length_append]; simp; omega, ⟨M3, vl ++ [v3], (s.trans s1).trans (s2.trans s3), rr3.put hD3 trivial mD3 h0 nown, upd_same, mD3, (ra.mono (s1.trans (s2.trans s3))).snoc h3⟩, w4⟩
        rw [ra.len, sizeLine_eq]
        omega
  · rintro H ⟨acc, n', _, nw, w1⟩
    rw [List.drop_length] at w1
    exact q H acc n' nw w1
theorem de_lc {elt tg iter : Expr} {ifs : List Expr} {scope : Scope} {own : List (Str × Nat)} {it : WA} {t : TG} {is : List Nat} {gw : WG} {tt : WT} {te : WE} (hc : X.calm = true) (hN : X.N.Nodup) (hi : DI X T E tg iter it) (ok : BlkOk X.N X.env.scope scope own)
    (lg : LG X.K T t is gw) (hv : ∀ i ∈ is, i ∈ own.map (·.2))
    (hg : ∀ (s : Shared) (H : Hp) (C : Addr) (cl : List (Str × Addr)) (fp : List Addr), PG (X.blk s H scope (compEnvC scope cl C X.env) fp) tg t) (ht : ∀ (s : Shared) (H : Hp) (C : Addr) (cl : List (Str × Addr)) (fp : List Addr), PTs (X.blk s H scope (compEnvC scope cl C X.env) fp) ifs (toTT X.K T E0 tt))
    (he : ∀ (s : Shared) (H : Hp) (C : Addr) (cl : List (Str × Addr)) (fp : List Addr), PE (X.blk s H scope (compEnvC scope cl C X.env) fp) elt (toTE X.K T E0 te)) (hs : ∀ x, foldedSetIterable iter X.env x = pure x := by intro _; rfl) :
    DE X T E (.ListComp elt [⟨tg, iter, ifs, 0⟩] scope pos) (wLc it (own.map (·.2)) gw tt te) :=
  pe_imp (pe_lc hc hN hi ok hg ht he hs) fun σ H Q ⟨g, M, S, n, k, x, rl, w, p⟩ => ⟨g, M, S, n, _, x, rl, w, fun ds n1 J M1 H1 s1 r1 wk w1 Dd nD =>
    lc_run (wi := toTI X.K T E it) (gw := gw) (tt := tt) (te := te) hv lg r1 wk w1.1 w1.2 nD fun H2 acc n2 nw w2 => by
      obtain ⟨M2, vl, s2, r2, hD, mD, ra⟩ := nw
      have nown : ∀ (i : Nat) (s : Sl), S[i]? = some s → s.isOwn = true → σ[i]? ≠ some (some (.ref Dd)) := fun i s h o z => by
        obtain ⟨u, e, _⟩ := r1.own_at h o z
        rw [nD] at e
        cases e
      have sm := same_upd (o := HO.lst vl) mD
      exact p.1 _ n2 _ _ _ ((s1.trans s2).trans sm) (r2.freeze hD mD (r1.bs.pnn nD) (r1.bs.h0 nD) (fun ps z => by cases z) nown) (.lst upd_same (ra.mono sm)) w2, p.2⟩
end
end Dl

set_option Elab.async false
set_option linter.all false
set_option maxRecDepth 100000
set_option maxHeartbeats 4000000
namespace Dl
open PySem PySem.Spec PyProof.Rows L2 LamX
/-! ### statements -/
structure DEnds where
  nx : List Sl → Nat → Prop
  rt : KD
  bk : List Sl → Nat → Prop := fun _ _ => False
  ct : List Sl → Nat → Prop := fun _ _ => False
abbrev WS := List Sl → Nat → DEnds → KX → Prop
section
variable (K : PySem.W.Frag) (T : Tb) (E : XK)
structure EndsOk (g : Gh) (D : DEnds) (Dn : Ends) : Prop where
  nx : ∀ (S' : List Sl) (n' : Nat) (σ' : L2.St) (M' H' : Hp), Rel K T g n' S' σ' M' H' → D.nx S' n' → Dn.nx σ' H'
  rt : ∀ (d : Dl.D) (n' : Nat) (v : V) (M' H' : Hp), Bs K T g n' M' H' → Rep K g.pn M' v d → D.rt d n' → Dn.rt v H'
  bk : ∀ (S' : List Sl) (n' : Nat) (σ' : L2.St) (M' H' : Hp), Rel K T g n' S' σ' M' H' → D.bk S' n' → Dn.bk σ' H'
  ct : ∀ (S' : List Sl) (n' : Nat) (σ' : L2.St) (M' H' : Hp), Rel K T g n' S' σ' M' H' → D.ct S' n' → Dn.ct σ' H'
def toTS (W : WS) : TS := fun Dn σ H => ∃ (g : Gh) (M : Hp) (S : List Sl) (n : Nat) (D : DEnds) (x : KX), g.stm = true ∧ Rel K T g n S σ M H ∧ W S n D x ∧ EndsOk K T g D Dn ∧ ExcP K T E g x
/-- a place that nothing of here stands at -/
structure Fr (g : Gh) (S : List Sl) (σ : L2.St) (p : Addr) : Prop where
  np : p ≠ g.pn
  h0 : Nt g.H0 p
  no : ∀ (i : Nat) (s : Sl), S[i]? = some s → s.isOwn = true → σ[i]? ≠ some (some (.ref p))
/-- a new list that is held by nothing -/
def toTF (W : WA) : TE := fun σ H Q => ∃ (g : Gh) (M : Hp) (S : List Sl) (n : Nat) (k : List D → Nat → Prop) (x : KX), Rel K T g n S σ M H ∧ W S n k x ∧
  (∀ (ds : List D) (n' : Nat) (p : Addr) (vs : List V) (M' H' : Hp), Same M M' → Rel K T g n' S σ M' H' → H' p = some (.lst vs) → M' p = none → Fr g S σ p → Reps K g.pn M' vs ds → k ds n' → Q (.ref p) H') ∧ ExcP K T E g x
end
def wNext : WS := fun S n D _ => D.nx S n
def wThen (a b : WS) : WS := fun S n D x => a S n { D with nx := fun S' n' => b S' n' D x } x
def wSet (i : Nat) (w : WE) : WS := fun S n D x => w S n (fun d n1 => D.nx (S.set i (.val d)) n1) x
def wAsg (w : WE) (gw : WG) : WS := fun S n D x => w S n (fun d n1 => gw d S fun S' => D.nx S' n1) x
def wRet (w : WE) : WS := fun S n D x => w S n D.rt x
def wRetN : WS := fun _ n D _ => D.rt .non n
def wDrop (w : WE) : WS := fun S n D x => w S n (fun _ n1 => D.nx S n1) x
def wIf (c : WT) (a b : WS) : WS := fun S n D x => c S n (fun t n1 => if t = true then a S n1 D x else b S n1 D x) x
def wBreak : WS := fun S n D _ => D.bk S n
def wCont : WS := fun S n D _ => D.ct S n
def wNever : WS := fun _ _ _ _ => False
def forD (gw : WG) (body : WS) (D : DEnds) (x : KX) : List Dl.D → List Sl → Nat → Prop
  | [], S, n => D.nx S n
  | d :: ds, S, n => gw d S fun S1 => body S1 n { nx := fun S' n' => forD gw body D x ds S' n', rt := D.rt, bk := D.nx, ct := fun S' n' => forD gw body D x ds S' n' } x
def wFor (it : WA) (gw : WG) (body : WS) : WS := fun S n D x => it S n (fun ds n1 => forD gw body D x ds S n1) x
def wSetOwn (i : Nat) (w : WA) : WS := fun S n D x => w S n (fun ds n1 => D.nx (S.set i (.own ds)) n1) x
def ownL (s : Sl) (k : List D → Prop) : Prop :=
  match s with
  | .own ds => k ds
  | _ => False
def wApp (i : Nat) (w : WE) : WS := fun S n D x => ownL (gt S i) fun _ => w S n (fun d n1 => ownL (gt S i) fun ds => ds.length ≤ 100000 ∧ D.nx (S.set i (.own (ds ++ [d]))) n1) x
def wFreeze (i : Nat) (w : WS) : WS := fun S n D x => ownL (gt S i) fun ds => w (S.set i (.val (.lst ds))) n D x
section
variable {X : Cx} {T : Tb} {E : XK} {st : Stmt} {body rest : List Stmt} {pos : Pos} {e a b : Expr} {es : List Expr} {wa wb : WE} {ws : WA} {wt : WT} {w1 w2 : WS}
theorem Rel.free {K : PySem.W.Frag} {g : Gh} {n : Nat} {S : List Sl} {σ : L2.St} {M H : Hp} (r : Rel K T g n S σ M H) {p : Addr} (h : H p = none) : Fr g S σ p := ⟨r.bs.pnn h, r.bs.h0 h, fun i s e o z => by
  obtain ⟨u, q, _⟩ := r.own_at e o z
  rw [h] at q
  cases q⟩
abbrev DS (X : Cx) (T : Tb) (E : XK) (st : Stmt) (W : WS) : Prop := PS X st (toTS X.K T E W)
abbrev DSs (X : Cx) (T : Tb) (E : XK) (st : List Stmt) (W : WS) : Prop := PSs X st (toTS X.K T E W)
abbrev DF (X : Cx) (T : Tb) (E : XK) (e : Expr) (W : WA) : Prop := PE X e (toTF X.K T E W)
theorem ps_imp {X : Cx} {st : Stmt} {t t' : TS} (he : PS X st t) (h : ∀ D σ H, t' D σ H → t D σ H) : PS X st t' := ⟨fun pins s σ H D I q => he.run pins s σ H D I (h D σ H q)⟩
theorem pss_imp {X : Cx} {st : List Stmt} {t t' : TS} (he : PSs X st t) (h : ∀ D σ H, t' D σ H → t D σ H) : PSs X st t' := ⟨fun pins s σ H D I q => he.run pins s σ H D I (h D σ H q)⟩
theorem dss_nil : DSs X T E [] wNext := pss_imp pss_nil fun D σ H ⟨g, M, S, n, Dd, x, gs, rl, w, p, q⟩ => p.nx S n σ M H rl w
theorem dss_cons (h1 : DS X T E st w1) (h2 : DSs X T E rest w2) : DSs X T E (st :: rest) (wThen w1 w2) :=
  pss_imp (pss_cons h1 h2) fun D σ H ⟨g, M, S, n, Dd, x, gs, rl, w, p, q⟩ => ⟨g, M, S, n, _, x, gs, rl, w, ⟨fun S' n' σ' M' H' r w => ⟨g, M', S', n', Dd, x, gs, r, w, p, q⟩, p.rt, p.bk, p.ct⟩, q⟩
theorem dss_one (h1 : DS X T E st w1) : DSs X T E [st] w1 := pss_one h1
theorem ds_pass : DS X T E (.Pass pos) wNext := ps_imp ps_pass fun D σ H ⟨g, M, S, n, Dd, x, gs, rl, w, p, q⟩ => p.nx S n σ M H rl w
theorem ds_break : DS X T E (.Break pos) wBreak := ps_imp ps_break fun D σ H ⟨g, M, S, n, Dd, x, gs, rl, w, p, q⟩ => p.bk S n σ M H rl w
theorem ds_cont : DS X T E (.Continue pos) wCont := ps_imp ps_continue fun D σ H ⟨g, M, S, n, Dd, x, gs, rl, w, p, q⟩ => p.ct S n σ M H rl w
theorem ds_never : DS X T E st wNever := ps_imp ps_never fun D σ H ⟨g, M, S, n, Dd, x, gs, rl, w, p, q⟩ => w.elim
theorem ds_doc {y j pos pos'} : DS X T E (.Expr (.Constant (.str y) j pos) pos') wNext := ps_imp ps_doc fun D σ H ⟨g, M, S, n, Dd, x, gs, rl, w, p, q⟩ => p.nx S n σ M H rl w
theorem ds_expr (he : DE X T E e wa) (hs : swapsWith e none pos.line X.env = pure false := by rfl) : DS X T E (.Expr e pos) (wDrop wa) :=
  ps_imp (ps_expr he hs) fun D σ H ⟨g, M, S, n, Dd, x, gs, rl, w, p, q⟩ => ⟨g, M, S, n, _, x, rl, w, ⟨fun d n1 v M1 H1 s1 r1 h1 w1 => p.nx S n1 σ M1 H1 r1 w1, q⟩⟩
theorem ds_ret (he : DE X T E e wa) : DS X T E (.Return (some e) pos) (wRet wa) :=
  ps_imp (ps_ret he) fun D σ H ⟨g, M, S, n, Dd, x, gs, rl, w, p, q⟩ => ⟨g, M, S, n, _, x, rl, w, ⟨fun d n1 v M1 H1 s1 r1 h1 w1 => p.rt d n1 v M1 H1 r1.bs h1 w1, q⟩⟩
theorem ds_retN : DS X T E (.Return none pos) wRetN := ps_imp ps_retN fun D σ H ⟨g, M, S, n, Dd, x, gs, rl, w, p, q⟩ => p.rt .non n .non M H rl.bs .non w
theorem ds_if {c : Expr} {u v : List Stmt} (hc : DT X T E c wt) (ha : DSs X T E u w1) (hb : DSs X T E v w2) : DS X T E (.If c u v pos) (wIf wt w1 w2) :=
  ps_imp (ps_if hc ha hb) fun D σ H ⟨g, M, S, n, Dd, x, gs, rl, w, p, q⟩ => ⟨g, M, S, n, _, x, rl, w, fun t n1 M1 H1 s1 r1 w1 => by
    cases t with
    | true => exact ⟨g, M1, S, n1, Dd, x, gs, r1, w1, p, q⟩
    | false => exact ⟨g, M1, S, n1, Dd, x, gs, r1, w1, p, q⟩, q⟩
theorem ds_asg {t : TG} {is : List Nat} {gw : WG} (h : PS X st (tAsg (toTE X.K T E wa) t)) (lg : LG X.K T t is gw) : DS X T E st (wAsg wa gw) :=
  ps_imp h fun D σ H ⟨g, M, S, n, Dd, x, gs, rl, w, p, q⟩ => ⟨g, M, S, n, _, x, rl, w, ⟨fun d n1 v M1 H1 s1 r1 h1 w1 => lg g n1 S σ M1 H1 v d _ _ r1 h1 w1 fun S' σ' r' _ w' => p.nx S' n1 σ' M1 H1 r' w', q⟩⟩
theorem ds_set {i : Nat} (h : PS X st (tAsg (toTE X.K T E wa) (gName i))) : DS X T E st (wSet i wa) := ds_asg h (lg_name i)
/-- a comprehension given to a name, frozen at once or one's own -/
theorem ds_lcOwn {i : Nat} {it : WA} {t : TG} {is vs : List Nat} {gw : WG} {tt : WT} {te : WE} (h : PS X st (tAsg (tLc (toTI X.K T E it) t (toTT X.K T E0 tt) (toTE X.K T E0 te) vs) (gName i))) (lg : LG X.K T t is gw) (hv : ∀ i ∈ is, i ∈ vs) :
    DS X T E st (wSetOwn i fun S n k x => it S n (fun ds n1 => ds.length ≤ 100000 ∧ lcD gw tt te (wipeS S vs) ds [] n1 k) x) :=
  ps_imp h fun Dn σ H ⟨g, M, S, n, Dd, x, gs, rl, w, p, q⟩ => ⟨g, M, S, n, _, x, rl, w, (fun ds n1 J M1 H1 s1 r1 wk w1 a nD =>
    lc_run (wi := toTI X.K T E it) (gw := gw) (tt := tt) (te := te) hv lg r1 wk w1.1 w1.2 nD fun H2 acc n2 nw w2 => by
      obtain ⟨M2, vl, s2, r2, hD, mD, ra⟩ := nw
      have fr := r1.free nD
      exact p.nx _ n2 _ M2 H2 (r2.setOwn rfl (.own hD mD fr.np ra) fr.h0 fun j s _ h o => fr.no j s h o) w2), q⟩
theorem ds_setOwn {i : Nat} {wf : WA} (h : PS X st (tAsg (toTF X.K T E wf) (gName i))) : DS X T E st (wSetOwn i wf) :=
  ps_imp h fun Dn σ H ⟨g, M, S, n, Dd, x, gs, rl, w, p, q⟩ => ⟨g, M, S, n, _, x, rl, w, (fun ds n1 a vs M1 H1 s1 r1 hp mp fr ra w1 =>
    p.nx _ n1 _ M1 H1 (r1.setOwn rfl (.own hp mp fr.np ra) fr.h0 fun j s _ h o => fr.no j s h o) w1), q⟩
def wFz (wf : WA) : WE := fun S n k x => wf S n (fun ds n1 => k (.lst ds) n1) x
/-- a new list, frozen -/
theorem df_de {wf : WA} (h : DF X T E e wf) : DE X T E e (wFz wf) :=
  pe_imp h fun σ H Q ⟨g, M, S, n, k, x, rl, w, p⟩ => ⟨g, M, S, n, _, x, rl, w, (fun ds n1 a vs M1 H1 s1 r1 hp mp fr ra w1 =>
    have sm := same_upd (o := HO.lst vs) mp
    p.1 _ n1 _ _ _ (s1.trans sm) (r1.freeze hp mp fr.np fr.h0 (fun ps z => by cases z) fr.no) (.lst upd_same (ra.mono sm)) w1), p.2⟩
def wfLst (ws : WA) : WA := fun S n k x => ws S n (fun ds n1 => ds.length ≤ 1000 ∧ k ds n1) x
theorem df_lst (h : DA X T E es ws) : DF X T E (.List es pos) (wfLst ws) :=
  pe_imp (pe_lst h) fun σ H Q ⟨g, M, S, n, k, x, rl, w, p⟩ => ⟨g, M, S, n, _, x, rl, w, (fun ds n1 vs M1 H1 s1 r1 e1 w1 => ⟨by rw [e1.len]; exact sl1000 w1.1, fun q nq =>
    p.1 ds n1 q vs M1 _ s1 (r1.grow (same_upd nq)) upd_same (r1.bs.mn nq) (r1.free nq) e1 w1.2⟩), p.2⟩
/-- a + b, two lists -/
def wfCat (wa wb : WE) : WA := fun S n k x => wa S n (fun d n1 => wb S n1 (fun e n2 => lstI d fun a => lstI e fun b => a.length + b.length ≤ 100000 ∧ k (a ++ b) n2) x) x
theorem rep_lst {K : PySem.W.Frag} {pn : Addr} {M : Hp} {v : V} {d : D} {k : List D → Prop} (h : Rep K pn M v d) (q : lstI d k) : ∃ a xs ds, v = .ref a ∧ d = .lst ds ∧ M a = some (.lst xs) ∧ Reps K pn M xs ds ∧ k ds := by
  cases h with
  | lst h r => exact ⟨_, _, _, rfl, rfl, h, r, q⟩
  | _ => exact q.elim
theorem rep_tup {K : PySem.W.Frag} {pn : Addr} {M : Hp} {v : V} {d : D} {k : List D → Prop} (h : Rep K pn M v d) (q : tupI d k) : ∃ a xs ds, v = .ref a ∧ d = .tup ds ∧ SqT K M a xs ∧ Reps K pn M xs ds ∧ k ds := by
  cases h with
  | tup h r => exact ⟨_, _, _, rfl, rfl, h, r, q⟩
  | _ => exact q.elim
theorem df_cat (ha : DE X T E a wa) (hb : DE X T E b wb) : DF X T E (.BinOp a .Add b pos) (wfCat wa wb) :=
  pe_imp (pe_op op_cat ha hb) fun σ H Q ⟨g, M, S, n, k, x, rl, w, p⟩ => ⟨g, M, S, n, _, x, rl, w, (fun d1 n1 v1 M1 H1 s1 r1 h1 w1 =>
    ⟨g, M1, S, n1, _, x, r1, w1, (fun d2 n2 v2 M2 H2 s2 r2 h2 w2 => by
      obtain ⟨p1, xs, ds, rfl, rfl, e1, q1, w2⟩ := rep_lst h1 w2
      obtain ⟨p2, ys, es, rfl, rfl, e2, q2, hl, w2⟩ := rep_lst h2 w2
      refine ⟨p1, p2, xs, ys, rfl, rfl, r2.bs.sub _ _ (s2 _ _ e1), r2.bs.sub _ _ e2, sl5 (by rw [q1.len, q2.len]; exact hl), fun q nq => ?_⟩
      exact p.1 _ n2 q _ M2 _ (s1.trans s2) (r2.grow (same_upd nq)) upd_same (r2.bs.mn nq) (r2.free nq) ((q1.mono s2).append q2) w2), p.2⟩), p.2⟩
/-- list(x), x a list or a tuple -/
def wfList (wa : WE) : WA := fun S n k x => wa S n (fun d n1 => seqI d fun ds => k ds n1) x
theorem df_list {p : Pos} (he : DE X T E e wa) (hc : PE X (.Call (.Name "list" p) [e] [] pos) (tCB (fun xs H Q => ∃ p ys, xs = [.ref p] ∧ (SqL X.K H p ys ∨ SqT X.K H p ys) ∧ ∀ l, H l = none → Q (.ref l) (upd H l (.lst ys))) (tCons (toTE X.K T E wa) tNil))) :
    DF X T E (.Call (.Name "list" p) [e] [] pos) (wfList wa) :=
  pe_imp hc fun σ H Q ⟨g, M, S, n, k, x, rl, w, p⟩ => ⟨g, M, S, n, _, x, rl, w, (fun d1 n1 v1 M1 H1 s1 r1 h1 w1 => by
    cases h1 with
    | @tup a xs ds ha hx => exact ⟨a, xs, rfl, .inr (same_tup r1.bs.sub ha), fun q nq => p.1 _ n1 q _ M1 _ s1 (r1.grow (same_upd nq)) upd_same (r1.bs.mn nq) (r1.free nq) hx w1⟩
    | @lst a xs ds ha hx => exact ⟨a, xs, rfl, .inl (.of (r1.bs.sub _ _ ha)), fun q nq => p.1 _ n1 q _ M1 _ s1 (r1.grow (same_upd nq)) upd_same (r1.bs.mn nq) (r1.free nq) hx w1⟩
    | _ => exact w1.elim), p.2⟩
theorem slO_get {S : List Sl} {i : Nat} {k : List D → Prop} (h : ownL (gt S i) k) : ∃ d, S[i]? = some (.own d) ∧ k d := by
  cases e : gt S i with
  | own d => rw [e] at h; exact ⟨d, gt_get e (fun z => by cases z), h⟩
  | _ => rw [e] at h; exact h.elim
theorem Rel.own {K : PySem.W.Frag} {g : Gh} {n : Nat} {S : List Sl} {σ : L2.St} {M H : Hp} (r : Rel K T g n S σ M H) {i : Nat} {ds : List D} (h : S[i]? = some (.own ds)) : ∃ a vs, σ[i]? = some (some (.ref a)) ∧ H a = some (.lst vs) ∧ M a = none ∧ a ≠ g.pn ∧ Reps K g.pn M vs ds := by
  obtain ⟨o, h1, h2⟩ := r.sl i _ h
  cases h2 with
  | own h2 h3 h4 h5 => exact ⟨_, _, h1, h2, h3, h4, h5⟩
/-- name.append(e), the name a list of one's own -/
theorem Rel.upOwn {K : PySem.W.Frag} {g : Gh} {n : Nat} {S : List Sl} {σ : L2.St} {M H : Hp} (r : Rel K T g n S σ M H) (st : g.stm = true) {i : Nat} {s s' : Sl} {a : Addr} {o : HO} (h : S[i]? = some s) (so : s.isOwn = true) (so' : s'.isOwn = true) (e : σ[i]? = some (some (.ref a)))
    (mn : M a = none) (n' : SlR K g.pn M (upd H a o) s' (some (.ref a))) : Rel K T g n (S.set i s') σ M (upd H a o) := by
  obtain ⟨u, hu, pu⟩ := r.own_at h so e
  have h0 := (r.fr i s a h so e).1 st
  refine ⟨r.bs.put hu pu mn h0, by rw [List.length_set]; exact r.len, fun j t ht => ?_, fun j k t t' c e1 e2 o1 o2 q1 q2 => ?_, fun j t c ht o q => ?_⟩
  · rcases set_get ht with ⟨rfl, rfl, hl⟩ | ⟨ne, ht⟩
    · exact ⟨_, e, n'⟩
    · obtain ⟨v, h1, h2⟩ := r.sl j t ht
      refine ⟨v, h1, h2.put fun z y => ne ?_⟩
      exact r.sep i j s t a h ht so z e (by rw [h1, y])
  · have w : ∀ {m : Nat} {y : Sl}, (S.set i s')[m]? = some y → y.isOwn = true → ∃ y', S[m]? = some y' ∧ y'.isOwn = true := fun {m y} hy oy => by
      rcases set_get hy with ⟨rfl, rfl, _⟩ | ⟨_, hy⟩
      · exact ⟨s, h, so⟩
      · exact ⟨y, hy, oy⟩
    obtain ⟨y1, f1, f2⟩ := w e1 o1
    obtain ⟨y2, f3, f4⟩ := w e2 o2
    exact r.sep j k y1 y2 c f1 f3 f2 f4 q1 q2
  · rcases set_get ht with ⟨rfl, rfl, _⟩ | ⟨_, ht⟩
    · exact r.fr _ s c h so q
    · exact r.fr j t c ht o q
theorem ds_app {i : Nat} (h : PS X st (tDrop (tBM X.K "list" rAppend (tVar i) (tCons (toTE X.K T E wa) tNil)))) : DS X T E st (wApp i wa) :=
  ps_imp h fun Dn σ H ⟨g, M, S, n, Dd, x, gs, rl, w, p, q⟩ => by
    obtain ⟨ds0, h0, w⟩ := slO_get w
    obtain ⟨a, vs0, e0, hH0, hM0, hn0, hr0⟩ := rl.own h0
    refine ⟨.ref a, e0, .inl ⟨rfl, vs0, .of hH0⟩, g, M, S, n, _, x, rl, w, (fun d n1 v M1 H1 s1 r1 h1 w1 => ?_), q⟩
    obtain ⟨ds, h2, hl, w1⟩ := slO_get w1
    obtain ⟨a', vs, e2, hH, hM, hn, hr⟩ := r1.own h2
    rw [e0] at e2
    cases e2
    refine ⟨a, vs, v, rfl, rfl, hH, by rw [hr.len, sizeLine_eq]; omega, ?_⟩
    exact p.nx _ n1 σ M1 _ (r1.upOwn gs h2 rfl rfl e0 hM (.own upd_same hM hn (hr.snoc h1))) w1
/-- from here on the list is a value -/
theorem Rel.freezeSl {K : PySem.W.Frag} {g : Gh} {n : Nat} {S : List Sl} {σ : L2.St} {M H : Hp} (r : Rel K T g n S σ M H) {i : Nat} {s : Sl} {d : D} {a : Addr} {o : HO} (h : S[i]? = some s) (so : s.isOwn = true) (e : σ[i]? = some (some (.ref a))) (hH : H a = some o) (mn : M a = none) (np : a ≠ g.pn) (h0 : Nt g.H0 a) (nt : ∀ ps, o ≠ .tbl ps)
    (rp : Rep K g.pn (upd M a o) (.ref a) d) : Rel K T g n (S.set i (.val d)) σ (upd M a o) H := by
  refine ⟨r.bs.freeze hH mn np h0 nt, by rw [List.length_set]; exact r.len, fun j t ht => ?_, fun j k t t' c e1 e2 o1 o2 q1 q2 => ?_, fun j t c ht o q => ?_⟩
  · rcases set_get ht with ⟨rfl, rfl, hl⟩ | ⟨ne, ht⟩
    · exact ⟨_, e, .val rp⟩
    · obtain ⟨v, h1, h2⟩ := r.sl j t ht
      exact ⟨v, h1, h2.freeze mn fun z y => ne (r.sep i j s t a h ht so z e (by rw [h1, y]))⟩
  · rcases set_get e1 with ⟨rfl, rfl, _⟩ | ⟨_, e1⟩
    · cases o1
    · rcases set_get e2 with ⟨rfl, rfl, _⟩ | ⟨_, e2⟩
      · cases o2
      · exact r.sep j k t t' c e1 e2 o1 o2 q1 q2
  · rcases set_get ht with ⟨rfl, rfl, _⟩ | ⟨_, ht⟩
    · cases o
    · exact r.fr j t c ht o q
theorem dss_freeze {i : Nat} (h : DSs X T E body w1) : DSs X T E body (wFreeze i w1) :=
  pss_imp h fun Dn σ H ⟨g, M, S, n, Dd, x, gs, rl, w, p, q⟩ => by
    obtain ⟨ds, h0, w⟩ := slO_get w
    obtain ⟨a, vs, e0, hH, hM, hn, hr⟩ := rl.own h0
    exact ⟨g, _, _, n, Dd, x, gs, rl.freezeSl h0 rfl e0 hH hM hn ((rl.fr i _ a h0 rfl e0).1 gs) (fun ps z => by cases z) (.lst upd_same (hr.mono (same_upd hM))), w, p, q⟩
def Gh.re (g : Gh) (M : Hp) : Gh := { g with M0 := M }
theorem Bs.re {K : PySem.W.Frag} {g : Gh} {n : Nat} {M H : Hp} (r : Bs K T g n M H) : Bs K T (g.re M) n M H := ⟨r.sub, r.pen, r.npn, r.pen0, r.b0, r.tab, r.ntb, r.ext, fun _ h => .inl h, Same.refl _, r.pinned⟩
theorem Bs.unre {K : PySem.W.Frag} {g : Gh} {n n' : Nat} {M H M' H' : Hp} (r : Bs K T g n M H) (q : Bs K T (g.re M) n' M' H') : Bs K T g n' M' H' := ⟨q.sub, q.pen, q.npn, r.pen0, r.b0, q.tab, q.ntb, q.ext, fun a h => by
  rcases q.mnew a h with z | z
  · exact r.mnew a z
  · exact .inr z, r.msub.trans q.msub, q.pinned⟩
theorem Rel.re {K : PySem.W.Frag} {g : Gh} {n : Nat} {S : List Sl} {σ : L2.St} {M H : Hp} (r : Rel K T g n S σ M H) : Rel K T (g.re M) n S σ M H := ⟨r.bs.re, r.len, r.sl, r.sep, r.fr⟩
theorem Rel.unre {K : PySem.W.Frag} {g : Gh} {n n' : Nat} {S : List Sl} {σ : L2.St} {M H M' H' : Hp} (r : Bs K T g n M H) (q : Rel K T (g.re M) n' S σ M' H') : Rel K T g n' S σ M' H' := ⟨r.unre q.bs, q.len, q.sl, q.sep, q.fr⟩
/-- for -/
theorem for_run {t : TG} {is : List Nat} {gw : WG} {tb : TS} {wb : WS} (lg : LG X.K T t is gw) (hb : ∀ D σ H, toTS X.K T E wb D σ H → tb D σ H) {Dn : Ends} {g : Gh} (gs : g.stm = true) {Dd : DEnds} {x : KX} (p : EndsOk X.K T g Dd Dn) (q : ExcP X.K T E g x)
    {J : It} {ds : List D} {M : Hp} (wk : Walks X.K g.pn J ds M) {S : List Sl} {σ : L2.St} {H : Hp} {n : Nat} (rl : Rel X.K T g n S σ M H) (w : forD gw wb Dd x ds S n) :
    ∃ W : Nat → Nat → L2.St → Hp → Prop, (∃ m, W 0 m σ H) ∧ ∀ i m σ H, W i m σ H →
      (J.stop i H ∧ Dn.nx σ H) ∨ (J.go i H ∧ ∃ N : L2.St → Hp → Prop, (∀ σ' H', N σ' H' → ∃ m', m' < m ∧ W (i + 1) m' σ' H') ∧ ∀ x H', J.yld i H x H' → t x σ H' fun σ2 H2 => tb { Dn with nx := N, ct := N, bk := Dn.nx } σ2 H2) := by
  obtain ⟨G, Y, wlk, hG, hY⟩ := wk
  refine for_it wlk (g := t) (tb := tb) (D := Dn) (fun i σ H => ∃ S n M', Same M M' ∧ Rel X.K T g n S σ M' H ∧ forD gw wb Dd x (ds.drop i) S n) ⟨S, n, M, Same.refl M, rl, w⟩ ?_ ?_ ?_
  · rintro i σ H _ ⟨S, n, M', s, r, _⟩
    exact hG H (s.trans r.bs.sub)
  · rintro i v σ H H' hi ⟨S, n, M', s, r, w⟩ y
    obtain ⟨d, hd⟩ : ∃ d, ds[i]? = some d := ⟨ds[i], List.getElem?_eq_getElem hi⟩
    have ed : ds.drop i = d :: ds.drop (i + 1) := by
      obtain ⟨h1, h2⟩ := List.getElem?_eq_some_iff.mp hd
      rw [List.drop_eq_getElem_cons h1, h2]
    rw [ed] at w
    obtain ⟨M1, r1, s1, hv⟩ : ∃ M1, Rel X.K T g n S σ M1 H' ∧ Same M' M1 ∧ Rep X.K g.pn M1 v d := by
      rcases hY i H v H' hi (s.trans r.bs.sub) y with ⟨rfl, e, h1, h2⟩ | ⟨t', us, es, rfl, nt, rfl, h1, h2⟩
      · rw [hd] at h1
        cases h1
        exact ⟨M', r, Same.refl M', h2.mono s⟩
      · rw [hd] at h1
        cases h1
        have sm := same_upd (o := HO.tup us) (r.bs.mn nt)
        exact ⟨_, r.new nt (fun ps z => by cases z), sm, .tup (.of upd_same) (h2.mono (s.trans sm))⟩
    refine lg (g.re M1) n S σ M1 H' v d _ _ r1.re hv w fun S2 σ2 r2 _ w2 => hb _ _ _ ⟨g.re M1, M1, S2, n, _, x, gs, r2, w2, ⟨fun S' n' σ' M2 H2 r3 w3 => ?_, fun d n' v M2 H2 b h w3 => p.rt d n' v M2 H2 (r1.bs.unre b) h w3, fun S' n' σ' M2 H2 r3 w3 => p.nx S' n' σ' M2 H2 (Rel.unre r1.bs r3) w3, fun S' n' σ' M2 H2 r3 w3 => ?_⟩, fun e n' c dd M2 H2 b h w3 => q e n' c dd M2 H2 (r1.bs.unre b) h w3⟩
    · exact ⟨S', n', M2, s.trans (s1.trans r3.bs.msub), Rel.unre r1.bs r3, w3⟩
    · exact ⟨S', n', M2, s.trans (s1.trans r3.bs.msub), Rel.unre r1.bs r3, w3⟩
  · rintro σ H ⟨S, n, M', s, r, w⟩
    rw [List.drop_length] at w
    exact p.nx S n σ M' H r w
theorem ds_for {tg iter : Expr} {it : WA} {t : TG} {is : List Nat} {gw : WG} (h : PS X (.For tg iter body [] pos) (tFor (toTI X.K T E it) t (toTS X.K T E w1))) (lg : LG X.K T t is gw) : DS X T E (.For tg iter body [] pos) (wFor it gw w1) :=
  ps_imp h fun Dn σ H ⟨g, M, S, n, Dd, x, gs, rl, w, p, q⟩ => ⟨g, M, S, n, _, x, rl, w, (fun ds n1 J M1 H1 s1 r1 wk w1 => for_run lg (fun _ _ _ h => h) gs p q wk r1 w1), q⟩
end
end Dl

set_option Elab.async false
set_option linter.all false
set_option maxRecDepth 100000
set_option maxHeartbeats 4000000
/-! A def with one parameter, a star parameter and one keyword-only parameter with a default; making an instance by such an __init__. -/
namespace Ow
open PySem PySem.Spec PyProof.Rows L2
section
variable {CX : CXT} {P : Program} {w : World} {K : PySem.W.Frag} {mg : Str → Option Value} {base : Heap} {k : Nat} {f : Addr}
/-- what such a def keeps, its keyword given (kw = some ..) or not: sp is told self, the keyword's value, the star's tuple -/
structure FnM (P : Program) (w : World) (K : PySem.W.Frag) (mg : Str → Option Value) (base : Heap) (CX : CXT) (k : Nat) (f : Addr) (mk : Str) (dv : V) (sp : Sp) : Prop where
  kw : ∀ (A : Around) (outer : List Env) (s : Shared) (H : Hp) (a m : Value) (us : List Value) (va vm : V) (vs : List V) (Q : VK) (E : XK), Room k A → Env0 P w K mg base A outer s H → RelV va a → RelV vm m → Vals vs us → vs.length ≤ sizeLine →
    (∀ p, H p = none → sp [va, vm, .ref p] (upd H p (.tup vs)) Q E) → codeAny (model P w) A (.call (.ref f) ⟨a :: us, [(mk, m)]⟩) (CR CX outer P w H s Q E) s
  no : ∀ (A : Around) (outer : List Env) (s : Shared) (H : Hp) (a : Value) (us : List Value) (va : V) (vs : List V) (Q : VK) (E : XK), Room k A → Env0 P w K mg base A outer s H → RelV va a → Vals vs us → vs.length ≤ sizeLine →
    (∀ p, H p = none → sp [va, dv, .ref p] (upd H p (.tup vs)) Q E) → codeAny (model P w) A (.call (.ref f) ⟨a :: us, []⟩) (CR CX outer P w H s Q E) s
theorem fnM_of {name qual : Str} {params : Arguments} {body : List Stmt} {scope : Scope} {dV kV doc pm cdv ct oc : Value} {an od : Option Addr} {osl : Array (Option Value)} {N : List Str} {sp : Sp} {p1 mk pv : Str} {dv : V} {du : Value} {D : Addr}
    (lk : K.lookup f = some ⟨oc, od, .func (PySem.W.fnOf name qual params body scope dV kV doc pm an cdv ct), osl⟩) (hcd : PySem.W.codeIn K cdv qual = true) (S : FnScope N [p1, mk, pv] scope) (hCX : StX.CXUp CX)
    (hk : ∀ (a m : Value) (rest : List Value), bindArgs (PySem.W.fnOf name qual params body scope dV kV doc pm an cdv ct) ⟨a :: rest, [(mk, m)]⟩ = (newTuple rest >>= fun t => pure [(p1, a), (mk, m), (pv, t)]))
    (hd : PySem.W.nsIn K D mk = some (some du)) (rd : RelV dv du)
    (hn : ∀ (a : Value) (rest : List Value), ∃ (β γ : Type) (k1 : Option Value → Sem β) (k2 : β → Sem γ) (k3 : γ → Sem (List (Str × Value))) (b : β), bindArgs (PySem.W.fnOf name qual params body scope dV kV doc pm an cdv ct) ⟨a :: rest, []⟩ = ((nsGet D mk >>= k1) >>= k2) >>= k3 ∧ k1 (some du) = pure b ∧ (k2 b >>= k3) = (newTuple rest >>= fun t => pure [(p1, a), (mk, du), (pv, t)]))
    (hbody : ∀ (A : Around) (outer : List Env) (s : Shared) (H : Hp) (vs : List V) (Q : VK) (E : XK), Room k (A.deeper (envOfC qual scope s.heap.objs.size f cdv)) → sp vs H Q E →
      ∃ t, PSs (cxOf CX P w K mg base N qual scope f cdv A outer s H E) body t ∧ t { nx := fun _ H' => Q .non H', rt := Q } (start N vs) H) : FnM P w K mg base CX (k + 1) f mk dv sp := by
  have core : ∀ (A : Around) (outer : List Env) (s : Shared) (H : Hp) (a m : Value) (us : List Value) (va vm : V) (vs : List V) (Q : VK) (E : XK) (args : Args), Room (k + 1) A → Env0 P w K mg base A outer s H → RelV va a → RelV vm m → Vals vs us → vs.length ≤ sizeLine →
      (∀ p, H p = none → sp [va, vm, .ref p] (upd H p (.tup vs)) Q E) →
      (∀ (A' : Around) (Ex : Value → Shared → Prop) (Q' : List (Str × Value) → Shared → Prop), wpAny (model P w) A' (newTuple us >>= fun t => pure [(p1, a), (mk, m), (pv, t)]) Q' Ex s → wpAny (model P w) A' (bindArgs (PySem.W.fnOf name qual params body scope dV kV doc pm an cdv ct) args) Q' Ex s) →
      codeAny (model P w) A (.call (.ref f) args) (CR CX outer P w H s Q E) s := by
    intro A outer s H a m us va vm vs Q E args hr e0 ra rm r hz hq hb
    have hn : H s.heap.objs.size = Option.none := e0.hok.fresh (Nat.le_refl _)
    have hl2 : us.length ≤ sizeLine := by rw [← r.length]; exact hz
    refine StX.run_bnd lk hcd S hr e0 (G := fun xs H2 => ∃ p, H p = Option.none ∧ xs = [va, vm, V.ref p] ∧ H2 = upd H p (.tup vs)) (fun A' Ex Q' h => ?_) fun s2 H2 xs ⟨p, hp, ex, eH⟩ hr' => ?_
    · refine hb A' Ex Q' ?_
      refine wpAny_bind (wpAny_newTuple (wpAny_pure ?_) hl2)
      have new : ObjOk P w (upd H s.heap.objs.size (.tup vs)) (s.heap.push ({ cls := .type "tuple", data := .seq us.toArray } : Obj)) s.heap.objs.size (.tup vs) := ⟨hz, us, r, ⟨_, Heap.get?_push_size _ rfl, rfl, _, rfl⟩⟩
      have un := StX.un_laid (fs := frs outer) (s := s) (o := ({ cls := .type "tuple", data := .seq us.toArray } : Obj)) (u := .tup vs) hn
      exact h _ _ [va, vm, V.ref s.heap.objs.size] [a, m, Value.ref s.heap.objs.size] (StX.env0_laid e0 new) un rfl (fun e s' => hCX outer s H _ _ E e s' un (fun b o q => Heap.get?_push_of_some _ q) rfl) (.cons ra (.cons rm (.cons rfl .nil))) rfl ⟨_, hn, rfl, rfl⟩
    · subst ex eH
      exact hbody A outer s2 _ _ Q E hr' (hq p hp)
  refine ⟨fun A outer s H a m us va vm vs Q E hr e0 ra rm r hz hq => core A outer s H a m us va vm vs Q E _ hr e0 ra rm r hz hq fun A' Ex Q' h => ?_, fun A outer s H a us va vs Q E hr e0 ra r hz hq => core A outer s H a du us va dv vs Q E _ hr e0 ra rd r hz hq fun A' Ex Q' h => ?_⟩
  · rw [hk]
    exact h
  · obtain ⟨β, γ, k1, k2, k3, b, e1, e2, e3⟩ := hn a us
    have KX : K.In s.heap := e0.mod.kin.keeps fun b o e => (e0.bs b o e).1
    have l1 : PySem.W.Looks (model P w) s.heap (nsGet D mk >>= k1) b := (PySem.W.looks_nsIn KX hd).andThen (PySem.W.Looks.of_pure e2)
    rw [e1, bind_assoc]
    exact wpAny_bind (l1.here (by rw [e3]; exact h))
end
def mkAskM (C : Addr) (sp : Sp) (E : XK) (vm : V) (vs : List V) (H : Hp) (Q : VK) : Prop := vs.length ≤ sizeLine ∧ ∀ x dx, H x = none → H dx = none → dx ≠ x → ∀ p, (upd (upd H dx (.own x)) x (.ins C dx [])) p = none →
  sp [.ref x, vm, .ref p] (upd (upd (upd H dx (.own x)) x (.ins C dx [])) p (.tup vs)) (fun v H2 => v = .non ∧ Q (.ref x) H2) E
section
variable {X : Cx} {CX : CXT} {k : Nat} {f C : Addr} {sp : Sp} {E : XK} {x mk : Str} {dv : V} {p pos : Pos} {e : Expr} {es : List Expr} {kws : List Keyword} {t tk : TA}
theorem run_makeM {pins : List (Addr × Obj)} {σ : L2.St} {H : Hp} {s : Shared} {Q : VK} {us : List Value} {vs : List V} {m : Value} {vm : V} (M : Mk X.K C f) (F : FnM X.prog X.w X.K X.mg X.base CX k f mk dv sp) (hr : Room (k + 1) X.A) (hx : Passes CX X E) (I : Inv X pins σ H s) (r : Vals vs us) (rm : RelV vm m)
    (h : mkAskM C sp E vm vs H Q) : wpAny (model X.prog X.w) X.A (call (.ref C) us [(mk, m)]) (EP X pins σ Q) X.xe s := by
  have hq := h.2 (s.heap.objs.size + 1) s.heap.objs.size (I.hok.fresh (Nat.le_succ _)) (I.hok.fresh (Nat.le_refl _)) (Nat.ne_of_lt (Nat.lt_succ_self _))
  have I2 := Inv.made (C := C) I
  refine wpAny_call (make_map (f := f) I.kIn M.makes M.init (beq_iff_eq.mp M.fn) (codeAny_mono (F.kw _ X.stack _ _ (Value.ref (s.heap.objs.size + 1)) m us (V.ref (s.heap.objs.size + 1)) vm vs _ E (hr.make C us [(mk, m)]) (I2.env0.make C us [(mk, m)]) rfl rm r h.1 hq) fun r s' hq' => ?_))
  cases r with
  | error e => exact hx pins σ _ _ e s' I2 hq'
  | ok fl =>
    cases fl with
    | ret u =>
      obtain ⟨v, H', I3, rv, ev, q3⟩ := I2.after hq'
      subst ev
      exact ⟨rv, ⟨V.ref (s.heap.objs.size + 1), H', I3, rfl, q3⟩⟩
    | next => exact False.elim hq'
    | brk => exact False.elim hq'
    | cont => exact False.elim hq'
theorem run_makeN {pins : List (Addr × Obj)} {σ : L2.St} {H : Hp} {s : Shared} {Q : VK} {us : List Value} {vs : List V} (M : Mk X.K C f) (F : FnM X.prog X.w X.K X.mg X.base CX k f mk dv sp) (hr : Room (k + 1) X.A) (hx : Passes CX X E) (I : Inv X pins σ H s) (r : Vals vs us)
    (h : mkAskM C sp E dv vs H Q) : wpAny (model X.prog X.w) X.A (call (.ref C) us) (EP X pins σ Q) X.xe s := by
  have hq := h.2 (s.heap.objs.size + 1) s.heap.objs.size (I.hok.fresh (Nat.le_succ _)) (I.hok.fresh (Nat.le_refl _)) (Nat.ne_of_lt (Nat.lt_succ_self _))
  have I2 := Inv.made (C := C) I
  refine wpAny_call (make_map (f := f) I.kIn M.makes M.init (beq_iff_eq.mp M.fn) (codeAny_mono (F.no _ X.stack _ _ (Value.ref (s.heap.objs.size + 1)) us (V.ref (s.heap.objs.size + 1)) vs _ E (hr.make C us []) (I2.env0.make C us []) rfl r h.1 hq) fun r s' hq' => ?_))
  cases r with
  | error e => exact hx pins σ _ _ e s' I2 hq'
  | ok fl =>
    cases fl with
    | ret u =>
      obtain ⟨v, H', I3, rv, ev, q3⟩ := I2.after hq'
      subst ev
      exact ⟨rv, ⟨V.ref (s.heap.objs.size + 1), H', I3, rfl, q3⟩⟩
    | next => exact False.elim hq'
    | brk => exact False.elim hq'
    | cont => exact False.elim hq'
def tMakeM (C : Addr) (sp : Sp) (E : XK) (t tk : TA) : TE := fun σ H Q => t σ H fun vs H1 => tk σ H1 fun zs H2 => ∃ vm, zs = [vm] ∧ mkAskM C sp E vm vs H2 Q
/-- C(e, .., mk = v) -/
theorem pe_makeM (M : Mk X.K C f) (F : FnM X.prog X.w X.K X.mg X.base CX k f mk dv sp) (hr : Room (k + 1) X.A) (hg : Gl X x) (hm : X.mg x = some (.ref C)) (hx : Passes CX X E) (ha : PA X (e :: es) t) (hkw : PK X kws tk)
    (hall : (backToKw pos (keywordEach kws X.env)).all (·.1.isSome) = true := by rfl) (hks : (backToKw pos (keywordEach kws X.env)).filterMap (·.1) = [mk] := by rfl) (hdb : (x == ("__debug__" : Str)) = false := by decide)
    (he : starEach (e :: es) X.env = (false, eval e X.env) :: starEach es X.env := by rfl) (hpl : ((backTo pos (starEach (e :: es) X.env)).any (·.1) || (backToKw pos (keywordEach kws X.env)).any (·.1.isNone)) = false := by rfl) :
    PE X (.Call (.Name x p) (e :: es) kws pos) (tMakeM C sp E t tk) := by
  refine ⟨fun pins s σ H Q I h => ?_⟩
  refine wpAny_Call_Name_kw (ld_glob I hg hm ?_ hdb)
  refine PySem.W.callWith_KW (h₀ := X.base) I.ok.mod.kin M.kp hall (thn (ha.run pos pins s σ H _ I h) fun us s1 ⟨vs, H1, I1, r, q⟩ => ?_) hpl he
  refine thn (hkw.run pos pins s1 σ H1 _ I1 q) fun ws s2 ⟨zs, H2, I2, rz, vm, ez, q2⟩ => ⟨I2.kIn, ?_⟩
  subst ez
  cases rz with
  | cons rm rn =>
    cases rn
    rw [hks]
    exact run_makeM M F hr hx I2 r rm q2
/-- C(mk = v) -/
theorem pe_makeM0 (M : Mk X.K C f) (F : FnM X.prog X.w X.K X.mg X.base CX k f mk dv sp) (hr : Room (k + 1) X.A) (hg : Gl X x) (hm : X.mg x = some (.ref C)) (hx : Passes CX X E) (hkw : PK X kws tk)
    (hall : (backToKw pos (keywordEach kws X.env)).all (·.1.isSome) = true := by rfl) (hks : (backToKw pos (keywordEach kws X.env)).filterMap (·.1) = [mk] := by rfl) (hdb : (x == ("__debug__" : Str)) = false := by decide)
    (hpl : ((backTo pos (starEach [] X.env)).any (·.1) || (backToKw pos (keywordEach kws X.env)).any (·.1.isNone)) = false := by rfl) :
    PE X (.Call (.Name x p) [] kws pos) (tMakeM C sp E tNil tk) := by
  refine ⟨fun pins s σ H Q I h => ?_⟩
  refine wpAny_Call_Name_kw (ld_glob I hg hm ?_ hdb)
  refine PySem.W.callWith_KW0 (h₀ := X.base) I.ok.mod.kin M.kp hall ?_ hpl
  refine thn (hkw.run pos pins s σ H _ I h) fun ws s2 ⟨zs, H2, I2, rz, vm, ez, q2⟩ => ⟨I2.kIn, ?_⟩
  subst ez
  cases rz with
  | cons rm rn =>
    cases rn
    rw [hks]
    exact run_makeM (us := []) (vs := []) M F hr hx I2 .nil rm q2
/-- C(e, ..), the keyword left out -/
theorem pe_makeMn (M : Mk X.K C f) (F : FnM X.prog X.w X.K X.mg X.base CX k f mk dv sp) (hr : Room (k + 1) X.A) (hg : Gl X x) (hm : X.mg x = some (.ref C)) (hx : Passes CX X E) (ha : PA X (e :: es) t) (hdb : (x == ("__debug__" : Str)) = false := by decide)
    (he : starEach (e :: es) X.env = (false, eval e X.env) :: starEach es X.env := by rfl) (hpl : (backTo pos (starEach es X.env)).any (·.1) = false := by rfl) : PE X (.Call (.Name x p) (e :: es) [] pos) (fun σ H Q => t σ H fun vs H1 => mkAskM C sp E dv vs H1 Q) := by
  refine ⟨fun pins s σ H Q I h => ?_⟩
  refine wpAny_Call_Name_kw (ld_glob I hg hm ?_ hdb)
  refine PySem.W.callWith_K (h₀ := X.base) I.ok.mod.kin M.kp (thn (ha.run pos pins s σ H _ I h) fun us s1 ⟨vs, H1, I1, r, q⟩ => ⟨I1.kIn, ?_⟩) he hpl
  exact run_makeN M F hr hx I1 r q
end
end Ow

set_option Elab.async false
set_option linter.all false
set_option maxRecDepth 100000
set_option maxHeartbeats 4000000
/-! x op= y of an own class that has op alone. -/
namespace Oi
open PySem PySem.W PySem.Calls PyProof.Rows
section
variable {prog : Program} {w : World} {A : Around} {E : Value → Shared → Prop} {s : Shared} {K : Frag} {x C L f : Addr} {h₀ : Heap} {m : Str → Option Value} {ox : Obj} {od : Option Obj} {nm : String}
/-- the class has no method in place, nor has its one base -/
theorem no_inplace {M : Model} {h : Heap} {cd : ClassData} {add : Bool} (X : K.In h) (hc : clsIn K C = some cd) (hm : cd.mro = [.ref C, .type "object"]) (h1 : findIn K (.ref C) (dunderI nm) = some none) (h2 : findIn K (.type "object") (dunderI nm) = some none) :
    Looks M h (fillsInplaceSlot (.ref C) nm add) false := by
  intro A Q E s k q
  have Lm : Looks M h (mroOf (.ref C)) cd.mro := (looks_clsIn X hc).andThen (f := fun cd => pure cd.mro) .now
  have Lm' := Lm.keeps k
  obtain ⟨hh, g, d, tt, os⟩ := s
  have X' : K.In hh := X.keeps k
  have L1 : Looks M hh (typeLookup (.ref C) (dunderI nm)) none := looks_findIn X' h1
  have L2 : Looks M hh (typeLookup (.type "object") (dunderI nm)) none := looks_findIn X' h2
  unfold fillsInplaceSlot
  refine wpAny_bind (Lm'.at ?_)
  rw [hm, List.anyM_cons]
  refine wpAny_bind ?_
  refine wpAny_bind (L1.at ?_)
  refine wpAny_pure ?_
  rw [List.anyM_cons]
  refine wpAny_bind ?_
  refine wpAny_bind (L2.at ?_)
  refine wpAny_pure ?_
  exact wpAny_pure q
theorem inplace_by {op : Operator} {b : Value} {Q : Value → Shared → Prop} {cd : ClassData} (F : Fr h₀ L s.heap m) (X₀ : K.In h₀) (I : InstAt s.heap x ox C od) (hb : Looks (model prog w) s.heap (typeOf b) (.ref C)) (hcd : clsIn K C = some cd) (hm : cd.mro = [.ref C, .type "object"])
    (n1 : findIn K (.ref C) (dunderI op.info.2) = some none) (n2 : findIn K (.type "object") (dunderI op.info.2) = some none) (hs : findIn K (.ref C) (PySem.dunder op.info.2) = some (some (.ref f))) (hf : isFn K (.ref f) = true)
    (h : wpAny (model prog w) A (call (.ref f) [.ref x, b]) (PySem.W.CmpBack Q) E s) : wpAny (model prog w) A (inplaceOp op (.ref x) b) Q E s := by
  have X := X₀.keeps F.keep
  unfold inplaceOp
  refine wpAny_holding (wpAny_bind (I.type.here (wpAny_bind ((no_inplace X hcd hm n1 n2).here ?_))))
  simp only [Bool.false_eq_true, if_false]
  refine wpAny_bind (m := binaryOp1 op.info.2 (.ref x) b) ?_
  unfold binaryOp1
  refine wpAny_bind (I.type.here (wpAny_bind (hb.here (wpAny_bind ((fills_K X hcd hm hs).here ?_)))))
  simp only [beq_self_eq_true, if_true]
  refine wpAny_bind (wpAny_pure ?_)
  simp only [Bool.and_false, Bool.false_eq_true, if_false, Bool.false_and]
  refine wpAny_bind (wpAny_pure ?_)
  simp only [Bool.false_eq_true, if_false]
  refine wpAny_bind (m := tryMethod (.ref x) _ b) ?_
  unfold tryMethod
  refine wpAny_bind (special_fn X I hs (beq_iff_eq.mp hf) (wpAny_mono h (fun v s' hv => ?_) fun _ _ e => e))
  cases v <;> first | exact hv.elim | exact wpAny_pure (wpAny_pure (wpAny_pure hv))
end
end Oi

set_option Elab.async false
set_option linter.all false
set_option maxRecDepth 100000
set_option maxHeartbeats 4000000
/-! x op= y of an own class that has op alone, over the hand layer; parallel assignment of pairs. -/
namespace Oi
open PySem PySem.Spec PyProof.Rows L2 Ow
/-- the class stands right below object, and neither has the method in place -/
structure NoIn (K : PySem.W.Frag) (C : Addr) (nm : Str) : Prop where
  mro : ∃ cd, PySem.W.clsIn K C = some cd ∧ cd.mro = [.ref C, .type "object"]
  own : PySem.W.findIn K (.ref C) nm = some none
  obj : PySem.W.findIn K (.type "object") nm = some none
section
variable {X : Cx} {CX : CXT} {C g : Addr} {n : Nat} {sp : Sp} {E : XK}
theorem ip_binO {op : Operator} (N : NoIn X.K C (dunderI op.info.2)) (hs : PySem.W.findIn X.K (.ref C) (PySem.dunder op.info.2) = some (some (.ref g))) (hf : PySem.W.isFn X.K (.ref g) = true) (F : FnR X.prog X.w X.K X.mg X.base CX n g sp)
    (hr : Room n X.A) (hx : Passes CX X E) : PIp X op (rBinO C sp E) := by
  intro pins s σ H x y v u Q I rx ry h
  obtain ⟨a, dx, fs, b, dy, gs, rfl, rfl, ha, hb, q⟩ := h
  obtain ⟨cd, k1, k2⟩ := N.mro
  cases (show v = Value.ref a from rx)
  cases (show u = Value.ref b from ry)
  obtain ⟨ox, od, J, _⟩ := StX.insC_at (X := X) I (.inr ⟨dx, fs, ha⟩)
  obtain ⟨ox', od', J', _⟩ := StX.insC_at (X := X) I (.inr ⟨dy, gs, hb⟩)
  obtain ⟨m, hF⟩ := I.fr
  refine inplace_by (op := op) hF I.ok.mod.kin J J'.type k1 k2 N.own N.obj hs hf (wpAny_mono (wpAny_call (run_fnR (us := [.ref a, .ref b]) (vs := [.ref a, .ref b]) F hr hx I (.cons rfl (.cons rfl .nil)) q)) (fun w s' z => ?_) fun _ _ e => e)
  obtain ⟨z', H', I', rz, qz⟩ := z
  exact SlX.cmpback rz ⟨z', H', I', rz, qz⟩
end
end Oi

set_option Elab.async false
set_option linter.all false
set_option maxRecDepth 100000
set_option maxHeartbeats 4000000
/-! x op y and x op= y, x of an own class, y of a built-in type. -/
namespace Ox
open PySem PySem.W PySem.Calls PyProof.Rows
section
variable {prog : Program} {w : World} {A : Around} {E : Value → Shared → Prop} {s : Shared} {K : Frag} {x C L f : Addr} {h₀ : Heap} {m : Str → Option Value} {ox : Obj} {od : Option Obj} {nm T : String}
/-- what is asked of the built-in type on the right -/
structure RtX (K : Frag) (C : Addr) (nm T : String) : Prop where
  fo : ∃ fo, findIn K (.type T) (PySem.dunder nm) = some fo
  ro : ∃ ro, findIn K (.type T) (dunderR nm) = some ro
  sub : subIn K (.type T) (.ref C) = some false
theorem bin1T {b : Value} {rc : Option Value} {Q : Option Value → Shared → Prop} (X : K.In s.heap) (I : InstAt s.heap x ox C od) (hb : Looks (model prog w) s.heap (typeOf b) (.type T)) (hc : selfFirst K C = true)
    (hs : findIn K (.ref C) (PySem.dunder nm) = some (some (.ref f))) (hf : isFn K (.ref f) = true) (hr : findIn K (.ref C) (dunderR nm) = some rc) (hp : rc = none ∨ ∃ g : Addr, rc = some (.ref g)) (R : RtX K C nm T)
    (h : wpAny (model prog w) A (call (.ref f) [.ref x, b]) (PySem.W.CmpBack fun v s' => Q (some v) s') E s) : wpAny (model prog w) A (binaryOp1 nm (.ref x) b) Q E s := by
  obtain ⟨cd, rest, hcd, hm⟩ := ksp_first hc
  obtain ⟨fo, h1⟩ := R.fo
  obtain ⟨ro, h2⟩ := R.ro
  have one := ksp_try X I hs hf h
  obtain ⟨hh, g, d, tt, os⟩ := s
  have L1 : Looks (model prog w) hh (typeOf (.ref x)) (.ref C) := I.type
  have L2 : Looks (model prog w) hh (typeOf b) (.type T) := hb
  have L3 : Looks (model prog w) hh (fillsNumberSlot (.ref C) nm) true := fills_K X hcd hm hs
  have L4 : Looks (model prog w) hh (fillsNumberSlot (.type T) nm) ((fo.isSome && !isSeqSlot fo) || (ro.isSome && !isSeqSlot ro)) := ksp_fillsT X h1 h2
  have L5 : Looks (model prog w) hh (isSubtype (.type T) (.ref C)) false := looks_subIn X R.sub
  have L6 : Looks (model prog w) hh (numberSlotInPython (.ref C) nm) true := ksp_inPy X hs hr hp
  have L7 : Looks (model prog w) hh (numberSlotInPython (.type T) nm) false := Looks.of_pure rfl
  have L8 : Looks (model prog w) hh (typeLookup (.type T) (dunderR nm)) ro := looks_findIn X h2
  generalize ((fo.isSome && !isSeqSlot fo) || (ro.isSome && !isSeqSlot ro)) = right at L4
  have hne : (Value.ref C == Value.type T) = false := Bool.eq_false_iff.mpr fun q => by cases beq_iff_eq.mp q
  unfold binaryOp1
  refine wpAny_bind (L1.at (wpAny_bind (L2.at (wpAny_bind (L3.at ?_)))))
  simp only [hne, Bool.false_eq_true, if_false]
  cases right with
  | false =>
    ksp_lk
    refine wpAny_mono one (fun r s' hr' => ?_) fun _ _ e => e
    obtain ⟨v, rfl, hq⟩ := hr'
    ksp_lk
    exact hq
  | true =>
    ksp_lk
    refine wpAny_mono one (fun r s' hr' => ?_) fun _ _ e => e
    obtain ⟨v, rfl, hq⟩ := hr'
    ksp_lk
    exact hq
theorem binT {op : Operator} {b : Value} {rc : Option Value} {Q : Value → Shared → Prop} (X : K.In s.heap) (I : InstAt s.heap x ox C od) (hb : Looks (model prog w) s.heap (typeOf b) (.type T)) (hc : selfFirst K C = true)
    (hs : findIn K (.ref C) (PySem.dunder op.info.2) = some (some (.ref f))) (hf : isFn K (.ref f) = true) (hr : findIn K (.ref C) (dunderR op.info.2) = some rc) (hp : rc = none ∨ ∃ g : Addr, rc = some (.ref g)) (R : RtX K C op.info.2 T)
    (h : wpAny (model prog w) A (call (.ref f) [.ref x, b]) (PySem.W.CmpBack Q) E s) : wpAny (model prog w) A (binaryOp op (.ref x) b) Q E s := by
  rcases hi : op.info with ⟨sym, nm'⟩
  rw [hi] at hs hr R
  simp only [binaryOp, hi]
  refine wpAny_holding (wpAny_bind ?_)
  refine bin1T X I hb hc hs hf hr hp R (wpAny_mono h (fun v s' z => ?_) fun _ _ e => e)
  cases v <;> first | exact z.elim | exact wpAny_pure z
theorem ipT {op : Operator} {b : Value} {rc : Option Value} {cd : ClassData} {Q : Value → Shared → Prop} (X : K.In s.heap) (I : InstAt s.heap x ox C od) (hb : Looks (model prog w) s.heap (typeOf b) (.type T)) (hc : selfFirst K C = true) (hcd : clsIn K C = some cd) (hm : cd.mro = [.ref C, .type "object"])
    (n1 : findIn K (.ref C) (dunderI op.info.2) = some none) (n2 : findIn K (.type "object") (dunderI op.info.2) = some none)
    (hs : findIn K (.ref C) (PySem.dunder op.info.2) = some (some (.ref f))) (hf : isFn K (.ref f) = true) (hr : findIn K (.ref C) (dunderR op.info.2) = some rc) (hp : rc = none ∨ ∃ g : Addr, rc = some (.ref g)) (R : RtX K C op.info.2 T)
    (h : wpAny (model prog w) A (call (.ref f) [.ref x, b]) (PySem.W.CmpBack Q) E s) : wpAny (model prog w) A (inplaceOp op (.ref x) b) Q E s := by
  unfold inplaceOp
  refine wpAny_holding (wpAny_bind (I.type.here (wpAny_bind ((Oi.no_inplace X hcd hm n1 n2).here ?_))))
  simp only [Bool.false_eq_true, if_false]
  refine wpAny_bind (m := binaryOp1 op.info.2 (.ref x) b) ?_
  refine bin1T X I hb hc hs hf hr hp R (wpAny_mono h (fun v s' z => ?_) fun _ _ e => e)
  cases v <;> first | exact z.elim | exact wpAny_pure z
end
end Ox
namespace Ox
open PySem PySem.Spec PyProof.Rows L2 Ow Oi
section
variable {X : Cx} {CX : CXT} {C g : Addr} {n : Nat} {sp : Sp} {E : XK}
/-- x op y, x an instance of the class at C, y of a built-in type -/
def rBinX (K : PySem.W.Frag) (C : Addr) (nm : String) (sp : Sp) (E : XK) : R2 := fun x y H Q => ∃ a dx fs T, x = .ref a ∧ H a = some (.ins C dx fs) ∧ TyX K H y (.type T) ∧ RtX K C nm T ∧ sp [x, y] H Q E
theorem op_binX {op : Operator} {rc : Option Value} (hc : PySem.W.selfFirst X.K C = true) (hs : PySem.W.findIn X.K (.ref C) (PySem.dunder op.info.2) = some (some (.ref g))) (hf : PySem.W.isFn X.K (.ref g) = true) (hr' : PySem.W.findIn X.K (.ref C) (dunderR op.info.2) = some rc) (hp : rc = none ∨ ∃ g : Addr, rc = some (.ref g))
    (F : FnR X.prog X.w X.K X.mg X.base CX n g sp) (hr : Room n X.A) (hx : Passes CX X E) : OpR X (binaryOp op) (rBinX X.K C op.info.2 sp E) := by
  intro pins s σ H x y v u Q I rx ry h
  obtain ⟨a, dx, fs, T, rfl, ha, ty, R, q⟩ := h
  cases (show v = Value.ref a from rx)
  obtain ⟨ox, od, J, _⟩ := StX.insC_at (X := X) I (.inr ⟨dx, fs, ha⟩)
  obtain ⟨P, kit, hP, _⟩ := kit_of I ry ty
  refine binT I.kIn J (kit.ty _ _ I.kIn hP) hc hs hf hr' hp R ?_
  refine wpAny_mono (wpAny_call (run_fnR (us := [.ref a, u]) (vs := [.ref a, y]) F hr hx I (.cons rfl (.cons ry .nil)) q)) (fun w s' z => ?_) fun _ _ x => x
  obtain ⟨z', H', I', rz, qz⟩ := z
  exact SlX.cmpback rz ⟨z', H', I', rz, qz⟩
theorem ip_binX {op : Operator} {rc : Option Value} (N : NoIn X.K C (dunderI op.info.2)) (hc : PySem.W.selfFirst X.K C = true) (hs : PySem.W.findIn X.K (.ref C) (PySem.dunder op.info.2) = some (some (.ref g))) (hf : PySem.W.isFn X.K (.ref g) = true) (hr' : PySem.W.findIn X.K (.ref C) (dunderR op.info.2) = some rc) (hp : rc = none ∨ ∃ g : Addr, rc = some (.ref g))
    (F : FnR X.prog X.w X.K X.mg X.base CX n g sp) (hr : Room n X.A) (hx : Passes CX X E) : PIp X op (rBinX X.K C op.info.2 sp E) := by
  intro pins s σ H x y v u Q I rx ry h
  obtain ⟨a, dx, fs, T, rfl, ha, ty, R, q⟩ := h
  obtain ⟨cd, k1, k2⟩ := N.mro
  cases (show v = Value.ref a from rx)
  obtain ⟨ox, od, J, _⟩ := StX.insC_at (X := X) I (.inr ⟨dx, fs, ha⟩)
  obtain ⟨P, kit, hP, _⟩ := kit_of I ry ty
  refine ipT I.kIn J (kit.ty _ _ I.kIn hP) hc k1 k2 N.own N.obj hs hf hr' hp R ?_
  refine wpAny_mono (wpAny_call (run_fnR (us := [.ref a, u]) (vs := [.ref a, y]) F hr hx I (.cons rfl (.cons ry .nil)) q)) (fun w s' z => ?_) fun _ _ e => e
  obtain ⟨z', H', I', rz, qz⟩ := z
  exact SlX.cmpback rz ⟨z', H', I', rz, qz⟩
end
end Ox

set_option Elab.async false
set_option linter.all false
set_option maxRecDepth 100000
set_option maxHeartbeats 4000000
/-! zip(x, y) of two objects that are walked by their own __iter__; bool(x) by an own __len__: the machine's steps. -/
namespace Oz
open PySem PySem.Calls PyProof.Rows
section
variable {prog : Program} {w : World}
/-- what zip lays down behind its two iterators -/
abbrev zA (h : Heap) (i j : Addr) : Heap := h.push { cls := .type "tuple", data := .seq #[.ref i, .ref j] }
abbrev zB (h : Heap) (i j : Addr) : Heap := (zA h i j).push { cls := .type "tuple", data := .seq #[.none, .none] }
abbrev zC (h : Heap) (i j : Addr) : Heap := (zB h i j).push { cls := .type "zip", data := .fields #[.none, .bool false, .bool false, .ref h.objs.size, .ref (zA h i j).objs.size] }
def ZipAsk (prog : Program) (w : World) (l1 l2 : Addr) (A : Around) (R : Result → Shared → Prop) (s : Shared) : Prop :=
  wpAny (model prog w) A.in1 (pyIter (.ref l1)) (fun v s1 => ∃ i, v = .ref i ∧ wpAny (model prog w) A.in1 (pyIter (.ref l2)) (fun v s2 => ∃ j, v = .ref j ∧ R (.ok (.ret (.ref (zB s2.heap i j).objs.size))) { s2 with heap := zC s2.heap i j }) (fun e s' => R (.error e) s') s1) (fun e s' => R (.error e) s') s
theorem meets_zipO (l1 l2 : Addr) : MeetsIn prog w (Builtin.«zip.__new__» ⟨[.type "zip", .ref l1, .ref l2], []⟩) (ZipAsk prog w l1 l2) :=
  .of_wp fun A R s h => by
    unfold ZipAsk at h
    have hsub := sub_zip
    unfold Builtin.«zip.__new__» Builtin.SmallTypes.iterAll
    generalize gi : pyIter = it at h ⊢
    wp_walk
    refine wpAny_mono h (fun v s1 ⟨i, e, k⟩ => ?_) fun _ _ z => z
    subst e
    clear h
    wp_walk
    refine wpAny_mono k (fun v s2 ⟨j, e, r⟩ => ?_) fun _ _ z => z
    subst e
    obtain ⟨hp, g, d, tk, os⟩ := s2
    wp_walk
    exact ⟨_, rfl, r⟩
end
end Oz
namespace Oz
open PySem PySem.W PySem.Calls PyProof.Rows
section
variable {prog : Program} {w : World} {A : Around} {E : Value → Shared → Prop} {s : Shared} {K : Frag} {x C L f : Addr} {h₀ : Heap} {m : Str → Option Value} {ox : Obj} {od : Option Obj}
/-- the truth of an instance whose class has a length and no truth of its own -/
theorem truthy_len {Q : Bool → Shared → Prop} (F : Fr h₀ L s.heap m) (X₀ : K.In h₀) (I : InstAt s.heap x ox C od) (hb : findIn K (.ref C) "__bool__" = some none) (hs : findIn K (.ref C) "__len__" = some (some (.ref f))) (hf : isFn K (.ref f) = true)
    (h : wpAny (model prog w) A.in1 (call (.ref f) [.ref x]) (PySem.W.LenBack fun v s' => ∃ n t, v = .int n t ∧ Q (n != 0) s') E s) : wpAny (model prog w) A (truthy (.ref x)) Q E s := by
  have X := X₀.keeps F.keep
  unfold truthy
  refine wpAny_bind (m := callSpecial? (.ref x) (Str.ofString "__bool__")) (wpAny_bind (wpAny_bind (I.type.here ((looks_findIn X hb).here (wpAny_pure ?_)))))
  refine wpAny_bind (wpAny_bind (I.type.here ((looks_findIn X hs).here ?_)))
  show wpAny _ _ (if (some (Value.ref f)).isNone = true then _ else _) _ _ _
  rw [if_neg (by simp)]
  refine wpAny_bind (m := runValue (.builtin "len" ⟨[.ref x], []⟩)) ?_
  refine wpAny_runValue (codeAny_builtin entry_len ?_)
  rw [Around.under_plain (plainId_weight plain_len _) (plainId_units plain_len _)]
  unfold Builtin.«len»
  refine wpAny_bind (m := oneArg "len" _) (wpAny_pure ?_)
  refine wpAny_bind (m := callSpecial? (.ref x) (Str.ofString "__len__")) (special_fn X I hs (beq_iff_eq.mp hf) (wpAny_mono h (fun r s' hr => ?_) fun _ _ y => y))
  cases r <;> first | exact hr.elim | skip
  rename_i n u
  obtain ⟨⟨h0, h1⟩, n', t', e, hq⟩ := hr
  cases e
  refine wpAny_bind (wpAny_holding (wpAny_pure ?_))
  refine wpAny_bind (wpAny_letGo ?_)
  show wpAny _ _ (if n < 0 then _ else _) _ _ _
  rw [if_neg (by omega)]
  show wpAny _ _ (if n ≥ 2 ^ 63 then _ else _) _ _ _
  rw [if_neg (by omega)]
  exact wpAny_bind (wpAny_mkInt (wpAny_pure (wpAny_pure hq)))
theorem meets_boolO (x : Addr) : MeetsIn prog w (Builtin.«bool.__new__» ⟨[.type "bool", .ref x], []⟩) (fun A R s => wpAny (model prog w) A.in1 (truthy (.ref x)) (fun b s' => R (.ok (.ret (.bool b))) s') (fun e s' => R (.error e) s') s) :=
  .of_wp fun A R s h => by
    have f1 := PySem.F.conv_sub_bool
    obtain ⟨hp, g, d, tk, os⟩ := s
    unfold Builtin.«bool.__new__»
    generalize gi : truthy = tr at h ⊢
    wp_walk
    refine wpAny_mono h (fun b s1 r => ?_) fun _ _ z => z
    wp_walk
    exact ⟨_, rfl, r⟩
end
end Oz

set_option Elab.async false
set_option linter.all false
set_option maxRecDepth 100000
set_option maxHeartbeats 4000000
/-! zip of own walks, bool by an own length, == with a tuple, over the hand layer. -/
namespace Oz
open PySem PySem.Spec PyProof.Rows L2 Ow RZ
section
variable {X : Cx} {CX : CXT} {C g : Addr} {n k : Nat} {sp : Sp} {E : XK} {nm : Str}
/-- bool(x) -/
def rBoolO (C : Addr) (sp : Sp) (E : XK) : List V → Hp → VK → Prop := fun xs H Q => ∃ a dx fs, xs = [V.ref a] ∧ H a = some (.ins C dx fs) ∧ sp [.ref a] H (fun v H' => ∃ i : Nat, v = .int (i : Int) ∧ i < 1000000 ∧ Q (.bl (decide (i ≠ 0))) H') E
theorem call_boolO (hb : PySem.W.findIn X.K (.ref C) "__bool__" = some none) (hs : PySem.W.findIn X.K (.ref C) "__len__" = some (some (.ref g))) (hf : PySem.W.isFn X.K (.ref g) = true) (F : FnR X.prog X.w X.K X.mg X.base CX n g sp) (hr : Room (n + 3) X.A) (hx : Passes CX X E) : CallR X (.type "bool") (rBoolO C sp E) := by
  intro pins s σ H xs us Q I r h
  obtain ⟨a, dx, fs, rfl, ha, q⟩ := h
  obtain ⟨u, rfl, ru⟩ := r.one
  cases (show u = Value.ref a from ru)
  obtain ⟨ox, od, J, _⟩ := StX.insC_at (X := X) I (.inr ⟨dx, fs, ha⟩)
  obtain ⟨m, hF⟩ := I.fr
  have hr1 : Room n X.A.in1.in1.in1 := (hr.in1).in1.in1
  refine callType_newIn PySem.F.called_bool PySem.F.newNe_bool (PySem.F.typeCall_bool_1 _) (PySem.F.newCall_bool_1 _) (fun obj => PySem.F.args_object_init_2 obj _) PySem.F.entry_bool_new (meets_boolO a) ?_
  refine truthy_len hF I.ok.mod.kin J hb hs hf (wpAny_mono (wpAny_call (SlX.run_at (us := [.ref a]) (ws := [.ref a]) F hr1 I.env0.in1.in1.in1 hx I (.cons rfl .nil) q)) (fun w s' z => ?_) fun _ _ e => e)
  obtain ⟨z', H', I', rz, i, ei, hi, qz⟩ := z
  subst ei
  obtain ⟨t, e⟩ := (show ∃ t, w = Value.int (i : Int) t from rz)
  subst e
  refine ⟨⟨by omega, by omega⟩, _, _, rfl, rfl, .bl (decide (i ≠ 0)), H', I'.tok _, ?_, qz⟩
  show Value.bool _ = Value.bool _
  congr 1
  by_cases c : i = 0
  · subst c; rfl
  · have : ((i : Int) != 0) = true := by simpa using c
    rw [this, decide_eq_true c]
/-- x == t, t a tuple -/
def rEqTupO (K : PySem.W.Frag) (C : Addr) (sp : Sp) (E : XK) : R2 := fun x y H Q => ∃ a dx fs b ws, x = .ref a ∧ y = .ref b ∧ H a = some (.ins C dx fs) ∧ SqT K H b ws ∧ sp [x, y] H Q E
theorem op_eqTupO (hn : PySem.W.notFirst X.K C (.type "tuple") = true) (hs : PySem.W.findIn X.K (.ref C) "__eq__" = some (some (.ref g))) (hf : PySem.W.isFn X.K (.ref g) = true) (F : FnR X.prog X.w X.K X.mg X.base CX n g sp) (hr : Room n X.A) (hx : Passes CX X E) : OpR X (compareOp .Eq) (rEqTupO X.K C sp E) := by
  intro pins s σ H x y v u Q I rx ry h
  obtain ⟨a, dx, fs, b, ws, rfl, rfl, ha, hb, q⟩ := h
  cases (show v = Value.ref a from rx)
  cases (show u = Value.ref b from ry)
  obtain ⟨ox, od, J, _⟩ := StX.insC_at (X := X) I (.inr ⟨dx, fs, ha⟩)
  obtain ⟨its, rv, p, _⟩ := I.tuple hb
  obtain ⟨m, hF⟩ := I.fr
  obtain ⟨o, ho, hc, _⟩ := p
  have L : PySem.W.Looks (model X.prog X.w) s.heap (typeOf (.ref b)) (.type "tuple") := fun A Q E s' kk qq => wpAny_typeOf (T := "tuple") ⟨o, kk _ _ ho, hc⟩ qq
  show wpAny _ _ (richCompare .Eq _ _) _ _ _
  refine PySem.W.cmp_K (op := .Eq) (tb := .type "tuple") hr.units0 hF I.ok.mod.kin J L hn hs hf ?_
  refine wpAny_mono (wpAny_call (run_fnR (us := [.ref a, .ref b]) (vs := [.ref a, .ref b]) F hr hx I (.cons rfl (.cons rfl .nil)) q)) (fun w s' z => ?_) fun _ _ x => x
  obtain ⟨z', H', I', rz, qz⟩ := z
  exact SlX.cmpback rz ⟨z', H', I', rz, qz⟩
/-- zip(x, y), both instances of the class at C -/
def iZipO (K : PySem.W.Frag) (C : Addr) (nm : Str) (ta : TA) : TI := fun σ H R => ta σ H fun vs H1 => ∃ a b dx dy t u xs ys, vs = [V.ref a, V.ref b] ∧ H1 a = some (.ins C dx [(nm, V.ref t)]) ∧ H1 b = some (.ins C dy [(nm, V.ref u)]) ∧ SqT K H1 t xs ∧ SqT K H1 u ys ∧ R (ItzT K t u) H1
theorem pi_zipO {e e2 : Expr} {ta : TA} {p pos tpos : Pos} {elts : List Expr} {kk : Nat} (wI : PySem.W.findIn X.K (.ref C) "__iter__" = some (some (.ref g))) (wF : PySem.W.isFn X.K (.ref g) = true) (G : ItRun X.prog X.w X.K X.mg X.base k C g nm) (hr : Room (k + 2) X.A) (hg : Gl X "zip") (hm : X.mg "zip" = none) (ha : PA X [e, e2] ta)
    (st : starEach [e, e2] X.env = (false, eval e X.env) :: starEach [e2] X.env := by rfl) (pl : (backTo pos (starEach [e2] X.env)).any (·.1) = false := by rfl) : PI X (.Tuple elts kk tpos) (.Call (.Name "zip" p) [e, e2] [] pos) (iZipO X.K C nm ta) := by
  refine ⟨fun pins s σ H R I h => Call_ (ld_blt I hg hm PyProof.Rows.boot_zip (PyProof.Rows.callWith_type1 (thn (ha.run pos pins s σ H _ I h) fun us s1 ⟨vs, H1, I1, r1, q1⟩ => ?_) st pl))⟩
  obtain ⟨a, b, dx, dy, t, u, xs, ys, rfl, ea, eb, et, eu, q⟩ := q1
  cases r1 with
  | cons ra rr =>
    cases rr with
    | cons rb rr =>
      cases rr
      cases ra
      cases rb
      have hr1 : Room k X.A.in1.in1 := (hr.in1).in1
      refine callType_newIn PySem.F.called_zip (by decide) (PySem.F.typeCall_zip_2 _ _) (PySem.F.newCall_zip_2 _ _) (fun obj => PySem.F.args_object_init_3 obj _ _) PySem.F.entry_zip_new (meets_zipO a b) ?_
      unfold ZipAsk
      obtain ⟨m1, hF1⟩ := I1.fr
      obtain ⟨oa, oda, Ja, _⟩ := StX.insC_at (X := X) I1 (.inr ⟨dx, _, ea⟩)
      obtain ⟨itsx, rvx, px, _⟩ := I1.tuple et
      obtain ⟨itsy, rvy, py, _⟩ := I1.tuple eu
      have tl : @LT.lt Nat _ t s1.heap.objs.size := by obtain ⟨o, ho, _⟩ := px; exact Heap.lt_size ho
      have ul : @LT.lt Nat _ u s1.heap.objs.size := by obtain ⟨o, ho, _⟩ := py; exact Heap.lt_size ho
      have one : wpAny (model X.prog X.w) X.A.in1.in1 (call (.ref g) [.ref a]) (fun r s' => ∃ it : Addr, r = .ref it ∧ s1.heap.objs.size ≤ it ∧ s'.heap.IsTupleIter it t 0 ∧ CE X.stack X.prog X.w H1 s1 (fun v H' => v = .ref it ∧ H' = H1) (.ref it) s') X.xe s1 := by
        refine wpAny_call (codeAny_mono (G X.A.in1.in1 X.stack s1 H1 a dx t xs hr1 I1.env0.in1.in1 ea et) fun r s' z => ?_)
        obtain ⟨it, rfl, z1, z2, z3⟩ := z
        exact ⟨it, rfl, z1, z2, z3⟩
      refine PySem.W.owit_iter hF1 I1.ok.mod.kin Ja wI wF (wpAny_mono one (fun r s2 z => ?_) fun _ _ z => z)
      obtain ⟨i1, rfl, z1, z2, z3⟩ := z
      unfold PySem.W.OwitIt
      refine wpAny_specialOf z2.typeIs PySem.F.slot_tuple_iterator_next.lookup ?_
      refine ⟨i1, rfl, ?_⟩
      obtain ⟨v2, H2, I2, rv2, ev2, eH2⟩ := I1.after z3
      subst eH2
      obtain ⟨m2, hF2⟩ := I2.fr
      obtain ⟨ob, odb, Jb, _⟩ := StX.insC_at (X := X) I2 (.inr ⟨dy, _, eb⟩)
      have i1l : @LT.lt Nat _ i1 s2.heap.objs.size := by obtain ⟨o, ho, _⟩ := z2; exact Heap.lt_size ho
      have frs1 : i1 ∉ frs X.stack := by
        obtain ⟨_, c1, c2, _⟩ := I1.fpOk z1 (I1.hok.fresh z1)
        rcases I1.ok.stk with e | ⟨e, ef⟩
        · rw [e]
          exact c2
        · rw [e]
          intro z
          have z' : i1 ∈ frs (X.env :: X.outer) := z
          unfold frs at z'
          rw [List.filterMap_cons, ef] at z'
          rcases List.mem_cons.mp z' with y | y
          · exact c1 y
          · exact c2 y
      have sz12 : s1.heap.objs.size ≤ s2.heap.objs.size := Nat.le_trans z1 (Nat.le_of_lt i1l)
      have two : wpAny (model X.prog X.w) X.A.in1.in1 (call (.ref g) [.ref b]) (fun r s' => ∃ it : Addr, r = .ref it ∧ s2.heap.objs.size ≤ it ∧ s'.heap.IsTupleIter it u 0 ∧ CE X.stack X.prog X.w H2 s2 (fun v H' => v = .ref it ∧ H' = H2) (.ref it) s') X.xe s2 := by
        refine wpAny_call (codeAny_mono (G X.A.in1.in1 X.stack s2 H2 b dy u ys hr1 I2.env0.in1.in1 eb eu) fun r s' z => ?_)
        obtain ⟨it, rfl, z1, z2, z3⟩ := z
        exact ⟨it, rfl, z1, z2, z3⟩
      refine PySem.W.owit_iter hF2 I2.ok.mod.kin Jb wI wF (wpAny_mono two (fun r s3 z => ?_) fun _ _ z => z)
      obtain ⟨i2, rfl, y1, y2, y3⟩ := z
      unfold PySem.W.OwitIt
      refine wpAny_specialOf y2.typeIs PySem.F.slot_tuple_iterator_next.lookup ?_
      refine ⟨i2, rfl, ?_⟩
      have kept1 : s3.heap.IsTupleIter i1 t 0 := by
        obtain ⟨_, _, _, _, un, _⟩ := id y3
        refine z2.at fun o e => un.keep i1 o e (I1.hok.fresh z1) frs1 (by simp)
      obtain ⟨v3, H3, I3, rv3, ev3, eH3⟩ := I2.after y3
      subst eH3
      have i2l : @LT.lt Nat _ i2 s3.heap.objs.size := by obtain ⟨o, ho, _⟩ := y2; exact Heap.lt_size ho
      have n1 : (zA s3.heap i1 i2).objs.size = s3.heap.objs.size + 1 := Heap.size_push ..
      have n2 : (zB s3.heap i1 i2).objs.size = s3.heap.objs.size + 2 := by rw [Heap.size_push, n1]
      have g3 : (zC s3.heap i1 i2).get? (zB s3.heap i1 i2).objs.size = some _ := Heap.get?_push_size _ rfl
      have g2 : (zC s3.heap i1 i2).get? (zA s3.heap i1 i2).objs.size = some _ := Heap.get?_push_of_some _ (Heap.get?_push_size _ rfl)
      have g1 : (zC s3.heap i1 i2).get? s3.heap.objs.size = some _ := Heap.get?_push_of_some _ (Heap.get?_push_of_some _ (Heap.get?_push_size _ rfl))
      have kk : ∀ c o, s3.heap.get? c = some o → (zC s3.heap i1 i2).get? c = some o := fun c o e => Heap.get?_push_of_some _ (Heap.get?_push_of_some _ (Heap.get?_push_of_some _ e))
      rw [n1] at g2
      rw [n2, n1] at g3
      rw [n2]
      have sz23 : s2.heap.objs.size ≤ s3.heap.objs.size := Nat.le_trans y1 (Nat.le_of_lt i2l)
      refine ⟨⟨_, g3, rfl⟩, wpAny_pyIter_zip g3 ?_⟩
      have I4 : Inv X pins σ H3 { s3 with heap := zC s3.heap i1 i2 } := I3.kept (t' := s3.toks) kk
      have q1 : @LE.le Nat _ s1.heap.objs.size i1 := z1
      have q2 : @LE.le Nat _ s2.heap.objs.size i2 := y1
      have D : ZipApart (s3.heap.objs.size + 2) s3.heap.objs.size (s3.heap.objs.size + 1) i1 i2 t u := by
        constructor <;> (refine PySem.W.neN ?_; omega)
      have fresh : ∀ c, s1.heap.objs.size ≤ c → FpOk X pins H3 c := fun c hc => I1.fpOk hc (I1.hok.fresh hc)
      refine ⟨s3.heap.objs.size + 2, [s3.heap.objs.size + 2, s3.heap.objs.size, s3.heap.objs.size + 1, i1, i2], _, _, H3, rfl, I4, turn_zipT D, ⟨g3, g1, ⟨_, _, g2⟩, kept1.at fun o e => kk _ o e, y2.at fun o e => kk _ o e⟩, fun c hc => fresh c ?_, q⟩
      simp only [List.mem_cons, List.not_mem_nil, or_false] at hc
      have sz13 : @LE.le Nat _ s1.heap.objs.size s3.heap.objs.size := Nat.le_trans sz12 sz23
      have sz12' : @LE.le Nat _ s1.heap.objs.size s2.heap.objs.size := sz12
      show @LE.le Nat _ s1.heap.objs.size c
      rcases hc with rfl | rfl | rfl | rfl | rfl
      · exact Nat.le_trans sz13 (Nat.le_add_right _ _)
      · exact sz13
      · exact Nat.le_trans sz13 (Nat.le_add_right _ _)
      · exact q1
      · exact Nat.le_trans sz12' q2
end
end Oz

set_option Elab.async false
set_option linter.all false
set_option maxRecDepth 100000
set_option maxHeartbeats 4000000
namespace Dl
open PySem PySem.Spec PyProof.Rows L2 LamX
/-! ### defs -/
def spD (K : PySem.W.Frag) (T : Tb) (F : WF) : Sp := fun vs H Q E => ∃ (g : Gh) (n : Nat) (ds : List D) (k : KD) (x : KX), g.stm = true ∧ g.H0 = H ∧ Bs K T g n g.M0 H ∧ Reps K g.pn g.M0 vs ds ∧ F ds n k x ∧
  (∀ (d : D) (n' : Nat) (v : V) (M' H' : Hp), Bs K T g n' M' H' → Rep K g.pn M' v d → k d n' → Q v H') ∧ ExcP K T E g x
def startD (N : List Str) (ds : List D) : List Sl := ds.map Sl.val ++ List.replicate (N.length - ds.length) .un
section
variable {K : PySem.W.Frag} {T : Tb} {E : XK} {g : Gh} {S : List Sl} {σ : L2.St} {M H : Hp} {k : KD} {x : KX} {Q : VK} {n : Nat}
theorem spD_of {F : WF} {vs : List V} {ds : List D} (r : Rel K T g n S σ M H) (hr : Reps K g.pn M vs ds) (f : F ds n k x) (p : PostE K T E g S σ M k x Q) : spD K T F vs H Q E :=
  ⟨g.at M H true, n, ds, k, x, rfl, rfl, r.bs.enter true, hr, f, fun d n' v M' H' b h q => p.1 d n' v M' H' b.msub (r.back b) h q, p.2.back r.bs⟩
theorem Reps.slots {N : List Str} {vs : List V} {ds : List D} (h : Reps K g.pn M vs ds) (b : Bs K T g n M H) : Rel K T g n (startD N ds) (L2.start N vs) M H := by
  have own : ∀ (i : Nat) (s : Sl), (startD N ds)[i]? = some s → s.isOwn = false := fun i s e => by
    have m := List.mem_of_getElem? e
    unfold startD at m
    rcases List.mem_append.mp m with m | m
    · obtain ⟨d, _, rfl⟩ := List.mem_map.mp m
      rfl
    · rw [(List.mem_replicate.mp m).2]
      rfl
  refine ⟨b, ?_, fun i s e => ?_, fun i j s t a e1 e2 o1 => ?_, fun i s a e o => ?_⟩
  · unfold startD L2.start
    simp [h.len]
  · unfold startD at e
    unfold L2.start
    by_cases hi : i < ds.length
    · rw [List.getElem?_append_left (by rw [List.length_map]; exact hi), List.getElem?_map] at e
      rw [List.getElem?_append_left (by rw [List.length_map, h.len]; exact hi), List.getElem?_map]
      cases q : ds[i]? with
      | none => rw [q] at e; cases e
      | some d =>
        rw [q] at e
        cases e
        obtain ⟨v, h1, h2⟩ := h.get q
        exact ⟨some v, by rw [h1]; rfl, .val h2⟩
    · rw [List.getElem?_append_right (by rw [List.length_map]; omega)] at e
      have m := List.mem_of_getElem? e
      rw [(List.mem_replicate.mp m).2] at *
      refine ⟨none, ?_, .un⟩
      rw [List.getElem?_append_right (by rw [List.length_map, h.len]; omega), List.length_map, h.len]
      have := (List.getElem?_eq_some_iff.mp e).1
      rw [List.length_replicate, List.length_map] at this
      rw [List.getElem?_replicate, if_pos this]
  · rw [own i s e1] at o1
    cases o1
  · rw [own i s e] at o
    cases o
end
section
variable {P : Program} {w : World} {K : PySem.W.Frag} {mg : Str → Option Value} {base : Heap} {T : Tb}
abbrev FnD (P : Program) (w : World) (K : PySem.W.Frag) (mg : Str → Option Value) (base : Heap) (T : Tb) (k : Nat) (f : Addr) (fd : FuncData) (ps : List Str) (F : WF) : Prop := FnOk P w K mg base (L2.CX P w) k f fd ps (spD K T F)
/-- a def by what its body asks of data -/
theorem fnD_of {x q : Str} {st : Stmt} {f : Addr} {fd : FuncData} {N ps : List Str} {k : Nat} {F : WF} {WB : WS} (Fn : Fun K x q st f fd) (S : FnScope N ps (defScope st)) (len : ∀ ds n k x, F ds n k x → ds.length = ps.length)
    (body : ∀ (cdv : Value) (A : Around) (outer : List Env) (s : Shared) (H : Hp) (E : XK), Room k (A.deeper (envOfC q (defScope st) s.heap.objs.size f cdv)) → PSs (cxOf (L2.CX P w) P w K mg base N q (defScope st) f cdv A outer s H E) (defBody st) (toTS K T E WB))
    (h : ∀ ds n k x, F ds n k x → WB (startD N ds) n { nx := fun _ n' => k .non n', rt := k } x) : FnD P w K mg base T (k + 1) f fd ps F := by
  refine Fn.okX S (fun vs H Q E h => ?_) (fun cdv A outer s H vs Q E hr hs => ?_)
  · obtain ⟨g, n, ds, k, x, _, _, _, r, f, _⟩ := h
    rw [r.len]
    exact len _ _ _ _ f
  · obtain ⟨g, n, ds, k, x, gs, rfl, b, r, f, p, e⟩ := hs
    exact ⟨_, body cdv A outer s _ E hr, g, g.M0, startD N ds, n, _, x, gs, r.slots b, h _ _ _ _ f, ⟨fun S' n' σ' M' H' r' w' => p .non n' .non M' H' r'.bs .non w', p, fun _ _ _ _ _ _ z => z.elim, fun _ _ _ _ _ _ z => z.elim⟩, e⟩
end
section
variable {X : Cx} {T : Tb} {E : XK} {e o : Expr} {es : List Expr} {pos : Pos} {wa wb : WE} {ws : WA} {F : WF} {C : Addr}
theorem de_f {r : List V → Hp → VK → Prop} {f : WF} (he : PE X e (tCB r (toTA X.K T E ws))) (l : LRC X.K T E r f) : DE X T E e (wF f ws) :=
  pe_imp he fun σ H Q ⟨g, M, S, n, k, x, rl, w, p⟩ => ⟨g, M, S, n, _, x, rl, w, fun ds n1 vs M1 H1 s1 r1 e1 w1 => l g n1 S σ M1 H1 vs ds Q k x r1 e1 w1 (p.step s1), p.2⟩
/-- f(..) -/
theorem de_call (he : PE X e (tCall (spD X.K T F) [] E (toTA X.K T E ws))) : DE X T E e (wF F ws) :=
  pe_imp he fun σ H Q ⟨g, M, S, n, k, x, rl, w, p⟩ => ⟨g, M, S, n, _, x, rl, w, fun ds n1 vs M1 H1 s1 r1 e1 w1 => by
    have := spD_of r1 e1 w1 (p.step s1)
    rw [← List.append_nil vs] at this
    exact this, p.2⟩
def insI (C : Addr) (d : D) (k : List (Str × D) → Prop) : Prop :=
  match d with
  | .ins C' fs => C' = C ∧ k fs
  | _ => False
theorem rep_ins {K : PySem.W.Frag} {pn : Addr} {M : Hp} {v : V} {d : D} {k : List (Str × D) → Prop} (h : Rep K pn M v d) (q : insI C d k) : ∃ a dx fs gs, v = .ref a ∧ d = .ins C gs ∧ M a = some (.ins C dx fs) ∧ RepFs K pn M fs gs ∧ k gs := by
  cases h with
  | ins h r => obtain ⟨rfl, q⟩ := q; exact ⟨_, _, _, _, rfl, rfl, h, r, q⟩
  | _ => exact q.elim
/-- o.f, an attribute -/
def wFld (C : Addr) (f : Str) (a : WE) : WE := fun S n k x => a S n (fun d n1 => insI C d fun fs => ∃ y, fs.lookup f = some y ∧ k y n1) x
theorem de_fld {f : Str} (cl : Cls X.K C) (nf : NoAttr X.K C f) (he : PE X e (tFld X.K (toTE X.K T E wa) f)) : DE X T E e (wFld C f wa) :=
  pe_imp he fun σ H Q ⟨g, M, S, n, k, x, rl, w, p⟩ => ⟨g, M, S, n, _, x, rl, w, (fun d n1 v M1 H1 s1 r1 h1 w1 => by
    obtain ⟨a, dx, fs, gs, rfl, rfl, hm, rf, y, hy, w1⟩ := rep_ins h1 w1
    obtain ⟨u, h2, h3⟩ := rf.look hy
    exact ⟨a, C, dx, fs, u, rfl, r1.bs.sub _ _ hm, cl, nf, h2, (p.step s1).here r1 h3 w1⟩), p.2⟩
/-- o.m(..) -/
def wMeth (C : Addr) (m : Str) (F : WF) (a : WE) (ws : WA) : WE := fun S n k x => a S n (fun d n1 => insI C d fun fs => fs.lookup m = none ∧ ws S n1 (fun ds n2 => F (d :: ds) n2 k x) x) x
theorem de_meth {m : Str} (he : PE X e (tMeth C m (spD X.K T F) [] E (toTE X.K T E wa) (toTA X.K T E ws))) : DE X T E e (wMeth C m F wa ws) :=
  pe_imp he fun σ H Q ⟨g, M, S, n, k, x, rl, w, p⟩ => ⟨g, M, S, n, _, x, rl, w, (fun d n1 v M1 H1 s1 r1 h1 w1 => by
    obtain ⟨a, dx, fs, gs, rfl, rfl, hm, rf, hn, w1⟩ := rep_ins h1 w1
    refine ⟨a, dx, fs, rfl, r1.bs.sub _ _ hm, rf.none hn, g, M1, S, n1, _, x, r1, w1, (fun ds n2 vs M2 H2 s2 r2 e2 w2 => ?_), p.2⟩
    have := spD_of r2 (.cons (h1.mono s2) e2) w2 (p.step (s1.trans s2))
    rw [← List.append_nil vs] at this
    exact this), p.2⟩
/-- a property -/
def wProp (C : Addr) (F : WF) (a : WE) : WE := fun S n k x => a S n (fun d n1 => insI C d fun _ => F [d] n1 k fun _ _ => False) x
theorem de_prop (he : PE X e (tProp C (spD X.K T F) [] E0 (toTE X.K T E wa))) : DE X T E e (wProp C F wa) :=
  pe_imp he fun σ H Q ⟨g, M, S, n, k, x, rl, w, p⟩ => ⟨g, M, S, n, _, x, rl, w, (fun d n1 v M1 H1 s1 r1 h1 w1 => by
    obtain ⟨a, dx, fs, gs, rfl, rfl, hm, rf, w1⟩ := rep_ins h1 w1
    exact ⟨a, dx, fs, rfl, r1.bs.sub _ _ hm, spD_of (x := fun _ _ => False) r1 (.cons h1 .nil) w1 ⟨(p.step s1).1, excF⟩⟩), p.2⟩
/-! ### own operators -/
variable {K : PySem.W.Frag}
/-- x op y, both of the class -/
def fOwn (C : Addr) (F : WF) : F2 := fun d e n k x => insI C d fun _ => insI C e fun _ => F [d, e] n k x
theorem lr_own : LR2 K T E (Ow.rBinO C (spD K T F) E) (fOwn C F) := fun g n S σ M H v w d e Q k x r rd re f p => by
  obtain ⟨a, dx, fs, gs, rfl, rfl, hm, rf, f⟩ := rep_ins rd f
  obtain ⟨b, dy, fs2, gs2, rfl, rfl, hm2, rf2, f⟩ := rep_ins re f
  exact ⟨a, dx, fs, b, dy, fs2, rfl, rfl, r.bs.sub _ _ hm, r.bs.sub _ _ hm2, spD_of r (.cons rd (.cons re .nil)) f p⟩
/-- x != y by an own __eq__ -/
def fOwnNe (C : Addr) (F : WF) : F2 := fun d e n k x => insI C d fun _ => insI C e fun _ => F [d, e] n (fun r n1 => isB r fun b => k (.bl (!b)) n1) x
theorem lr_ownNe : LR2 K T E (Ow.rNeO C (spD K T F) E) (fOwnNe C F) := fun g n S σ M H v w d e Q k x r rd re f p => by
  obtain ⟨a, dx, fs, gs, rfl, rfl, hm, rf, f⟩ := rep_ins rd f
  obtain ⟨b, dy, fs2, gs2, rfl, rfl, hm2, rf2, f⟩ := rep_ins re f
  refine ⟨a, dx, fs, b, dy, fs2, rfl, rfl, r.bs.sub _ _ hm, r.bs.sub _ _ hm2, spD_of r (.cons rd (.cons re .nil)) f ⟨fun d n' v M' H' s r' h' q => ?_, p.2⟩⟩
  obtain ⟨b, rfl, q⟩ := rep_bl h' q
  exact ⟨b, rfl, p.1 _ n' _ M' H' s r' (.bl _) q⟩
/-- x in o by an own __contains__ -/
def fOwnIn (C : Addr) (F : WF) : F2 := fun d e n k x => insI C e fun _ => F [e, d] n (fun r n1 => isB r fun b => k (.bl b) n1) x
theorem lr_ownIn : LR2 K T E (Ow.rInO C (spD K T F) E) (fOwnIn C F) := fun g n S σ M H v w d e Q k x r rd re f p => by
  obtain ⟨b, dy, fs2, gs2, rfl, rfl, hm2, rf2, f⟩ := rep_ins re f
  refine ⟨b, dy, fs2, rfl, r.bs.sub _ _ hm2, spD_of r (.cons re (.cons rd .nil)) f ⟨fun d n' v M' H' s r' h' q => ?_, p.2⟩⟩
  obtain ⟨b, rfl, q⟩ := rep_bl h' q
  exact ⟨b, rfl, p.1 _ n' _ M' H' s r' (.bl _) q⟩
/-- len(o), bool(o) by an own __len__ -/
def natI (d : D) (k : Nat → Prop) : Prop :=
  match d with
  | .int i => 0 ≤ i ∧ i < 1000000 ∧ k i.toNat
  | _ => False
def fOwnLen (C : Addr) (F : WF) : WF := fun ds n k x => match ds with
  | [d] => insI C d fun _ => F [d] n (fun r n1 => natI r fun i => k (.int (i : Int)) n1) x
  | _ => False
def fOwnBool (C : Addr) (F : WF) : WF := fun ds n k x => match ds with
  | [d] => insI C d fun _ => F [d] n (fun r n1 => natI r fun i => k (.bl (decide (i ≠ 0))) n1) x
  | _ => False
theorem rep_nat {pn : Addr} {M : Hp} {v : V} {d : D} {k : Nat → Prop} (h : Rep K pn M v d) (q : natI d k) : ∃ i : Nat, v = .int (i : Int) ∧ i < 1000000 ∧ k i := by
  cases h with
  | int j =>
    obtain ⟨h1, h2, q⟩ := q
    exact ⟨j.toNat, by rw [Int.toNat_of_nonneg h1], by omega, q⟩
  | _ => exact q.elim
theorem lr_ownLen : LRC K T E (Ow.rLenO C (spD K T F) E) (fOwnLen C F) := fun g n S σ M H vs ds Q k x r rd f p => by
  cases rd with
  | nil => exact f.elim
  | @cons v d vs ds h t =>
    cases t with
    | cons _ _ => exact f.elim
    | nil =>
      obtain ⟨a, dx, fs, gs, rfl, rfl, hm, rf, f⟩ := rep_ins h f
      refine ⟨a, dx, fs, rfl, r.bs.sub _ _ hm, spD_of r (.cons h .nil) f ⟨fun d n' v M' H' s r' h' q => ?_, p.2⟩⟩
      obtain ⟨i, rfl, h2, q⟩ := rep_nat h' q
      exact ⟨i, rfl, h2, p.1 _ n' _ M' H' s r' (.int _) q⟩
theorem lr_ownBool : LRC K T E (Oz.rBoolO C (spD K T F) E) (fOwnBool C F) := fun g n S σ M H vs ds Q k x r rd f p => by
  cases rd with
  | nil => exact f.elim
  | @cons v d vs ds h t =>
    cases t with
    | cons _ _ => exact f.elim
    | nil =>
      obtain ⟨a, dx, fs, gs, rfl, rfl, hm, rf, f⟩ := rep_ins h f
      refine ⟨a, dx, fs, rfl, r.bs.sub _ _ hm, spD_of r (.cons h .nil) f ⟨fun d n' v M' H' s r' h' q => ?_, p.2⟩⟩
      obtain ⟨i, rfl, h2, q⟩ := rep_nat h' q
      exact ⟨i, rfl, h2, p.1 _ n' _ M' H' s r' (.bl _) q⟩
end
end Dl

set_option Elab.async false
set_option linter.all false
set_option maxRecDepth 100000
set_option maxHeartbeats 4000000
namespace Dl
open PySem PySem.Spec PyProof.Rows L2 LamX
/-! ### errors -/
structure ErrC (K : PySem.W.Frag) (mg : Str → Option Value) (nm : Str) (C fI : Addr) : Prop where
  T : OexC K C
  iC : PySem.W.findIn K (.ref C) "__init__" = some (some (.ref fI))
  tI : PySem.W.typeIn K (.ref fI) = some (.type "function")
  gC : mg nm = some (.ref C)
def spErr1 (K : PySem.W.Frag) (f : Str) : Sp := fun vs H Q _ => ∃ (a C : Addr) (y : V), vs = [.ref a, y] ∧ OexC K C ∧ PySem.W.findIn K (.ref C) f = some none ∧ H a = some (exo a C none) ∧ ∀ dx, H dx = none → dx ≠ a → Q .non (upd (upd H dx (exd dx [(f, y)])) a (exo a C (some dx)))
def spErr2 (K : PySem.W.Frag) (f g : Str) : Sp := fun vs H Q _ => ∃ (a C : Addr) (y z : V), vs = [.ref a, y, z] ∧ OexC K C ∧ PySem.W.findIn K (.ref C) f = some none ∧ PySem.W.findIn K (.ref C) g = some none ∧ H a = some (exo a C none) ∧
  ∀ dx, H dx = none → dx ≠ a → Q .non (upd (upd (upd H dx (exd dx [(f, y)])) a (exo a C (some dx))) dx (exd dx [(g, z), (f, y)]))
def OutF (E : XK) (C : Addr) (fs : List (Str × V)) (H : Hp) : Prop := ∀ (d : Addr) (H' : Hp), Same H H' → H d = none → H' d = some (.xd fs) → E (.ref C) (some d) H'
theorem raise1 {K : PySem.W.Frag} {C : Addr} {f : Str} {y : V} {H : Hp} {E Ef : XK} (T : OexC K C) (no : PySem.W.findIn K (.ref C) f = some none) (out : OutF E C [(f, y)] H) : ∀ a, H a = none → spErr1 K f (.ref a :: ([y] ++ [])) (upd H a (exo a C none))
    (fun v H2 => v = .non ∧ ∃ (d : Addr) (fs : List (Str × V)), H2 a = some (exo a C (some d)) ∧ H2 d = some (exd d fs) ∧ H d = none ∧ E (.ref C) (some d) (upd (del H2 a) d (.xd fs))) Ef := by
  intro a na
  refine ⟨a, C, y, rfl, T, no, upd_same, fun dx nd ne => ⟨rfl, dx, [(f, y)], upd_same, by rw [upd_ne ne, upd_same], ?_, out _ _ (fun b o e => ?_) (by rw [upd_ne ne] at nd; exact nd) upd_same⟩⟩
  · rw [upd_ne ne] at nd
    exact nd
  · have nd' : H dx = none := by
      rw [upd_ne ne] at nd
      exact nd
    have ba : b ≠ a := ne_of_none e na
    have bd : b ≠ dx := ne_of_none e nd'
    rw [upd_ne bd, del_ne ba, upd_ne ba, upd_ne bd, upd_ne ba]
    exact e
theorem raise2 {K : PySem.W.Frag} {C : Addr} {f g : Str} {y z : V} {H : Hp} {E Ef : XK} (T : OexC K C) (nl : PySem.W.findIn K (.ref C) f = some none) (nw : PySem.W.findIn K (.ref C) g = some none) (out : OutF E C [(g, z), (f, y)] H) : ∀ a, H a = none → spErr2 K f g (.ref a :: ([y, z] ++ [])) (upd H a (exo a C none))
    (fun v H2 => v = .non ∧ ∃ (d : Addr) (fs : List (Str × V)), H2 a = some (exo a C (some d)) ∧ H2 d = some (exd d fs) ∧ H d = none ∧ E (.ref C) (some d) (upd (del H2 a) d (.xd fs))) Ef := by
  intro a na
  refine ⟨a, C, y, z, rfl, T, nl, nw, upd_same, fun dx nd ne => ⟨rfl, dx, _, ?_, upd_same, ?_, out _ _ (fun b o e => ?_) (by rw [upd_ne ne] at nd; exact nd) upd_same⟩⟩
  · rw [upd_ne (Ne.symm ne), upd_same]
  · rw [upd_ne ne] at nd
    exact nd
  · have nd' : H dx = none := by
      rw [upd_ne ne] at nd
      exact nd
    have ba : b ≠ a := ne_of_none e na
    have bd : b ≠ dx := ne_of_none e nd'
    rw [upd_ne bd, del_ne ba, upd_ne bd, upd_ne ba, upd_ne bd, upd_ne ba]
    exact e
section
variable {P : Program} {w : World} {K : PySem.W.Frag} {mg : Str → Option Value} {base : Heap}
/-- def __init__(self, f): self.f = f -/
theorem ok_err1 {f : Addr} {fd : FuncData} {q a : Str} {st : Stmt} (F : Fun K "__init__" q st f fd) (S : FnScope [("self" : Str), a] [("self" : Str), a] (defScope st))
    (body : ∀ X : Cx, X.K = K → X.N = [("self" : Str), a] → X.env.scope = defScope st → PSs X (defBody st) (tOst X.K a (tVar 0) (tVar 1))) : FnOk P w K mg base CX0 1 f fd [("self" : Str), a] (spErr1 K a) := by
  refine F.ok S (fun vs H Q E h => ?_) (fun cdv A outer s H vs Q E hr h => ?_)
  · obtain ⟨b, C, y, rfl, _⟩ := h
    rfl
  · obtain ⟨b, C, y, rfl, T, no, ha, q⟩ := h
    refine ⟨_, body _ rfl rfl rfl, ?_⟩
    exact ⟨_, rfl, _, rfl, b, C, rfl, T, no, .inl ⟨ha, fun dx nd ne => q dx nd ne⟩⟩
/-- def __init__(self, f, g): self.f = f; self.g = g -/
theorem ok_err2 {f : Addr} {fd : FuncData} {q a b : Str} {st : Stmt} (F : Fun K "__init__" q st f fd) (S : FnScope [("self" : Str), a, b] [("self" : Str), a, b] (defScope st))
    (body : ∀ X : Cx, X.K = K → X.N = [("self" : Str), a, b] → X.env.scope = defScope st → PSs X (defBody st) (tSeq (tOst X.K a (tVar 0) (tVar 1)) (tOst X.K b (tVar 0) (tVar 2)))) : FnOk P w K mg base CX0 1 f fd [("self" : Str), a, b] (spErr2 K a b) := by
  refine F.ok S (fun vs H Q E h => ?_) (fun cdv A outer s H vs Q E hr h => ?_)
  · obtain ⟨c, C, y, z, rfl, _⟩ := h
    rfl
  · obtain ⟨c, C, y, z, rfl, T, no, no2, ha, q⟩ := h
    refine ⟨_, body _ rfl rfl rfl, ?_⟩
    refine ⟨_, rfl, _, rfl, c, C, rfl, T, no, .inl ⟨ha, fun dx nd ne => ?_⟩⟩
    refine ⟨_, rfl, _, rfl, c, C, rfl, T, no2, .inr ⟨dx, _, upd_same, ?_, (by show 1 ≤ 900; omega), q dx nd ne⟩⟩
    rw [upd_ne ne, upd_same]
end
def wRaise1 (C : Addr) (f : Str) (a : WE) : WS := fun S n _ x => a S n (fun d n1 => x (C, [(f, d)]) n1) x
def wRaise2 (C : Addr) (f g : Str) (a b : WE) : WS := fun S n _ x => a S n (fun d n1 => b S n1 (fun e n2 => x (C, [(g, e), (f, d)]) n2) x) x
section
variable {X : Cx} {T : Tb} {E : XK} {e o : Expr} {es : List Expr} {st : Stmt} {pos : Pos} {wa wb : WE} {ws : WA} {F : WF} {C : Addr}
theorem ds_raise1 {f : Str} (t : OexC X.K C) (no : PySem.W.findIn X.K (.ref C) f = some none) (h : PS X st (fun _ σ H => tMkO C (spErr1 X.K f) [] (tCons (toTE X.K T E wa) tNil) σ H fun cls d H' => E cls d H')) : DS X T E st (wRaise1 C f wa) :=
  ps_imp h fun Dn σ H ⟨g, M, S, n, Dd, x, gs, rl, w, p, q⟩ => ⟨g, M, S, n, _, x, rl, w, (fun d n1 v M1 H1 s1 r1 h1 w1 => ⟨by show 1 ≤ 1000; omega, raise1 t no fun dd H' sm nd hd => have m := same_upd (o := HO.xd [(f, v)]) (r1.bs.mn nd); q (C, [(f, d)]) n1 _ _ _ H' ((r1.bs.grow sm).freeze hd (r1.bs.mn nd) (r1.bs.pnn nd) (r1.bs.h0 nd) (fun ps z => by cases z)) ⟨rfl, dd, _, rfl, upd_same, .cons (h1.mono m) .nil⟩ w1⟩), q⟩
theorem ds_raise2 {f f2 : Str} (t : OexC X.K C) (no : PySem.W.findIn X.K (.ref C) f = some none) (no2 : PySem.W.findIn X.K (.ref C) f2 = some none) (h : PS X st (fun _ σ H => tMkO C (spErr2 X.K f f2) [] (tCons (toTE X.K T E wa) (tCons (toTE X.K T E wb) tNil)) σ H fun cls d H' => E cls d H')) : DS X T E st (wRaise2 C f f2 wa wb) :=
  ps_imp h fun Dn σ H ⟨g, M, S, n, Dd, x, gs, rl, w, p, q⟩ => ⟨g, M, S, n, _, x, rl, w, (fun d n1 v M1 H1 s1 r1 h1 w1 => ⟨g, M1, S, n1, _, x, r1, w1, (fun d2 n2 v2 M2 H2 s2 r2 h2 w2 => ⟨by show 2 ≤ 1000; omega, raise2 t no no2 fun dd H' sm nd hd => have m := same_upd (o := HO.xd [(f2, v2), (f, v)]) (r2.bs.mn nd); q (C, [(f2, d2), (f, d)]) n2 _ _ _ H' ((r2.bs.grow sm).freeze hd (r2.bs.mn nd) (r2.bs.pnn nd) (r2.bs.h0 nd) (fun ps z => by cases z)) ⟨rfl, dd, _, rfl, upd_same, .cons (h2.mono m) (.cons ((h1.mono s2).mono m) .nil)⟩ w2⟩), q⟩), q⟩
end
/-! ### instances made -/
abbrev WI := List D → Nat → (List (Str × D) → Nat → Prop) → KX → Prop
def spI (K : PySem.W.Frag) (T : Tb) (C : Addr) (F : WI) : Sp := fun vs H Q E => ∃ (g : Gh) (n : Nat) (ds : List D) (k : List (Str × D) → Nat → Prop) (x : KX) (as : List V) (x0 dx : Addr), vs = .ref x0 :: as ∧ g.stm = true ∧ Bs K T g n g.M0 H ∧ g.M0 x0 = none ∧ Nt g.H0 x0 ∧
  H x0 = some (.ins C dx []) ∧ Reps K g.pn g.M0 as ds ∧ F ds n k x ∧
  (∀ (fs : List (Str × D)) (n' : Nat) (us : List (Str × V)) (dx' : Addr) (M' H' : Hp), Bs K T g n' M' H' → H' x0 = some (.ins C dx' us) → M' x0 = none → RepFs K g.pn M' us fs → k fs n' → Q .non H') ∧ ExcP K T E g x
/-- .., with dx told through the slot -/
def ownIi (C : Addr) (s : Sl) (k : Addr → List (Str × D) → Prop) : Prop :=
  match s with
  | .ownI a C' fs => C' = C ∧ k a fs
  | _ => False
def startI (N : List Str) (x0 C : Addr) (ds : List D) : List Sl := .ownI x0 C [] :: startD N.tail ds
def wFldOwn (i : Nat) (C : Addr) (f : Str) (w : WE) : WS := fun S n D x => w S n (fun d n1 => ownIi C (gt S i) fun a fs => fs.length < 900 ∧ D.nx (S.set i (.ownI a C (putD f d fs))) n1) x
theorem repF_put {K : PySem.W.Frag} {pn : Addr} {M : Hp} {f : Str} {v : V} {d : D} (h : Rep K pn M v d) : ∀ {fs : List (Str × V)} {gs : List (Str × D)}, RepFs K pn M fs gs → RepFs K pn M (putF f v fs) (putD f d gs)
  | _, _, .nil => .cons h .nil
  | (k, x) :: fs, _ :: gs, .cons h1 t => by
    unfold putF putD
    by_cases e : k = f
    · rw [if_pos e, if_pos e]
      exact .cons h t
    · rw [if_neg e, if_neg e]
      exact .cons h1 (repF_put h t)
theorem RepFs.len {K : PySem.W.Frag} {pn : Addr} {M : Hp} : ∀ {fs : List (Str × V)} {gs : List (Str × D)}, RepFs K pn M fs gs → fs.length = gs.length
  | _, _, .nil => rfl
  | _, _, .cons _ t => congrArg Nat.succ (RepFs.len t)
section
variable {X : Cx} {T : Tb} {E : XK} {e o : Expr} {es : List Expr} {st : Stmt} {pos : Pos} {wa wb : WE} {ws : WA} {C : Addr}
theorem slI_get {S : List Sl} {i : Nat} {k : Addr → List (Str × D) → Prop} (h : ownIi C (gt S i) k) : ∃ a d, S[i]? = some (.ownI a C d) ∧ k a d := by
  cases e : gt S i with
  | ownI a C' d => rw [e] at h; obtain ⟨rfl, h⟩ := h; exact ⟨a, d, gt_get e (fun z => by cases z), h⟩
  | _ => rw [e] at h; exact h.elim
theorem Rel.ownI {K : PySem.W.Frag} {g : Gh} {n : Nat} {S : List Sl} {σ : L2.St} {M H : Hp} (r : Rel K T g n S σ M H) {i : Nat} {a : Addr} {ds : List (Str × D)} (h : S[i]? = some (.ownI a C ds)) : ∃ dx vs, σ[i]? = some (some (.ref a)) ∧ H a = some (.ins C dx vs) ∧ M a = none ∧ a ≠ g.pn ∧ RepFs K g.pn M vs ds := by
  obtain ⟨o, h1, h2⟩ := r.sl i _ h
  cases h2 with
  | ownI h2 h3 h4 h5 => exact ⟨_, _, h1, h2, h3, h4, h5⟩
/-- self.f = e -/
theorem ds_fldOwn {i : Nat} {f : Str} (cl : Cls X.K C) (nf : NoAttr X.K C f) (h : PS X st (sFld X.K (tVar i) (toTE X.K T E wa) f)) : DS X T E st (wFldOwn i C f wa) :=
  ps_imp h fun Dn σ H ⟨g, M, S, n, Dd, x, gs, rl, w, p, q⟩ => ⟨g, M, S, n, _, x, rl, w, (fun d n1 v M1 H1 s1 r1 h1 w1 => by
    obtain ⟨a, fs, hs, hl, w1⟩ := slI_get w1
    obtain ⟨dx, vs, e0, hH, hM, hn, hr⟩ := r1.ownI hs
    refine ⟨.ref a, e0, a, C, dx, vs, rfl, hH, cl, nf, by rw [hr.len]; omega, ?_⟩
    exact p.nx _ n1 σ M1 _ (r1.upOwn gs hs rfl rfl e0 hM (.ownI upd_same hM hn (repF_put h1 hr))) w1), q⟩
/-- self.f, read while self is made -/
def wFldI (i : Nat) (C : Addr) (f : Str) : WE := fun S n k _ => ownIi C (gt S i) fun _ fs => ∃ y, fs.lookup f = some y ∧ k y n
theorem de_fldI {i : Nat} {f : Str} (cl : Cls X.K C) (nf : NoAttr X.K C f) (he : PE X e (tFld X.K (tVar i) f)) : DE X T E e (wFldI i C f) :=
  pe_imp he fun σ H Q ⟨g, M, S, n, k, x, rl, w, p⟩ => by
    obtain ⟨a, fs, hs, y, hy, w⟩ := slI_get w
    obtain ⟨dx, vs, e0, hH, hM, hn, hr⟩ := rl.ownI hs
    obtain ⟨u, h2, h3⟩ := hr.look hy
    exact ⟨.ref a, e0, a, C, dx, vs, u, rfl, hH, cl, nf, h2, p.here rl h3 w⟩
/-- an object comes into being: C, its dict; then a further object -/
theorem spI_of {K : PySem.W.Frag} {F : WI} {g : Gh} {n : Nat} {S : List Sl} {σ : L2.St} {M H H3 : Hp} {k : KD} {x : KX} {Q : VK} {as : List V} {ds : List D} {x0 dx : Addr} {M3 : Hp} (r : Rel K T g n S σ M H) (nx : H x0 = none) (sm : Same M M3) (b : Bs K T (g.at M H true) n M3 H3) (hx : H3 x0 = some (.ins C dx [])) (mx : M3 x0 = none)
    (hr : Reps K g.pn M3 as ds) (f : F ds n (fun fs n' => k (.ins C fs) n') x) (p : PostE K T E g S σ M k x Q) : spI K T C F (.ref x0 :: as) H3 (fun v H2 => v = .non ∧ Q (.ref x0) H2) E := by
  refine ⟨(g.at M H true).re M3, n, ds, _, x, as, x0, dx, rfl, rfl, b.re, mx, nt_none nx, hx, hr, f, fun fs n' us dx' M' H' b' h' m' rf q => ⟨rfl, ?_⟩, fun e n' c dd M' H' b' h q => p.2 e n' c dd M' H' (r.bs.back (b.unre b')) h q⟩
  have b2 := b.unre b'
  have np : x0 ≠ g.pn := r.bs.pnn nx
  have b3 := b2.freeze h' m' np (nt_none nx) (fun ps z => by cases z)
  have sm2 := same_upd (o := HO.ins C dx' us) m'
  exact p.1 (.ins C fs) n' (.ref x0) _ H' (b2.msub.trans sm2) (r.back b3) (.ins upd_same (rf.mono sm2)) q
/-- C(*args, mk = v), the def of the class with keyword-only mk -/
theorem askM_of {K : PySem.W.Frag} {F : WI} {g : Gh} {n : Nat} {S : List Sl} {σ : L2.St} {M H : Hp} {k : KD} {x : KX} {Q : VK} {vs : List V} {ds : List D} {vm : V} {m : D} (r : Rel K T g n S σ M H) (hm : Rep K g.pn M vm m) (hr : Reps K g.pn M vs ds) (hl : ds.length ≤ 1000)
    (f : F [m, .tup ds] n (fun fs n' => k (.ins C fs) n') x) (p : PostE K T E g S σ M k x Q) : Ow.mkAskM C (spI K T C F) E vm vs H Q := by
  refine ⟨by rw [hr.len]; exact sl1000 hl, fun x0 dx nx nd ne q np => ?_⟩
  have b0 := r.bs.enter true
  have b1 := b0.grow (same_upd (o := HO.own x0) nd)
  have n1 : (upd H dx (.own x0)) x0 = none := by
    rw [upd_ne (Ne.symm ne)]
    exact nx
  have b2 := b1.grow (same_upd (o := HO.ins C dx []) n1)
  have b3 := b2.new (o := HO.tup vs) np (fun ps z => by cases z)
  have qx : q ≠ x0 := fun e => by
    rw [e, upd_same] at np
    cases np
  have mq : M q = none := b2.mn np
  have sm := same_upd (o := HO.tup vs) mq
  exact spI_of r nx sm b3 (by rw [upd_ne (Ne.symm qx), upd_same]) (by rw [upd_ne (Ne.symm qx)]; exact r.bs.mn nx) (.cons (hm.mono sm) (.cons (.tup (.of upd_same) (hr.mono sm)) .nil)) f p
def fMakeM (C : Addr) (F : WI) (m : D) : WF := fun ds n k x => ds.length ≤ 1000 ∧ F [m, .tup ds] n (fun fs n' => k (.ins C fs) n') x
/-- C(e, .., mk = v) -/
def wMakeM (C : Addr) (F : WI) (ws : WA) (wm : WE) : WE := fun S n k x => ws S n (fun ds n1 => wm S n1 (fun m n2 => fMakeM C F m ds n2 k x) x) x
theorem de_makeM {F : WI} (he : PE X e (Ow.tMakeM C (spI X.K T C F) E (toTA X.K T E ws) (tCons (toTE X.K T E wa) tNil))) : DE X T E e (wMakeM C F ws wa) :=
  pe_imp he fun σ H Q ⟨g, M, S, n, k, x, rl, w, p⟩ => ⟨g, M, S, n, _, x, rl, w, (fun ds n1 vs M1 H1 s1 r1 e1 w1 => ⟨g, M1, S, n1, _, x, r1, w1, (fun m n2 vm M2 H2 s2 r2 e2 w2 => ⟨vm, rfl, askM_of r2 e2 (e1.mono s2) w2.1 w2.2 (p.step (s1.trans s2))⟩), p.2⟩), p.2⟩
theorem de_makeM0 {F : WI} (he : PE X e (Ow.tMakeM C (spI X.K T C F) E tNil (tCons (toTE X.K T E wa) tNil))) : DE X T E e (wMakeM C F wNil wa) :=
  pe_imp he fun σ H Q ⟨g, M, S, n, k, x, rl, w, p⟩ => ⟨g, M, S, n, _, x, rl, w, (fun m n2 vm M2 H2 s2 r2 e2 w2 => ⟨vm, rfl, askM_of r2 e2 .nil w2.1 w2.2 (p.step s2)⟩), p.2⟩
/-- C(e, ..), mk left out: dv -/
def wMakeMn (C : Addr) (F : WI) (m : D) (ws : WA) : WE := wF (fMakeM C F m) ws
theorem de_makeMn {F : WI} {dv : V} {m : D} (hd : ∀ K pn M, Rep K pn M dv m) (he : PE X e (fun σ H Q => (toTA X.K T E ws) σ H fun vs H1 => Ow.mkAskM C (spI X.K T C F) E dv vs H1 Q)) : DE X T E e (wMakeMn C F m ws) :=
  pe_imp he fun σ H Q ⟨g, M, S, n, k, x, rl, w, p⟩ => ⟨g, M, S, n, _, x, rl, w, (fun ds n1 vs M1 H1 s1 r1 e1 w1 => askM_of r1 (hd _ _ _) e1 w1.1 w1.2 (p.step s1)), p.2⟩
/-- C(e, ..), the __init__ with a star and nothing else, or with positions alone -/
theorem ask_of {K : PySem.W.Frag} {F : WI} {g : Gh} {n : Nat} {S : List Sl} {σ : L2.St} {M H : Hp} {k : KD} {x : KX} {Q : VK} {vs : List V} {ds : List D} (r : Rel K T g n S σ M H) (hr : Reps K g.pn M vs ds)
    (f : F ds n (fun fs n' => k (.ins C fs) n') x) (p : PostE K T E g S σ M k x Q) : Ow.mkAsk C (spI K T C F) E vs H Q := fun x0 dx nx nd ne => by
  have b0 := r.bs.enter true
  have b1 := b0.grow (same_upd (o := HO.own x0) nd)
  have n1 : (upd H dx (.own x0)) x0 = none := by
    rw [upd_ne (Ne.symm ne)]
    exact nx
  have b2 := b1.grow (same_upd (o := HO.ins C dx []) n1)
  exact spI_of r nx (Same.refl M) b2 upd_same (r.bs.mn nx) hr f p
end
section
variable {P : Program} {w : World} {K : PySem.W.Frag} {mg : Str → Option Value} {base : Heap} {T : Tb}
theorem Reps.slotsI {g : Gh} {n : Nat} {M H : Hp} {N : List Str} {vs : List V} {ds : List D} {C x0 dx : Addr} {self : Str} (h : Reps K g.pn M vs ds) (b : Bs K T g n M H) (hx : H x0 = some (.ins C dx [])) (mx : M x0 = none) (h0 : Nt g.H0 x0) : Rel K T g n (startI (self :: N) x0 C ds) (L2.start (self :: N) (.ref x0 :: vs)) M H := by
  have np : x0 ≠ g.pn := fun z => b.pen0 (by rw [← z]; exact h0)
  have r := h.slots (N := N) b
  have e2 : L2.start (self :: N) (.ref x0 :: vs) = some (.ref x0) :: L2.start N vs := by
    unfold L2.start
    simp
  rw [e2]
  have own : ∀ (i : Nat) (s : Sl), (startD N ds)[i]? = some s → s.isOwn = false := fun i s e => by
    have m := List.mem_of_getElem? e
    unfold startD at m
    rcases List.mem_append.mp m with m | m
    · obtain ⟨d, _, rfl⟩ := List.mem_map.mp m
      rfl
    · rw [(List.mem_replicate.mp m).2]
      rfl
  refine ⟨b, congrArg Nat.succ r.len, fun i s e => ?_, fun i j s t a e1 e2 o1 o2 q1 q2 => ?_, fun i s a e o q => ?_⟩
  · cases i with
    | zero => cases e; exact ⟨_, rfl, .ownI hx mx np .nil⟩
    | succ i => exact r.sl i s e
  · cases i with
    | succ i => rw [own i s e1] at o1; cases o1
    | zero =>
      cases j with
      | succ j => rw [own j t e2] at o2; cases o2
      | zero => rfl
  · cases i with
    | succ i => rw [own i s e] at o; cases o
    | zero => cases q; exact ⟨fun _ => h0, fun q e => (b.pinned q e).nt _ h0⟩
/-- what an __init__ asks -/
theorem init_body {C : Addr} {F : WI} {WB : WS} {N : List Str} {self : Str} {q : Str} {scope : Scope} {f : Addr} {cdv : Value} {A : Around} {outer : List Env} {s : Shared} {H : Hp} {vs : List V} {Q : VK} {E : XK} {body : List Stmt}
    (hb : PSs (cxOf (L2.CX P w) P w K mg base (self :: N) q scope f cdv A outer s H E) body (toTS K T E WB)) (h : ∀ x0 ds n k x, F ds n k x → WB (startI (self :: N) x0 C ds) n { nx := fun S' n' => ownIi C (gt S' 0) fun a fs => a = x0 ∧ k fs n', rt := fun _ _ => False } x)
    (sp : spI K T C F vs H Q E) : ∃ t, PSs (cxOf (L2.CX P w) P w K mg base (self :: N) q scope f cdv A outer s H E) body t ∧ t { nx := fun _ H' => Q .non H', rt := Q } (L2.start (self :: N) vs) H := by
  obtain ⟨g, n, ds, k, x, as, x0, dx, rfl, gs, b, mx, h0, hx, hr, f, p, ex⟩ := sp
  refine ⟨_, hb, g, g.M0, startI (self :: N) x0 C ds, n, _, x, gs, hr.slotsI b hx mx h0, h x0 _ _ _ _ f, ⟨fun S' n' σ' M' H' r' w' => ?_, fun _ _ _ _ _ _ _ z => z.elim, fun _ _ _ _ _ _ z => z.elim, fun _ _ _ _ _ _ z => z.elim⟩, ex⟩
  obtain ⟨a, fs, hs, ea, w2⟩ := slI_get w'
  subst ea
  obtain ⟨dx', us, e0, hH, hM, hn, hrf⟩ := r'.ownI hs
  exact p fs n' us dx' M' H' r'.bs hH hM hrf w2
end
end Dl

set_option Elab.async false
set_option linter.all false
set_option maxRecDepth 100000
set_option maxHeartbeats 4000000
/-! an own __iter__ that gives iter(a tuple in an attribute), the class of any attributes -/
namespace Ow
open PySem PySem.Spec PyProof.Rows L2
/-- what the class's __iter__ does with an instance: a new iterator over the tuple that its field holds -/
def ItRunF (P : Program) (w : World) (K : PySem.W.Frag) (mg : Str → Option Value) (base : Heap) (k : Nat) (C g : Addr) (nm : Str) : Prop := ∀ (A : Around) (outer : List Env) (s : Shared) (H : Hp) (a dx t : Addr) (fs : List (Str × V)) (zs : List V), Room k A → Env0 P w K mg base A outer s H →
  H a = some (.ins C dx fs) → fs.lookup nm = some (V.ref t) → SqT K H t zs →
  codeAny (model P w) A (.call (.ref g) ⟨[.ref a], []⟩) (fun r s' => ∃ it : Addr, r = .ok (.ret (.ref it)) ∧ s.heap.objs.size ≤ it ∧ s'.heap.IsTupleIter it t 0 ∧ CE outer P w H s (fun v H' => v = .ref it ∧ H' = H) (.ref it) s') s
theorem it_runF {P : Program} {w : World} {K : PySem.W.Frag} {mg : Str → Option Value} {base : Heap} {C g : Addr} {fd : FuncData} {st : Stmt} {q nm : Str} (F : L2.Fun K "__iter__" q st g fd) (S : FnScope ["self"] ["self"] (defScope st)) (b : Binds K fd ["self"] []) (cl : Cls K C) (nR : NoAttr K C nm)
    (body : ∀ (cdv : Value) (A : Around) (outer : List Env) (s : Shared) (H : Hp), PSs (cxOf CX0 P w K mg base ["self"] q (defScope st) g cdv A outer s H E0).nox (defBody st) (tRet (tCB (rIterT K s.heap.objs.size) (tCons (tFld K (tVar 0) nm) tNil)))) : ItRunF P w K mg base 1 C g nm := by
  intro A outer s H a dx t fs zs hr e0 ha hfs ht
  have hb : BindsTo s fd ⟨[.ref a], []⟩ ([("self" : Str)].zip [Value.ref a]) := b s [.ref a] (e0.mod.kin.keeps fun c o z => (e0.bs c o z).1) rfl
  refine codeAny_mono (run_here (CX := CX0) (k := 0) (E := E0) (vs := [V.ref a]) (R := fun v H' s' => ∃ it, v = .ref it ∧ s.heap.objs.size ≤ it ∧ s'.heap.IsTupleIter it t 0 ∧ CE outer P w H s (fun v H' => v = .ref it ∧ H' = H) (.ref it) s') F S rfl hr e0 hb (.cons rfl .nil) fun cdv _ => ⟨_, body cdv A outer s H, ?_⟩) fun r s' z => ?_
  · refine ⟨_, rfl, a, C, dx, _, _, rfl, ha, cl, nR, hfs, t, zs, rfl, ht, fun it nit hit pins σ s' I => ⟨it, rfl, hit, ?_, ?_⟩⟩
    · exact (I.hok it _ upd_same).1
    · have I2 := ItX.inv_drop (φ := fun h => h.IsTupleIter it t 0) I upd_same
      rw [ItX.dropH_upd nit] at I2
      exact ⟨.ref it, H, I2.os, I2.bare, I2.base, I2.hok, rfl, rfl, rfl⟩
  · obtain ⟨v, u, H', rfl, ru, it, rfl, h1, h2, h3⟩ := z
    cases (show u = Value.ref it from ru)
    exact ⟨it, rfl, h1, h2, h3⟩
section
variable {X : Cx} {tg : Expr} {C g : Addr} {k : Nat} {nm : Str}
/-- an instance of the class at C walked: the items of the tuple in its field -/
def iOwnF (K : PySem.W.Frag) (C : Addr) (nm : Str) (tl : TE) : TI := fun σ H R => tl σ H fun x H1 => ∃ a dx t fs, x = V.ref a ∧ H1 a = some (.ins C dx fs) ∧ fs.lookup nm = some (V.ref t) ∧ (∃ zs, SqT K H1 t zs) ∧ R (Itt K t) H1
theorem pi_ownF {l : Expr} {tl : TE} (hs : PySem.W.findIn X.K (.ref C) "__iter__" = some (some (.ref g))) (hf : PySem.W.isFn X.K (.ref g) = true) (G : ItRunF X.prog X.w X.K X.mg X.base k C g nm) (hr : Room k X.A) (hl : PE X l tl) : PI X tg l (iOwnF X.K C nm tl) := by
  refine ⟨fun pins s σ H R I h => ?_⟩
  refine thn (hl.run pins s σ H _ I h) fun v s1 ⟨x, H1, I1, r1, a, dx, t, fs, ex, ha, hfs, ⟨zs, ht⟩, q⟩ => ?_
  subst ex
  cases (show v = Value.ref a from r1)
  obtain ⟨ox, od, J, _⟩ := StX.insC_at (X := X) I1 (.inr ⟨dx, _, ha⟩)
  have called : wpAny (model X.prog X.w) X.A (call (.ref g) [.ref a]) (fun r s' => ∃ it : Addr, r = .ref it ∧ s1.heap.objs.size ≤ it ∧ s'.heap.IsTupleIter it t 0 ∧ CE X.stack X.prog X.w H1 s1 (fun v H' => v = .ref it ∧ H' = H1) (.ref it) s') X.xe s1 := by
    refine wpAny_call (codeAny_mono (G X.A X.stack s1 H1 a dx t fs zs hr I1.env0 ha hfs ht) fun r s' z => ?_)
    obtain ⟨it, rfl, z1, z2, z3⟩ := z
    exact ⟨it, rfl, z1, z2, z3⟩
  obtain ⟨m, hF⟩ := I1.fr
  refine PySem.W.owit_iter hF I1.ok.mod.kin J hs hf (wpAny_mono called (fun r s' z => ?_) fun _ _ z => z)
  obtain ⟨it, rfl, z1, z2, z3⟩ := z
  unfold PySem.W.OwitIt
  refine wpAny_specialOf z2.typeIs PySem.F.slot_tuple_iterator_next.lookup ?_
  obtain ⟨v, H', I2, rv, ev, eH⟩ := I1.after z3
  subst eH
  refine ⟨it, [it], _, _, H', rfl, I2, turn_tuple t it, z2, fun b hb => ?_, q⟩
  obtain rfl := List.mem_singleton.mp hb
  exact I1.fpOk z1 (I1.hok.fresh z1)
end
end Ow

set_option Elab.async false
set_option linter.all false
set_option maxRecDepth 100000
set_option maxHeartbeats 4000000
namespace Dl
open PySem PySem.Spec PyProof.Rows L2 LamX
/-! ### built-ins -/
theorem CallR.or {X : Cx} {f : Value} {r r' : List V → Hp → VK → Prop} (h : CallR X f r) (h' : CallR X f r') : CallR X f (fun xs H Q => r xs H Q ∨ r' xs H Q) := by
  intro pins s σ H xs us Q I rv q
  rcases q with q | q
  · exact h pins s σ H xs us Q I rv q
  · exact h' pins s σ H xs us Q I rv q
section
variable {K : PySem.W.Frag} {T : Tb} {E : XK}
theorem LRC.or {r r' : List V → Hp → VK → Prop} {f f' : WF} (h : LRC K T E r f) (h' : LRC K T E r' f') : LRC K T E (fun xs H Q => r xs H Q ∨ r' xs H Q) (fun ds n k x => f ds n k x ∨ f' ds n k x) := fun g n S σ M H vs ds Q k x rl rd q p => by
  rcases q with q | q
  · exact .inl (h g n S σ M H vs ds Q k x rl rd q p)
  · exact .inr (h' g n S σ M H vs ds Q k x rl rd q p)
theorem Reps.one {pn : Addr} {M : Hp} {vs : List V} {d : D} (h : Reps K pn M vs [d]) : ∃ v, vs = [v] ∧ Rep K pn M v d := by
  cases h with
  | cons h t => cases t; exact ⟨_, rfl, h⟩
theorem Reps.two {pn : Addr} {M : Hp} {vs : List V} {d e : D} (h : Reps K pn M vs [d, e]) : ∃ v w, vs = [v, w] ∧ Rep K pn M v d ∧ Rep K pn M w e := by
  cases h with
  | cons h t =>
    obtain ⟨w, rfl, t2⟩ := t.one
    exact ⟨_, _, rfl, h, t2⟩
/-- one argument -/
theorem lrc1 {r : List V → Hp → VK → Prop} {f : D → Nat → KD → KX → Prop} (h : LR1 K T E (fun v H Q => r [v] H Q) f) : LRC K T E r (fun ds n k x => match ds with
  | [d] => f d n k x
  | _ => False) := fun g n S σ M H vs ds Q k x rl rd q p => by
  cases rd with
  | nil => exact q.elim
  | cons h1 t =>
    cases t with
    | nil => exact h g n S σ M H _ _ Q k x rl h1 q p
    | cons _ _ => exact q.elim
abbrev F1 := D → Nat → KD → KX → Prop
def fOne (f : F1) : WF := fun ds n k x => match ds with
  | [d] => f d n k x
  | _ => False
def fLen : F1 := fun d n k _ =>
  match d with
  | .str y => y.length ≤ sizeLine ∧ k (.int (y.length : Nat)) n
  | .tup ds => k (.int (ds.length : Nat)) n
  | .lst ds => k (.int (ds.length : Nat)) n
  | _ => False
theorem lr_len : LRC K T E (fun xs H Q => ∃ x n, xs = [x] ∧ LenV K x H n ∧ Q (.int n) H) (fOne fLen) := lrc1 fun g n S σ M H v d Q k x r rd f p => by
  cases rd with
  | str y => exact ⟨_, _, rfl, ⟨f.1, rfl⟩, p.here r (.int _) f.2⟩
  | @tup a xs ds ha hx => exact ⟨_, _, rfl, .inr ⟨_, same_tup r.bs.sub ha, rfl⟩, by rw [hx.len]; exact p.here r (.int _) f⟩
  | @lst a xs ds ha hx => exact ⟨_, _, rfl, .inl ⟨_, .of (r.bs.sub _ _ ha), rfl⟩, by rw [hx.len]; exact p.here r (.int _) f⟩
  | _ => exact f.elim
def fTuple : F1 := fun d n k _ =>
  match d with
  | .tup ds => k (.tup ds) n
  | .lst ds => k (.tup ds) n
  | _ => False
theorem lr_tuple : LRC K T E (fun xs H Q => ∃ p ys, xs = [.ref p] ∧ ((SqL K H p ys ∧ ∀ l, H l = none → Q (.ref l) (upd H l (.tup ys))) ∨ (SqT K H p ys ∧ Q (.ref p) H))) (fOne fTuple) := lrc1 fun g n S σ M H v d Q k x r rd f p => by
  cases rd with
  | @tup a xs ds ha hx => exact ⟨_, _, rfl, .inr ⟨same_tup r.bs.sub ha, p.here r (.tup ha hx) f⟩⟩
  | @lst a xs ds ha hx => exact ⟨_, _, rfl, .inl ⟨.of (r.bs.sub _ _ ha), fun q nq => p.put r nq (fun ps z => by cases z) (fun sm => .tup (.of upd_same) (hx.mono sm)) f⟩⟩
  | _ => exact f.elim
def fInt : F1 := fun d n k _ =>
  match d with
  | .int i => k (.int i) n
  | .bl b => k (.int (if b then 1 else 0)) n
  | .str z => z.length ≤ 640 ∧ match intText? z with
    | some i => k (.int i) n
    | none => False
  | _ => False
theorem call_intA {X : Cx} : CallR X (.type "int") (fun xs H Q => ((∃ i, xs = [.int i] ∧ Q (.int i) H) ∨ ∃ k, xs = [.bl k] ∧ Q (.int (if k then 1 else 0)) H) ∨ ∃ a n, xs = [.str a] ∧ PySem.intText? a = some n ∧ a.length ≤ 640 ∧ Q (.int n) H) := by
  intro pins s σ H xs us Q I rs h
  rcases h with h | h
  · exact call_int1 pins s σ H xs us Q I rs h
  · exact call_int_str pins s σ H xs us Q I rs h
theorem lr_int : LRC K T E (fun xs H Q => ((∃ i, xs = [.int i] ∧ Q (.int i) H) ∨ ∃ k, xs = [.bl k] ∧ Q (.int (if k then 1 else 0)) H) ∨ ∃ a n, xs = [.str a] ∧ PySem.intText? a = some n ∧ a.length ≤ 640 ∧ Q (.int n) H) (fOne fInt) := lrc1 fun g n S σ M H v d Q k x r rd f p => by
  cases rd with
  | int i => exact .inl (.inl ⟨i, rfl, p.here r (.int _) f⟩)
  | bl b => exact .inl (.inr ⟨b, rfl, p.here r (.int _) f⟩)
  | str z =>
    obtain ⟨h1, h2⟩ := f
    cases q : intText? z with
    | none => rw [q] at h2; exact h2.elim
    | some i => rw [q] at h2; exact .inr ⟨z, i, rfl, q, h1, p.here r (.int _) h2⟩
  | _ => exact f.elim
def fAbs : F1 := fun d n k _ =>
  match d with
  | .int i => k (.int (if i < 0 then -i else i)) n
  | _ => False
theorem lr_abs : LRC K T E (fun xs H Q => ∃ i, xs = [.int i] ∧ Q (.int (if i < 0 then -i else i)) H) (fOne fAbs) := lrc1 fun g n S σ M H v d Q k x r rd f p => by
  cases rd with
  | int i => exact ⟨i, rfl, p.here r (.int _) f⟩
  | _ => exact f.elim
def fNeg : F1 := fun d n k _ =>
  match d with
  | .int i => k (.int (-i)) n
  | _ => False
theorem lr_neg : LR1 K T E (rU fun i => .int (-i)) fNeg := fun g n S σ M H v d Q k x r rd f p => by
  cases rd with
  | int i => exact ⟨i, rfl, p.here r (.int _) f⟩
  | _ => exact f.elim
/-- ints, truths, texts of a list -/
def intsOf : List D → Option (List Int)
  | [] => some []
  | .int i :: r => match intsOf r with
    | some ns => some (i :: ns)
    | none => none
  | _ => none
def blsOf : List D → Option (List Bool)
  | [] => some []
  | .bl i :: r => match blsOf r with
    | some ns => some (i :: ns)
    | none => none
  | _ => none
theorem reps_ints {pn : Addr} {M : Hp} : ∀ {vs : List V} {ds : List D} {ns : List Int}, Reps K pn M vs ds → intsOf ds = some ns → vs = ns.map V.int
  | _, _, _, .nil, e => by cases e; rfl
  | _, _, _, @Reps.cons _ _ _ v d vs ds h t, e => by
    cases h with
    | int i =>
      simp only [intsOf] at e
      cases q : intsOf ds with
      | none => rw [q] at e; cases e
      | some ms => rw [q] at e; cases e; rw [reps_ints t q]; rfl
    | _ => cases e
theorem reps_bls {pn : Addr} {M : Hp} : ∀ {vs : List V} {ds : List D} {ns : List Bool}, Reps K pn M vs ds → blsOf ds = some ns → vs = ns.map V.bl
  | _, _, _, .nil, e => by cases e; rfl
  | _, _, _, @Reps.cons _ _ _ v d vs ds h t, e => by
    cases h with
    | bl i =>
      simp only [blsOf] at e
      cases q : blsOf ds with
      | none => rw [q] at e; cases e
      | some ms => rw [q] at e; cases e; rw [reps_bls t q]; rfl
    | _ => cases e
theorem intsOf_map : ∀ ns : List Int, intsOf (ns.map D.int) = some ns
  | [] => rfl
  | n :: ns => by simp only [List.map_cons, intsOf, intsOf_map ns]
theorem blsOf_map : ∀ ns : List Bool, blsOf (ns.map D.bl) = some ns
  | [] => rfl
  | n :: ns => by simp only [List.map_cons, blsOf, blsOf_map ns]
def intsI (d : D) (k : List Int → Prop) : Prop :=
  match d with
  | .lst ds => match intsOf ds with
    | some ns => k ns
    | none => False
  | _ => False
def blsI (d : D) (k : List Bool → Prop) : Prop :=
  match d with
  | .lst ds => match blsOf ds with
    | some ns => k ns
    | none => False
  | _ => False
theorem rep_ints {pn : Addr} {M H : Hp} {v : V} {d : D} {k : List Int → Prop} (s : Same M H) (h : Rep K pn M v d) (q : intsI d k) : ∃ a ns, v = .ref a ∧ H a = some (.lst (ns.map V.int)) ∧ k ns := by
  cases h with
  | @lst a xs ds ha hx =>
    simp only [intsI] at q
    cases e : intsOf ds with
    | none => rw [e] at q; exact q.elim
    | some ns => rw [e] at q; exact ⟨a, ns, rfl, by rw [← reps_ints hx e]; exact s _ _ ha, q⟩
  | _ => exact q.elim
theorem rep_bls {pn : Addr} {M H : Hp} {v : V} {d : D} {k : List Bool → Prop} (s : Same M H) (h : Rep K pn M v d) (q : blsI d k) : ∃ a ns, v = .ref a ∧ H a = some (.lst (ns.map V.bl)) ∧ k ns := by
  cases h with
  | @lst a xs ds ha hx =>
    simp only [blsI] at q
    cases e : blsOf ds with
    | none => rw [e] at q; exact q.elim
    | some ns => rw [e] at q; exact ⟨a, ns, rfl, by rw [← reps_bls hx e]; exact s _ _ ha, q⟩
  | _ => exact q.elim
def fSum : F1 := fun d n k _ => intsI d fun ns => k (.int ns.sum) n
theorem sq_lt {H : Hp} {a : Addr} {xs : List V} (h : H a = some (.lst xs)) : SqL K H a xs := .of h
theorem lr_sum : LRC K T E (rSum K) (fOne fSum) := lrc1 fun g n S σ M H v d Q k x r rd f p => by
  obtain ⟨a, ns, rfl, h, q⟩ := rep_ints r.bs.sub rd f
  exact ⟨a, ns, rfl, .of h, p.here r (.int _) q⟩
def fMax : F1 := fun d n k _ => intsI d fun ns => 0 < ns.length ∧ ∀ m, m ∈ ns → (∀ y, y ∈ ns → y ≤ m) → k (.int m) n
def fMin : F1 := fun d n k _ => intsI d fun ns => 0 < ns.length ∧ ∀ m, m ∈ ns → (∀ y, y ∈ ns → m ≤ y) → k (.int m) n
theorem lr_max : LRC K T E (rMax K) (fOne fMax) := lrc1 fun g n S σ M H v d Q k x r rd f p => by
  obtain ⟨a, ns, rfl, h, hl, q⟩ := rep_ints r.bs.sub rd f
  exact ⟨a, ns, rfl, .of h, hl, fun m hm h => p.here r (.int _) (q m hm h)⟩
theorem lr_min : LRC K T E (rMin K) (fOne fMin) := lrc1 fun g n S σ M H v d Q k x r rd f p => by
  obtain ⟨a, ns, rfl, h, hl, q⟩ := rep_ints r.bs.sub rd f
  exact ⟨a, ns, rfl, .of h, hl, fun m hm h => p.here r (.int _) (q m hm h)⟩
def fAny : F1 := fun d n k _ => blsI d fun ns => k (.bl (ns.any id)) n
def fAll : F1 := fun d n k _ => blsI d fun ns => k (.bl (ns.all id)) n
theorem lr_any : LRC K T E (rAny K) (fOne fAny) := lrc1 fun g n S σ M H v d Q k x r rd f p => by
  obtain ⟨a, ns, rfl, h, q⟩ := rep_bls r.bs.sub rd f
  exact ⟨a, ns, rfl, .of h, p.here r (.bl _) q⟩
theorem lr_all : LRC K T E (rAll K) (fOne fAll) := lrc1 fun g n S σ M H v d Q k x r rd f p => by
  obtain ⟨a, ns, rfl, h, q⟩ := rep_bls r.bs.sub rd f
  exact ⟨a, ns, rfl, .of h, p.here r (.bl _) q⟩
/-- repr(x), x data of any depth without dicts and instances -/
def fRepr : F1 := fun d n k _ => ∃ p, toPy d = some p ∧ p.showable = true ∧ p.depth ≤ 20 ∧ p.shown.length ≤ sizeLine ∧ k (.str p.shown) n
theorem lr_repr : LRC K T E (Og.rRepr K) (fOne fRepr) := lrc1 fun g n S σ M H v d Q k x r rd f p => by
  obtain ⟨q, h1, h2, h3, h4, f⟩ := f
  exact ⟨v, q, rfl, rep_dp r.bs.sub rd h1, h2, h3, h4, p.here r (.str _) f⟩
/-- bool(x) of ints and truths -/
def fBool : F1 := fun d n k _ =>
  match d with
  | .int i => k (.bl (i != 0)) n
  | .bl b => k (.bl b) n
  | _ => False
theorem lr_bool : LRC K T E (fun xs H Q => (∃ i, xs = [.int i] ∧ Q (.bl (i != 0)) H) ∨ ∃ k, xs = [.bl k] ∧ Q (.bl k) H) (fOne fBool) := lrc1 fun g n S σ M H v d Q k x r rd f p => by
  cases rd with
  | int i => exact .inl ⟨i, rfl, p.here r (.bl _) f⟩
  | bl b => exact .inr ⟨b, rfl, p.here r (.bl _) f⟩
  | _ => exact f.elim
end
/-! ### isinstance -/
def optI (o : Option Bool) (k : Bool → Prop) : Prop :=
  match o with
  | some b => k b
  | none => False
def wIsi (tb : D → Option Bool) (a : WE) : WE := fun S n k x => a S n (fun d n1 => optI (tb d) fun b => k (.bl b) n1) x
/-- what tb tells of isinstance(x, c) -/
def Tells (K : PySem.W.Frag) (c : V) (tb : D → Option Bool) : Prop := ∀ (pn : Addr) (M H : Hp) (v : V) (d : D) (b : Bool), Same M H → Rep K pn M v d → tb d = some b → ∃ (t u : Value), ClsV c u ∧ TyX K H v t ∧ PySem.W.kitOne K t u = some b
structure InsF (K : PySem.W.Frag) (C : Addr) : Prop where
  cl : Cls K C
  ha : PySem.W.findIn K (.ref C) "__class__" = some (some (.builtin "object.__class__"))
  hn : PySem.W.specialIn K (.builtin "object.__class__") "__get__" = some (some (.builtin "getset_descriptor.__get__"))
  htk : PySem.W.takesIn K (.builtin "object.__class__") = some true
  hm : PySem.W.mroIn K C (.type "object") = some true
/-- the built-in types -/
def tyB (nm : String) (Cs : List Addr) : D → Option Bool
  | .non => some false
  | .bl _ => some (nm == "bool" || nm == "int")
  | .int _ => some (nm == "int")
  | .str _ => some (nm == "str")
  | .tup _ => some (nm == "tuple")
  | .lst _ => some (nm == "list")
  | .dct _ => some (nm == "dict")
  | .ins C _ => if C ∈ Cs then some false else none
  | _ => none
/-- a class of one's own -/
def tyC (C0 : Addr) (Cs : List Addr) : D → Option Bool
  | .non => some false
  | .bl _ => some false
  | .int _ => some false
  | .str _ => some false
  | .tup _ => some false
  | .lst _ => some false
  | .dct _ => some false
  | .ins C _ => if C = C0 then some true else if C ∈ Cs then some false else none
  | _ => none
/-- built-in kinds of values are told apart by the types -/
structure TyB (K : PySem.W.Frag) (nm : String) : Prop where
  non : PySem.W.kitOne K (.type "NoneType") (.type nm) = some false
  bl : PySem.W.kitOne K (.type "bool") (.type nm) = some (nm == "bool" || nm == "int")
  int : PySem.W.kitOne K (.type "int") (.type nm) = some (nm == "int")
  str : PySem.W.kitOne K (.type "str") (.type nm) = some (nm == "str")
  tup : PySem.W.kitOne K (.type "tuple") (.type nm) = some (nm == "tuple")
  lst : PySem.W.kitOne K (.type "list") (.type nm) = some (nm == "list")
  dct : PySem.W.kitOne K (.type "dict") (.type nm) = some (nm == "dict")
structure TyCl (K : PySem.W.Frag) (C : Addr) : Prop where
  non : PySem.W.kitOne K (.type "NoneType") (.ref C) = some false
  bl : PySem.W.kitOne K (.type "bool") (.ref C) = some false
  int : PySem.W.kitOne K (.type "int") (.ref C) = some false
  str : PySem.W.kitOne K (.type "str") (.ref C) = some false
  tup : PySem.W.kitOne K (.type "tuple") (.ref C) = some false
  lst : PySem.W.kitOne K (.type "list") (.ref C) = some false
  dct : PySem.W.kitOne K (.type "dict") (.ref C) = some false
section
variable {K : PySem.W.Frag}
theorem tyx_tup {H : Hp} {a : Addr} {xs : List V} (h : SqT K H a xs) : TyX K H (.ref a) (.type "tuple") := by
  rcases h with (h | ⟨o, h⟩) | ⟨o, its, n, h1, h2, _⟩
  · exact .base (.tup h)
  · exact .fTuple h
  · exact .kTuple h1 h2
theorem tells_ty {nm : String} {Cs : List Addr} (B : TyB K nm) (hC : ∀ C ∈ Cs, InsF K C ∧ PySem.W.kitOne K (.ref C) (.type nm) = some false) : Tells K (.ty nm) (tyB nm Cs) := fun pn M H v d b s h e => by
  cases h with
  | non => cases e; exact ⟨_, _, .ty nm, .base .non, B.non⟩
  | bl x => cases e; exact ⟨_, _, .ty nm, .base (.bl x), B.bl⟩
  | int x => cases e; exact ⟨_, _, .ty nm, .base (.int x), B.int⟩
  | str x => cases e; exact ⟨_, _, .ty nm, .base (.str x), B.str⟩
  | tup h r => cases e; exact ⟨_, _, .ty nm, tyx_tup (same_tup s h), B.tup⟩
  | lst h r => cases e; exact ⟨_, _, .ty nm, .base (.lst (s _ _ h)), B.lst⟩
  | dct h r => cases e; exact ⟨_, _, .ty nm, .base (.dK (s _ _ h)), B.dct⟩
  | @ins a C dx fs gs h r =>
    simp only [tyB] at e
    by_cases c : C ∈ Cs
    · rw [if_pos c] at e
      cases e
      obtain ⟨i, k⟩ := hC C c
      exact ⟨_, _, .ty nm, .base (.ins (s _ _ h) i.cl i.ha i.hn i.htk i.hm), k⟩
    · rw [if_neg c] at e
      cases e
  | _ => cases e
theorem tells_cl {C0 : Addr} {Cs : List Addr} (B : TyCl K C0) (h0 : InsF K C0 ∧ PySem.W.kitOne K (.ref C0) (.ref C0) = some true) (hC : ∀ C ∈ Cs, InsF K C ∧ PySem.W.kitOne K (.ref C) (.ref C0) = some false) : Tells K (.ref C0) (tyC C0 Cs) := fun pn M H v d b s h e => by
  cases h with
  | non => cases e; exact ⟨_, _, .own C0, .base .non, B.non⟩
  | bl x => cases e; exact ⟨_, _, .own C0, .base (.bl x), B.bl⟩
  | int x => cases e; exact ⟨_, _, .own C0, .base (.int x), B.int⟩
  | str x => cases e; exact ⟨_, _, .own C0, .base (.str x), B.str⟩
  | tup h r => cases e; exact ⟨_, _, .own C0, tyx_tup (same_tup s h), B.tup⟩
  | lst h r => cases e; exact ⟨_, _, .own C0, .base (.lst (s _ _ h)), B.lst⟩
  | dct h r => cases e; exact ⟨_, _, .own C0, .base (.dK (s _ _ h)), B.dct⟩
  | @ins a C dx fs gs h r =>
    simp only [tyC] at e
    by_cases z : C = C0
    · subst z
      rw [if_pos rfl] at e
      cases e
      obtain ⟨i, k⟩ := h0
      exact ⟨_, _, .own C, .base (.ins (s _ _ h) i.cl i.ha i.hn i.htk i.hm), k⟩
    · rw [if_neg z] at e
      by_cases c : C ∈ Cs
      · rw [if_pos c] at e
        cases e
        obtain ⟨i, k⟩ := hC C c
        exact ⟨_, _, .own C0, .base (.ins (s _ _ h) i.cl i.ha i.hn i.htk i.hm), k⟩
      · rw [if_neg c] at e
        cases e
  | _ => cases e
end
section
variable {X : Cx} {T : Tb} {E : XK} {e o a b : Expr} {es : List Expr} {st : Stmt} {pos : Pos} {wa wb wc : WE} {ws : WA} {F : WF} {C : Addr}
theorem optI_get {o : Option Bool} {k : Bool → Prop} (h : optI o k) : ∃ b, o = some b ∧ k b := by
  cases o with
  | none => exact h.elim
  | some b => exact ⟨b, rfl, h⟩
theorem de_isi {c : V} {tb : D → Option Bool} (he : PE X e (tCB (rIsi X.K) (tCons (toTE X.K T E wa) (tCons (tC c) tNil)))) (ht : Tells X.K c tb) : DE X T E e (wIsi tb wa) :=
  pe_imp he fun σ H Q ⟨g, M, S, n, k, x, rl, w, p⟩ => ⟨g, M, S, n, _, x, rl, w, (fun d n1 v M1 H1 s1 r1 h1 w1 => by
    obtain ⟨b, h, w1⟩ := optI_get w1
    obtain ⟨t, u, h2, h3, h4⟩ := ht _ _ _ _ _ _ r1.bs.sub h1 h
    exact ⟨v, c, t, u, b, rfl, h2, h3, h4, (p.step s1).here r1 (.bl _) w1⟩), p.2⟩
/-! ### slices -/
def cutD (xs : List D) (lo hi : Option Int) : List D := (xs.drop (HT.sIx xs.length 0 lo)).take (HT.sIx xs.length xs.length hi - HT.sIx xs.length 0 lo)
abbrev WO := List Sl → Nat → (Option Int → Nat → Prop) → KX → Prop
def wNoP : WO := fun _ n k _ => k none n
def wPart (a : WE) : WO := fun S n k x => a S n (fun d n1 => intI d fun i => k (some i) n1) x
def toTO (K : PySem.W.Frag) (T : Tb) (E : XK) (W : WO) : TO := fun σ H Q => ∃ (g : Gh) (M : Hp) (S : List Sl) (n : Nat) (k : Option Int → Nat → Prop) (x : KX), Rel K T g n S σ M H ∧ W S n k x ∧
  (∀ (o : Option Int) (n' : Nat) (M' H' : Hp), Same M M' → Rel K T g n' S σ M' H' → k o n' → Q o H') ∧ ExcP K T E g x
theorem po_imp {o : Option Expr} {t t' : TO} (he : PO X o t) (h : ∀ σ H Q, t' σ H Q → t σ H Q) : PO X o t' := ⟨fun pins s σ H Q I q => he.run pins s σ H Q I (h σ H Q q)⟩
theorem do_none : PO X none (toTO X.K T E wNoP) := po_imp po_none fun σ H Q ⟨g, M, S, n, k, x, rl, w, p⟩ => p.1 none n M H (Same.refl M) rl w
theorem do_some (h : DE X T E e wa) : PO X (some e) (toTO X.K T E (wPart wa)) := po_imp (po_some h) fun σ H Q ⟨g, M, S, n, k, x, rl, w, p⟩ => ⟨g, M, S, n, _, x, rl, w, (fun d n1 v M1 H1 s1 r1 h1 w1 => by
  obtain ⟨i, rfl, rfl, w1⟩ := rep_int h1 w1
  exact ⟨i, rfl, p.1 _ n1 M1 H1 s1 r1 w1⟩), p.2⟩
def fSl (d : D) (lo hi : Option Int) (n : Nat) (k : KD) : Prop :=
  match d with
  | .tup ds => k (.tup (cutD ds lo hi)) n
  | .lst ds => k (.lst (cutD ds lo hi)) n
  | .str z => z.length ≤ sizeLine ∧ k (.str (Txt.slice z lo hi)) n
  | _ => False
def wSl (a : WE) (lo hi : WO) : WE := fun S n k x => a S n (fun d n1 => lo S n1 (fun l n2 => hi S n2 (fun u n3 => fSl d l u n3 k) x) x) x
def rSlAll (K : PySem.W.Frag) : V → Option Int → Option Int → Hp → VK → Prop := fun x lo hi H Q => rSlA K x lo hi H Q ∨ (rSlL K x lo hi H Q ∨ C8.rSlX x lo hi H Q)
theorem sl_all : L2.SlR X (rSlAll X.K) := sl_tupA.or (sl_list.or C8.sl_txt)
theorem Reps.cut {K : PySem.W.Frag} {pn : Addr} {M : Hp} {vs : List V} {ds : List D} (h : Reps K pn M vs ds) (lo hi : Option Int) : Reps K pn M (cutV vs lo hi) (cutD ds lo hi) := by
  unfold cutV cutD
  rw [h.len]
  exact (h.drop _).take _
theorem de_sl {lo hi : Option Expr} {wl wh : WO} {p2 : Pos} (ha : DE X T E a wa) (hl : PO X lo (toTO X.K T E wl)) (hh : PO X hi (toTO X.K T E wh)) (hs : PE X e (tSl (rSlAll X.K) (toTE X.K T E wa) (toTO X.K T E wl) (toTO X.K T E wh))) : DE X T E e (wSl wa wl wh) :=
  pe_imp hs fun σ H Q ⟨g, M, S, n, k, x, rl, w, p⟩ => ⟨g, M, S, n, _, x, rl, w, (fun d n1 v M1 H1 s1 r1 h1 w1 => ⟨g, M1, S, n1, _, x, r1, w1, (fun l n2 M2 H2 s2 r2 w2 => ⟨g, M2, S, n2, _, x, r2, w2, (fun u n3 M3 H3 s3 r3 w3 => by
    have q := p.step ((s1.trans s2).trans s3)
    have h3 := h1.mono (s2.trans s3)
    cases h3 with
    | @tup a xs ds ha hx =>
      refine .inl ⟨a, xs, rfl, same_tup r3.bs.sub ha, fun z => ?_, fun _ y ny => q.put r3 ny (fun ps z => by cases z) (fun sm => .tup (.of upd_same) ((hx.mono sm).cut l u)) w3⟩
      have e : cutD ds l u = ds := by
        unfold cutD
        rw [hx.len] at z
        rw [z.1, z.2]
        simp
      have w3' : k (.tup (cutD ds l u)) n3 := w3
      rw [e] at w3'
      exact q.here r3 (.tup ha hx) w3'
    | @lst a xs ds ha hx => exact .inr (.inl ⟨a, xs, rfl, .of (r3.bs.sub _ _ ha), fun y ny => q.put r3 ny (fun ps z => by cases z) (fun sm => .lst upd_same ((hx.mono sm).cut l u)) w3⟩)
    | str z => exact .inr (.inr ⟨z, rfl, w3.1, q.here r3 (.str _) w3.2⟩)
    | _ => exact w3.elim), p.2⟩), p.2⟩), p.2⟩
/-! ### the iteration of an instance -/
def wItOwn (C : Addr) (nm : Str) (a : WE) : WA := fun S n k x => a S n (fun d n1 => insI C d fun fs => ∃ ds, fs.lookup nm = some (.tup ds) ∧ k ds n1) x
theorem di_own {tg : Expr} {nm : Str} (h : PI X tg e (Ow.iOwnF X.K C nm (toTE X.K T E wa))) : DI X T E tg e (wItOwn C nm wa) :=
  pi_imp h fun σ H R ⟨g, M, S, n, k, x, rl, w, p⟩ => ⟨g, M, S, n, _, x, rl, w, (fun d n1 v M1 H1 s1 r1 h1 w1 => by
    obtain ⟨a, dx, fs, gs, rfl, rfl, hm, rf, ds, hl, w1⟩ := rep_ins h1 w1
    obtain ⟨u, h2, h3⟩ := rf.look hl
    cases h3 with
    | @tup t xs ds ht hx => exact ⟨a, dx, t, fs, rfl, r1.bs.sub _ _ hm, h2, ⟨xs, same_tup r1.bs.sub ht⟩, p.1 ds n1 _ M1 H1 s1 r1 (walks_yat walk_tup (fun H s => same_tup s ht) hx) w1⟩), p.2⟩
/-! ### *e among arguments -/
def wStar (a : WE) (r : WA) : WA := fun S n k x => a S n (fun d n1 => seqI d fun ds => r S n1 (fun es n2 => k (ds ++ es) n2) x) x
theorem da_star {p : Pos} (ha : DE X T E e wa) (hr : DA X T E es ws) (hs : starEach (.Starred e p :: es) X.env = (true, eval e X.env) :: starEach es X.env := by rfl) : DA X T E (.Starred e p :: es) (wStar wa ws) :=
  pa_imp (StX.pa_star ha hr hs) fun σ H Q ⟨g, M, S, n, k, x, rl, w, p⟩ => ⟨g, M, S, n, _, x, rl, w, (fun d n1 v M1 H1 s1 r1 h1 w1 => by
    cases h1 with
    | @tup a xs ds ha hx => exact ⟨a, xs, rfl, .inl (same_tup r1.bs.sub ha), g, M1, S, n1, _, x, r1, w1, (fun es n2 vs M2 H2 s2 r2 e2 w2 => p.1 _ n2 _ M2 H2 (s1.trans s2) r2 ((hx.mono s2).append e2) w2), p.2⟩
    | @lst a xs ds ha hx => exact ⟨a, xs, rfl, .inr (.of (r1.bs.sub _ _ ha)), g, M1, S, n1, _, x, r1, w1, (fun es n2 vs M2 H2 s2 r2 e2 w2 => p.1 _ n2 _ M2 H2 (s1.trans s2) r2 ((hx.mono s2).append e2) w2), p.2⟩
    | _ => exact w1.elim), p.2⟩
end
end Dl

set_option Elab.async false
set_option linter.all false
set_option maxRecDepth 100000
set_option maxHeartbeats 4000000
/-! The end of a law whose def makes lambdas and asks that no repr is under way. -/
namespace Oq
open PySem PySem.Spec PyProof.Rows L2 Ow Og LamX
section
variable {P : Program} {w : World} {K : PySem.W.Frag} {mg mb : Str → Option Value} {CX : CXT} {k : Nat} {fa a : Addr} {fd : FuncData} {x : Str} {sp : Sp} {s0 : Shared} {vs : List Value} {ns : List Int} {cs : List (Addr × Addr)}
abbrev tab0 : Obj := { cls := .none, data := .fields #[] }
/-- what is tracked at the law's call: the script, as an object that nothing changes, and the empty tables -/
def Few (H : Hp) (a : Addr) (cs : List (Addr × Addr)) : Prop := ∀ b, H b = none ∨ (b = a ∧ ∃ ob xs, H b = some (.frz ob (.lst xs))) ∨ ((∃ p ∈ cs, b = p.2) ∧ H b = some (.tbl #[]))
theorem endT_at {H : Hp} (Ki : K.In s0.heap) (g1 : s0.heap.Ns mainGlobals mg) (g2 : s0.heap.Ns builtinsNs mb) (g3 : ∀ x : Str, x ≠ "__name__" → mb x = bootBuiltins x) (g4 : s0.heap.NoLimit) (g5 : s0.gens = #[])
    (tb : ∀ p ∈ cs, s0.heap.get? p.2 = some tab0) (C : ∀ p ∈ cs, PySem.W.CodeHd s0.heap p.1 p.2)
    (mo : ∃ (bm : Addr) (ob : Obj), mg "__builtins__" = some (.ref bm) ∧ bm ≠ builtinsNs ∧ s0.heap.get? bm = some ob ∧ ob.cls = .type "module" ∧ ob.dict = some builtinsNs ∧ ob.data = .plain)
    (ea : s0.heap.get? a = some { cls := .type "list", data := .seq vs.toArray }) (hr : Room k callerA) (F : ∀ base : Heap, K.In base → base.Ns mainGlobals mg → (∀ p ∈ cs, TabB base mg p.1 p.2) → FnG P w K mg base CX k fa fd [x] sp)
    (hb : ∀ (s : Shared) (u : Value), BindsTo s fd ⟨[u], []⟩ [(x, u)]) (few : Few H a cs) (own : ∀ b, H b ≠ none → K.lookup b = none) (hok : HOk P w H s0.heap) (hs : sp [.ref a] H (fun v _ => v = .bl true) fun _ _ _ => False)
    (hX : ∀ e s', CX [] H s0 (fun _ _ _ => False) e s' → False) :
    codeAny (model P w) callerA (.call (.ref fa) ⟨[.ref a], []⟩) (fun r s' => r = .ok (.ret (.bool true)) ∧ OldK s0.heap s'.heap ∧ s'.os = s0.os ∧ AllBare s'.gens) s0 := by
  -- neither a list nor an empty table: not tracked
  have loose : ∀ {b : Addr} {o : Obj}, s0.heap.get? b = some o → (∀ us n, o.data ≠ .seq us n) → o.data ≠ .fields #[] → H b = none := by
    intro b o e h1 h2
    rcases few b with z | ⟨rfl, _⟩ | ⟨⟨p, hp, rfl⟩, _⟩
    · exact z
    · rw [ea] at e
      cases e
      exact absurd rfl (h1 _ _)
    · rw [tb p hp] at e
      cases e
      exact absurd rfl h2
  have dict : ∀ {b : Addr} {o : Obj} {es : Array DictEntry} {ep : Nat}, s0.heap.get? b = some o → o.data = .dict es ep → H b = none := fun e d =>
    loose e (fun us n z => by rw [d] at z; cases z) (fun z => by rw [d] at z; cases z)
  have names : ∀ {b : Addr} {m : Str → Option Value}, s0.heap.Ns b m → (hidT s0.heap H).Ns b m := by
    rintro b m ⟨o, es, ep, e1, e2, r⟩
    exact ⟨o, es, ep, hidT_get e1 (dict e1 e2), e2, r⟩
  have Kb : K.In (hidT s0.heap H) := fun b o e => hidT_get (Ki b o e) (by
    rcases Option.eq_none_or_eq_some (H b) with z | ⟨y, z⟩
    · exact z
    · rw [own b (by rw [z]; exact Option.some_ne_none _)] at e
      cases e)
  obtain ⟨mc, l1, l2⟩ := g4
  have M : Mod K mg (hidT s0.heap H) := ⟨Kb, names g1, ⟨mb, names g2, g3⟩, ⟨mc, names l1, l2⟩⟩
  have gl : ∃ (o : Obj) (es : Array DictEntry) (ep : Nat), s0.heap.get? mainGlobals = some o ∧ o.data = .dict es ep := by
    obtain ⟨o, es, ep, e, d, _⟩ := id g1
    exact ⟨o, es, ep, e, d⟩
  have TB : ∀ p ∈ cs, TabB (hidT s0.heap H) mg p.1 p.2 := fun p hp => by
    obtain ⟨og, eg, ng, x1, x2⟩ := gl
    obtain ⟨bm, ob, b1, b2, b3, b4, b5, b6⟩ := mo
    obtain ⟨o, us, file, tf, flags, tg, inF, text, tt, c1, c2, c3, c4, c5, c6, c7, c8, c9, c10⟩ := C p hp
    have hc : H p.1 = none := loose c1 (fun us' n z => by rw [c3] at z; cases z) (fun z => by
      rw [c3] at z
      cases z
      cases c4)
    have hbm : H bm = none := loose b3 (fun us' n z => by rw [b6] at z; cases z) (fun z => by rw [b6] at z; cases z)
    refine ⟨⟨o, us, file, tf, flags, tg, inF, text, tt, hidT_get c1 hc, c2, c3, c4, c5, c6, c7, c8, c9, c10⟩, ⟨bm, ob, b1, b2, fun z => ?_, fun z => ?_, hidT_get b3 hbm, b4, b5, b6⟩, fun z => ?_⟩
    · rw [z, x1] at b3
      cases b3
      rw [x2] at b6
      cases b6
    · rw [z, tb p hp] at b3
      cases b3
      cases b6
    · rw [z, tb p hp] at x1
      cases x1
      cases x2
  have e0 : Env0 P w K mg (hidT s0.heap H) callerA [] s0 H := by
    refine ⟨rfl, M, fun b o e => of_hidT e, Nat.le_of_eq (hidT_size _ _), trivial, fun b z => ?_, hok, .of_eq g5⟩
    cases (show b ∈ ([] : List Addr) from z)
  refine codeAny_mono ((F _ Kb (names g1) TB).go (us := [.ref a]) (vs := [.ref a]) hr rfl e0 (hb s0 (.ref a)) (.cons (show RelV (.ref a) (.ref a) from rfl) .nil) hs) fun r s' z => ?_
  cases r with
  | error e => exact (hX e s' z).elim
  | ok fl =>
    cases fl with
    | ret u =>
      obtain ⟨v, H', os, bare, un, hok', ru, y⟩ := z
      obtain rfl : v = .bl true := y
      cases (show u = Value.bool true from ru)
      have fate : ∀ b o, s0.heap.get? b = some o → s'.heap.get? b = some o ∨ ((∃ p ∈ cs, b = p.2) ∧ o = tab0 ∧ ∃ more : Array Value, s'.heap.get? b = some { cls := .none, data := .fields more }) := fun b o e => by
        rcases few b with y | ⟨rfl, ob, xs, y⟩ | ⟨⟨p, hp, rfl⟩, y⟩
        · exact .inl (un.keep b o e y (fun q => nomatch (show b ∈ ([] : List Addr) from q)) (by simp))
        · have e1 := (hok _ _ y).1
          have e2 := (hok' _ _ (un.frzs _ ob _ y)).1
          rw [e] at e1
          cases e1
          exact .inl e2
        · obtain ⟨more, y2⟩ := un.tbls p.2 #[] y
          rw [tb p hp] at e
          cases e
          exact .inr ⟨⟨p, hp, rfl⟩, rfl, _, hok' p.2 _ y2⟩
      refine ⟨rfl, ⟨fun b o e => ?_, fun b o e => ?_⟩, os, bare⟩
      · rcases fate b o e with q | ⟨⟨p, hp, rfl⟩, rfl, more, q⟩
        · exact .inl q
        · exact .inr (.inl ⟨((C p hp).tab (tb p hp)).isCodeTable, rfl, #[], more, rfl, by rw [Array.empty_append]; exact q⟩)
      · rcases fate b o e with q | ⟨_, _, more, q⟩
        · exact ⟨o, q⟩
        · exact ⟨_, q⟩
    | next => exact z.elim
    | brk => exact z.elim
    | cont => exact z.elim
theorem endT_call (Ki : K.In s0.heap) (g1 : s0.heap.Ns mainGlobals mg) (g2 : s0.heap.Ns builtinsNs mb) (g3 : ∀ x : Str, x ≠ "__name__" → mb x = bootBuiltins x) (g4 : s0.heap.NoLimit) (g5 : s0.gens = #[])
    (tb : ∀ p ∈ cs, s0.heap.get? p.2 = some tab0) (nT : ∀ p ∈ cs, K.lookup p.2 = none) (C : ∀ p ∈ cs, PySem.W.CodeHd s0.heap p.1 p.2)
    (mo : ∃ (bm : Addr) (ob : Obj), mg "__builtins__" = some (.ref bm) ∧ bm ≠ builtinsNs ∧ s0.heap.get? bm = some ob ∧ ob.cls = .type "module" ∧ ob.dict = some builtinsNs ∧ ob.data = .plain)
    (ea : s0.heap.get? a = some { cls := .type "list", data := .seq vs.toArray }) (hi : IntsAre vs ns) (hl : ns.length ≤ sizeLine) (hr : Room k callerA) (F : ∀ base : Heap, K.In base → base.Ns mainGlobals mg → (∀ p ∈ cs, TabB base mg p.1 p.2) → FnG P w K mg base CX k fa fd [x] sp)
    (hb : ∀ (s : Shared) (u : Value), BindsTo s fd ⟨[u], []⟩ [(x, u)]) (hs : ∀ H : Hp, (∀ p ∈ cs, H p.2 = some (.tbl #[])) → SqL K H a (ns.map V.int) → sp [.ref a] H (fun v _ => v = .bl true) fun _ _ _ => False)
    (hX : ∀ H e s', CX [] H s0 (fun _ _ _ => False) e s' → False) :
    codeAny (model P w) callerA (.call (.ref fa) ⟨[.ref a], []⟩) (fun r s' => r = .ok (.ret (.bool true)) ∧ OldK s0.heap s'.heap ∧ s'.os = s0.os ∧ AllBare s'.gens) s0 := by
  have rv : Vals (ns.map V.int) vs := vals_ints hi
  -- the tables' part of the abstract heap
  let tH : Hp := fun b => if b ∈ cs.map (·.2) then some (.tbl #[]) else none
  have tIn : ∀ p ∈ cs, tH p.2 = some (.tbl #[]) := fun p hp => if_pos (List.mem_map.mpr ⟨p, hp, rfl⟩)
  have tOf : ∀ b u, tH b = some u → (∃ p ∈ cs, b = p.2) ∧ u = .tbl #[] := fun b u z => by
    by_cases h : b ∈ cs.map (·.2)
    · have z2 := (if_pos h).symm.trans z
      cases z2
      obtain ⟨p, hp, e⟩ := List.mem_map.mp h
      exact ⟨⟨p, hp, e.symm⟩, rfl⟩
    · have z2 := (if_neg h).symm.trans z
      cases z2
  have notA : ∀ p ∈ cs, p.2 ≠ a := fun p hp z => by
    have e := tb p hp
    rw [z, ea] at e
    have z2 : Data.seq vs.toArray _ = Data.fields #[] := congrArg Obj.data (Option.some.inj e)
    cases z2
  rcases Option.eq_none_or_eq_some (K.lookup a) with kn | ⟨o, kn⟩
  · let H : Hp := upd tH a (.frz { cls := .type "list", data := .seq vs.toArray } (.lst (ns.map V.int)))
    have at_a : H a = some (.frz { cls := .type "list", data := .seq vs.toArray } (.lst (ns.map V.int))) := upd_same
    have off : ∀ b, b ≠ a → H b = tH b := fun b h => upd_ne h
    refine endT_at (H := H) Ki g1 g2 g3 g4 g5 tb C mo ea hr F hb (fun b => ?_) (fun b h => ?_) (fun b u z => ?_) (hs H (fun p hp => by rw [off _ (notA p hp)]; exact tIn p hp) (.inl (.inr ⟨_, at_a⟩))) (hX H)
    · by_cases h : b = a
      · subst h
        exact .inr (.inl ⟨rfl, _, _, at_a⟩)
      · rcases Option.eq_none_or_eq_some (tH b) with z | ⟨u, z⟩
        · exact .inl ((off b h).trans z)
        · obtain ⟨q, rfl⟩ := tOf b u z
          exact .inr (.inr ⟨q, (off b h).trans z⟩)
    · by_cases hb : b = a
      · subst hb
        exact kn
      · rcases Option.eq_none_or_eq_some (tH b) with z | ⟨u, z⟩
        · exact absurd ((off b hb).trans z) h
        · obtain ⟨⟨p, hp, rfl⟩, _⟩ := tOf b u z
          exact nT p hp
    · by_cases h : b = a
      · subst h
        rw [at_a] at z
        cases z
        exact ⟨ea, by rw [List.length_map]; exact hl, vs, _, rv, ea⟩
      · obtain ⟨⟨p, hp, rfl⟩, rfl⟩ := tOf b u ((off b h).symm.trans z)
        exact tb p hp
  · have e := Ki a o kn
    rw [ea] at e
    cases e
    refine endT_at (H := tH) Ki g1 g2 g3 g4 g5 tb C mo ea hr F hb (fun b => ?_) (fun b h => ?_) (fun b u z => ?_) (hs tH tIn (.inr ⟨_, vs.toArray, _, kn, rfl, rfl, rfl, ?_, by simpa using rv⟩)) (hX tH)
    · rcases Option.eq_none_or_eq_some (tH b) with z | ⟨u, z⟩
      · exact .inl z
      · obtain ⟨q, rfl⟩ := tOf b u z
        exact .inr (.inr ⟨q, z⟩)
    · rcases Option.eq_none_or_eq_some (tH b) with z | ⟨u, z⟩
      · exact absurd z h
      · obtain ⟨⟨p, hp, rfl⟩, _⟩ := tOf b u z
        exact nT p hp
    · obtain ⟨⟨p, hp, rfl⟩, rfl⟩ := tOf b u z
      exact tb p hp
    · rw [List.size_toArray, ← rv.length, List.length_map]
      exact hl
end
/-- each def of the top has a code object whose table is empty -/
def Tabbed (q : Program) (mg : Str → Option Value) (h : Heap) : Prop := ∀ (nm : Str) (f : Addr), ((recsOf q).any fun e => e.name == nm) = true → mg nm = some (.ref f) →
  ∃ (o : Obj) (fd : FuncData) (c P : Addr), h.get? f = some o ∧ o.data = .func fd ∧ fd.code = .ref c ∧ PySem.W.CodeHd h c P ∧ h.get? P = some tab0
/-- the end, the tables those of the code objects cs -/
theorem walk_endT {l : PySem.W.OpenLaw} {n k : Nat} {q : Program} {loose : List Str} {XP : (Str → Option Value) → Heap → Prop} {YP : World → Heap → Prop} {d : DefRec} {CX : World → CXT} {x : Str} (most : l.most = some n) (lt : n ≤ sizeLine) (nod : d.params.defaults = []) (room : Room k callerA)
    (F : ∀ (w : World) (mg : Str → Option Value) (fa : Addr) (h : Heap), YP w h → Tabbed q mg h → h.Ns mainGlobals mg → mg d.name = some (.ref fa) → ∃ (K : PySem.W.Frag) (fd : FuncData) (cs : List (Addr × Addr)) (sp : Sp), K.In h ∧ (∀ p ∈ cs, h.get? p.2 = some tab0) ∧ (∀ p ∈ cs, K.lookup p.2 = none) ∧ (∀ p ∈ cs, PySem.W.CodeHd h p.1 p.2) ∧ (∀ (s : Shared) (u : Value), BindsTo s fd ⟨[u], []⟩ [(x, u)]) ∧
      (∀ (H : Hp) (a : Addr) (ns : List Int), ns.length ≤ n → (∀ p ∈ cs, H p.2 = some (.tbl #[])) → SqL K H a (ns.map V.int) → sp [.ref a] H (fun v _ => v = .bl true) fun _ _ _ => False) ∧ ∀ base : Heap, K.In base → base.Ns mainGlobals mg → (∀ p ∈ cs, TabB base mg p.1 p.2) → FnG l.prog w K mg base (CX w) k fa fd [x] sp)
    (hX : ∀ (w : World) (H : Hp) (s : Shared) (e : Value) (s' : Shared), CX w [] H s (fun _ _ _ => False) e s' → False) : PySem.W.WalkO q loose XP YP l.row.toRowW d [] (fun f vs => PySem.call f vs) := by
  refine Att.attach_call most nod fun w s₀ s1 mg mb fa o pm cd doc a vs ns G Y z1 z2 z3 z4 obj its short gens => ?_
  have own : Tabbed q mg s1.heap := fun nm f m1 m2 => by
    obtain ⟨r, r1, r2⟩ := List.any_eq_true.mp m1
    have r3 : r.name = nm := beq_iff_eq.mp r2
    obtain ⟨a2, o2, f2, c2, P2, h1, h2, h3, h4, h5, h6⟩ := G.T.tab r r1
    rw [r3, m2] at h1
    cases h1
    exact ⟨o2, f2, c2, P2, h2, h3, h4, .of h5 h6, h6.2⟩
  obtain ⟨K, fd, cs, sp, Ki, tb, nT, C, bd, pr, fn⟩ := F w mg fa _ Y own G.T.g z4
  exact endT_call Ki G.T.g G.T.b G.T.builtins G.T.nolimit gens tb nT C G.T.bmain obj its (Nat.le_trans short lt) room fn bd (fun H o q => pr H a ns short o q) fun H e s' => hX w H s1 e s'
end Oq

set_option Elab.async false
set_option linter.all false
set_option maxRecDepth 100000
set_option maxHeartbeats 4000000
namespace Dl
open PySem PySem.Spec PyProof.Rows L2 LamX
/-! ### a caught exception as a value -/
def wTry (N j : Nat) (hc : Addr → Bool) (wb : WS) : WS := fun S n D _ => wb S n D fun e n1 => hc e.1 = true ∧ D.nx ((List.replicate N Sl.un).set j (.val (.exc e.1 e.2))) n1
section
variable {X : Cx} {T : Tb} {E : XK} {e o a b : Expr} {es : List Expr} {st : Stmt} {pos : Pos} {wa wb wc : WE} {ws : WA} {F : WF} {C : Addr}
/-- what the try's body is wished to keep -/
def tHeld (K : PySem.W.Frag) (T : Tb) (wb : WS) : WX → TS := fun W D σ H => ∃ Ech : XK, (∀ cls d σ' H', Ech cls d H' → W cls d σ' H') ∧ toTS K T Ech wb D σ H
theorem ds_try {i j : Nat} {c : Value} {hc : Addr → Bool} {wb : WS} (hex : ∀ C, hc C = true → PySem.W.exmOne X.K (.ref C) c = some true) (ij : i ≠ j) (jN : j < X.N.length) (h : PS X st (fun D σ H => tHeld X.K T wb (Oe.wHeld X.K c i j X.N.length D) D σ H)) : DS X T E st (wTry X.N.length j hc wb) :=
  ps_imp h fun Dn σ H ⟨g, M, S, n, Dd, x, gs, rl, w, p, q⟩ => by
    refine ⟨fun cls d H' => ∀ σ', Oe.wHeld X.K c i j X.N.length Dn cls d σ' H', fun cls d σ' H' h => h σ', g, M, S, n, Dd, _, gs, rl, w, p, fun e n' cd dd M' H' bs rx ⟨h1, h2⟩ σ' => ?_⟩
    obtain ⟨rfl, d, fs, rfl, hd, rf⟩ := rx
    refine ⟨hex _ h1, fun a na hl => ?_⟩
    have mn := bs.mn na
    have sm := same_upd (o := Oe.ExK (.ref e.1) (some d) a) mn
    have b2 := bs.new (o := Oe.ExK (.ref e.1) (some d) a) na (fun ps z => by unfold Oe.ExK at z; cases z)
    have slot : ∀ (m : Nat) (s : Sl), ((List.replicate X.N.length Sl.un).set j (.val (.exc e.1 e.2)))[m]? = some s → (m = j ∧ s = .val (.exc e.1 e.2)) ∨ (m ≠ j ∧ s = .un ∧ m < X.N.length) := fun m s hm => by
      rcases set_get hm with ⟨rfl, rfl, _⟩ | ⟨ne, hm⟩
      · exact .inl ⟨rfl, rfl⟩
      · have := List.getElem?_eq_some_iff.mp hm
        obtain ⟨h3, h4⟩ := this
        rw [List.getElem_replicate] at h4
        rw [List.length_replicate] at h3
        exact .inr ⟨Ne.symm ne, h4.symm, h3⟩
    have lenS : (((σ'.set i (some (V.ref a))).set j (some (V.ref a))).set i none).length = X.N.length := by simp [hl]
    refine p.nx _ n' _ _ _ ⟨b2, by rw [List.length_set, List.length_replicate, lenS], fun m s hm => ?_, fun m1 m2 s1 s2 a1 e1 e2 o1 => ?_, fun m s a1 e1 o1 => ?_⟩ h2
    · rcases slot m s hm with ⟨rfl, rfl⟩ | ⟨ne, rfl, hmN⟩
      · refine ⟨some (.ref a), ?_, .val (.exc upd_same (sm _ _ hd) (rf.mono sm))⟩
        rw [List.getElem?_set_ne ij, List.getElem?_set_self (by rw [List.length_set, hl]; exact jN)]
      · exact ⟨_, List.getElem?_eq_getElem (by rw [lenS]; exact hmN), .un⟩
    · rcases slot m1 s1 e1 with ⟨rfl, rfl⟩ | ⟨_, rfl, _⟩
      · cases o1
      · cases o1
    · rcases slot m s e1 with ⟨rfl, rfl⟩ | ⟨_, rfl, _⟩
      · cases o1
      · cases o1
/-- isinstance(x, c), x perhaps a caught exception -/
def TellsX (K : PySem.W.Frag) (c : V) (tb : D → Option Bool) : Prop := ∀ (pn : Addr) (M H : Hp) (v : V) (d : D) (b : Bool), Same M H → Rep K pn M v d → tb d = some b → (∃ (t u : Value), ClsV c u ∧ TyX K H v t ∧ PySem.W.kitOne K t u = some b) ∨
  ∃ (C : Addr) (fs : List (Str × D)) (cv : Value), d = .exc C fs ∧ L2.ExcC K C ∧ (∀ u, RelV c u → u = cv) ∧ PySem.W.kitOne K (.ref C) cv = some b
def tyX (C0 : Addr) (Cs : List Addr) : D → Option Bool
  | .non => some false
  | .exc C _ => if C ∈ Cs then some (decide (C = C0)) else none
  | _ => none
theorem tells_x {K : PySem.W.Frag} {C0 : Addr} {Cs : List Addr} (hn : PySem.W.kitOne K (.type "NoneType") (.ref C0) = some false) (hC : ∀ C ∈ Cs, L2.ExcC K C ∧ PySem.W.kitOne K (.ref C) (.ref C0) = some (decide (C = C0))) : TellsX K (.ref C0) (tyX C0 Cs) := fun pn M H v d b s h e => by
  cases h with
  | non => cases e; exact .inl ⟨_, _, .own C0, .base .non, hn⟩
  | @exc a C dd fs gs h1 h2 r =>
    simp only [tyX] at e
    by_cases c : C ∈ Cs
    · rw [if_pos c] at e
      cases e
      exact .inr ⟨C, gs, .ref C0, rfl, (hC C c).1, fun u r => r, (hC C c).2⟩
    · rw [if_neg c] at e
      cases e
  | _ => cases e
theorem de_isX {c : V} {tb : D → Option Bool} (he : PE X e (tCB (fun xs H Q => rIsi X.K xs H Q ∨ Oe.rIsX X.K xs H Q) (tCons (toTE X.K T E wa) (tCons (tC c) tNil)))) (ht : TellsX X.K c tb) : DE X T E e (wIsi tb wa) :=
  pe_imp he fun σ H Q ⟨g, M, S, n, k, x, rl, w, p⟩ => ⟨g, M, S, n, _, x, rl, w, (fun d n1 v M1 H1 s1 r1 h1 w1 => by
    obtain ⟨b, h, w1⟩ := optI_get w1
    have fin := (p.step s1).here r1 (.bl _) w1
    rcases ht _ _ _ _ _ _ r1.bs.sub h1 h with ⟨t, u, h2, h3, h4⟩ | ⟨C, fs, cv, rfl, h2, h3, h4⟩
    · exact .inl ⟨v, c, t, u, b, rfl, h2, h3, h4, fin⟩
    · cases h1 with
      | @exc a _ dd us _ k1 k2 r => exact .inr ⟨a, C, some dd, c, cv, b, rfl, r1.bs.sub _ _ k1, (fun z e => ⟨_, by cases e; exact r1.bs.sub _ _ k2⟩), h2, h3, h4, fin⟩), p.2⟩
theorem call_isIX : CallR X (.builtin "isinstance") (fun xs H Q => rIsi X.K xs H Q ∨ Oe.rIsX X.K xs H Q) := CallR.or call_isi Oe.call_isX
/-- the field of a caught exception -/
def excI (Cs : List Addr) (d : D) (k : List (Str × D) → Prop) : Prop :=
  match d with
  | .exc C fs => C ∈ Cs ∧ k fs
  | _ => False
def wXk (Cs : List Addr) (f : Str) (a : WE) : WE := fun S n k x => a S n (fun d n1 => excI Cs d fun fs => ∃ y, fs.lookup f = some y ∧ k y n1) x
theorem de_xk {f : Str} {Cs : List Addr} (hC : ∀ C ∈ Cs, L2.XfC X.K C ∧ PySem.W.findIn X.K (.ref C) f = some none) (he : PE X e (Oe.tXk X.K f (toTE X.K T E wa))) : DE X T E e (wXk Cs f wa) :=
  pe_imp he fun σ H Q ⟨g, M, S, n, k, x, rl, w, p⟩ => ⟨g, M, S, n, _, x, rl, w, (fun d n1 v M1 H1 s1 r1 h1 w1 => by
    cases h1 with
    | @exc a C dd us gs k1 k2 r =>
      obtain ⟨hc, y, hy, w1⟩ := w1
      obtain ⟨u, h2, h3⟩ := r.look hy
      exact ⟨a, C, dd, us, u, rfl, r1.bs.sub _ _ k1, r1.bs.sub _ _ k2, (hC C hc).1, (hC C hc).2, h2, (p.step s1).here r1 h3 w1⟩
    | _ => exact w1.elim), p.2⟩
/-! ### a lambda that is handed to a def -/
abbrev Ask := Nat → KD → KX → Prop
def wAsk (f : Addr) (ask : Ask) : WE := fun S n k x => gt S 0 = .val (.obj f) ∧ ask n k x
def Tb.at (T : Tb) (g : Gh) (M H : Hp) : Tb := { T with pin := some ⟨g.pn, g.b, M, H⟩ }
theorem Bs.pin {K : PySem.W.Frag} {g : Gh} {n : Nat} {M H : Hp} (r : Bs K T g n M H) (h : T.pin = none) : Bs K (T.at g M H) (g.at M H true) n M H := by
  have b := r.enter true
  exact ⟨b.sub, b.pen, b.npn, b.pen0, b.b0, b.tab, b.ntb, b.ext, b.mnew, b.msub, fun q e => by cases e; exact ⟨rfl, rfl, Same.refl M, .refl _ _, fun a h => .inl h, fun a h => h⟩⟩
/-- what stands behind such a pin stands behind the place itself -/
theorem Bs.unpin {K : PySem.W.Frag} {g g' : Gh} {n n' : Nat} {M H M' H' : Hp} (hT : T.pin = none) (r : Bs K T g n M H) (q : Bs K (T.at g M H) g' n' M' H') : Bs K T (g.at M H true) n' M' H' ∧ g'.pn = g.pn ∧ g'.b = g.b := by
  have z := q.pinned _ rfl
  have e := r.enter true
  obtain ⟨h1, h2, h3, h4, h5, h6⟩ := z
  have ep : g'.pn = g.pn := h1
  have eb : g'.b = g.b := h2
  refine ⟨⟨q.sub, by rw [show (g.at M H true).pn = g'.pn from ep.symm, show (g.at M H true).b = g'.b from eb.symm]; exact q.pen, by rw [show (g.at M H true).pn = g'.pn from ep.symm]; exact q.npn, e.pen0, e.b0, q.tab, q.ntb, by rw [show (g.at M H true).pn = g'.pn from ep.symm]; exact h4, h5, h3, fun p hp => by rw [show T.pin = none from hT] at hp; cases hp⟩, ep, eb⟩
/-- the lambda's reading, whatever pin is told -/
def tPin (K : PySem.W.Frag) (T : Tb) (wb : WE) : XK → TE := fun E σ H Q => ∃ p : Pin, toTE K { T with pin := some p } E wb σ H Q
theorem pe_pin {X : Cx} {wb : WE} {e : Expr} {E : XK} (h : ∀ p : Pin, PE X e (toTE X.K { T with pin := some p } E wb)) : PE X e (tPin X.K T wb E) := ⟨fun pins s σ H Q I ⟨p, q⟩ => (h p).run pins s σ H Q I q⟩
/-- what a reading under a pin keeps -/
def AskOk (K : PySem.W.Frag) (T : Tb) (g : Gh) (M H : Hp) (tl : XK → Hp → VK → Prop) (ask : Ask) : Prop := ∀ (E : XK) (g' : Gh) (n' : Nat) (M' H' : Hp) (k : KD) (x : KX) (Q : VK), Bs K (T.at g M H) g' n' M' H' → ask n' k x →
  (∀ (d : D) (n2 : Nat) (v : V) (M2 H2 : Hp), Same M' M2 → Bs K (T.at g M H) (g'.at M' H' false) n2 M2 H2 → Rep K g'.pn M2 v d → k d n2 → Q v H2) → ExcP K (T.at g M H) E (g'.at M' H' false) x → tl E H' Q
def unO : Sl → Sl
  | .val d => .val d
  | _ => .un
theorem unO_own {s : Sl} : (unO s).isOwn = false := by cases s <;> rfl
theorem askL_of {K : PySem.W.Frag} {g : Gh} {n : Nat} {S : List Sl} {σ : L2.St} {M H : Hp} {wb : WE} (hT : T.pin = none) (r : Rel K T g n S σ M H) : AskOk K T g M H (fun E H' Q' => tPin K T wb E σ H' Q') (fun n' k x => wb (S.map unO) n' k x) := by
  intro E g' n' M' H' k x Q b w q ex
  obtain ⟨b2, ep, eb⟩ := r.bs.unpin hT b
  have r2 := r.back b2
  have get : ∀ (i : Nat) (s : Sl), (S.map unO)[i]? = some s → ∃ s', S[i]? = some s' ∧ s = unO s' := fun i s h => by
    rw [List.getElem?_map] at h
    cases e : S[i]? with
    | none => rw [e] at h; cases h
    | some s' => rw [e] at h; cases h; exact ⟨s', rfl, rfl⟩
  have r3 : Rel K (T.at g M H) (g'.at M' H' false) n' (S.map unO) σ M' H' := ⟨b.enter false, by rw [List.length_map]; exact r2.len, fun i s h => by
    obtain ⟨s', h0, rfl⟩ := get i s h
    obtain ⟨o, h1, h2⟩ := r2.sl i s' h0
    refine ⟨o, h1, ?_⟩
    rw [show (g'.at M' H' false).pn = g.pn from ep]
    cases h2 with
    | val h3 => exact .val h3
    | _ => exact .un, (fun i j s t a e1 e2 o1 => by
    obtain ⟨s', _, rfl⟩ := get i s e1
    rw [unO_own] at o1
    cases o1), (fun i s a h o => by
    obtain ⟨s', _, rfl⟩ := get i s h
    rw [unO_own] at o
    cases o)⟩
  exact ⟨⟨g.pn, g.b, M, H⟩, g'.at M' H' false, M', S.map unO, n', k, x, r3, w, fun d n2 v M2 H2 s2 r4 h4 k4 => q d n2 v M2 H2 s2 r4.bs h4 k4, ex⟩
/-- what the def that gets the lambda makes of it -/
def THd (K : PySem.W.Frag) (T : Tb) (Ng : List Str) (WB : Addr → Ask → WS) : (XK → Hp → VK → Prop) → Hp → VK → Prop := fun tl H Q => ∃ (g : Gh) (M : Hp) (n : Nat) (ask : Ask) (k : KD), Bs K T g n M H ∧ AskOk K T g M H tl ask ∧
  (∀ f, WB f ask (startD Ng [.obj f]) n { nx := fun _ n' => k .non n', rt := k } fun _ _ => False) ∧ ∀ (d : D) (n' : Nat) (v : V) (M' H' : Hp), Bs K (T.at g M H) (g.at M H true) n' M' H' → Rep K g.pn M' v d → k d n' → Q v H'
/-- f(lambda: ..) -/
def wHeard (Ng : List Str) (WB : Addr → Ask → WS) (wb : WE) : WE := fun S n k _ => ∀ f, WB f (fun n' k' x' => wb (S.map unO) n' k' x') (startD Ng [.obj f]) n { nx := fun _ n' => k .non n', rt := k } fun _ _ => False
theorem de_heard {Ng : List Str} {WB : Addr → Ask → WS} {wb : WE} (hT : T.pin = none) (he : PE X e (tLam T.tabs (THd X.K T Ng WB) (tPin X.K T wb))) : DE X T E e (wHeard Ng WB wb) :=
  pe_imp he fun σ H Q ⟨g, M, S, n, k, x, rl, w, p⟩ => ⟨rl.bs.tab, fun H1 e1 t1 => by
    have r1 := rl.extN e1 t1
    refine ⟨g, M, n, _, k, r1.bs, askL_of hT r1, w, fun d n' v M' H' b h q => ?_⟩
    obtain ⟨b2, _, _⟩ := r1.bs.unpin hT b
    exact p.1 d n' v M' H' b2.msub (r1.back b2) h q⟩
/-- the call of what it got, within the def that got it -/
theorem de_ask {f c' : Addr} {q : Str} {tl : XK → Hp → VK → Prop} {ask : Ask} {g : Gh} {M H : Hp} {Ech : XK} (hc : H c' = some (CodeO c' q)) (np : c' ≠ g.pn) (ok : AskOk X.K T g M H tl ask) (he : PE X e (fun σZ HZ Q => σZ[0]? = some (some (.ref f)) ∧ HZ c' = some (CodeO c' q) ∧ tl Ech HZ Q)) : PE X e (toTE X.K (T.at g M H) Ech (wAsk f ask)) :=
  pe_imp he fun σ HZ Q ⟨g', M', S, n, k, x, rl, ⟨hs, w⟩, p⟩ => by
    have h0 : σ[0]? = some (some (.ref f)) := by
      obtain ⟨v, h1, h2⟩ := rl.val (gt_get hs (fun z => by cases z))
      cases h2
      exact h1
    refine ⟨h0, ?_, ok Ech g' n M' HZ k x Q rl.bs w (fun d n2 v M2 H2 s2 b h q => p.1 d n2 v M2 H2 s2 (rl.back b) h q) (p.2.back rl.bs)⟩
    have z := rl.bs.pinned _ rfl
    exact z.ext.rl _ _ (by rw [z.epn]; exact np) hc (fun ps z => by unfold CodeO at z; cases z)
end
end Dl

set_option Elab.async false
set_option linter.all false
set_option maxRecDepth 100000
set_option maxHeartbeats 4000000
namespace Dl
open PySem PySem.Spec PyProof.Rows L2 LamX
/-! ### an own list, an own dict, lent to an expression -/
def flat : D → Bool
  | .non => true
  | .bl _ => true
  | .int _ => true
  | .str _ => true
  | _ => false
theorem flat_rep {K : PySem.W.Frag} {pn : Addr} {M M' : Hp} {v : V} {d : D} (h : Rep K pn M v d) (f : flat d = true) : Rep K pn M' v d := by
  cases h with
  | non => exact .non
  | bl b => exact .bl b
  | int b => exact .int b
  | str b => exact .str b
  | _ => cases f
def delM (M : Hp) (a : Addr) : Hp := fun b => if b = a then none else M b
theorem delM_same {M : Hp} {a : Addr} : delM M a a = none := by unfold delM; rw [if_pos rfl]
theorem delM_ne {M : Hp} {a b : Addr} (h : b ≠ a) : delM M a b = M b := by unfold delM; rw [if_neg h]
section
variable {K : PySem.W.Frag} {T : Tb} {E : XK} {g : Gh} {n : Nat} {S : List Sl} {σ : L2.St} {M H : Hp}
/-- the object at slot i lent: what stands then, and how it is taken back -/
theorem Rel.lend (r : Rel K T g n S σ M H) {i : Nat} {s : Sl} {d : D} {a : Addr} {o : HO} (h : S[i]? = some s) (so : s.isOwn = true) (e : σ[i]? = some (some (.ref a))) (hH : H a = some o) (po : Pl o) (mn : M a = none) (np : a ≠ g.pn) (rp : Rep K g.pn (upd M a o) (.ref a) d) :
    Rel K T (g.at (upd M a o) H false) n (S.set i (.val d)) σ (upd M a o) H ∧
    ∀ (n' : Nat) (M' H' : Hp), Bs K T (g.at (upd M a o) H false) n' M' H' → Same M (delM M' a) ∧ Rel K T g n' S σ (delM M' a) H' := by
  have nt : ∀ ps, o ≠ .tbl ps := fun ps z => by rw [z] at po; exact po
  have sm := same_upd (o := o) mn
  have b := r.bs
  have b2 : Bs K T (g.at (upd M a o) H false) n (upd M a o) H := by
    have e0 := b.enter false
    refine ⟨fun c u hc => ?_, b.pen, by rw [show (g.at (upd M a o) H false).pn = g.pn from rfl, upd_ne (Ne.symm np)]; exact b.npn, e0.pen0, e0.b0, b.tab, fun c ps hc => ?_, .refl _ _, fun c hc => .inl hc, Same.refl _, fun q hq => ?_⟩
    · by_cases z : c = a
      · subst z; rw [upd_same] at hc; cases hc; exact hH
      · rw [upd_ne z] at hc; exact b.sub _ _ hc
    · by_cases z : c = a
      · subst z; rw [upd_same] at hc; cases hc; exact nt ps rfl
      · rw [upd_ne z] at hc; exact b.ntb c ps hc
    · have z := b.pinned q hq
      have z2 := e0.pinned q hq
      refine ⟨z.epn, z.eb, z.sub.trans sm, z.ext, fun c hc => ?_, z2.nt⟩
      by_cases y : c = a
      · subst y
        exact .inr ((r.fr i s c h so e).2 q hq)
      · rw [upd_ne y] at hc
        exact z.mnew c hc
  refine ⟨⟨b2, by rw [List.length_set]; exact r.len, fun j t ht => ?_, fun j k t t' c e1 e2 o1 o2 q1 q2 => ?_, fun j t c ht ot q => ?_⟩, fun n' M' H' q => ?_⟩
  · rcases set_get ht with ⟨rfl, rfl, hl⟩ | ⟨ne, ht⟩
    · exact ⟨_, e, .val rp⟩
    · obtain ⟨v, h1, h2⟩ := r.sl j t ht
      exact ⟨v, h1, h2.freeze mn fun z y => ne (r.sep i j s t a h ht so z e (by rw [h1, y]))⟩
  · rcases set_get e1 with ⟨rfl, rfl, _⟩ | ⟨_, e1⟩
    · cases o1
    · rcases set_get e2 with ⟨rfl, rfl, _⟩ | ⟨_, e2⟩
      · cases o2
      · exact r.sep j k t t' c e1 e2 o1 o2 q1 q2
  · rcases set_get ht with ⟨rfl, rfl, _⟩ | ⟨_, ht⟩
    · cases ot
    · exact ⟨(fun z => by cases z), (r.fr j t c ht ot q).2⟩
  · have sd : Same M (delM M' a) := fun c u hc => by
      rw [delM_ne (ne_of_none hc mn)]
      exact q.msub _ _ (sm _ _ hc)
    have dn : ∀ {c : Addr} {u : HO}, H c = some u → Pl u → M c = none → delM M' a c = none := fun {c u} h1 h2 h3 => by
      by_cases z : c = a
      · subst z; exact delM_same
      · rw [delM_ne z]
        cases w : M' c with
        | none => rfl
        | some x =>
          rcases q.mnew c (by rw [w]; simp) with y | y
          · rw [show (g.at (upd M a o) H false).M0 = upd M a o from rfl, upd_ne z] at y
            exact absurd h3 y
          · obtain ⟨ps, y⟩ := y u h1
            rw [y] at h2
            exact h2.elim
    refine ⟨sd, ⟨⟨fun c u hc => ?_, q.pen, ?_, b.pen0, b.b0, q.tab, fun c ps hc => ?_, b.ext.trans q.ext, fun c hc => ?_, b.msub.trans sd, fun p hp => ?_⟩, r.len, fun j t ht => ?_, r.sep, r.fr⟩⟩
    · by_cases z : c = a
      · rw [z, delM_same] at hc; cases hc
      · rw [delM_ne z] at hc; exact q.sub _ _ hc
    · rw [delM_ne (Ne.symm np)]
      exact q.npn
    · by_cases z : c = a
      · rw [z, delM_same] at hc; cases hc
      · rw [delM_ne z] at hc; exact q.ntb c ps hc
    · by_cases z : c = a
      · rw [z, delM_same] at hc; exact absurd rfl hc
      · rw [delM_ne z] at hc
        rcases q.mnew c hc with y | y
        · rw [show (g.at (upd M a o) H false).M0 = upd M a o from rfl, upd_ne z] at y
          exact b.mnew c y
        · exact .inr (b.nt y)
    · have z := q.pinned p hp
      have z0 := b.pinned p hp
      refine ⟨z.epn, z.eb, z0.sub.trans sd, z.ext, fun c hc => ?_, z0.nt⟩
      by_cases y : c = a
      · rw [y, delM_same] at hc; exact absurd rfl hc
      · rw [delM_ne y] at hc
        exact z.mnew c hc
    · obtain ⟨v, h1, h2⟩ := r.sl j t ht
      refine ⟨v, h1, ?_⟩
      cases h2 with
      | un => exact .un
      | val h2 => exact .val (h2.mono sd)
      | own h4 h5 h6 h7 => exact .own (q.ext.rl _ _ h6 h4 (fun _ z => by cases z)) (dn h4 trivial h5) h6 (h7.mono sd)
      | ownD h4 h5 h6 h7 => exact .ownD (q.ext.rl _ _ h6 h4 (fun _ z => by cases z)) (dn h4 trivial h5) h6 (h7.mono sd)
      | ownI h4 h5 h6 h7 => exact .ownI (q.ext.rl _ _ h6 h4 (fun _ z => by cases z)) (dn h4 trivial h5) h6 (h7.mono sd)
theorem ExcP.lend (r : Rel K T g n S σ M H) {x : KX} {a : Addr} {o : HO} (p : ExcP K T E g x) (mn : M a = none) (back : ∀ (n' : Nat) (M' H' : Hp), Bs K T (g.at (upd M a o) H false) n' M' H' → Bs K T g n' (delM M' a) H' ∧ Bs K T g n' M' H') : ExcP K T E (g.at (upd M a o) H false) x := fun e n' c dd M' H' b h q => p e n' c dd M' H' (back n' M' H' b).2 h q
end
def lendI (s : Sl) (k : D → Prop) : Prop :=
  match s with
  | .own ds => k (.lst ds)
  | .ownD kvs => k (.dct kvs)
  | _ => False
theorem lend_get {S : List Sl} {i : Nat} {k : D → Prop} (h : lendI (gt S i) k) : ∃ s d, S[i]? = some s ∧ s.isOwn = true ∧ k d ∧ ((∃ ds, s = .own ds ∧ d = .lst ds) ∨ ∃ ds, s = .ownD ds ∧ d = .dct ds) := by
  cases e : gt S i with
  | own d => rw [e] at h; exact ⟨_, _, gt_get e (fun z => by cases z), rfl, h, .inl ⟨d, rfl, rfl⟩⟩
  | ownD d => rw [e] at h; exact ⟨_, _, gt_get e (fun z => by cases z), rfl, h, .inr ⟨d, rfl, rfl⟩⟩
  | _ => rw [e] at h; exact h.elim
theorem Rel.lent {K : PySem.W.Frag} {T : Tb} {g : Gh} {n : Nat} {S : List Sl} {σ : L2.St} {M H : Hp} (r : Rel K T g n S σ M H) {i : Nat} {s : Sl} {d : D} (h : S[i]? = some s) (hs : (∃ ds, s = .own ds ∧ d = .lst ds) ∨ ∃ ds, s = .ownD ds ∧ d = .dct ds) :
    ∃ a o, σ[i]? = some (some (.ref a)) ∧ H a = some o ∧ Pl o ∧ M a = none ∧ a ≠ g.pn ∧ Rep K g.pn (upd M a o) (.ref a) d := by
  obtain ⟨v, h1, h2⟩ := r.sl i s h
  rcases hs with ⟨ds, rfl, rfl⟩ | ⟨ds, rfl, rfl⟩
  · cases h2 with
    | own h4 h5 h6 h7 => exact ⟨_, _, h1, h4, trivial, h5, h6, .lst upd_same (h7.mono (same_upd h5))⟩
  · cases h2 with
    | ownD h4 h5 h6 h7 => exact ⟨_, _, h1, h4, trivial, h5, h6, .dct upd_same (h7.mono (same_upd h5))⟩
def wLend (i : Nat) (w : WE) : WE := fun S n k _ => lendI (gt S i) fun d => w (S.set i (.val d)) n (fun r n1 => flat r = true ∧ k r n1) fun _ _ => False
def wLendT (i : Nat) (w : WT) : WT := fun S n k _ => lendI (gt S i) fun d => w (S.set i (.val d)) n k fun _ _ => False
section
variable {X : Cx} {T : Tb} {E : XK} {e o a b : Expr} {es : List Expr} {st : Stmt} {body : List Stmt} {pos : Pos} {wa wb wc : WE} {wt : WT} {ws : WA} {w1 : WS}
theorem de_lend (i : Nat) (h : DE X T E e wa) : DE X T E e (wLend i wa) :=
  pe_imp h fun σ H Q ⟨g, M, S, n, k, x, rl, w, p⟩ => by
    obtain ⟨s, d, hs, so, w, hd⟩ := lend_get w
    obtain ⟨a, o, e0, hH, po, mn, np, rp⟩ := rl.lent hs hd
    obtain ⟨r2, back⟩ := rl.lend hs so e0 hH po mn np rp
    refine ⟨_, _, _, n, _, _, r2, w, fun d2 n2 v M2 H2 s2 r3 h3 w3 => ?_, excF⟩
    obtain ⟨sd, r4⟩ := back n2 M2 H2 (by
      have := r3.bs
      exact this)
    exact p.1 d2 n2 v _ H2 sd r4 (flat_rep h3 w3.1) w3.2
theorem dt_lend (i : Nat) (h : DT X T E e wt) : DT X T E e (wLendT i wt) :=
  pt_imp h fun σ H Q ⟨g, M, S, n, k, x, rl, w, p⟩ => by
    obtain ⟨s, d, hs, so, w, hd⟩ := lend_get w
    obtain ⟨a, o, e0, hH, po, mn, np, rp⟩ := rl.lent hs hd
    obtain ⟨r2, back⟩ := rl.lend hs so e0 hH po mn np rp
    refine ⟨_, _, _, n, _, _, r2, w, fun t n2 M2 H2 s2 r3 w3 => ?_, excF⟩
    obtain ⟨sd, r4⟩ := back n2 M2 H2 r3.bs
    exact p.1 t n2 _ H2 sd r4 w3
/-! ### dicts of one's own -/
def wSetOwnD (i : Nat) : WS := fun S n D _ => D.nx (S.set i (.ownD [])) n
theorem ds_setOwnD {i : Nat} (h : PS X st (tAsg tDNewK (gName i))) : DS X T E st (wSetOwnD i) :=
  ps_imp h fun Dn σ H ⟨g, M, S, n, Dd, x, gs, rl, w, p, q⟩ => fun a na => by
    have fr := rl.free na
    exact p.nx _ n _ M _ ((rl.grow (same_upd na)).setOwn rfl (.ownD upd_same (rl.bs.mn na) fr.np .nil) fr.h0 fun j s _ h o => fr.no j s h o) w
def ownDI (s : Sl) (k : List (Key × D) → Prop) : Prop :=
  match s with
  | .ownD ds => k ds
  | _ => False
def keyI (d : D) (k : Key → Prop) : Prop :=
  match d with
  | .int i => k (.inl i)
  | .str x => k (.inr x)
  | _ => False
theorem rep_key {K : PySem.W.Frag} {pn : Addr} {M : Hp} {v : V} {d : D} {k : Key → Prop} (h : Rep K pn M v d) (q : keyI d k) : ∃ y, v = kV y ∧ k y := by
  cases h with
  | int b => exact ⟨.inl b, rfl, q⟩
  | str b => exact ⟨.inr b, rfl, q⟩
  | _ => exact q.elim
def putKD (kvs : List (Key × D)) (k : Key) (v : D) : List (Key × D) :=
  if (kvs.any fun kv => decide (kv.1 = k)) = true then kvs.map (fun kv => if kv.1 = k then (kv.1, v) else kv) else kvs ++ [(k, v)]
def valD (kvs : List (Key × D)) (k : Key) : Option D := (kvs.find? fun kv => decide (kv.1 = k)).map (·.2)
theorem RepKs.any {K : PySem.W.Frag} {pn : Addr} {M : Hp} {k : Key} : ∀ {vs : List (Key × V)} {ds : List (Key × D)}, RepKs K pn M vs ds → (vs.any fun kv => decide (kv.1 = k)) = ds.any fun kv => decide (kv.1 = k)
  | _, _, .nil => rfl
  | _, _, .cons h t => by simp only [List.any_cons, RepKs.any t]
theorem RepKs.upd {K : PySem.W.Frag} {pn : Addr} {M : Hp} {k : Key} {v : V} {d : D} (h : Rep K pn M v d) : ∀ {vs : List (Key × V)} {ds : List (Key × D)}, RepKs K pn M vs ds → RepKs K pn M (vs.map fun kv => if kv.1 = k then (kv.1, v) else kv) (ds.map fun kv => if kv.1 = k then (kv.1, d) else kv)
  | _, _, .nil => .nil
  | _, _, @RepKs.cons _ _ _ y _ _ _ _ h1 t => by
    simp only [List.map_cons]
    by_cases e : y = k
    · rw [if_pos e, if_pos e]
      exact .cons h (RepKs.upd h t)
    · rw [if_neg e, if_neg e]
      exact .cons h1 (RepKs.upd h t)
theorem RepKs.snoc {K : PySem.W.Frag} {pn : Addr} {M : Hp} {k : Key} {v : V} {d : D} (h : Rep K pn M v d) : ∀ {vs : List (Key × V)} {ds : List (Key × D)}, RepKs K pn M vs ds → RepKs K pn M (vs ++ [(k, v)]) (ds ++ [(k, d)])
  | _, _, .nil => .cons h .nil
  | _, _, .cons h1 t => .cons h1 (RepKs.snoc h t)
theorem RepKs.put {K : PySem.W.Frag} {pn : Addr} {M : Hp} {k : Key} {v : V} {d : D} {vs : List (Key × V)} {ds : List (Key × D)} (h : Rep K pn M v d) (r : RepKs K pn M vs ds) : RepKs K pn M (putK vs k v) (putKD ds k d) := by
  unfold putK putKD
  rw [r.any]
  by_cases e : (ds.any fun kv => decide (kv.1 = k)) = true
  · rw [if_pos e, if_pos e]
    exact r.upd h
  · rw [if_neg e, if_neg e]
    exact r.snoc h
theorem RepKs.len {K : PySem.W.Frag} {pn : Addr} {M : Hp} : ∀ {fs : List (Key × V)} {gs : List (Key × D)}, RepKs K pn M fs gs → fs.length = gs.length
  | _, _, .nil => rfl
  | _, _, .cons _ t => congrArg Nat.succ (RepKs.len t)
theorem RepKs.val {K : PySem.W.Frag} {pn : Addr} {M : Hp} {k : Key} : ∀ {vs : List (Key × V)} {ds : List (Key × D)}, RepKs K pn M vs ds → (valV vs k = none ∧ valD ds k = none) ∨ ∃ v d, valV vs k = some v ∧ valD ds k = some d ∧ Rep K pn M v d
  | _, _, .nil => .inl ⟨rfl, rfl⟩
  | _, _, @RepKs.cons _ _ _ y v d vs ds h t => by
    unfold valV valD
    simp only [List.find?_cons]
    by_cases e : y = k
    · simp only [e, decide_true]
      exact .inr ⟨v, d, rfl, rfl, h⟩
    · simp only [e, decide_false]
      exact RepKs.val t
/-- name[k] = v, the name a dict of one's own -/
def wDPut (i : Nat) (wk wv : WE) : WS := fun S n D x => wv S n (fun d n1 => ownDI (gt S i) fun _ => wk S n1 (fun kd n2 => ownDI (gt S i) fun kvs => keyI kd fun y => kvs.length ≤ 10000 ∧ D.nx (S.set i (.ownD (putKD kvs y d))) n2) x) x
theorem slD_get {S : List Sl} {i : Nat} {k : List (Key × D) → Prop} (h : ownDI (gt S i) k) : ∃ d, S[i]? = some (.ownD d) ∧ k d := by
  cases e : gt S i with
  | ownD d => rw [e] at h; exact ⟨d, gt_get e (fun z => by cases z), h⟩
  | _ => rw [e] at h; exact h.elim
theorem Rel.ownD {K : PySem.W.Frag} {g : Gh} {n : Nat} {S : List Sl} {σ : L2.St} {M H : Hp} (r : Rel K T g n S σ M H) {i : Nat} {ds : List (Key × D)} (h : S[i]? = some (.ownD ds)) : ∃ a vs, σ[i]? = some (some (.ref a)) ∧ H a = some (.dK vs) ∧ M a = none ∧ a ≠ g.pn ∧ RepKs K g.pn M vs ds := by
  obtain ⟨o, h1, h2⟩ := r.sl i _ h
  cases h2 with
  | ownD h2 h3 h4 h5 => exact ⟨_, _, h1, h2, h3, h4, h5⟩
theorem ds_dput {i : Nat} (h : PS X st (sDPut (tVar i) (toTE X.K T E wb) (toTE X.K T E wa))) : DS X T E st (wDPut i wb wa) :=
  ps_imp h fun Dn σ H ⟨g, M, S, n, Dd, x, gs, rl, w, p, q⟩ => ⟨g, M, S, n, _, x, rl, w, (fun d n1 v M1 H1 s1 r1 h1 w1 => by
    obtain ⟨ds0, hs0, w1⟩ := slD_get w1
    obtain ⟨a, vs0, e0, _⟩ := r1.ownD hs0
    refine ⟨.ref a, e0, g, M1, S, n1, _, x, r1, w1, (fun kd n2 kv M2 H2 s2 r2 h2 w2 => ?_), q⟩
    obtain ⟨ds, hs, w2⟩ := slD_get w2
    obtain ⟨a', vs, e2, hH, hM, hn, hr⟩ := r2.ownD hs
    rw [e0] at e2
    cases e2
    obtain ⟨y, rfl, hl, w2⟩ := rep_key h2 w2
    refine ⟨a, _, rfl, .k hH (by rw [hr.len, sizeLine_eq]; omega), ?_⟩
    exact p.nx _ n2 σ M2 _ (r2.upOwn gs hs rfl rfl e0 hM (.ownD upd_same hM hn (RepKs.put (h1.mono s2) hr))) w2), q⟩
theorem dss_freezeD {i : Nat} (h : DSs X T E body w1) : DSs X T E body (fun S n D x => ownDI (gt S i) fun ds => w1 (S.set i (.val (.dct ds))) n D x) :=
  pss_imp h fun Dn σ H ⟨g, M, S, n, Dd, x, gs, rl, w, p, q⟩ => by
    obtain ⟨ds, h0, w⟩ := slD_get w
    obtain ⟨a, vs, e0, hH, hM, hn, hr⟩ := rl.ownD h0
    exact ⟨g, _, _, n, Dd, x, gs, rl.freezeSl h0 rfl e0 hH hM hn ((rl.fr i _ a h0 rfl e0).1 gs) (fun ps z => by cases z) (.dct upd_same (hr.mono (same_upd hM))), w, p, q⟩
/-- d.get(k, x) -/
def dctI (d : D) (k : List (Key × D) → Prop) : Prop :=
  match d with
  | .dct kvs => k kvs
  | _ => False
theorem rep_dct {K : PySem.W.Frag} {pn : Addr} {M : Hp} {v : V} {d : D} {k : List (Key × D) → Prop} (h : Rep K pn M v d) (q : dctI d k) : ∃ a vs ds, v = .ref a ∧ d = .dct ds ∧ M a = some (.dK vs) ∧ RepKs K pn M vs ds ∧ k ds := by
  cases h with
  | dct h r => exact ⟨_, _, _, rfl, rfl, h, r, q⟩
  | _ => exact q.elim
def wGet2 (a b c : WE) : WE := fun S n k x => a S n (fun d n1 => dctI d fun kvs => b S n1 (fun kd n2 => keyI kd fun y => c S n2 (fun e n3 => k ((valD kvs y).getD e) n3) x) x) x
theorem de_get2 (h : PE X e (tDGet2 (toTE X.K T E wa) (toTE X.K T E wb) (toTE X.K T E wc))) : DE X T E e (wGet2 wa wb wc) :=
  pe_imp h fun σ H Q ⟨g, M, S, n, k, x, rl, w, p⟩ => ⟨g, M, S, n, _, x, rl, w, (fun d n1 v M1 H1 s1 r1 h1 w1 => by
    obtain ⟨a, vs, ds, rfl, rfl, hm, hr, w1⟩ := rep_dct h1 w1
    refine ⟨a, rfl, .inl ⟨vs, .inl (r1.bs.sub _ _ hm)⟩, g, M1, S, n1, _, x, r1, w1, (fun kd n2 kv M2 H2 s2 r2 h2 w2 => ?_), p.2⟩
    obtain ⟨y, rfl, w2⟩ := rep_key h2 w2
    refine ⟨g, M2, S, n2, _, x, r2, w2, (fun e n3 v3 M3 H3 s3 r3 h3 w3 => ⟨_, .k (r3.bs.sub _ _ (s3 _ _ (s2 _ _ hm))), ?_⟩), p.2⟩
    have q := p.step ((s1.trans s2).trans s3)
    rcases hr.val (k := y) with ⟨z1, z2⟩ | ⟨u, d, z1, z2, z3⟩
    · rw [z1]
      rw [z2] at w3
      exact q.here r3 h3 w3
    · rw [z1]
      rw [z2] at w3
      exact q.here r3 (z3.mono (s2.trans s3)) w3), p.2⟩
end
end Dl

set_option Elab.async false
set_option linter.all false
set_option maxRecDepth 100000
set_option maxHeartbeats 4000000
namespace Dl
open PySem PySem.Spec PyProof.Rows L2 LamX
/-! ### defs, methods, classes by name -/
abbrev ga (K : PySem.W.Frag) (x : Str) : Addr := He.ga K x
abbrev ma (K : PySem.W.Frag) (c m : Str) : Addr := He.ma K (He.ga K c) m
structure FunAt (K : PySem.W.Frag) (mg : Str → Option Value) (nm : Str) (st : Stmt) (ps : List Str) : Prop where
  ex : ∃ fd, L2.Fun K nm nm st (ga K nm) fd ∧ Binds K fd ps []
  g : mg nm = some (.ref (ga K nm))
/-- a def's promise -/
structure Def (P : Program) (w : World) (K : PySem.W.Frag) (mg : Str → Option Value) (base : Heap) (nm : Str) (k : Nat) (ps : List Str) (F : WF) : Prop where
  ex : ∃ fd, (∀ T : Tb, FnD P w K mg base T k (ga K nm) fd ps F) ∧ PySem.W.keepIn K (.ref (ga K nm)) = true ∧ Binds K fd ps []
  g : mg nm = some (.ref (ga K nm))
structure MetAt (K : PySem.W.Frag) (c m q : Str) (st : Stmt) (ps : List Str) : Prop where
  ex : ∃ fd, L2.Fun K m q st (ma K c m) fd ∧ Binds K fd ps []
  me : Meth K (ga K c) m (ma K c m)
structure Met (P : Program) (w : World) (K : PySem.W.Frag) (mg : Str → Option Value) (base : Heap) (c m : Str) (k : Nat) (ps : List Str) (F : WF) : Prop where
  ex : ∃ fd, (∀ T : Tb, FnD P w K mg base T k (ma K c m) fd ps F) ∧ Binds K fd ps []
  me : Meth K (ga K c) m (ma K c m)
/-- a property: its own object p, its def g -/
structure PrpAt (K : PySem.W.Frag) (c m q : Str) (st : Stmt) : Prop where
  ex : ∃ p g fd, PropOf K (ga K c) m p g ∧ L2.Fun K m q st g fd ∧ Binds K fd ["self"] []
structure Prp (P : Program) (w : World) (K : PySem.W.Frag) (mg : Str → Option Value) (base : Heap) (c m : Str) (k : Nat) (F : WF) : Prop where
  ex : ∃ p g fd, PropOf K (ga K c) m p g ∧ (∀ T : Tb, FnD P w K mg base T k g fd ["self"] F) ∧ Binds K fd ["self"] []
section
variable {P : Program} {w : World} {K : PySem.W.Frag} {mg : Str → Option Value} {base : Heap}
theorem def_of {nm : Str} {st : Stmt} {N ps : List Str} {k : Nat} {F : WF} {WB : WS} (Fn : FunAt K mg nm st ps) (S : FnScope N ps (defScope st)) (len : ∀ ds n k x, F ds n k x → ds.length = ps.length)
    (body : ∀ (T : Tb) (f : Addr) (cdv : Value) (A : Around) (outer : List Env) (s : Shared) (H : Hp) (E : XK), Room k (A.deeper (envOfC nm (defScope st) s.heap.objs.size f cdv)) → PSs (cxOf (L2.CX P w) P w K mg base N nm (defScope st) f cdv A outer s H E) (defBody st) (toTS K T E WB))
    (h : ∀ ds n k x, F ds n k x → WB (startD N ds) n { nx := fun _ n' => k .non n', rt := k } x) : Def P w K mg base nm (k + 1) ps F := by
  obtain ⟨fd, F1, b⟩ := Fn.ex
  exact ⟨⟨fd, fun T => fnD_of F1 S len (body T _) h, F1.kp, b⟩, Fn.g⟩
theorem met_of {c m q : Str} {st : Stmt} {N ps : List Str} {k : Nat} {F : WF} {WB : WS} (Fn : MetAt K c m q st ps) (S : FnScope N ps (defScope st)) (len : ∀ ds n k x, F ds n k x → ds.length = ps.length)
    (body : ∀ (T : Tb) (f : Addr) (cdv : Value) (A : Around) (outer : List Env) (s : Shared) (H : Hp) (E : XK), Room k (A.deeper (envOfC q (defScope st) s.heap.objs.size f cdv)) → PSs (cxOf (L2.CX P w) P w K mg base N q (defScope st) f cdv A outer s H E) (defBody st) (toTS K T E WB))
    (h : ∀ ds n k x, F ds n k x → WB (startD N ds) n { nx := fun _ n' => k .non n', rt := k } x) : Met P w K mg base c m (k + 1) ps F := by
  obtain ⟨fd, F1, b⟩ := Fn.ex
  exact ⟨⟨fd, fun T => fnD_of F1 S len (body T _) h, b⟩, Fn.me⟩
theorem prp_of {c m q : Str} {st : Stmt} {N : List Str} {k : Nat} {F : WF} {WB : WS} (Fn : PrpAt K c m q st) (S : FnScope N ["self"] (defScope st)) (len : ∀ ds n k x, F ds n k x → ds.length = 1)
    (body : ∀ (T : Tb) (f : Addr) (cdv : Value) (A : Around) (outer : List Env) (s : Shared) (H : Hp) (E : XK), Room k (A.deeper (envOfC q (defScope st) s.heap.objs.size f cdv)) → PSs (cxOf (L2.CX P w) P w K mg base N q (defScope st) f cdv A outer s H E) (defBody st) (toTS K T E WB))
    (h : ∀ ds n k x, F ds n k x → WB (startD N ds) n { nx := fun _ n' => k .non n', rt := k } x) : Prp P w K mg base c m (k + 1) F := by
  obtain ⟨p, g, fd, hp, F1, b⟩ := Fn.ex
  exact ⟨⟨p, g, fd, hp, fun T => fnD_of F1 S len (body T _) h, b⟩⟩
theorem Def.mono {nm : Str} {ps : List Str} {k j : Nat} {F : WF} (d : Def P w K mg base nm k ps F) (h : k ≤ j) : Def P w K mg base nm j ps F := by
  obtain ⟨fd, F1, b⟩ := d.ex
  exact ⟨⟨fd, fun T => (F1 T).mono h, b⟩, d.g⟩
theorem Met.mono {c nm : Str} {ps : List Str} {k j : Nat} {F : WF} (d : Met P w K mg base c nm k ps F) (h : k ≤ j) : Met P w K mg base c nm j ps F := by
  obtain ⟨fd, F1, b⟩ := d.ex
  exact ⟨⟨fd, fun T => (F1 T).mono h, b⟩, d.me⟩
end
section
variable {X : Cx} {T : Tb} {E : XK} {e o a b : Expr} {es : List Expr} {st : Stmt} {pos p apos : Pos} {wa wb wc : WE} {ws : WA} {F : WF} {k : Nat} {ps : List Str} {nm m c : Str}
/-- f(..) -/
theorem de_def (d : Def X.prog X.w X.K X.mg X.base nm k ps F) (hr : Room k X.A) (hx : Passes (L2.CX X.prog X.w) X E) (ha : DA X T E (e :: es) ws) (hg : Gl X nm := by rfl) (hdb : (nm == ("__debug__" : Str)) = false := by decide)
    (he : starEach (e :: es) X.env = (false, eval e X.env) :: starEach es X.env := by rfl) (hpl : (backTo pos (starEach es X.env)).any (·.1) = false := by rfl) : DE X T E (.Call (.Name nm p) (e :: es) [] pos) (wF F ws) := by
  obtain ⟨fd, F1, kp, b⟩ := d.ex
  exact de_call (pe_call (F1 T) hr hg d.g kp b .nil hx ha hdb he hpl)
theorem spD_nil {K : PySem.W.Frag} {vs : List V} {H : Hp} {Q : VK} (h : spD K T F vs H Q E) : spD K T F (vs ++ []) H Q E := by
  rw [List.append_nil]
  exact h
theorem de_def0 (d : Def X.prog X.w X.K X.mg X.base nm k ps F) (hr : Room k X.A) (hx : Passes (L2.CX X.prog X.w) X E) (hg : Gl X nm := by rfl) (hdb : (nm == ("__debug__" : Str)) = false := by decide) : DE X T E (.Call (.Name nm p) [] [] pos) (wF F wNil) := by
  obtain ⟨fd, F1, kp, b⟩ := d.ex
  exact pe_imp (pe_call0 (F1 T) hr hg d.g kp b .nil hx hdb) fun σ H Q ⟨g, M, S, n, k, x, rl, w, p⟩ => spD_of rl .nil w p
/-- o.m(..) -/
theorem de_met (c0 : Cls X.K (ga X.K c)) (d : Met X.prog X.w X.K X.mg X.base c m k ps F) (hr : Room k X.A) (hx : Passes (L2.CX X.prog X.w) X E) (ho : DE X T E o wa) (ha : DA X T E (e :: es) ws) {pl : Sem Bool}
    (hst : starEach (e :: es) X.env = (false, eval e X.env) :: starEach es X.env := by rfl) (hpl : (backTo pos (starEach es X.env)).any (·.1) = false := by rfl)
    (ht : eval (.Call (.Attribute o m apos) (e :: es) [] pos) X.env = (do
      let ov ← eval o X.env
      standAt apos.atName
      let (f, first) ← holding [ov] (getMethod ov m pl)
      callWith pos f first (backTo pos (starEach (e :: es) X.env)) (backToKw pos (keywordEach [] X.env))) := by rfl) : DE X T E (.Call (.Attribute o m apos) (e :: es) [] pos) (wMeth (ga X.K c) m F wa ws) := by
  obtain ⟨fd, F1, b⟩ := d.ex
  exact de_meth (pe_meth ho c0 d.me (F1 T) hr b .nil hx ha hst hpl ht)
theorem de_met0 (c0 : Cls X.K (ga X.K c)) (d : Met X.prog X.w X.K X.mg X.base c m k ps F) (hr : Room k X.A) (hx : Passes (L2.CX X.prog X.w) X E) (ho : DE X T E o wa) {pl : Sem Bool}
    (ht : eval (.Call (.Attribute o m apos) [] [] pos) X.env = (do
      let ov ← eval o X.env
      standAt apos.atName
      let (f, first) ← holding [ov] (getMethod ov m pl)
      callWith pos f first (backTo pos (starEach [] X.env)) (backToKw pos (keywordEach [] X.env))) := by rfl) : DE X T E (.Call (.Attribute o m apos) [] [] pos) (wMeth (ga X.K c) m F wa wNil) := by
  obtain ⟨fd, F1, b⟩ := d.ex
  exact pe_imp (pe_meth0 ho c0 d.me (F1 T) hr b .nil hx ht) fun σ H Q ⟨g, M, S, n, k, x, rl, w, p⟩ => ⟨g, M, S, n, _, x, rl, w, (fun d n1 v M1 H1 s1 r1 h1 w1 => by
    obtain ⟨a, dx, fs, gs, rfl, rfl, hm, rf, hn, w1⟩ := rep_ins h1 w1
    exact ⟨a, dx, fs, rfl, r1.bs.sub _ _ hm, rf.none hn, spD_of r1 (.cons h1 .nil) w1 (p.step s1)⟩), p.2⟩
/-- o.f, a property -/
theorem de_prp (c0 : Cls X.K (ga X.K c)) (d : Prp X.prog X.w X.K X.mg X.base c m k F) (hr : Room (k + 1) X.A) (ho : DE X T E o wa) (hab : attributeBase o m X.env (eval o X.env) = eval o X.env := by rfl) : DE X T E (.Attribute o m pos) (wProp (ga X.K c) F wa) := by
  obtain ⟨q, g, fd, hp, F1, b⟩ := d.ex
  exact de_prop (pe_prop ho c0 hp (F1 T) hr b .nil passL hab)
/-- a def or method by positional values -/
theorem Met.raw (d : Met X.prog X.w X.K X.mg X.base c m k ps F) (T : Tb) : FnR X.prog X.w X.K X.mg X.base (L2.CX X.prog X.w) k (ma X.K c m) (spD X.K T F) := by
  obtain ⟨fd, F1, b⟩ := d.ex
  exact ((F1 T).raw b .nil).imp fun vs H Q E h => spD_nil h
/-- an item -/
theorem de_ix (ha : DE X T E a wa) (hb : DE X T E b wb) (hs : PlainIx b) : DE X T E (.Subscript a b pos) (wOp fIx wa wb) :=
  pe_imp (pe_ix ix_seq ha hb hs) fun σ H Q ⟨g, M, S, n, k, x, rl, w, p⟩ => ⟨g, M, S, n, _, x, rl, w, fun d1 n1 v1 M1 H1 s1 r1 e1 w1 =>
    ⟨g, M1, S, n1, _, x, r1, w1, fun d2 n2 v2 M2 H2 s2 r2 e2 w2 => lr_ix (E := E) g n2 S σ M2 H2 v1 v2 d1 d2 Q k x r2 (e1.mono s2) e2 w2 (p.step (s1.trans s2)), p.2⟩, p.2⟩
/-! ### in, of lists, tuples and texts -/
def rNotInT (K : PySem.W.Frag) : R2 := fun x y H Q => ∃ d ds, Dp K H x d ∧ Dp K H y (.tuple ds) ∧ SeqAt.shaped d = true ∧ SeqAt.shaped (.tuple ds) = true ∧ Q (.bl (!ds.any fun z => PyData.eqv z d)) H
theorem op_notInT (hu : X.A.units + 65 < cLine) : OpR X (compareOp .NotIn) (rNotInT X.K) := by
  intro pins s σ H x y v u Q I rx ry h
  obtain ⟨d, ds, hd, he, sd, se, q⟩ := h
  obtain ⟨as, r1⟩ := Dp.reads I d x v hd rx
  obtain ⟨bs, r2⟩ := Dp.reads I (.tuple ds) y u he ry
  exact SeqAt.notIn_tuple_reads r2 r1 (SeqAt.canLay_of_shaped se) (SeqAt.canLay_of_shaped sd) (room_in_shaped sd hu) ⟨.bl _, H, I, rfl, q⟩
def fInS (neg : Bool) : F2 := fun d e n k _ => pyv d fun p => pyv e fun q => match q with
  | .list ps => k (.bl (if neg = true then !anyEq ps p else anyEq ps p)) n
  | .tuple ps => k (.bl (if neg = true then !anyEq ps p else anyEq ps p)) n
  | _ => False
def rInA (K : PySem.W.Frag) : R2 := fun x y H Q => rInD K x y H Q ∨ rInT K x y H Q
def rNotInA (K : PySem.W.Frag) : R2 := fun x y H Q => rNotInD K x y H Q ∨ rNotInT K x y H Q
theorem op_inA (hu : X.A.units + 65 < cLine) : OpR X (compareOp .In) (rInA X.K) := (op_inD hu).or (op_inT hu)
theorem op_notInA (hu : X.A.units + 65 < cLine) : OpR X (compareOp .NotIn) (rNotInA X.K) := (op_notInD hu).or (op_notInT hu)
theorem lr_inA {K : PySem.W.Frag} : LR2 K T E (rInA K) (fInS false) := fun g n S σ M H v w d e Q k x r rd re f p => by
  obtain ⟨a, h1, h2, f⟩ := pyv_get f
  obtain ⟨q, h3, h4, f⟩ := pyv_get f
  cases q with
  | list ps => exact .inl ⟨a, ps, rep_dp r.bs.sub rd h1, rep_dp r.bs.sub re h3, h2, h4, p.here r (.bl _) f⟩
  | tuple ps => exact .inr ⟨a, ps, rep_dp r.bs.sub rd h1, rep_dp r.bs.sub re h3, h2, h4, p.here r (.bl _) f⟩
  | _ => exact f.elim
theorem lr_notInA {K : PySem.W.Frag} : LR2 K T E (rNotInA K) (fInS true) := fun g n S σ M H v w d e Q k x r rd re f p => by
  obtain ⟨a, h1, h2, f⟩ := pyv_get f
  obtain ⟨q, h3, h4, f⟩ := pyv_get f
  cases q with
  | list ps => exact .inl ⟨a, ps, rep_dp r.bs.sub rd h1, rep_dp r.bs.sub re h3, h2, h4, p.here r (.bl _) f⟩
  | tuple ps => exact .inr ⟨a, ps, rep_dp r.bs.sub rd h1, rep_dp r.bs.sub re h3, h2, h4, p.here r (.bl _) f⟩
  | _ => exact f.elim
/-! ### a, b = e, f -/
inductive Half where
  | val (w : WE) | own (w : WA) | dct
def hTE (K : PySem.W.Frag) (T : Tb) (E : XK) : Half → TE
  | .val w => toTE K T E w
  | .own w => toTF K T E w
  | .dct => tDNewK
def wPar (i j : Nat) (a b : Half) : WS := fun S n D x =>
  match a, b with
  | .val u, .val v => u S n (fun d n1 => v S n1 (fun e n2 => D.nx ((S.set i (.val d)).set j (.val e)) n2) x) x
  | .val u, .own v => u S n (fun d n1 => v S n1 (fun e n2 => D.nx ((S.set i (.val d)).set j (.own e)) n2) x) x
  | .dct, .own v => v S n (fun e n2 => D.nx ((S.set i (.ownD [])).set j (.own e)) n2) x
  | _, _ => False
theorem Fr.keep {K : PySem.W.Frag} {g : Gh} {n : Nat} {S : List Sl} {σ : L2.St} {M H : Hp} {p : Addr} {v : V} {i : Nat} {s : Sl} (fr : Fr g S σ p) (r : Rel K T g n S σ M H) (hv : s.isOwn = true → v ≠ .ref p) : Fr g (S.set i s) (σ.set i (some v)) p :=
  ⟨fr.np, fr.h0, fun j t ht ot z => by
    rcases set_get ht with ⟨rfl, rfl, hl⟩ | ⟨ne, ht⟩
    · rw [List.getElem?_set_self (by rw [← r.len]; exact hl)] at z
      cases z
      exact hv ot rfl
    · rw [List.getElem?_set_ne ne] at z
      exact fr.no j t ht ot z⟩
theorem ds_par {i j : Nat} {u v : Half} (h : PS X st (tPar i j (tCons (hTE X.K T E u) (tCons (hTE X.K T E v) tNil)))) : DS X T E st (wPar i j u v) :=
  ps_imp h fun Dn σ H ⟨g, M, S, n, Dd, x, gs, rl, w, p, q⟩ => by
    cases u with
    | val u =>
      cases v with
      | val v => exact ⟨g, M, S, n, _, x, rl, w, (fun d n1 y M1 H1 s1 r1 h1 w1 => ⟨g, M1, S, n1, _, x, r1, w1, (fun e n2 z M2 H2 s2 r2 h2 w2 => ⟨y, z, rfl, p.nx _ n2 _ M2 H2 ((r2.set (h1.mono s2)).set h2) w2⟩), q⟩), q⟩
      | own v => exact ⟨g, M, S, n, _, x, rl, w, (fun d n1 y M1 H1 s1 r1 h1 w1 => ⟨g, M1, S, n1, _, x, r1, w1, (fun ds n2 a vs M2 H2 s2 r2 hp mp fr ra w2 => by
          have r3 := r2.set (i := i) (h1.mono s2)
          have fr2 : Fr g (S.set i (.val d)) (σ.set i (some y)) a := fr.keep r2 fun z => by cases z
          exact ⟨y, .ref a, rfl, p.nx _ n2 _ M2 H2 (r3.setOwn rfl (.own hp mp fr.np ra) fr.h0 fun m s _ h o => fr2.no m s h o) w2⟩), q⟩), q⟩
      | dct => exact w.elim
    | own u => cases v <;> exact w.elim
    | dct =>
      cases v with
      | own v =>
        intro a0 na
        have r1 := rl.grow (same_upd (o := HO.dK []) na)
        have fr0 := rl.free na
        have h0 : (upd H a0 (HO.dK [])) a0 = some (HO.dK []) := upd_same
        have m0 : M a0 = none := rl.bs.mn na
        refine ⟨g.at M (upd H a0 (.dK [])) false, M, S, n, _, x, r1.enter, w, (fun ds n2 a vs M2 H2 s2 r2 hp mp fr ra w2 => ?_), q.back r1.bs⟩
        have r3 := r1.back r2.bs
        have d2 : H2 a0 = some (.dK []) := r2.bs.ext.rl _ _ fr0.np h0 (fun _ z => by cases z)
        have md : M2 a0 = none := by
          cases e : M2 a0 with
          | none => rfl
          | some o =>
            rcases r2.bs.mnew a0 (by rw [e]; simp) with z | z
            · exact absurd m0 z
            · obtain ⟨ps, z⟩ := z _ h0
              cases z
        have ne : a0 ≠ a := fun z => by
          obtain ⟨ps, z⟩ := fr.h0 _ (by rw [← z]; exact h0)
          cases z
        have r4 := r3.setOwn (i := i) (s0 := .ownD []) rfl (.ownD d2 md fr0.np .nil) fr0.h0 fun m s _ h o => fr0.no m s h o
        have frg : Fr g S σ a := ⟨fr.np, r1.bs.nt fr.h0, fr.no⟩
        have fr2 : Fr g (S.set i (.ownD [])) (σ.set i (some (.ref a0))) a := frg.keep r3 fun _ z => ne (by cases z; rfl)
        exact ⟨.ref a0, .ref a, rfl, p.nx _ n2 _ M2 H2 (r4.setOwn rfl (.own hp mp fr.np ra) frg.h0 fun m s _ h o => fr2.no m s h o) w2⟩
      | _ => exact w.elim
end
end Dl

set_option Elab.async false
set_option linter.all false
set_option maxRecDepth 100000
set_option maxHeartbeats 4000000
namespace Oq
open PySem PySem.Spec PyProof.Rows L2 Ow Og LamX
section
variable {P : Program} {w : World} {K : PySem.W.Frag} {mg : Str → Option Value} {base : Heap} {CX : CXT} {j k : Nat} {f : Addr} {fd : FuncData} {ps : List Str} {sp sp' : Sp}
/-- a def's body, run at this state, its code object known -/
theorem run_genD {x q : Str} {st : Stmt} {N : List Str} {A : Around} {outer : List Env} {s : Shared} {H : Hp} {ar : Args} {us : List Value} {vs : List V} {Q : VK} {E : XK}
    (F : L2.Fun K x q st f fd) (S : FnScope N ps (defScope st)) (hl : vs.length = ps.length) (hr : Room (k + 1) A) (e0 : Env0 P w K mg base A outer s H) (hb : BindsTo s fd ar (ps.zip us)) (r : Vals vs us)
    (body : ∀ cdv : Value, fd.code = cdv → Room k (A.deeper (envOfC q (defScope st) s.heap.objs.size f cdv)) → ∃ t, PSs (cxOf CX P w K mg base N q (defScope st) f cdv A outer s H E) (defBody st) t ∧ t { nx := fun _ H' => Q .non H', rt := Q } (start N vs) H) :
    codeAny (model P w) A (.call (.ref f) ar) (CR CX outer P w H s Q E) s := by
  obtain ⟨oc, od, kV, doc, pm, an, cdv, ct, osl, rfl, lk, hcd⟩ := F.ex
  have Xin : K.In s.heap := e0.mod.kin.keeps fun b o z => (e0.bs b o z).1
  have free : s.heap.NoLimit := e0.mod.nolimit.keeps fun b o z => (e0.bs b o z).1
  have kinds : ∀ y ∈ ps.zip us, (defScope st).names.lookup y.1 = some .local ∨ ((defScope st).names.lookup y.1 = some .cell ∧ ((cellsFrom (s.heap.objs.size + 1) (defScope st).names []).lookup y.1).isSome = true) := by
    rintro ⟨n, v⟩ hy
    rcases S.par n (List.of_mem_zip hy).1 with z | z
    · exact .inl z
    · exact .inr ⟨z, PySem.W.cellsFrom_some _ _ _ (.inl z)⟩
  refine codeAny_call_function hr.depth (Xin _ _ lk) rfl S.co S.gen rfl (PySem.W.codeRec_of Xin hcd) (hb _ _ _ _ ?_)
  refine wpAny_newFunctionEnv_cells S.kind kinds fun env he s1 z => ?_
  subst he
  refine ⟨free.keeps z.toInCall.keep, codeAny_func ?_⟩
  obtain ⟨t, ht, hq⟩ := body cdv rfl (hr.deeper _)
  have J := inv_start (CX := CX) (E := E) S hr.hd e0 hl r z
  have fin : ∀ {σ' : L2.St} {H' : Hp} {v : V} {u : Value} {s' : Shared}, Inv (cxOf CX P w K mg base N q (defScope st) f cdv A outer s H E) [] σ' H' s' → RelV v u → Q v H' → CE outer P w H s Q u s' :=
    fun J2 rv y => ⟨_, _, J2.os, J2.bare, J2.base, J2.hok, rv, y⟩
  refine wpAny_mono (ht.run [] s1 (start N vs) H _ J hq) (fun fl s' hs => ?_) fun e s' hs => hs
  cases fl with
  | ret u =>
    obtain ⟨v, σ', H', J2, rv, y⟩ := hs
    exact fin J2 rv y
  | next =>
    obtain ⟨σ', H', J2, y⟩ := hs
    exact fin (v := V.non) (u := Value.none) J2 rfl y
  | brk =>
    obtain ⟨_, _, _, z⟩ := hs
    exact z.elim
  | cont =>
    obtain ⟨_, _, _, z⟩ := hs
    exact z.elim
/-- a body run at this state, the code object known, no repr under way -/
theorem okGD {x q : Str} {st : Stmt} {N : List Str} (F : L2.Fun K x q st f fd) (S : FnScope N ps (defScope st)) (len : ∀ vs H Q E, sp vs H Q E → vs.length = ps.length)
    (body : ∀ (cdv : Value) (A : Around) (outer : List Env) (s : Shared) (H : Hp) (vs : List V) (Q : VK) (E : XK), fd.code = cdv → Room k (A.deeper (envOfC q (defScope st) s.heap.objs.size f cdv)) → A.guards = some [] → sp vs H Q E →
      ∃ t, PSs (cxOf CX P w K mg base N q (defScope st) f cdv A outer s H E) (defBody st) t ∧ t { nx := fun _ H' => Q .non H', rt := Q } (start N vs) H) : FnG P w K mg base CX (k + 1) f fd ps sp :=
  ⟨fun h => len _ _ _ _ h, fun hr hg e0 hb r h => run_genD F S (len _ _ _ _ h) hr e0 hb r fun cdv hc hr2 => body cdv _ _ _ _ _ _ _ hc hr2 hg h⟩
end
end Oq
namespace Dl
open PySem PySem.Spec PyProof.Rows L2 LamX
/-! ### defs that are called while no repr is under way; tables of their own -/
structure DefG (P : Program) (w : World) (K : PySem.W.Frag) (mg : Str → Option Value) (base : Heap) (T : Tb) (nm : Str) (k : Nat) (ps : List Str) (F : WF) : Prop where
  ex : ∃ fd, Og.FnG P w K mg base (L2.CX P w) k (ga K nm) fd ps (spD K T F) ∧ PySem.W.keepIn K (.ref (ga K nm)) = true ∧ Binds K fd ps []
  g : mg nm = some (.ref (ga K nm))
section
variable {P : Program} {w : World} {K : PySem.W.Frag} {mg : Str → Option Value} {base : Heap} {T : Tb}
theorem Def.toG {nm : Str} {k : Nat} {ps : List Str} {F : WF} (d : Def P w K mg base nm k ps F) : DefG P w K mg base T nm k ps F := by
  obtain ⟨fd, F1, kp, b⟩ := d.ex
  exact ⟨⟨fd, .of (F1 T), kp, b⟩, d.g⟩
theorem defG_of {nm : Str} {st : Stmt} {N ps : List Str} {k : Nat} {F : WF} {WB : WS} {fd : FuncData} (F1 : L2.Fun K nm nm st (ga K nm) fd) (b : Binds K fd ps []) (hm : mg nm = some (.ref (ga K nm))) (S : FnScope N ps (defScope st)) (len : ∀ ds n k x, F ds n k x → ds.length = ps.length)
    (body : ∀ (cdv : Value) (A : Around) (outer : List Env) (s : Shared) (H : Hp) (E : XK), fd.code = cdv → Room k (A.deeper (envOfC nm (defScope st) s.heap.objs.size (ga K nm) cdv)) → A.guards = some [] → PSs (cxOf (L2.CX P w) P w K mg base N nm (defScope st) (ga K nm) cdv A outer s H E) (defBody st) (toTS K T E WB))
    (h : ∀ ds n k x, F ds n k x → WB (startD N ds) n { nx := fun _ n' => k .non n', rt := k } x) : DefG P w K mg base T nm (k + 1) ps F := by
  refine ⟨⟨fd, Oq.okGD F1 S (fun vs H Q E h => ?_) (fun cdv A outer s H vs Q E hc hr hg hs => ?_), F1.kp, b⟩, hm⟩
  · obtain ⟨g, n, ds, k, x, _, _, _, r, f, _⟩ := h
    rw [r.len]
    exact len _ _ _ _ f
  · obtain ⟨g, n, ds, k, x, gs, rfl, b, r, f, p, e⟩ := hs
    exact ⟨_, body cdv A outer s _ E hc hr hg, g, g.M0, startD N ds, n, _, x, gs, r.slots b, h _ _ _ _ f, ⟨fun S' n' σ' M' H' r' w' => p .non n' .non M' H' r'.bs .non w', p, fun _ _ _ _ _ _ z => z.elim, fun _ _ _ _ _ _ z => z.elim⟩, e⟩
end
section
variable {X : Cx} {T : Tb} {E : XK} {e : Expr} {es : List Expr} {pos p : Pos} {ws : WA} {F : WF} {k : Nat} {ps : List Str} {nm : Str}
theorem de_gdef (d : DefG X.prog X.w X.K X.mg X.base T nm k ps F) (hr : Room k X.A) (hG : X.A.guards = some []) (hx : Passes (L2.CX X.prog X.w) X E) (ha : DA X T E (e :: es) ws) (hg : Gl X nm := by rfl) (hdb : (nm == ("__debug__" : Str)) = false := by decide)
    (he : starEach (e :: es) X.env = (false, eval e X.env) :: starEach es X.env := by rfl) (hpl : (backTo pos (starEach es X.env)).any (·.1) = false := by rfl) : DE X T E (.Call (.Name nm p) (e :: es) [] pos) (wF F ws) := by
  obtain ⟨fd, F1, kp, b⟩ := d.ex
  exact de_call (Og.pe_callG F1 hr hG hg d.g kp b .nil hx ha hdb he hpl)
end
/-! ### the pen's draw -/
abbrev vi (n : Nat) : V := V.int (n : Int)
def Kept (a : Addr) (H H' : Hp) : Prop := ∀ c o, c ≠ a → H c = some o → H' c = some o
def spDraw : Sp := fun vs H Q _ => ∃ (a b : Addr) (m n : Nat), vs = [.ref a, vi m] ∧ PenAt H a b n ∧ n ≤ 10000 ∧ 0 < m ∧ m ≤ 2 ^ 20 ∧ ∀ (d : Nat) (H' : Hp), d < m → PenAt H' a b (n + 1) → Kept a H H' → Q (vi d) H'
/-- a number below m, whatever it be -/
def cDraw : WF := fun ds n k _ => match ds with
  | [.pen, .int i] => n ≤ 10000 ∧ 0 < i ∧ i ≤ 2 ^ 20 ∧ ∀ d : Nat, (d : Int) < i → k (.int (d : Int)) (n + 1)
  | _ => False
section
variable {P : Program} {w : World} {K : PySem.W.Frag} {mg : Str → Option Value} {base : Heap}
theorem FnOk.lift {k : Nat} {f : Addr} {fd : FuncData} {ps : List Str} {sp : Sp} {CX' : CXT} (F : FnOk P w K mg base CX0 k f fd ps sp) : FnOk P w K mg base CX' k f fd ps sp :=
  ⟨F.len, fun A outer s H ar us vs Q E hr e0 hb r h => codeAny_mono (F.run A outer s H ar us vs Q E hr e0 hb r h) fun z s' hz => by
    cases z with
    | error e => exact False.elim hz
    | ok fl => cases fl <;> exact hz⟩
theorem Bs.drawn {T : Tb} {g : Gh} {n : Nat} {M H H' : Hp} (b : Bs K T g n M H) (p : PenAt H' g.pn g.b (n + 1)) (k : Kept g.pn H H') : Bs K T g (n + 1) M H' := by
  obtain ⟨ns, i, gg, hp, _⟩ := b.pen
  have tk : Tabs T.tabs H' := fun q hq => by
    obtain ⟨ps, h1, h2, h3⟩ := b.tab q hq
    have pa : q.1 ≠ g.pn := fun z => by
      rw [z, hp] at h1
      cases h1
    refine ⟨ps, k _ _ pa h1, h2, fun pos cv hc => ?_⟩
    obtain ⟨c, e1, e2⟩ := h3 pos cv hc
    have ca : c ≠ g.pn := fun z => by
      rw [z, hp] at e2
      unfold CodeO at e2
      cases e2
    exact ⟨c, e1, k _ _ ca e2⟩
  refine ⟨fun a o h => k _ _ (fun z => by rw [z, b.npn] at h; cases h) (b.sub _ _ h), p, b.npn, b.pen0, b.b0, tk, b.ntb, ⟨fun c u nc h t => k _ _ nc (b.ext.rl c u nc h t)⟩, b.mnew, b.msub, fun q hq => ?_⟩
  have z := b.pinned q hq
  exact ⟨z.epn, z.eb, z.sub, ⟨fun c u nc h t => k _ _ nc (z.ext.rl c u nc h t)⟩, z.mnew, z.nt⟩
theorem draw_def {nm : Str} {fd : FuncData} (G : FnOk P w K mg base CX0 1 (ga K nm) fd ["_law_pen_here", "_law_many"] spDraw) (kp : PySem.W.keepIn K (.ref (ga K nm)) = true) (b : Binds K fd ["_law_pen_here", "_law_many"] []) (hm : mg nm = some (.ref (ga K nm))) :
    Def P w K mg base nm 1 ["_law_pen_here", "_law_many"] cDraw := by
  refine ⟨⟨fd, fun T => ?_, kp, b⟩, hm⟩
  have G2 : FnOk P w K mg base (L2.CX P w) 1 (ga K nm) fd ["_law_pen_here", "_law_many"] spDraw := FnOk.lift G
  refine FnOk.imp G2 fun vs H Q E h => ?_
  obtain ⟨g, n, ds, k, x, gs, rfl, b, r, f, p, e⟩ := h
  match ds, r, f with
  | [.pen, .int i], .cons h1 (.cons h2 .nil), f =>
    cases h1
    cases h2
    obtain ⟨h1, h2, h3, q⟩ := f
    refine ⟨g.pn, g.b, i.toNat, n, ?_, b.pen, h1, by omega, by omega, fun d H' hd hp hk => ?_⟩
    · show [V.ref g.pn, V.int i] = [V.ref g.pn, V.int (i.toNat : Nat)]
      rw [Int.toNat_of_nonneg (by omega)]
    · exact p (.int (d : Int)) (n + 1) _ g.M0 H' (b.drawn hp hk) (.int _) (q d (by omega))
/-! ### the law's own beginning: the pen -/
def spPen (K : PySem.W.Frag) : Sp := fun vs H Q _ => ∃ (a : Addr) (ns : List Int), vs = [.ref a] ∧ SqL K H a (ns.map V.int) ∧ ns.length ≤ 63 ∧ ∀ (p b : Addr) (H' : Hp), PenAt H' p b 0 → Same H H' → H p = none → Q (.ref p) H'
/-- the law: tabs, the tables of the defs that make lambdas -/
def spLaw (K : PySem.W.Frag) (Ps : List Addr) : Sp := fun vs H Q _ => ∃ (a : Addr) (ns : List Int), vs = [.ref a] ∧ SqL K H a (ns.map V.int) ∧ ns.length ≤ 63 ∧ (∀ q ∈ Ps, H q = some (.tbl #[])) ∧ ∀ H', Q (.bl true) H'
def toTrue (d : D) : Prop := d = .bl true
theorem law_run {X : Cx} {N : List Str} {fp : Addr} {T : Tb} {st0 : Stmt} {rest : List Stmt} {WB : WS} {sp : Sp} {a : Addr} {H : Hp} {Q : VK} {m : Nat} (hT : T.pin = none) (h0 : PS X st0 (tAsg (tCall (spPen X.K) [] E0 (tCons (tVar 0) tNil)) (gName 1))) (h1 : PSs X rest (toTS X.K T E0 WB))
    (sp : spLaw X.K (T.tabs.map (·.1)) [.ref a] H Q (fun _ _ _ => False)) (hw : WB ([.un, .val .pen] ++ List.replicate m .un) 0 { nx := fun _ _ => False, rt := fun d _ => d = .bl true } (fun _ _ => False)) :
    ∃ t, PSs X (st0 :: rest) t ∧ t { nx := fun _ H' => Q .non H', rt := Q } ([some (.ref a), none] ++ List.replicate m none) H := by
  obtain ⟨a0, ns, e, hS, hl, hP, q⟩ := sp
  cases e
  refine ⟨_, pss_cons h0 h1, _, rfl, a, ns, rfl, hS, hl, fun p b H1 pen sm np => ?_⟩
  have hpn : H1 p ≠ none := by
    obtain ⟨_, _, _, z, _⟩ := pen
    rw [z]
    simp
  have bs : Bs X.K T ⟨p, b, fun _ => none, H1, true⟩ 0 (fun _ => none) H1 := by
    refine ⟨(fun _ _ h => by cases h), pen, rfl, (fun z => ?_), (fun z => ?_), (fun t ht => TabS.nil (sm _ _ (hP t.1 (List.mem_map_of_mem ht)))), (fun _ _ h => by cases h), .refl _ _, (fun _ h => absurd rfl h), Same.refl _, (fun q h => by rw [hT] at h; cases h)⟩
    · obtain ⟨_, _, _, y, _⟩ := pen
      obtain ⟨ps, e⟩ := z _ y
      cases e
    · obtain ⟨_, _, _, _, y, _⟩ := pen
      obtain ⟨ps, e⟩ := z _ y
      cases e
  have un : ∀ (i : Nat) (s : Sl), (Sl.un :: Sl.un :: List.replicate m Sl.un)[i]? = some s → s = .un ∧ i < m + 2 := fun i s h => by
    have h1 := List.mem_of_getElem? h
    have h2 := (List.getElem?_eq_some_iff.mp h).1
    simp at h1 h2
    refine ⟨?_, by omega⟩
    rcases h1 with h | h
    · exact h
    · exact h.2
  have r0 : Rel X.K T ⟨p, b, fun _ => none, H1, true⟩ 0 (Sl.un :: Sl.un :: List.replicate m Sl.un) ([some (V.ref a), none] ++ List.replicate m none) (fun _ => none) H1 := by
    refine ⟨bs, by simp, fun i s h => ?_, fun i j s t c e1 e2 o1 => ?_, fun i s c e1 o1 => ?_⟩
    · obtain ⟨rfl, h2⟩ := un i s h
      exact ⟨_, List.getElem?_eq_getElem (by simp; omega), .un⟩
    · rw [(un i s e1).1] at o1
      cases o1
    · rw [(un i s e1).1] at o1
      cases o1
  refine ⟨⟨p, b, fun _ => none, H1, true⟩, fun _ => none, [.un, .val .pen] ++ List.replicate m .un, 0, _, _, rfl, r0.set (i := 1) .pen, hw, ⟨fun _ _ _ _ _ _ z => False.elim z, fun d n' v M' H' b h k => ?_, fun _ _ _ _ _ _ z => False.elim z, fun _ _ _ _ _ _ z => False.elim z⟩, excF⟩
  have k' : d = .bl true := k
  subst k'
  cases h
  exact q H'
end
end Dl

set_option Elab.async false
set_option linter.all false
set_option maxRecDepth 100000
set_option maxHeartbeats 4000000
namespace Dl
open PySem PySem.Spec PyProof.Rows L2 LamX
theorem hu64 {A : Around} {k : Nat} (hr : Room k A) : A.units + 64 < cLine := hr.units
theorem hu65 {A : Around} {k : Nat} (hr : Room (k + 1) A) : A.units + 65 < cLine := by have := hr.un; omega
/-- an own error of one field, of two -/
structure Er1 (P : Program) (w : World) (K : PySem.W.Frag) (mg : Str → Option Value) (base : Heap) (nm f : Str) : Prop where
  ex : ∃ fI fd, ErrC K mg nm (ga K nm) fI ∧ FnOk P w K mg base CX0 1 fI fd [("self" : Str), f] (spErr1 K f) ∧ Binds K fd [("self" : Str), f] []
  no : PySem.W.findIn K (.ref (ga K nm)) f = some none
structure Er2 (P : Program) (w : World) (K : PySem.W.Frag) (mg : Str → Option Value) (base : Heap) (nm f g : Str) : Prop where
  ex : ∃ fI fd, ErrC K mg nm (ga K nm) fI ∧ FnOk P w K mg base CX0 1 fI fd [("self" : Str), f, g] (spErr2 K f g) ∧ Binds K fd [("self" : Str), f, g] []
  no : PySem.W.findIn K (.ref (ga K nm)) f = some none
  no2 : PySem.W.findIn K (.ref (ga K nm)) g = some none
section
variable {X : Cx} {T : Tb} {E : XK} {e o a b c : Expr} {es : List Expr} {st : Stmt} {body : List Stmt} {pos p apos : Pos} {wa wb wc : WE} {ws : WA} {F : WF} {k : Nat} {ps : List Str} {nm f : Str}
theorem ds_er1 (d : Er1 X.prog X.w X.K X.mg X.base nm f) (hr : Room 2 X.A) (hc : X.calm = true) (tk : Takes X (fun cls d _ H => E cls d H)) (ha : DE X T E e wa) (hg : Gl X nm := by rfl) (hdb : (nm == ("__debug__" : Str)) = false := by decide)
    (he : starEach (e :: []) X.env = (false, eval e X.env) :: starEach [] X.env := by rfl) (hpl : (backTo pos (starEach [] X.env)).any (·.1) = false := by rfl) {pos' : Pos} : DS X T E (.Raise (some (.Call (.Name nm p) [e] [] pos)) none pos') (wRaise1 (ga X.K nm) f wa) := by
  obtain ⟨fI, fd, R, FB, b⟩ := d.ex
  exact ds_raise1 R.T d.no (ps_raise hc tk (pmk_oex R.T R.iC R.tI FB hr b .nil pass0 hg R.gC (pa_cons ha pa_nil he) hdb he hpl))
theorem ds_er2 {g : Str} (d : Er2 X.prog X.w X.K X.mg X.base nm f g) (hr : Room 2 X.A) (hc : X.calm = true) (tk : Takes X (fun cls d _ H => E cls d H)) (ha : DE X T E a wa) (hb : DE X T E b wb) (hg : Gl X nm := by rfl) (hdb : (nm == ("__debug__" : Str)) = false := by decide)
    (hs : starEach (b :: []) X.env = (false, eval b X.env) :: starEach [] X.env := by rfl) (he : starEach (a :: [b]) X.env = (false, eval a X.env) :: starEach [b] X.env := by rfl) (hpl : (backTo pos (starEach [b] X.env)).any (·.1) = false := by rfl) {pos' : Pos} : DS X T E (.Raise (some (.Call (.Name nm p) [a, b] [] pos)) none pos') (wRaise2 (ga X.K nm) f g wa wb) := by
  obtain ⟨fI, fd, R, FB, bb⟩ := d.ex
  exact ds_raise2 R.T d.no d.no2 (ps_raise hc tk (pmk_oex R.T R.iC R.tI FB hr bb .nil pass0 hg R.gC (pa_cons ha (pa_cons hb pa_nil hs) he) hdb he hpl))
/-- a slice -/
theorem de_slice {lo hi : Option Expr} {wl wh : WO} {p2 : Pos} (ha : DE X T E a wa) (hl : PO X lo (toTO X.K T E wl)) (hh : PO X hi (toTO X.K T E wh)) : DE X T E (.Subscript a (.Slice lo hi none p2) pos) (wSl wa wl wh) := de_sl (p2 := p2) ha hl hh (pe_slice sl_all ha hl hh)
theorem de_chn {op op' : CmpOp} {r r' : R2} {f f' : F2} (ho : OpR X (compareOp op) r) (l : LR2 X.K T E r f) (ho' : OpR X (compareOp op') r') (l' : LR2 X.K T E r' f') (ha : DE X T E a wa) (hb : DE X T E b wb) (hc : DE X T E c wc)
    (hm : lastMarks [op, op'] [b, c] = false := by with_unfolding_all rfl) : DE X T E (.Compare a [op, op'] [b, c] pos) (wChain f f' wa wb wc) := de_chain ho l ho' l' ha hb hc (pe_chain ho ho' ha hb hc hm)
theorem dt_chn {op op' : CmpOp} {r r' : R2} {f f' : F2} (ho : OpR X (compareOp op) r) (l : LR2 X.K T E r f) (ho' : OpR X (compareOp op') r') (l' : LR2 X.K T E r' f') (ha : DE X T E a wa) (hb : DE X T E b wb) (hc : DE X T E c wc)
    (hm : lastMarks [op, op'] [b, c] = false := by with_unfolding_all rfl) : DT X T E (.Compare a [op, op'] [b, c] pos) (wB (wChain f f' wa wb wc)) :=
  pt_imp (pt_chain ho ho' ha hb hc hm) fun σ H Q ⟨g, M, S, n, k, x, rl, w, p⟩ => ⟨g, M, S, n, _, x, rl, w, fun d1 n1 v1 M1 H1 s1 r1 e1 w1 =>
    ⟨g, M1, S, n1, _, x, r1, w1, fun d2 n2 v2 M2 H2 s2 r2 e2 w2 => l g n2 S σ M2 H2 v1 v2 d1 d2 _ _ x r2 (e1.mono s2) e2 w2 ⟨fun d n' v M' H' s' r' h' q => by
      obtain ⟨b, rfl, q⟩ := rep_bl h' q
      refine ⟨b, rfl, ?_⟩
      cases b with
      | true => exact ⟨g, M', S, n', _, x, r', q, fun d3 n3 v3 M3 H3 s3 r3 e3 w3 => l' g n3 S σ M3 H3 v2 v3 d2 d3 _ _ x r3 (e2.mono (s'.trans s3)) e3 w3 ⟨fun d5 n5 v5 M5 H5 s5 r5 h5 q5 => by
          obtain ⟨b, rfl, q5⟩ := rep_bl h5 q5
          exact ⟨b, rfl, p.1 b n5 M5 H5 ((((s1.trans s2).trans s').trans s3).trans s5) r5 q5⟩, p.2⟩, p.2⟩
      | false => exact ⟨false, rfl, p.1 false n' M' H' ((s1.trans s2).trans s') r' q⟩, p.2⟩, p.2⟩, p.2⟩
/-- unpacking a list -/
def gwUnl (u : List D → List Sl → (List Sl → Prop) → Prop) : WG := fun d S kk =>
  match d with
  | .lst ds => u ds S kk
  | _ => False
theorem lgs_unl {K : PySem.W.Frag} {u : TGs} {js : List Nat} {wu : List D → List Sl → (List Sl → Prop) → Prop} {m : Nat} (h : LGs K T u js wu) (hl : ∀ ds S kk, wu ds S kk → ds.length = m) : LG K T (gUnl K m u) js (gwUnl wu) := fun g n S σ M H v d Q kk r hv w q => by
  cases hv with
  | @lst a xs ds ha hx => exact ⟨a, xs, rfl, .of (r.bs.sub _ _ ha), by rw [hx.len]; exact hl _ _ _ w, h g n S σ M H xs ds Q kk r hx w q⟩
  | _ => exact w.elim
theorem gw_tup {u : List D → List Sl → (List Sl → Prop) → Prop} (hu : ∀ ds S (kk kk' : List Sl → Prop), u ds S kk → ∃ S', kk S') : ∀ d S (kk kk' : List Sl → Prop), gwTup u d S kk → ∃ S', kk S' := fun d S kk kk' h => by
  cases d with
  | tup ds => exact hu ds S kk kk' h
  | _ => exact h.elim
theorem gws_nil : ∀ ds S (kk kk' : List Sl → Prop), gwNil ds S kk → ∃ S', kk S' := fun ds S kk _ h => ⟨S, h.2⟩
theorem gws_cons {w : WG} {u : List D → List Sl → (List Sl → Prop) → Prop} (hw : ∀ d S (kk kk' : List Sl → Prop), w d S kk → ∃ S', kk S') (hu : ∀ ds S (kk kk' : List Sl → Prop), u ds S kk → ∃ S', kk S') : ∀ ds S (kk kk' : List Sl → Prop), gwCons w u ds S kk → ∃ S', kk S' := fun ds S kk kk' h => by
  cases ds with
  | nil => exact h.elim
  | cons d r =>
    obtain ⟨S1, h1⟩ := hw d S _ kk' h
    exact hu r S1 kk kk' h1
def wLcOwn (i : Nat) (it : WA) (vs : List Nat) (gw : WG) (tt : WT) (te : WE) : WS := wSetOwn i fun S n k x => it S n (fun ds n1 => ds.length ≤ 100000 ∧ lcD gw tt te (wipeS S vs) ds [] n1 k) x
theorem ds_lc {i : Nat} {it : WA} {t : TG} {is vs : List Nat} {gw : WG} {tt : WT} {te : WE} (lg : LG X.K T t is gw) (hv : ∀ i ∈ is, i ∈ vs) (h : PS X st (tAsg (tLc (toTI X.K T E it) t (toTT X.K T E0 tt) (toTE X.K T E0 te) vs) (gName i))) : DS X T E st (wLcOwn i it vs gw tt te) := ds_lcOwn h lg hv
/-- x op= y of ints and texts, tuples and lists that are values -/
def wAug (i : Nat) (f : F2) (a : WE) : WS := fun S n D x => slV (gt S i) fun d => a S n (fun e n1 => f d e n1 (fun r n2 => D.nx (S.set i (.val r)) n2) x) x
theorem ds_aug {i : Nat} {r : R2} {f : F2} (l : LR2 X.K T E r f) (h : PS X st (tAug i (toTE X.K T E wa) r)) : DS X T E st (wAug i f wa) :=
  ps_imp h fun Dn σ H ⟨g, M, S, n, Dd, x, gs, rl, w, p, q⟩ => by
    obtain ⟨d, hs, w⟩ := slV_get w
    obtain ⟨v, hv, hr⟩ := rl.val hs
    exact ⟨v, hv, g, M, S, n, _, x, rl, w, (fun e n1 v1 M1 H1 s1 r1 h1 w1 => l g n1 S σ M1 H1 v v1 d e _ _ x r1 (hr.mono s1) h1 w1 ⟨fun d2 n2 v2 M2 H2 s2 r2 h2 w2 => p.nx _ n2 _ M2 H2 (r2.set h2) w2, q⟩), q⟩
end
end Dl

set_option Elab.async false
set_option linter.all false
set_option maxRecDepth 100000
set_option maxHeartbeats 4000000
namespace Dl
open PySem PySem.Spec PyProof.Rows L2 LamX
/-! ### own methods met by operators, a value of a built-in type at the right -/
section
variable {X : Cx} {CX : CXT} {C g : Addr} {n : Nat} {sp : Sp} {E : XK}
/-- x != y, y of a built-in type -/
def rNeX (K : PySem.W.Frag) (C : Addr) (sp : Sp) (E : XK) : R2 := fun x y H Q => ∃ a dx fs T, x = .ref a ∧ H a = some (.ins C dx fs) ∧ TyX K H y (.type T) ∧ PySem.W.notFirst K C (.type T) = true ∧ sp [x, y] H (fun v H' => ∃ k, v = .bl k ∧ Q (.bl (!k)) H') E
theorem op_neX (c : Ow.NeC X.K C g) (F : FnR X.prog X.w X.K X.mg X.base CX n g sp) (hr : Room (n + 1) X.A) (hx : Passes CX X E) : OpR X (compareOp .NotEq) (rNeX X.K C sp E) := by
  intro pins s σ H x y v u Q I rx ry h
  obtain ⟨a, dx, fs, T, rfl, ha, ty, hn, q⟩ := h
  cases (show v = Value.ref a from rx)
  obtain ⟨ox, od, J, _⟩ := StX.insC_at (X := X) I (.inr ⟨dx, fs, ha⟩)
  obtain ⟨P, kit, hP, _⟩ := kit_of I ry ty
  have Lb := kit.ty (model X.prog X.w) s.heap I.kIn hP
  have hr1 : Room n X.A.in1 := hr.in1
  have body : wpAny (model X.prog X.w) X.A.in1 (call (.ref g) [.ref a, u]) (EP X pins σ fun v H' => ∃ k, v = .bl k ∧ Q (.bl (!k)) H') X.xe s :=
    wpAny_call (SlX.run_at (us := [.ref a, u]) (ws := [.ref a, y]) F hr1 I.env0.in1 hx I (.cons rfl (.cons ry .nil)) q)
  have entry : wpAny (model X.prog X.w) X.A.in1 (Builtin.«object.__ne__» ⟨[.ref a, u], []⟩) (fun fin s' => ∃ k, fin = .done (.ret (.bool k)) ∧ EP X pins σ Q (.bool k) s') X.xe s := by
    unfold Builtin.«object.__ne__»
    repeat (first
      | with_reducible refine wpAny_cRoomFor hr1.units0 ?_
      | (refine wpAny_bind (m := callSpecialIfBound? (.ref a) (Str.ofString "__eq__") [u])
          (PySem.W.ifBound_K I.kIn J c.eq c.fn (wpAny_mono body (fun r s' hr => by
            obtain ⟨z, H', I', rz, k, ek, qk⟩ := hr
            subst ek
            cases (show r = Value.bool k from rz)
            repeat (first | exact ⟨_, rfl, .bl (!k), H', I', rfl, qk⟩ | exact wpAny_pure ⟨_, rfl, .bl (!k), H', I', rfl, qk⟩ | exact wpAny_truthy_bool ⟨_, rfl, .bl (!k), H', I', rfl, qk⟩ | (refine wpAny_bind (m := truthy (.bool _)) (wpAny_truthy_bool ?_)) | wp_step)) fun _ _ e => e)))
      | wp_step)
  have called : wpAny (model X.prog X.w) X.A (call (.builtin "object.__ne__") [.ref a, u]) (fun r s' => ∃ k, r = .bool k ∧ EP X pins σ Q (.bool k) s') X.xe s := by
    refine wpAny_call (codeAny_call_builtin PySem.F.cmp_object.ne.plain PySem.F.cmpEntry_ne (PySem.W.check_slot PySem.F.cmpKind_ne PySem.F.cmpSplit_ne (J.type.andThen (PySem.W.looks_mroIn I.kIn c.ob)) (PySem.F.cmpArgs_ne _ _) (wpAny_mono entry (fun fin s' z => ?_) fun _ _ z => z)))
    obtain ⟨k, rfl, z⟩ := z
    exact ⟨k, rfl, z⟩
  have one : wpAny (model X.prog X.w) X.A (tryCompare (.ref a) (cmpInfo .NotEq).2.1 u) (fun r s' => ∃ v, r = some v ∧ EP X pins σ Q v s') X.xe s := by
    unfold tryCompare
    refine wpAny_bind (m := callSpecialIfBound? (.ref a) (Str.ofString "__ne__") [u]) (Ow.bound_ne I.kIn J c.ne (wpAny_mono called (fun r s' z => ?_) fun _ _ z => z))
    obtain ⟨k, rfl, z⟩ := z
    first
      | exact wpAny_pure ⟨_, rfl, z⟩
      | exact ⟨_, rfl, z⟩
  show wpAny (model X.prog X.w) X.A (richCompare .NotEq (.ref a) u) _ _ s
  unfold richCompare
  simp only [oneThing_ref]
  refine wpAny_holding (wpAny_bind (wpAny_cRoomFor hr.units0 ?_))
  refine wpAny_bind (J.type.here (wpAny_bind (Lb.here ?_)))
  split
  · rename_i q'
    have e : PySem.W.subIn X.K (.type T) (.ref C) = some false := by
      rcases Bool.or_eq_true_iff.mp hn with e | e
      · cases (beq_iff_eq.mp e)
      · exact beq_iff_eq.mp e
    refine wpAny_bind ((PySem.W.looks_subIn I.kIn e).here ?_)
    simp only [Bool.false_eq_true, if_false]
    refine wpAny_bind (wpAny_mono one (fun r s' z => ?_) fun _ _ e => e)
    obtain ⟨v, rfl, hq⟩ := z
    exact wpAny_pure hq
  · refine wpAny_bind (wpAny_pure ?_)
    simp only [Bool.false_eq_true, if_false]
    refine wpAny_bind (wpAny_mono one (fun r s' z => ?_) fun _ _ e => e)
    obtain ⟨v, rfl, hq⟩ := z
    exact wpAny_pure hq
/-- x == y, y of a built-in type -/
def rEqX (K : PySem.W.Frag) (C : Addr) (sp : Sp) (E : XK) : R2 := fun x y H Q => ∃ a dx fs T, x = .ref a ∧ H a = some (.ins C dx fs) ∧ TyX K H y (.type T) ∧ PySem.W.notFirst K C (.type T) = true ∧ sp [x, y] H Q E
theorem op_eqX (hs : PySem.W.findIn X.K (.ref C) "__eq__" = some (some (.ref g))) (hf : PySem.W.isFn X.K (.ref g) = true) (F : FnR X.prog X.w X.K X.mg X.base CX n g sp) (hr : Room n X.A) (hx : Passes CX X E) : OpR X (compareOp .Eq) (rEqX X.K C sp E) := by
  intro pins s σ H x y v u Q I rx ry h
  obtain ⟨a, dx, fs, T, rfl, ha, ty, hn, q⟩ := h
  cases (show v = Value.ref a from rx)
  obtain ⟨ox, od, J, _⟩ := StX.insC_at (X := X) I (.inr ⟨dx, fs, ha⟩)
  obtain ⟨P, kit, hP, _⟩ := kit_of I ry ty
  have L := kit.ty (model X.prog X.w) s.heap I.kIn hP
  obtain ⟨m, hF⟩ := I.fr
  show wpAny _ _ (richCompare .Eq _ _) _ _ _
  refine PySem.W.cmp_K (op := .Eq) (tb := .type T) hr.units0 hF I.ok.mod.kin J L hn hs hf ?_
  refine wpAny_mono (wpAny_call (run_fnR (us := [.ref a, u]) (vs := [.ref a, y]) F hr hx I (.cons rfl (.cons ry .nil)) q)) (fun w s' z => ?_) fun _ _ x => x
  obtain ⟨z', H', I', rz, qz⟩ := z
  exact SlX.cmpback rz ⟨z', H', I', rz, qz⟩
/-- e not in x -/
theorem op_notInO (hs : PySem.W.findIn X.K (.ref C) "__contains__" = some (some (.ref g))) (hf : PySem.W.isFn X.K (.ref g) = true) (F : FnR X.prog X.w X.K X.mg X.base CX n g sp) (hr : Room n X.A) (hx : Passes CX X E) : OpR X (compareOp .NotIn) (fun x y H Q => ∃ a dx fs, y = V.ref a ∧ H a = some (.ins C dx fs) ∧ sp [.ref a, x] H (fun v H' => ∃ k, v = .bl k ∧ Q (.bl (!k)) H') E) := by
  intro pins s σ H x y v u Q I rx ry h
  obtain ⟨a, dx, fs, rfl, ha, q⟩ := h
  cases (show u = Value.ref a from ry)
  obtain ⟨ox, od, J, _⟩ := StX.insC_at (X := X) I (.inr ⟨dx, fs, ha⟩)
  obtain ⟨m, hF⟩ := I.fr
  refine PySem.W.notIn_K hF I.ok.mod.kin J hs hf (wpAny_mono (wpAny_call (SlX.run_at (us := [.ref a, v]) (ws := [.ref a, x]) F hr I.env0 hx I (.cons rfl (.cons rx .nil)) q)) (fun w s' z => ?_) fun _ _ e => e)
  obtain ⟨z', H', I', rz, k, ek, qz⟩ := z
  subst ek
  cases (show w = Value.bool k from rz)
  exact wpAny_truthy_bool ⟨.bl (!k), H', I', rfl, qz⟩
end
/-! ### their readings of data -/
/-- the built-in type of a value -/
def tyN : D → Option String
  | .non => some "NoneType"
  | .bl _ => some "bool"
  | .int _ => some "int"
  | .str _ => some "str"
  | .tup _ => some "tuple"
  | .lst _ => some "list"
  | .dct _ => some "dict"
  | _ => none
theorem tyN_of {K : PySem.W.Frag} {pn : Addr} {M H : Hp} {v : V} {d : D} {t : String} (s : Same M H) (h : Rep K pn M v d) (e : tyN d = some t) : TyX K H v (.type t) := by
  cases h with
  | non => cases e; exact .base .non
  | bl x => cases e; exact .base (.bl x)
  | int x => cases e; exact .base (.int x)
  | str x => cases e; exact .base (.str x)
  | tup h r => cases e; exact tyx_tup (same_tup s h)
  | lst h r => cases e; exact .base (.lst (s _ _ h))
  | dct h r => cases e; exact .base (.dK (s _ _ h))
  | _ => cases e
def bltn : List String := ["NoneType", "bool", "int", "str", "tuple", "list", "dict"]
theorem tyN_mem {d : D} {t : String} (e : tyN d = some t) : t ∈ bltn := by
  cases d <;> simp [tyN] at e <;> subst e <;> decide
section
variable {K : PySem.W.Frag} {T : Tb} {E : XK} {C : Addr} {F : WF}
def fOwnX (C : Addr) (F : WF) : F2 := fun d e n k x => insI C d fun _ => (tyN e).isSome = true ∧ F [d, e] n k x
theorem lr_ownX {nm : String} (h : ∀ t ∈ bltn, Ox.RtX K C nm t) : LR2 K T E (Ox.rBinX K C nm (spD K T F) E) (fOwnX C F) := fun g n S σ M H v w d e Q k x r rd re f p => by
  obtain ⟨a, dx, fs, gs, rfl, rfl, hm, rf, hs, f⟩ := rep_ins rd f
  obtain ⟨t, ht⟩ := Option.isSome_iff_exists.mp hs
  exact ⟨a, dx, fs, t, rfl, r.bs.sub _ _ hm, tyN_of r.bs.sub re ht, h t (tyN_mem ht), spD_of r (.cons rd (.cons re .nil)) f p⟩
def fOwnEqX (C : Addr) (F : WF) : F2 := fOwnX C F
theorem lr_ownEqX (h : ∀ t ∈ bltn, PySem.W.notFirst K C (.type t) = true) : LR2 K T E (rEqX K C (spD K T F) E) (fOwnX C F) := fun g n S σ M H v w d e Q k x r rd re f p => by
  obtain ⟨a, dx, fs, gs, rfl, rfl, hm, rf, hs, f⟩ := rep_ins rd f
  obtain ⟨t, ht⟩ := Option.isSome_iff_exists.mp hs
  exact ⟨a, dx, fs, t, rfl, r.bs.sub _ _ hm, tyN_of r.bs.sub re ht, h t (tyN_mem ht), spD_of r (.cons rd (.cons re .nil)) f p⟩
def fOwnNeX (C : Addr) (F : WF) : F2 := fun d e n k x => insI C d fun _ => (tyN e).isSome = true ∧ F [d, e] n (fun r n1 => isB r fun b => k (.bl (!b)) n1) x
theorem lr_ownNeX (h : ∀ t ∈ bltn, PySem.W.notFirst K C (.type t) = true) : LR2 K T E (rNeX K C (spD K T F) E) (fOwnNeX C F) := fun g n S σ M H v w d e Q k x r rd re f p => by
  obtain ⟨a, dx, fs, gs, rfl, rfl, hm, rf, hs, f⟩ := rep_ins rd f
  obtain ⟨t, ht⟩ := Option.isSome_iff_exists.mp hs
  refine ⟨a, dx, fs, t, rfl, r.bs.sub _ _ hm, tyN_of r.bs.sub re ht, h t (tyN_mem ht), spD_of r (.cons rd (.cons re .nil)) f ⟨fun d n' v M' H' s r' h' q => ?_, p.2⟩⟩
  obtain ⟨b, rfl, q⟩ := rep_bl h' q
  exact ⟨b, rfl, p.1 _ n' _ M' H' s r' (.bl _) q⟩
def fOwnNotIn (C : Addr) (F : WF) : F2 := fun d e n k x => insI C e fun _ => F [e, d] n (fun r n1 => isB r fun b => k (.bl (!b)) n1) x
theorem lr_ownNotIn : LR2 K T E (fun x y H Q => ∃ a dx fs, y = V.ref a ∧ H a = some (.ins C dx fs) ∧ (spD K T F) [.ref a, x] H (fun v H' => ∃ k, v = .bl k ∧ Q (.bl (!k)) H') E) (fOwnNotIn C F) := fun g n S σ M H v w d e Q k x r rd re f p => by
  obtain ⟨b, dy, fs2, gs2, rfl, rfl, hm2, rf2, f⟩ := rep_ins re f
  refine ⟨b, dy, fs2, rfl, r.bs.sub _ _ hm2, spD_of r (.cons re (.cons rd .nil)) f ⟨fun d n' v M' H' s r' h' q => ?_, p.2⟩⟩
  obtain ⟨b, rfl, q⟩ := rep_bl h' q
  exact ⟨b, rfl, p.1 _ n' _ M' H' s r' (.bl _) q⟩
end
/-! ### a method by keyword -/
structure MetK (P : Program) (w : World) (K : PySem.W.Frag) (mg : Str → Option Value) (base : Heap) (c m : Str) (k : Nat) (ps ks : List Str) (F : WF) : Prop where
  ex : ∃ fd, (∀ T : Tb, FnD P w K mg base T k (ma K c m) fd ps F) ∧ Ow.KB1 K fd ps ks
  me : Meth K (ga K c) m (ma K c m)
section
variable {X : Cx} {T : Tb} {E : XK} {e o a b c' : Expr} {es : List Expr} {kws : List Keyword} {st : Stmt} {pos p apos kpos : Pos} {wa wb wc : WE} {ws : WA} {F : WF} {k : Nat} {ps ks : List Str} {nm m c : Str} {kn : Option Str}
abbrev DK (X : Cx) (T : Tb) (E : XK) (kws : List Keyword) (W : WA) : Prop := PK X kws (toTA X.K T E W)
theorem pk_imp {kws : List Keyword} {t t' : TA} (he : PK X kws t) (h : ∀ σ H Q, t' σ H Q → t σ H Q) : PK X kws t' := ⟨fun p pins s σ H Q I q => he.run p pins s σ H Q I (h σ H Q q)⟩
theorem dk_nil : DK X T E [] wNil := pk_imp pk_nil fun σ H Q ⟨g, M, S, n, k, x, rl, w, p⟩ => p.1 [] n [] M H (Same.refl M) rl .nil w
theorem dk_cons (ha : DE X T E e wa) (hr : DK X T E kws ws) : DK X T E (⟨kn, e, kpos⟩ :: kws) (wCons wa ws) :=
  pk_imp (pk_cons ha hr) fun σ H Q ⟨g, M, S, n, k, x, rl, w, p⟩ => ⟨g, M, S, n, _, x, rl, w, fun d1 n1 v1 M1 H1 s1 r1 e1 w1 =>
    ⟨g, M1, S, n1, _, x, r1, w1, fun ds n2 vs M2 H2 s2 r2 e2 w2 => p.1 (d1 :: ds) n2 (v1 :: vs) M2 H2 (s1.trans s2) r2 (.cons (e1.mono s2) e2) w2, p.2⟩, p.2⟩
/-- o.m(k = v, ..) -/
def wMethK (C : Addr) (m : Str) (nk : Nat) (F : WF) (a : WE) (ws : WA) : WE := fun S n k x => a S n (fun d n1 => insI C d fun fs => fs.lookup m = none ∧ ws S n1 (fun ds n2 => ds.length = nk ∧ F (d :: ds) n2 k x) x) x
theorem de_metK (c0 : Cls X.K (ga X.K c)) (d : MetK X.prog X.w X.K X.mg X.base c m k ps ks F) (hr : Room k X.A) (hx : Passes (L2.CX X.prog X.w) X E) (ho : DE X T E o wa) (hkw : DK X T E kws ws) {nk : Nat} (hn : ks.length = nk := by rfl) {pl : Sem Bool}
    (hall : (backToKw pos (keywordEach kws X.env)).all (·.1.isSome) = true := by rfl) (hks : (backToKw pos (keywordEach kws X.env)).filterMap (·.1) = ks := by rfl)
    (hpl : ((backTo pos (starEach [] X.env)).any (·.1) || (backToKw pos (keywordEach kws X.env)).any (·.1.isNone)) = false := by rfl)
    (ht : eval (.Call (.Attribute o m apos) [] kws pos) X.env = (do
      let ov ← eval o X.env
      standAt apos.atName
      let (f, first) ← holding [ov] (getMethod ov m pl)
      callWith pos f first (backTo pos (starEach [] X.env)) (backToKw pos (keywordEach kws X.env))) := by rfl) :
    DE X T E (.Call (.Attribute o m apos) [] kws pos) (wMethK (ga X.K c) m nk F wa ws) := by
  subst hn
  obtain ⟨fd, F1, b⟩ := d.ex
  exact pe_imp (Ow.pe_methK ho c0 d.me (F1 T) hr b hx hkw hall hks hpl ht) fun σ H Q ⟨g, M, S, n, k, x, rl, w, p⟩ => ⟨g, M, S, n, _, x, rl, w, (fun d n1 v M1 H1 s1 r1 h1 w1 => by
    obtain ⟨a, dx, fs, gs, rfl, rfl, hm, rf, hn, w1⟩ := rep_ins h1 w1
    exact ⟨a, dx, fs, rfl, r1.bs.sub _ _ hm, rf.none hn, g, M1, S, n1, _, x, r1, w1, (fun ds n2 vs M2 H2 s2 r2 e2 w2 => ⟨e2.len.trans w2.1, spD_of r2 (.cons (h1.mono s2) e2) w2.2 (p.step (s1.trans s2))⟩), p.2⟩), p.2⟩
/-! ### max(xs, default=d) of ints -/
def mxD (d : Int) : List Int → Int
  | [] => d
  | n :: r => r.foldl max n
def rMaxDf (K : PySem.W.Frag) : List V → List V → Hp → VK → Prop := fun vs zs H Q => ∃ (a : Addr) (ns : List Int) (d : Int), vs = [V.ref a] ∧ zs = [V.int d] ∧ SqL K H a (ns.map V.int) ∧ Q (.int (mxD d ns)) H
theorem alike_ints : ∀ ns : List Int, PySem.W.AlikeAll (ns.map PyData.int) := fun ns => by
  refine ⟨fun x hx y hy => ?_, fun x hx => ?_⟩
  · obtain ⟨i, _, rfl⟩ := List.mem_map.mp hx
    obtain ⟨j, _, rfl⟩ := List.mem_map.mp hy
    rfl
  · obtain ⟨i, _, rfl⟩ := List.mem_map.mp hx
    exact fun z => nomatch z
theorem cr_maxDf (hc : X.calm = true) (hu : X.A.units + 64 < cLine) : CallRK X (.builtin "max") ["default"] (rMaxDf X.K) := by
  intro pins s σ H xs zs us ws Q I r r2 h
  obtain ⟨a, ns, d, rfl, rfl, hs, q⟩ := h
  obtain ⟨its, rv, hl, _⟩ := I.list hs
  rw [Vals.ref1 r]
  obtain ⟨w, rfl, rw'⟩ := r2.one
  obtain ⟨t, rfl⟩ := (show ∃ t, w = Value.int d t from rw')
  have hd := PySem.W.ke_depthAll ns
  refine PySem.W.max_list_default (xs := ns.map PyData.int) (as := []) (I.ok.hd hc) hl.isList (by rw [List.toList_toArray]; exact PyProof.Rows.IntsAre.reads s.heap rv.ints) (alike_ints ns) (by omega) (fun e h' tk hk => ?_) (fun y ys i v h' tk bs e hi rd hk => ?_)
  · cases ns with
    | nil => exact ⟨.int d, H, I.kept hk, ⟨_, rfl⟩, q⟩
    | cons n r => cases e
  · cases ns with
    | nil => cases e
    | cons n r =>
      cases e
      rw [PySem.W.maxD_ints] at rd
      cases rd
      exact ⟨.int (mxD d (n :: r)), H, I.kept hk, ⟨_, rfl⟩, q⟩
def wMaxD (a b : WE) : WE := fun S n k x => a S n (fun d n1 => b S n1 (fun e n2 => intsI d fun ns => intI e fun j => k (.int (mxD j ns)) n2) x) x
theorem de_maxD (ha : DE X T E a wa) (hb : DE X T E b wb) (hc : X.calm = true) (hu : X.A.units + 64 < cLine) (hg : Gl X "max") (hm : X.mg "max" = none) (he : backTo pos (starEach [a] X.env) = (false, eval a X.env) :: backTo pos (starEach [] X.env) := by rfl) (hpl : (backTo pos (starEach [a] X.env)).any (·.1) = false := by rfl)
    (hs : starEach [a] X.env = (false, eval a X.env) :: starEach [] X.env := by rfl)
    (hall : (backToKw pos (keywordEach [⟨some "default", b, kpos⟩] X.env)).all (·.1.isSome) = true := by rfl) (hnone : (backToKw pos (keywordEach [⟨some "default", b, kpos⟩] X.env)).any (·.1.isNone) = false := by rfl) (hks : (backToKw pos (keywordEach [⟨some "default", b, kpos⟩] X.env)).filterMap (·.1) = [("default" : Str)] := by rfl) :
    DE X T E (.Call (.Name "max" p) [a] [⟨some "default", b, kpos⟩] pos) (wMaxD wa wb) :=
  pe_imp (pe_callBK (cr_maxDf hc hu) hg hm PyProof.Rows.boot_max (pa_cons ha pa_nil hs) (pk_cons hb pk_nil) (by decide) (by decide) he hpl hall hnone hks) fun σ H Q ⟨g, M, S, n, k, x, rl, w, p⟩ => ⟨g, M, S, n, _, x, rl, w, (fun d n1 v M1 H1 s1 r1 h1 w1 =>
    ⟨g, M1, S, n1, _, x, r1, w1, (fun e n2 v2 M2 H2 s2 r2 h2 w2 => by
      obtain ⟨a, ns, rfl, hl, w2⟩ := rep_ints r2.bs.sub (h1.mono s2) w2
      obtain ⟨j, rfl, rfl, w2⟩ := rep_int h2 w2
      exact ⟨a, ns, j, rfl, rfl, .of hl, (p.step (s1.trans s2)).here r2 (.int _) w2⟩), p.2⟩), p.2⟩
/-! ### {} as a value; repr of a dict of flat values -/
def wDct0 : WE := fun _ n k _ => k (.dct []) n
theorem de_dct0 : DE X T E (.Dict [] [] pos) wDct0 := pe_imp pe_dnewK fun σ H Q ⟨g, M, S, n, k, x, rl, w, p⟩ => fun a na => p.put rl na (fun ps z => by cases z) (fun sm => .dct upd_same .nil) w
end
def flatPy : D → Option PyData
  | .non => some .none
  | .bl b => some (.bool b)
  | .int i => some (.int i)
  | .str x => some (.str x)
  | _ => none
def keyPy : Key → PyData
  | .inl i => .int i
  | .inr x => .str x
def flatKs : List (Key × D) → Option (List (PyData × PyData))
  | [] => some []
  | (k, d) :: r => match flatPy d, flatKs r with
    | some p, some ps => some ((keyPy k, p) :: ps)
    | _, _ => none
theorem reads_keyK {h : Heap} {P : Program} {w : World} : ∀ (k : Key) (key : Value), (mixKind P w).is k key = true → Reads h key (keyPy k) [] := fun k key hk => by
  rcases keyIs_shape hk with ⟨i, t, rfl, rfl⟩ | ⟨x, t, rfl, rfl⟩
  · exact .int i t
  · exact .str x t
theorem flat_reads {K : PySem.W.Frag} {pn : Addr} {M : Hp} {h : Heap} : ∀ {vs : List (Key × V)} {ds : List (Key × D)} {us : List (Key × Value)} {ps : List (PyData × PyData)}, RepKs K pn M vs ds → KV vs us → flatKs ds = some ps → PyProof.V.PairsRead h keyPy us ps []
  | _, _, _, _, .nil, kv, e => by
    unfold KV at kv
    cases kv
    cases e
    exact .nil
  | _, _, _, _, @RepKs.cons _ _ _ k v d vs ds hd t, kv, e => by
    unfold KV at kv
    cases kv with
    | @cons _ q _ qs h1 h2 =>
      obtain ⟨k', u⟩ := q
      obtain ⟨e1, e2⟩ := h1
      have e1' : k = k' := e1
      subst e1'
      have e2' : RelV v u := e2
      simp only [flatKs] at e
      cases e3 : flatPy d with
      | none => rw [e3] at e; cases e
      | some p =>
        cases e4 : flatKs ds with
        | none => rw [e3, e4] at e; cases e
        | some ps' =>
          rw [e3, e4] at e
          cases e
          have tl := flat_reads (h := h) t h2 e4
          have hd' : Reads h u p [] := by
            cases hd with
            | non => cases e3; cases (show u = Value.none from e2'); exact .none
            | bl b => cases e3; cases (show u = Value.bool b from e2'); exact .bool b
            | int i => cases e3; obtain ⟨t, rfl⟩ := (show ∃ t, u = Value.int i t from e2'); exact .int i t
            | str y => cases e3; obtain ⟨t, rfl⟩ := (show ∃ t, u = Value.str y t from e2'); exact .str y t
            | _ => cases e3
          exact .cons (as := []) (bs := []) hd' tl
def rReprK (K : PySem.W.Frag) : List V → Hp → VK → Prop := fun xs H Q => Og.rRepr K xs H Q ∨ ∃ (a : Addr) (vs : List (Key × V)) (pn : Addr) (M : Hp) (ds : List (Key × D)) (ps : List (PyData × PyData)), xs = [.ref a] ∧ H a = some (.dK vs) ∧ RepKs K pn M vs ds ∧ flatKs ds = some ps ∧
  (PyData.dict ps).showable = true ∧ (PyData.dict ps).depth ≤ 20 ∧ (PyData.dict ps).shown.length ≤ sizeLine ∧ Q (.str (PyData.dict ps).shown) H
theorem call_reprK {X : Cx} (hG : X.A.guards = some []) (hu : X.A.units + 64 < cLine) : CallR X (.builtin "repr") (rReprK X.K) := by
  intro pins s σ H xs us Q I r h
  rcases h with h | ⟨a, vs, pn, M, ds, ps, rfl, ha, rk, hf, hs, hdep, hsz, q⟩
  · exact Og.call_reprD hG hu pins s σ H xs us Q I r h
  · rw [Vals.ref1 r]
    obtain ⟨_, hsy, us', kv, dk⟩ := (show ObjOk X.prog X.w H s.heap a (.dK vs) from I.hok a _ ha)
    have R := PyProof.V.reads_dictOf (h := s.heap) reads_keyK dk (flat_reads rk kv hf)
    refine repr_of_reads' R hs (fun _ z => ?_) hG (by omega) (fun _ _ e => e) (fun h' u tk hk => ⟨.str _, H, I.kept hk, ⟨_, rfl⟩, q⟩) hsz
    rw [List.mem_singleton] at z
    rw [← z] at hsy
    simp at hsy
def fReprK : F1 := fun d n k x =>
  match d with
  | .dct kvs => ∃ ps, flatKs kvs = some ps ∧ (PyData.dict ps).showable = true ∧ (PyData.dict ps).depth ≤ 20 ∧ (PyData.dict ps).shown.length ≤ sizeLine ∧ k (.str (PyData.dict ps).shown) n
  | _ => fRepr d n k x
theorem lr_reprK {K : PySem.W.Frag} {T : Tb} {E : XK} : LRC K T E (rReprK K) (fOne fReprK) := lrc1 fun g n S σ M H v d Q k x r rd f p => by
  have old : ∀ {d : D}, Rep K g.pn M v d → fRepr d n k x → rReprK K [v] H Q := fun rd f => by
    obtain ⟨q, h1, h2, h3, h4, f⟩ := f
    exact .inl ⟨v, q, rfl, rep_dp r.bs.sub rd h1, h2, h3, h4, p.here r (.str _) f⟩
  cases rd with
  | @dct a xs ds h hr =>
    obtain ⟨ps, h1, h2, h3, h4, f⟩ := f
    exact .inr ⟨a, xs, g.pn, M, ds, ps, rfl, r.bs.sub _ _ h, hr, h1, h2, h3, h4, p.here r (.str _) f⟩
  | non => exact old .non f
  | bl b => exact old (.bl b) f
  | int b => exact old (.int b) f
  | str b => exact old (.str b) f
  | tup h r => exact old (.tup h r) f
  | lst h r => exact old (.lst h r) f
  | ins h r => exact old (.ins h r) f
  | pen => exact old .pen f
  | obj a => exact old (.obj a) f
  | ty a => exact old (.ty a) f
  | exc h h2 r => exact old (.exc h h2 r) f
end Dl

set_option Elab.async false
set_option linter.all false
set_option maxRecDepth 100000
set_option maxHeartbeats 4000000
namespace Dl
open PySem PySem.Spec PyProof.Rows L2 LamX
/-! ### repr of an int, of a text, of None and the truths, whatever repr be under way -/
def rReprT : List V → Hp → VK → Prop := fun xs H Q => (∃ i : Int, xs = [.int i] ∧ i.natAbs.log2 < 1920 ∧ Q (.str (Str.ofString (toString i))) H) ∨ (∃ x : Str, xs = [.str x] ∧ (PySem.reprText x).length ≤ sizeLine ∧ Q (.str (PySem.reprText x)) H)
theorem call_reprT {X : Cx} : CallR X (.builtin "repr") rReprT := by
  intro pins s σ H xs us Q I r h
  rcases h with ⟨i, rfl, h, q⟩ | ⟨x, rfl, h, q⟩
  · exact SkE.call_repr_int pins s σ H _ us Q I r ⟨i, rfl, h, q⟩
  · obtain ⟨u, rfl, ru⟩ := r.one
    obtain ⟨tk, rfl⟩ := ru
    exact PySem.P.repr_of_str ⟨.str _, H, I.tok _, ⟨_, rfl⟩, q⟩ h
def fReprT : F1 := fun d n k _ =>
  match d with
  | .int i => i.natAbs.log2 < 1920 ∧ k (.str (Str.ofString (toString i))) n
  | .str x => (PySem.reprText x).length ≤ sizeLine ∧ k (.str (PySem.reprText x)) n
  | _ => False
theorem lr_reprT {K : PySem.W.Frag} {T : Tb} {E : XK} : LRC K T E rReprT (fOne fReprT) := lrc1 fun g n S σ M H v d Q k x r rd f p => by
  cases rd with
  | int i => exact .inl ⟨i, rfl, f.1, p.here r (.str _) f.2⟩
  | str i => exact .inr ⟨i, rfl, f.1, p.here r (.str _) f.2⟩
  | _ => exact f.elim
/-! ### the def that gets a lambda -/
theorem ps_tried {X : Cx} {K : PySem.W.Frag} {T : Tb} {body : List Stmt} {W : WX} {wb : WS} (h : ∀ Ech : XK, (∀ cls d σ' H', Ech cls d H' → W cls d σ' H') → PSs X body (toTS K T Ech wb)) : PSs X body (tHeld K T wb W) :=
  ⟨fun pins s σ H D I ⟨Ech, h1, h2⟩ => (h Ech h1).run pins s σ H D I h2⟩
/-- the call of what it got, in the try's context -/
abbrev AskD (X : Cx) (T : Tb) (a : Str) (f : Addr) (ask : Ask) : Prop := ∀ (W : WX) (pn : List (Addr × Obj)) (xe : Value → Shared → Prop) (Ech : XK) (p1 p2 : Pos), Takes (X.tr pn xe) W → (∀ cls d σ' H', Ech cls d H' → W cls d σ' H') → DE (X.tr pn xe) T Ech (.Call (.Name a p1) [] [] p2) (wAsk f ask)
theorem hears {X : Cx} {T : Tb} {Ng : List Str} {x a q : Str} {sg : Scope} {g0 : Addr} {cdg : Value} {bg : List Stmt} {WB : Addr → Ask → WS} (hT : T.pin = none)
    (body : ∀ (T' : Tb) (s : Shared) (H : Hp) (f : Addr) (ask : Ask), AskD (cxOf C8.CX0 X.prog X.w X.K X.mg X.base Ng x sg g0 cdg X.A X.stack s H C8.E0).nox T' a f ask →
      PSs (cxOf C8.CX0 X.prog X.w X.K X.mg X.base Ng x sg g0 cdg X.A X.stack s H C8.E0).nox bg (toTS X.K T' E0 (WB f ask))) : GivesTo X Ng x sg g0 cdg bg a q (THd X.K T Ng WB) := by
  intro f c' s H Q tl act hc h
  obtain ⟨g, M, n, ask, k, b, ok, hw, hk⟩ := h
  have np : c' ≠ g.pn := fun z => by
    obtain ⟨_, _, _, h1, _⟩ := b.pen
    rw [← z, hc] at h1
    unfold CodeO at h1
    cases h1
  have bp := b.pin hT
  refine ⟨toTS X.K (T.at g M H) E0 (WB f ask), body (T.at g M H) s H f ask (fun W pn xe Ech p1 p2 tk hW => de_ask (X := (cxOf C8.CX0 X.prog X.w X.K X.mg X.base Ng x sg g0 cdg X.A X.stack s H C8.E0).nox.tr pn xe) hc np ok (act W pn xe Ech p1 p2 tk hW)), ⟨g.at M H true, M, startD Ng [.obj f], n, _, _, rfl, Reps.slots (.cons (.obj f) .nil) bp, hw f, ⟨fun S' n' σ' M' H' r' w' => ?_, fun d n' v M' H' b' h' q => ?_, fun _ _ _ _ _ _ z => z.elim, fun _ _ _ _ _ _ z => z.elim⟩, excF⟩⟩
  · exact hk .non n' .non M' H' r'.bs .non w'
  · exact hk d n' v M' H' b' h' q
/-- a def that gets a lambda, by name -/
structure HearAt (K : PySem.W.Frag) (mg : Str → Option Value) (nm a : Str) (st : Stmt) : Prop where
  ex : ∃ fd, L2.Fun K nm nm st (ga K nm) fd ∧ Binds K fd [a] []
  g : mg nm = some (.ref (ga K nm))
theorem de_hear {X : Cx} {T : Tb} {E : XK} {nm a : Str} {st : Stmt} {Ng : List Str} {WB : Addr → Ask → WS} {c P : Addr} {k : Nat} {params : Arguments} {body : Expr} {scope : Scope} {p lpos pos : Pos} {wb : WE} (F : HearAt X.K X.mg nm a st) (Sg : FnScope Ng [a] (defScope st)) (hNg : Ng[0]? = some a) (hva : Vis (defScope st) a)
    (hG : ∀ cdg, GivesTo X Ng nm (defScope st) (ga X.K nm) cdg (defBody st) a (X.env.qual ++ "<lambda>") (THd X.K T Ng WB)) (hT : T.pin = none) (TB : TabB X.base X.mg c P) (hcode : X.env.code = .ref c) (hmT : (P, X.env.qual ++ "<lambda>") ∈ T.tabs) (hu : ∀ p ∈ T.tabs, p.1 = P → p.2 = X.env.qual ++ "<lambda>") (hr : Room (k + 2) X.A)
    (hbody : ∀ (pq : Pin) (A : Around) (outer : List Env) (s : Shared) (H : Hp) (E : XK) (f c' : Addr), Room k (A.deeper (lamEnv X scope s.heap.objs.size f c')) → DE (lamCx X A outer s H E scope f c') { T with pin := some pq } E body wb)
    (hgl : Gl X nm := by rfl) (L : LamS X.env.scope scope := by exact lamS_by (by kernel_rfl)) (hdef : defaultsOf params X.env = ([], []) := by rfl) (hbind : ∀ (q : Str) (cl : List (Str × Addr)) (pm cv ctv : Value), bindArgs (PySem.W.kla_fn "<lambda>" q params body scope cl pm cv ctv) ⟨[], []⟩ = pure [] := by exact fun _ _ _ _ _ => rfl)
    (hdb : (nm == ("__debug__" : Str)) = false := by decide) (hd : (a == ("__debug__" : Str)) = false := by decide) (hcd : (a == ("__classdict__" : Str)) = false := by decide) :
    DE X T E (.Call (.Name nm p) [.Lambda params body scope lpos] [] pos) (wHeard Ng WB wb) := by
  obtain ⟨fd, F1, b⟩ := F.ex
  have kp := F1.kp
  obtain ⟨oc, od, kV, doc, pm, an, cdv, ct, osl, rfl, lk, hcg⟩ := F1.ex
  exact de_heard hT (pe_lamcall (T := T.tabs) hgl F.g kp lk hcg b Sg hNg hva (hG cdv) TB hcode hmT hu hr L hdef hbind (fun A outer s H E f c' hr' => pe_pin fun pq => hbody pq A outer s H E f c' hr') hdb hd hcd)
def fEqI : F2 := fun d e n k _ =>
  match d, e with
  | .int i, .int j => k (.bl (decide (i = j))) n
  | _, _ => False
theorem lr_eqI {K : PySem.W.Frag} {T : Tb} {E : XK} : LR2 K T E rEq fEqI := fun g n S σ M H v w d e Q k x r rd re f p => by
  cases rd with
  | int i =>
    cases re with
    | int j =>
      refine ⟨rfl, ?_⟩
      rw [show decide (V.int i = V.int j) = decide (i = j) by simp]
      exact p.here r (.bl _) f
    | _ => exact f.elim
  | _ => exact f.elim
def wFreezeD (i : Nat) (w : WS) : WS := fun S n D x => ownDI (gt S i) fun ds => w (S.set i (.val (.dct ds))) n D x
end Dl

set_option Elab.async false
set_option linter.all false
set_option maxRecDepth 100000
set_option maxHeartbeats 4000000
namespace PySem.W
open PySem PySem.Calls PyProof.Rows
section
variable {M : Model} {A : Around} {E : Value → Shared → Prop} {s : Shared}
theorem ks_callK {f : Value} {first : List Value} {pos : Pos} {Q : Value → Shared → Prop} {P : Heap → Prop} {args : List (Bool × Sem Value)} {kws : List (Option Str × Sem Value)} (hst : args.any (·.1) = true)
    (hk : ∀ h, P h → ∃ k, (k = Keeper.frame ∨ k = Keeper.machine ∨ k = Keeper.boundFrame) ∧ Looks M h (keeperOf f) k)
    (h : wpAny M A (evalArgs f true args kws) (fun a s₁ => P s₁.heap ∧ wpAny M A (call f (first ++ a.pos) a.kw) Q E s₁) E s) : wpAny M A (callWith pos f first args kws) Q E s := by
  unfold callWith
  refine wpAny_bind (wpAny_holding (wpAny_mono h (fun a s₁ h₁ => wpAny_bind (wpAny_standAt ?_)) fun _ _ x => x))
  obtain ⟨k, hk', L⟩ := hk _ h₁.1
  simp only [hst, Bool.true_or]
  refine wpAny_bind (L.here ?_)
  have tail : ∀ {t : Sem Value}, wpAny M A t Q E s₁ → wpAny M A (t >>= fun r => holding [r] point >>= fun _ => pure r) Q E s₁ :=
    fun ht => wpAny_bind (wpAny_mono ht (fun r s₂ hr => wpAny_bind (wpAny_holding (wpAny_point (wpAny_pure hr)))) fun _ _ x => x)
  have marked (mk : Value) : wpAny M A (callMarked mk f (first ++ a.pos) a.kw) Q E s₁ := by unfold callMarked; exact Calls.wpAny_keep h₁.2
  rcases hk' with rfl | rfl | rfl <;> dsimp only <;> first | exact tail (marked _) | exact tail (wpAny_operating h₁.2)
theorem evalArgs_many {f : Value} {x y : Bool × Sem Value} {rest : List (Bool × Sem Value)} {keywords : List (Option Str × Sem Value)} {Q : Args → Shared → Prop}
    (hall : keywords.all (·.1.isSome) = true)
    (h : wpAny M A (spliced (x :: y :: rest)) (fun vs s₁ => wpAny M A (evalAll (keywords.map (·.2))) (fun ks s₂ => Q ⟨vs, (keywords.filterMap (·.1)).zip ks⟩ s₂) E s₁) E s) :
    wpAny M A (evalArgs f true (x :: y :: rest) keywords) Q E s := by
  obtain ⟨b, x⟩ := x
  unfold evalArgs
  cases b
  all_goals
    show wpAny M A (spliced (_ :: y :: rest) >>= _) Q E s
    refine wpAny_bind (wpAny_mono h (fun vs s₁ h₁ => ?_) fun _ _ x => x)
    refine wpAny_holding ?_
    simp only [hall, if_true]
    refine wpAny_bind (wpAny_mono h₁ (fun ks s₂ h₂ => ?_) fun _ _ x => x)
    exact wpAny_bind (wpAny_pure (wpAny_pure h₂))
theorem ks_loneK {f : Value} {x : Sem Value} {pos : Pos} {keywords : List (Option Str × Sem Value)} {Q : Args → Shared → Prop} (hall : keywords.all (·.1.isSome) = true)
    (h : wpAny M A x (fun v s₁ => wpAny M A (evalAll (keywords.map (·.2))) (fun ks s₂ => StarOf M A E v (fun vs s₃ => Q ⟨vs, (keywords.filterMap (·.1)).zip ks⟩ s₃) s₂) E s₁) E s) :
    wpAny M A (evalArgs f true [(true, (do let v ← x; standAt pos; pure v))] keywords) Q E s := by
  unfold evalArgs
  first
    | refine wpAny_bind (wpAny_bind (wpAny_mono h (fun v s₁ h₁ => wpAny_bind (wpAny_standAt (wpAny_pure ?_))) fun _ _ x => x))
    | refine wpAny_bind (wpAny_bind (wpAny_bind (wpAny_mono h (fun v s₁ h₁ => wpAny_bind (wpAny_standAt (wpAny_pure (wpAny_pure ?_)))) fun _ _ x => x)))
  refine wpAny_holding ?_
  simp only [hall, if_true]
  refine wpAny_bind (wpAny_mono h₁ (fun ks s₂ h₂ => ?_) fun _ _ x => x)
  unfold StarOf at h₂
  refine wpAny_bind (wpAny_bind (wpAny_mono h₂ (fun b s₂ h₂ => ?_) fun _ _ x => x))
  obtain ⟨rfl, h₂⟩ := h₂
  have z := fun ws => wpAny_holding (vs := ws) (wpAny_mono h₂ (fun vs s₃ h₃ => (wpAny_pure h₃ : wpAny M A (pure (⟨vs, (keywords.filterMap (·.1)).zip ks⟩ : Args)) Q E s₃)) fun _ _ x => x)
  try simp only [Bool.false_eq_true, if_false]
  first
    | exact z _
    | exact wpAny_bind (wpAny_pure (z _))
    | exact wpAny_holding (wpAny_mono h₂ (fun vs s₃ h₃ => wpAny_pure h₃) fun _ _ x => x)
    | exact wpAny_bind (wpAny_pure (wpAny_holding (wpAny_mono h₂ (fun vs s₃ h₃ => wpAny_pure h₃) fun _ _ x => x)))
end
end PySem.W
namespace Ow
open PySem PySem.Spec PyProof.Rows L2
section
variable {X : Cx} {CX : CXT} {C f : Addr} {k : Nat} {mk x : Str} {dv : V} {sp : Sp} {E : XK} {e e2 : Expr} {es : List Expr} {kws : List Keyword} {t tk : TA} {te : TE} {p pos sp_ : Pos}
/-- C(*e, e2, .., mk = v) -/
theorem pe_makeMS (M : Mk X.K C f) (F : FnM X.prog X.w X.K X.mg X.base CX k f mk dv sp) (hr : Room (k + 1) X.A) (hg : Gl X x) (hm : X.mg x = some (.ref C)) (hx : Passes CX X E) (ha : PA X (.Starred e sp_ :: e2 :: es) t) (hkw : PK X kws tk)
    (hall : (backToKw pos (keywordEach kws X.env)).all (·.1.isSome) = true := by rfl) (hks : (backToKw pos (keywordEach kws X.env)).filterMap (·.1) = [mk] := by rfl) (hdb : (x == ("__debug__" : Str)) = false := by decide)
    (he : ∃ a b r, backTo pos (starEach (.Starred e sp_ :: e2 :: es) X.env) = a :: b :: r := by exact ⟨_, _, _, rfl⟩) (hpl : (backTo pos (starEach (.Starred e sp_ :: e2 :: es) X.env)).any (·.1) = true := by rfl) :
    PE X (.Call (.Name x p) (.Starred e sp_ :: e2 :: es) kws pos) (tMakeM C sp E t tk) := by
  refine ⟨fun pins s σ H Q I h => ?_⟩
  refine wpAny_Call_Name_kw (ld_glob I hg hm ?_ hdb)
  refine PySem.W.ks_callK (P := X.K.In) hpl (PySem.W.keeps_K M.kp) ?_
  obtain ⟨a, b, r, he⟩ := he
  have run := ha.run pos pins s σ H _ I h
  rw [he] at run ⊢
  refine PySem.W.evalArgs_many hall (thn run fun us s1 ⟨vs, H1, I1, r, q⟩ => ?_)
  refine thn (hkw.run pos pins s1 σ H1 _ I1 q) fun ws s2 ⟨zs, H2, I2, rz, vm, ez, q2⟩ => ⟨I2.kIn, ?_⟩
  subst ez
  cases rz with
  | cons rm rn =>
    cases rn
    rw [hks]
    exact run_makeM M F hr hx I2 r rm q2
/-- C(*e, mk = v) -/
theorem pe_makeMS1 (M : Mk X.K C f) (F : FnM X.prog X.w X.K X.mg X.base CX k f mk dv sp) (hr : Room (k + 1) X.A) (hg : Gl X x) (hm : X.mg x = some (.ref C)) (hx : Passes CX X E) (he : PE X e te) (hkw : PK X kws tk)
    (hall : (backToKw pos (keywordEach kws X.env)).all (·.1.isSome) = true := by rfl) (hks : (backToKw pos (keywordEach kws X.env)).filterMap (·.1) = [mk] := by rfl) (hdb : (x == ("__debug__" : Str)) = false := by decide)
    (hst : backTo pos (starEach [.Starred e sp_] X.env) = [(true, (do let v ← eval e X.env; standAt pos; pure v))] := by rfl) :
    PE X (.Call (.Name x p) [.Starred e sp_] kws pos) (fun σ H Q => te σ H fun y H1 => tk σ H1 fun zs H2 => ∃ a xs vm, y = V.ref a ∧ zs = [vm] ∧ (SqT X.K H2 a xs ∨ SqL X.K H2 a xs) ∧ mkAskM C sp E vm xs H2 Q) := by
  refine ⟨fun pins s σ H Q I h => ?_⟩
  refine wpAny_Call_Name_kw (ld_glob I hg hm ?_ hdb)
  refine PySem.W.ks_callK (P := X.K.In) (by rw [hst]; rfl) (PySem.W.keeps_K M.kp) ?_
  rw [hst]
  refine PySem.W.ks_loneK hall (thn (he.run pins s σ H _ I h) fun v s1 ⟨y, H1, I1, ry, q⟩ => ?_)
  refine thn (hkw.run pos pins s1 σ H1 _ I1 q) fun ws s2 ⟨zs, H2, I2, rz, a, xs, vm, ey, ez, hxs, q2⟩ => ?_
  subst ey ez
  obtain rfl : v = Value.ref a := ry
  cases rz with
  | cons rm rn =>
    cases rn
    refine StX.star_any I2 hxs fun us s3 I3 rv => ⟨I3.kIn, ?_⟩
    rw [hks]
    exact run_makeM M F hr hx I3 rv rm q2
end
end Ow
namespace Dl
open PySem PySem.Spec PyProof.Rows L2 LamX
section
variable {X : Cx} {T : Tb} {E : XK} {e : Expr} {wa wm : WE} {F : WI} {C : Addr}
theorem de_makeMS1 (he : PE X e (fun σ H Q => (toTE X.K T E wa) σ H fun y H1 => (tCons (toTE X.K T E wm) tNil) σ H1 fun zs H2 => ∃ a xs vm, y = V.ref a ∧ zs = [vm] ∧ (SqT X.K H2 a xs ∨ SqL X.K H2 a xs) ∧ Ow.mkAskM C (spI X.K T C F) E vm xs H2 Q)) : DE X T E e (wMakeM C F (wStar wa wNil) wm) :=
  pe_imp he fun σ H Q ⟨g, M, S, n, k, x, rl, w, p⟩ => ⟨g, M, S, n, _, x, rl, w, (fun d n1 v M1 H1 s1 r1 e1 w1 => by
    have fin : ∀ (a : Addr) (xs : List V) (ds : List D), (SqT X.K M1 a xs ∨ M1 a = some (.lst xs)) → Reps X.K g.pn M1 xs ds → v = .ref a → wNil S n1 (fun es n2 => wm S n2 (fun m n3 => fMakeM C F m (ds ++ es) n3 k x) x) x →
        (tCons (toTE X.K T E wm) tNil) σ H1 fun zs H2 => ∃ a xs vm, v = V.ref a ∧ zs = [vm] ∧ (SqT X.K H2 a xs ∨ SqL X.K H2 a xs) ∧ Ow.mkAskM C (spI X.K T C F) E vm xs H2 Q := fun a xs ds ha hx ev w1 => by
      refine ⟨g, M1, S, n1, _, x, r1, w1, (fun m n2 vm M2 H2 s2 r2 e2 w2 => ?_), p.2⟩
      rw [List.append_nil] at w2
      refine ⟨a, xs, vm, ev, rfl, ?_, askM_of r2 e2 (hx.mono s2) w2.1 w2.2 (p.step (s1.trans s2))⟩
      rcases ha with ha | ha
      · exact .inl (same_tup (s2.trans r2.bs.sub) ha)
      · exact .inr (.of (r2.bs.sub _ _ (s2 _ _ ha)))
    cases e1 with
    | @tup a xs ds ha hx => exact fin a xs ds (.inl ha) hx rfl w1
    | @lst a xs ds ha hx => exact fin a xs ds (.inr ha) hx rfl w1
    | _ => exact w1.elim), p.2⟩
end
end Dl

set_option Elab.async false
set_option linter.all false
set_option maxRecDepth 100000
set_option maxHeartbeats 4000000
namespace Dl
open PySem PySem.Spec PyProof.Rows L2 LamX
/-! ### reading what is asked of data -/
theorem isB_bl {b : Bool} {k : Bool → Prop} : isB (.bl b) k = k b := rfl
theorem tru_bl {b : Bool} {k : Bool → Prop} : tru (.bl b) k = k b := rfl
theorem optI_some {b : Bool} {k : Bool → Prop} : optI (some b) k = k b := rfl
theorem slV_val {d : D} {k : D → Prop} : slV (.val d) k = k d := rfl
theorem ownL_own {d : List D} {k : List D → Prop} : ownL (.own d) k = k d := rfl
theorem ownDI_own {d : List (Key × D)} {k : List (Key × D) → Prop} : ownDI (.ownD d) k = k d := rfl
theorem lendI_own {d : List D} {k : D → Prop} : lendI (.own d) k = k (.lst d) := rfl
theorem lendI_ownD {d : List (Key × D)} {k : D → Prop} : lendI (.ownD d) k = k (.dct d) := rfl
theorem seqI_tup {ds : List D} {k : List D → Prop} : seqI (.tup ds) k = k ds := rfl
theorem seqI_lst {ds : List D} {k : List D → Prop} : seqI (.lst ds) k = k ds := rfl
theorem tupI_tup {ds : List D} {k : List D → Prop} : tupI (.tup ds) k = k ds := rfl
theorem lstI_lst {ds : List D} {k : List D → Prop} : lstI (.lst ds) k = k ds := rfl
theorem intI_int {i : Int} {k : Int → Prop} : intI (.int i) k = k i := rfl
theorem dctI_dct {kvs : List (Key × D)} {k : List (Key × D) → Prop} : dctI (.dct kvs) k = k kvs := rfl
theorem keyI_int {i : Int} {k : Key → Prop} : keyI (.int i) k = k (.inl i) := rfl
theorem insI_ins {C : Addr} {fs : List (Str × D)} {k : List (Str × D) → Prop} : insI C (.ins C fs) k = k fs := by
  show (C = C ∧ k fs) = k fs
  simp
theorem ownIi_own {a C : Addr} {fs : List (Str × D)} {k : Addr → List (Str × D) → Prop} : ownIi C (.ownI a C fs) k = k a fs := by
  show (C = C ∧ k a fs) = k a fs
  simp
theorem excI_exc {C : Addr} {Cs : List Addr} {fs : List (Str × D)} {k : List (Str × D) → Prop} : excI Cs (.exc C fs) k = (C ∈ Cs ∧ k fs) := rfl
theorem fOne_one {f : F1} {d : D} {n : Nat} {k : KD} {x : KX} : fOne f [d] n k x = f d n k x := rfl
theorem fI0_int {h : Int → Int → D} {i j : Int} {n : Nat} {k : KD} {x : KX} : fI0 h (.int i) (.int j) n k x = k (h i j) n := rfl
theorem fI2_int {C : Int → Int → Prop} {h : Int → Int → D} {i j : Int} {n : Nat} {k : KD} {x : KX} : fI2 C h (.int i) (.int j) n k x = (C i j ∧ k (h i j) n) := rfl
theorem fLen_tup {ds : List D} {n : Nat} {k : KD} {x : KX} : fLen (.tup ds) n k x = k (.int (ds.length : Nat)) n := rfl
theorem fLen_lst {ds : List D} {n : Nat} {k : KD} {x : KX} : fLen (.lst ds) n k x = k (.int (ds.length : Nat)) n := rfl
theorem fTuple_tup {ds : List D} {n : Nat} {k : KD} {x : KX} : fTuple (.tup ds) n k x = k (.tup ds) n := rfl
theorem fTuple_lst {ds : List D} {n : Nat} {k : KD} {x : KX} : fTuple (.lst ds) n k x = k (.tup ds) n := rfl
theorem fInt_int {i : Int} {n : Nat} {k : KD} {x : KX} : fInt (.int i) n k x = k (.int i) n := rfl
theorem fInt_bl {b : Bool} {n : Nat} {k : KD} {x : KX} : fInt (.bl b) n k x = k (.int (if b then 1 else 0)) n := rfl
theorem fAdd_int {i j : Int} {n : Nat} {k : KD} {x : KX} : fAdd (.int i) (.int j) n k x = k (.int (i + j)) n := rfl
theorem fAdd_tup {a b : List D} {n : Nat} {k : KD} {x : KX} : fAdd (.tup a) (.tup b) n k x = (a.length + b.length ≤ 100000 ∧ k (.tup (a ++ b)) n) := rfl
theorem fAdd_lst {a b : List D} {n : Nat} {k : KD} {x : KX} : fAdd (.lst a) (.lst b) n k x = (a.length + b.length ≤ 100000 ∧ k (.lst (a ++ b)) n) := rfl
theorem fNeg_int {i : Int} {n : Nat} {k : KD} {x : KX} : fNeg (.int i) n k x = k (.int (-i)) n := rfl
theorem fSl_tup {ds : List D} {lo hi : Option Int} {n : Nat} {k : KD} : fSl (.tup ds) lo hi n k = k (.tup (cutD ds lo hi)) n := rfl
theorem fSl_lst {ds : List D} {lo hi : Option Int} {n : Nat} {k : KD} : fSl (.lst ds) lo hi n k = k (.lst (cutD ds lo hi)) n := rfl
theorem gwTup_tup {u : List D → List Sl → (List Sl → Prop) → Prop} {ds : List D} {S : List Sl} {kk : List Sl → Prop} : gwTup u (.tup ds) S kk = u ds S kk := rfl
theorem gwUnl_lst {u : List D → List Sl → (List Sl → Prop) → Prop} {ds : List D} {S : List Sl} {kk : List Sl → Prop} : gwUnl u (.lst ds) S kk = u ds S kk := rfl
theorem gwCons_cons {w : WG} {u : List D → List Sl → (List Sl → Prop) → Prop} {d : D} {ds : List D} {S : List Sl} {kk : List Sl → Prop} : gwCons w u (d :: ds) S kk = w d S (fun S' => u ds S' kk) := rfl
theorem gwNil_nil {S : List Sl} {kk : List Sl → Prop} : gwNil [] S kk = kk S := by
  show ([] = [] ∧ kk S) = kk S
  simp
theorem gwName_eq {i : Nat} {d : D} {S : List Sl} {kk : List Sl → Prop} : gwName i d S kk = kk (S.set i (.val d)) := rfl
theorem lcD_nil {gw : WG} {tt : WT} {te : WE} {S : List Sl} {acc : List D} {n : Nat} {k : List D → Nat → Prop} : lcD gw tt te S [] acc n k = k acc n := rfl
/-- e for x in ds, each giving f x -/
theorem lc_map {i : Nat} {te : WE} {S : List Sl} (f : D → D) : ∀ {ds acc : List D} {n : Nat} {k : List D → Nat → Prop}, (∀ d ∈ ds, ∀ (m : Nat) (kd : KD), kd (f d) m → te (S.set i (.val d)) m kd (fun _ _ => False)) → k (acc ++ ds.map f) n → lcD (gwName i) wYes te S ds acc n k
  | [], acc, n, k, _, q => by
    rw [List.map_nil, List.append_nil] at q
    exact q
  | d :: ds, acc, n, k, h, q => by
    show te (S.set i (.val d)) n _ _
    refine h d List.mem_cons_self n _ ?_
    refine lc_map f (fun e he => h e (List.mem_cons_of_mem _ he)) ?_
    rw [List.append_assoc]
    exact q
/-- .. if x: the test tells p x -/
theorem lc_fil {i : Nat} {tt : WT} {te : WE} {S : List Sl} (f : D → D) (p : D → Bool) : ∀ {ds acc : List D} {n : Nat} {k : List D → Nat → Prop}, (∀ d ∈ ds, ∀ (m : Nat) (kb : Bool → Nat → Prop), kb (p d) m → tt (S.set i (.val d)) m kb (fun _ _ => False)) →
    (∀ d ∈ ds, p d = true → ∀ (m : Nat) (kd : KD), kd (f d) m → te (S.set i (.val d)) m kd (fun _ _ => False)) → k (acc ++ (ds.filter p).map f) n → lcD (gwName i) tt te S ds acc n k
  | [], acc, n, k, _, _, q => by
    rw [List.filter_nil, List.map_nil, List.append_nil] at q
    exact q
  | d :: ds, acc, n, k, ht, h, q => by
    show tt (S.set i (.val d)) n _ _
    refine ht d List.mem_cons_self n _ ?_
    rw [List.filter_cons] at q
    by_cases e : p d = true
    · rw [if_pos e] at q ⊢
      refine h d List.mem_cons_self e n _ ?_
      refine lc_fil f p (fun e he => ht e (List.mem_cons_of_mem _ he)) (fun e he => h e (List.mem_cons_of_mem _ he)) ?_
      rw [List.append_assoc]
      exact q
    · rw [if_neg e] at q ⊢
      exact lc_fil f p (fun e he => ht e (List.mem_cons_of_mem _ he)) (fun e he => h e (List.mem_cons_of_mem _ he)) q
/-- .. if a draw: some of them -/
theorem lc_draw {i : Nat} {tt : WT} {te : WE} {S : List Sl} {B : Nat} : ∀ {ds acc : List D} {n : Nat} {k : List D → Nat → Prop}, n + ds.length ≤ B → (∀ d ∈ ds, ∀ (m : Nat) (kb : Bool → Nat → Prop), m + 1 ≤ B → (∀ b, kb b (m + 1)) → tt (S.set i (.val d)) m kb (fun _ _ => False)) →
    (∀ d ∈ ds, ∀ (m : Nat) (kd : KD), kd d m → te (S.set i (.val d)) m kd (fun _ _ => False)) → (∀ l : List D, l.Sublist ds → k (acc ++ l) (n + ds.length)) → lcD (gwName i) tt te S ds acc n k
  | [], acc, n, k, _, _, _, q => by
    have := q [] (List.Sublist.slnil)
    rw [List.append_nil] at this
    exact this
  | d :: ds, acc, n, k, hB, ht, h, q => by
    rw [List.length_cons] at hB
    show tt (S.set i (.val d)) n _ _
    refine ht d List.mem_cons_self n _ (by omega) fun b => ?_
    have e1 : n + 1 + ds.length = n + (d :: ds).length := by rw [List.length_cons]; omega
    cases b with
    | true =>
      rw [if_pos rfl]
      refine h d List.mem_cons_self (n + 1) _ ?_
      refine lc_draw (B := B) (by omega) (fun e he => ht e (List.mem_cons_of_mem _ he)) (fun e he => h e (List.mem_cons_of_mem _ he)) fun l hl => ?_
      rw [List.append_assoc, e1]
      exact q (d :: l) (hl.cons_cons d)
    | false =>
      rw [if_neg (by decide)]
      refine lc_draw (B := B) (by omega) (fun e he => ht e (List.mem_cons_of_mem _ he)) (fun e he => h e (List.mem_cons_of_mem _ he)) fun l hl => ?_
      rw [e1]
      exact q l (hl.cons d)
/-- a loop by an invariant of what is left -/
theorem for_inv {i : Nat} {body : WS} {E : DEnds} {x : KX} (I : List D → List Sl → Nat → Prop)
    (step : ∀ d ds S n (R : List Sl → Nat → Prop), I (d :: ds) S n → (∀ S' n', I ds S' n' → R S' n') → body (S.set i (.val d)) n { nx := R, rt := E.rt, bk := E.nx, ct := R } x) (nx : ∀ S n, I [] S n → E.nx S n) :
    ∀ (ds : List D) (S : List Sl) (n : Nat), I ds S n → forD (gwName i) body E x ds S n
  | [], S, n, h => nx S n h
  | d :: ds, S, n, h => step d ds S n _ h fun S' n' h' => for_inv I step nx ds S' n' h'
theorem iteB {c : Bool} {A B : Prop} (a : c = true → A) (b : c = false → B) : if c = true then A else B := by
  cases c
  · rw [if_neg (by decide)]; exact b rfl
  · rw [if_pos rfl]; exact a rfl
theorem rngD_map (lo : Int) (m : Nat) (f : D → D) : (rngD lo m).map f = (List.range m).map fun (i : Nat) => f (.int (lo + (i : Int))) := by
  unfold rngD
  rw [List.map_map]
  rfl
theorem ints_map (ns : List Int) : intsOf (ns.map D.int) = some ns := intsOf_map ns
theorem intsI_map {ns : List Int} {k : List Int → Prop} : intsI (.lst (ns.map D.int)) k = k ns := by
  show (match intsOf (ns.map D.int) with
    | some ns => k ns
    | none => False) = k ns
  rw [intsOf_map]
theorem blsI_map {ns : List Bool} {k : List Bool → Prop} : blsI (.lst (ns.map D.bl)) k = k ns := by
  show (match blsOf (ns.map D.bl) with
    | some ns => k ns
    | none => False) = k ns
  rw [blsOf_map]
theorem pyv_of {d : D} {p : PyData} {k : PyData → Prop} (h : toPy d = some p) (s : SeqAt.shaped p = true) (q : k p) : pyv d k := by
  unfold pyv
  rw [h]
  exact ⟨s, q⟩
/-- data that are compared as they stand -/
def cmpD (d : D) : Bool := match toPy d with
  | some p => SeqAt.shaped p
  | none => false
def eqD (d e : D) : Bool := match toPy d, toPy e with
  | some p, some q => PyData.eqv p q
  | _, _ => false
theorem cmpD_get {d : D} (h : cmpD d = true) : ∃ p, toPy d = some p ∧ SeqAt.shaped p = true := by
  unfold cmpD at h
  cases e : toPy d with
  | none => rw [e] at h; cases h
  | some p => rw [e] at h; exact ⟨p, rfl, h⟩
theorem fEq_of {d e : D} {n : Nat} {k : KD} {x : KX} (h1 : cmpD d = true) (h2 : cmpD e = true) (q : k (.bl (eqD d e)) n) : fEq d e n k x := by
  obtain ⟨a, p1, p2⟩ := cmpD_get h1
  obtain ⟨b, p3, p4⟩ := cmpD_get h2
  refine pyv_of p1 p2 (pyv_of p3 p4 ?_)
  unfold eqD at q
  rw [p1, p3] at q
  exact q
theorem fNe_of {d e : D} {n : Nat} {k : KD} {x : KX} (h1 : cmpD d = true) (h2 : cmpD e = true) (q : k (.bl (!eqD d e)) n) : fNe d e n k x := by
  obtain ⟨a, p1, p2⟩ := cmpD_get h1
  obtain ⟨b, p3, p4⟩ := cmpD_get h2
  refine pyv_of p1 p2 (pyv_of p3 p4 ?_)
  unfold eqD at q
  rw [p1, p3] at q
  exact q
theorem cmpD_int (i : Int) : cmpD (.int i) = true := by unfold cmpD; rfl
theorem cmpD_bl (i : Bool) : cmpD (.bl i) = true := by unfold cmpD; rfl
theorem cmpD_non : cmpD .non = true := by unfold cmpD; rfl
theorem eqD_int (a b : Int) : eqD (.int a) (.int b) = decide (a = b) := by
  show PyData.eqv (.int a) (.int b) = _
  simp [PyData.eqv, Bool.beq_eq_decide_eq]
theorem eqD_bl (a b : Bool) : eqD (.bl a) (.bl b) = decide (a = b) := by
  cases a <;> cases b <;> decide
theorem fEq_int {a b : Int} {n : Nat} {k : KD} {x : KX} (q : k (.bl (decide (a = b))) n) : fEq (.int a) (.int b) n k x := fEq_of (cmpD_int a) (cmpD_int b) (by rw [eqD_int]; exact q)
theorem fNe_int {a b : Int} {n : Nat} {k : KD} {x : KX} (q : k (.bl (!decide (a = b))) n) : fNe (.int a) (.int b) n k x := fNe_of (cmpD_int a) (cmpD_int b) (by rw [eqD_int]; exact q)
theorem toPys_all {ds : List D} (h : ∀ d ∈ ds, cmpD d = true) (hd : ∀ d ∈ ds, ∀ p, toPy d = some p → p.depth ≤ 60) : ∃ ps, toPys ds = some ps ∧ PyData.canLayAll0 ps = true ∧ PyData.depthAll ps ≤ 60 := by
  induction ds with
  | nil => exact ⟨[], rfl, rfl, by simp [PyData.depthAll]⟩
  | cons d ds ih =>
    obtain ⟨p, p1, p2⟩ := cmpD_get (h d List.mem_cons_self)
    obtain ⟨ps, q1, q2, q3⟩ := ih (fun e he => h e (List.mem_cons_of_mem _ he)) (fun e he => hd e (List.mem_cons_of_mem _ he))
    refine ⟨p :: ps, ?_, ?_, ?_⟩
    · simp only [toPys, p1, q1]
    · simp only [PyData.canLayAll0, q2, Bool.and_true]
      exact SeqAt.canLay_of_shaped p2
    · simp only [PyData.depthAll]
      have := hd d List.mem_cons_self p p1
      omega
end Dl

set_option Elab.async false
set_option linter.all false
set_option maxRecDepth 100000
set_option maxHeartbeats 4000000
namespace Dl
open PySem PySem.Spec PyProof.Rows L2 LamX
/-! ### while -/
def wWhile (c : WT) (body : WS) : WS := fun S n D x => ∃ I : Nat → List Sl → Nat → Prop, (∃ m, I m S n) ∧ ∀ m S n, I m S n →
  c S n (fun b n1 => if b = true then body S n1 { nx := fun S' n' => ∃ m', m' < m ∧ I m' S' n', rt := D.rt, bk := D.nx, ct := fun S' n' => ∃ m', m' < m ∧ I m' S' n' } x else D.nx S n1) x
section
variable {X : Cx} {T : Tb} {E : XK} {c : Expr} {body : List Stmt} {pos : Pos} {wc : WT} {wb : WS}
theorem ds_while (hp : PassesOwn (model X.prog X.w) X.A X.env X.xe) (hc : DT X T E c wc) (hb : DSs X T E body wb) : DS X T E (.While c body [] pos) (wWhile wc wb) :=
  ps_imp (ps_while hp hc hb) fun Dn σ H ⟨g, M, S, n, Dd, x, gs, rl, ⟨I, ⟨m0, i0⟩, turn⟩, p, q⟩ => by
    refine ⟨fun m σ H => ∃ S n M', Same M M' ∧ Rel X.K T g n S σ M' H ∧ I m S n, ⟨m0, S, n, M, Same.refl M, rl, i0⟩, ?_⟩
    rintro m σ1 H1 ⟨S1, n1, M1, s1, r1, i1⟩
    refine ⟨g, M1, S1, n1, _, x, r1, turn m S1 n1 i1, fun b n2 M2 H2 s2 r2 w2 => ?_, q⟩
    cases b with
    | false => exact p.nx S1 n2 σ1 M2 H2 r2 w2
    | true =>
      refine iteT ⟨fun σ' H' => ∃ m', m' < m ∧ ∃ S n M', Same M M' ∧ Rel X.K T g n S σ' M' H' ∧ I m' S n, fun σ' H' h => h, ?_⟩
      refine ⟨g.re M2, M2, S1, n2, _, x, gs, r2.re, w2, ⟨fun S' n' σ' M3 H3 r3 w3 => ?_, fun d n' v M3 H3 b h w3 => p.rt d n' v M3 H3 (r2.bs.unre b) h w3, fun S' n' σ' M3 H3 r3 w3 => p.nx S' n' σ' M3 H3 (Rel.unre r2.bs r3) w3, fun S' n' σ' M3 H3 r3 w3 => ?_⟩, fun e n' c dd M3 H3 b h w3 => q e n' c dd M3 H3 (r2.bs.unre b) h w3⟩
      · obtain ⟨m', lt, i3⟩ := w3
        exact ⟨m', lt, S', n', M3, (s1.trans s2).trans r3.bs.msub, Rel.unre r2.bs r3, i3⟩
      · obtain ⟨m', lt, i3⟩ := w3
        exact ⟨m', lt, S', n', M3, (s1.trans s2).trans r3.bs.msub, Rel.unre r2.bs r3, i3⟩
end
/-! ### texts -/
def strI (d : D) (k : Str → Prop) : Prop :=
  match d with
  | .str z => k z
  | _ => False
theorem strI_str {z : Str} {k : Str → Prop} : strI (.str z) k = k z := rfl
theorem rep_str {K : PySem.W.Frag} {pn : Addr} {M : Hp} {v : V} {d : D} {k : Str → Prop} (h : Rep K pn M v d) (q : strI d k) : ∃ z, v = .str z ∧ d = .str z ∧ k z := by
  cases h with
  | str z => exact ⟨z, rfl, rfl, q⟩
  | _ => exact q.elim
def strsOf : List D → Option (List Str)
  | [] => some []
  | .str i :: r => match strsOf r with
    | some ns => some (i :: ns)
    | none => none
  | _ => none
theorem strsOf_map : ∀ ns : List Str, strsOf (ns.map D.str) = some ns
  | [] => rfl
  | n :: ns => by simp only [List.map_cons, strsOf, strsOf_map ns]
theorem reps_strs {K : PySem.W.Frag} {pn : Addr} {M : Hp} : ∀ {vs : List V} {ds : List D} {ns : List Str}, Reps K pn M vs ds → strsOf ds = some ns → vs = ns.map V.str
  | _, _, _, .nil, e => by cases e; rfl
  | _, _, _, @Reps.cons _ _ _ v d vs ds h t, e => by
    cases h with
    | str i =>
      simp only [strsOf] at e
      cases q : strsOf ds with
      | none => rw [q] at e; cases e
      | some ms => rw [q] at e; cases e; rw [reps_strs t q]; rfl
    | _ => cases e
theorem strs_reps {K : PySem.W.Frag} {pn : Addr} {M : Hp} : ∀ ns : List Str, Reps K pn M (ns.map V.str) (ns.map D.str)
  | [] => .nil
  | n :: ns => .cons (.str n) (strs_reps ns)
/-- str(i) -/
def fStr : F1 := fun d n k _ =>
  match d with
  | .int i => i.natAbs.log2 < 1920 ∧ k (.str (Str.ofString (toString i))) n
  | _ => False
theorem lr_str {K : PySem.W.Frag} {T : Tb} {E : XK} : LRC K T E (fun xs H Q => ∃ i, xs = [.int i] ∧ i.natAbs.log2 < 1920 ∧ Q (.str (Str.ofString (toString i))) H) (fOne fStr) := lrc1 fun g n S σ M H v d Q k x r rd f p => by
  cases rd with
  | int i => exact ⟨i, rfl, f.1, p.here r (.str _) f.2⟩
  | _ => exact f.elim
section
variable {X : Cx} {T : Tb} {E : XK} {e : Expr} {wa wb : WE}
/-- x.isascii(), x.isdigit() .. -/
def wTx0 (C : Str → Prop) (h : Str → D) (a : WE) : WE := fun S n k x => a S n (fun d n1 => strI d fun z => C z ∧ k (h z) n1) x
theorem de_tx0 {C : Str → Prop} {h : Str → V} {h' : Str → D} (hh : ∀ K pn M a, Rep K pn M (h a) (h' a)) (he : PE X e (tM0 (fun x xs H Q => ∃ a, x = .str a ∧ xs = [] ∧ C a ∧ Q (h a) H) (toTE X.K T E wa))) : DE X T E e (wTx0 C h' wa) :=
  pe_imp he fun σ H Q ⟨g, M, S, n, k, x, rl, w, p⟩ => ⟨g, M, S, n, _, x, rl, w, (fun d n1 v M1 H1 s1 r1 h1 w1 => by
    obtain ⟨z, rfl, rfl, c, w1⟩ := rep_str h1 w1
    exact ⟨⟨z, rfl⟩, z, rfl, rfl, c, (p.step s1).here r1 (hh _ _ _ _) w1⟩), p.2⟩
/-- x.split(y), a new list -/
def wfSplit (a b : WE) : WA := fun S n k x => a S n (fun d n1 => strI d fun z => b S n1 (fun e n2 => strI e fun y => (y.length == 0) = false ∧ z.length + 2 ≤ sizeLine ∧ k ((Txt.split z y).map D.str) n2) x) x
theorem df_split (he : PE X e (tM1 (fun x xs H Q => ∃ a b, x = .str a ∧ xs = [.str b] ∧ (b.length == 0) = false ∧ a.length + 2 ≤ sizeLine ∧ rNewStrs (Txt.split a b) H Q) (toTE X.K T E wa) (toTE X.K T E wb))) : DF X T E e (wfSplit wa wb) :=
  pe_imp he fun σ H Q ⟨g, M, S, n, k, x, rl, w, p⟩ => ⟨g, M, S, n, _, x, rl, w, (fun d n1 v M1 H1 s1 r1 h1 w1 => by
    obtain ⟨z, rfl, rfl, w1⟩ := rep_str h1 w1
    refine ⟨⟨z, rfl⟩, g, M1, S, n1, _, x, r1, w1, (fun d2 n2 v2 M2 H2 s2 r2 h2 w2 => ?_), p.2⟩
    obtain ⟨y, rfl, rfl, c1, c2, w2⟩ := rep_str h2 w2
    exact ⟨z, y, rfl, rfl, c1, c2, fun q nq => p.1 _ n2 q _ M2 _ (s1.trans s2) (r2.grow (same_upd nq)) upd_same (r2.bs.mn nq) (r2.free nq) (strs_reps _) w2⟩), p.2⟩
/-- x.join(y) -/
def strsI (d : D) (k : List Str → Prop) : Prop := seqI d fun ds => match strsOf ds with
  | some ys => k ys
  | none => False
theorem strsI_lst {ys : List Str} {k : List Str → Prop} : strsI (.lst (ys.map D.str)) k = k ys := by
  show (match strsOf (ys.map D.str) with
    | some ys => k ys
    | none => False) = k ys
  rw [strsOf_map]
def wJoin (a b : WE) : WE := fun S n k x => a S n (fun d n1 => strI d fun z => b S n1 (fun e n2 => strsI e fun ys => (ys.map (·.length)).sum + ys.length * z.length ≤ 16777216 ∧ k (.str (Txt.join z ys)) n2) x) x
theorem de_join (he : PE X e (tM1 (fun x xs H Q => ∃ a p, ∃ ys : List Str, x = .str a ∧ xs = [.ref p] ∧ (SqL X.K H p (ys.map V.str) ∨ SqT X.K H p (ys.map V.str)) ∧ (ys.map (·.length)).sum + ys.length * a.length ≤ 16777216 ∧ Q (.str (Txt.join a ys)) H) (toTE X.K T E wa) (toTE X.K T E wb))) : DE X T E e (wJoin wa wb) :=
  pe_imp he fun σ H Q ⟨g, M, S, n, k, x, rl, w, p⟩ => ⟨g, M, S, n, _, x, rl, w, (fun d n1 v M1 H1 s1 r1 h1 w1 => by
    obtain ⟨z, rfl, rfl, w1⟩ := rep_str h1 w1
    refine ⟨⟨z, rfl⟩, g, M1, S, n1, _, x, r1, w1, (fun d2 n2 v2 M2 H2 s2 r2 h2 w2 => ?_), p.2⟩
    cases h2 with
    | @tup a xs ds ha hx =>
      have w2' : (match strsOf ds with
        | some ys => _
        | none => False) := w2
      cases q : strsOf ds with
      | none => rw [q] at w2'; exact w2'.elim
      | some ys =>
        rw [q] at w2'
        have e := reps_strs hx q
        exact ⟨z, a, ys, rfl, rfl, .inr (by rw [← e]; exact same_tup r2.bs.sub ha), w2'.1, (p.step (s1.trans s2)).here r2 (.str _) w2'.2⟩
    | @lst a xs ds ha hx =>
      have w2' : (match strsOf ds with
        | some ys => _
        | none => False) := w2
      cases q : strsOf ds with
      | none => rw [q] at w2'; exact w2'.elim
      | some ys =>
        rw [q] at w2'
        have e := reps_strs hx q
        exact ⟨z, a, ys, rfl, rfl, .inl (by rw [← e]; exact .of (r2.bs.sub _ _ ha)), w2'.1, (p.step (s1.trans s2)).here r2 (.str _) w2'.2⟩
    | _ => exact w2.elim), p.2⟩
end
end Dl

set_option Elab.async false
set_option linter.all false
set_option maxRecDepth 100000
set_option maxHeartbeats 4000000
namespace Dl
open PySem PySem.Spec PyProof.Rows L2 LamX
/-! ### f-strings -/
def wFmt (a : WE) : WE := fun S n k x => a S n (fun d n1 => match d with
  | .str y => y.length ≤ sizeLine ∧ k (.str y) n1
  | .int i => i.natAbs.log2 < 1920 ∧ k (.str (Str.ofString (toString i))) n1
  | _ => False) x
def jsW : List WE → Str → List Sl → Nat → (Str → Nat → Prop) → KX → Prop
  | [], acc, _, n, k, _ => k acc n
  | w :: ws, acc, S, n, k, x => w S n (fun d n1 => strI d fun y => (acc ++ y).length ≤ sizeLine ∧ jsW ws (acc ++ y) S n1 k x) x
def wJs (ws : List WE) : WE := fun S n k x => jsW ws Str.empty S n (fun y n1 => k (.str y) n1) x
section
variable {X : Cx} {T : Tb} {E : XK} {e v1 v2 : Expr} {es rest : List Expr} {wa : WE} {ws : List WE} {pos : Pos}
theorem de_fmt (he : DE X T E e wa) : DE X T E (.FormattedValue e (-1) none pos) (wFmt wa) :=
  pe_imp (pe_fmt he) fun σ H Q ⟨g, M, S, n, k, x, rl, w, p⟩ => ⟨g, M, S, n, _, x, rl, w, (fun d n1 v M1 H1 s1 r1 h1 w1 => by
    cases h1 with
    | str y => exact .inl ⟨y, rfl, w1.1, (p.step s1).here r1 (.str _) w1.2⟩
    | int i => exact .inr ⟨i, rfl, w1.1, (p.step s1).here r1 (.str _) w1.2⟩
    | _ => exact w1.elim), p.2⟩
inductive DJ (X : Cx) (T : Tb) (E : XK) : List Expr → List WE → Prop where
  | nil : DJ X T E [] []
  | cons {e : Expr} {w : WE} {es : List Expr} {ws : List WE} (h : DE X T E e w) (r : DJ X T E es ws) : DJ X T E (e :: es) (w :: ws)
theorem DJ.pj (h : DJ X T E es ws) : PJ X es (ws.map (toTE X.K T E)) := by
  induction h with
  | nil => exact .nil
  | cons h _ ih => exact .cons h ih
theorem js_run {K : PySem.W.Frag} {g : Gh} {S : List Sl} {σ : L2.St} {k : Str → Nat → Prop} {x : KX} {Q : Str → Hp → Prop} {M0 : Hp} (px : ExcP K T E g x) (fin : ∀ (y : Str) (n : Nat) (M H : Hp), Same M0 M → Rel K T g n S σ M H → k y n → Q y H) :
    ∀ (ws : List WE) (acc : Str) (n : Nat) (M H : Hp), Same M0 M → Rel K T g n S σ M H → jsW ws acc S n k x → tJs (ws.map (toTE K T E)) acc σ H Q
  | [], acc, n, M, H, s, r, w => fin acc n M H s r w
  | w0 :: ws, acc, n, M, H, s, r, w => ⟨g, M, S, n, _, x, r, w, (fun d n1 v M1 H1 s1 r1 h1 w1 => by
      obtain ⟨y, rfl, rfl, hz, w1⟩ := rep_str h1 w1
      exact ⟨y, rfl, hz, js_run px fin ws (acc ++ y) n1 M1 H1 (s.trans s1) r1 w1⟩), px⟩
theorem de_joined (h : DJ X T E (v1 :: v2 :: rest) ws) : DE X T E (.JoinedStr (v1 :: v2 :: rest) pos) (wJs ws) :=
  pe_imp (pe_joined h.pj) fun σ H Q ⟨g, M, S, n, k, x, rl, w, p⟩ => js_run p.2 (fun y n1 M1 H1 s1 r1 k1 => p.1 (.str y) n1 _ M1 H1 s1 r1 (.str y) k1) ws Str.empty n M H (Same.refl M) rl w
theorem de_joined1 (h : DE X T E e wa) : DE X T E (.JoinedStr [e] pos) wa := pe_joined1 h
end
end Dl

set_option Elab.async false
set_option linter.all false
set_option maxRecDepth 100000
set_option maxHeartbeats 4000000
namespace Dl
open PySem PySem.Spec PyProof.Rows L2 LamX
section
variable {K : PySem.W.Frag} {T : Tb} {E : XK} {X : Cx} {wa : WE} {st : Stmt}
/-! ### i += e, i -= e of ints -/
theorem lr_ip {f : Int → Int → Int} : LR2 K T E (ipI f) (fI0 fun i j => .int (f i j)) :=
  lr_I0 (h := fun i j => .int (f i j)) (h' := fun i j => .int (f i j)) fun _ _ _ _ _ => .int _
theorem ds_augI {i : Nat} {f : Int → Int → Int} (h : PS X st (tAug i (toTE X.K T E wa) (ipI f))) : DS X T E st (wAug i (fI0 fun i j => .int (f i j)) wa) := ds_aug lr_ip h
end
end Dl

set_option Elab.async false
set_option linter.all false
set_option maxRecDepth 100000
set_option maxHeartbeats 4000000
namespace Ow
open PySem PySem.Spec PyProof.Rows L2
section
variable {X : Cx} {CX : CXT} {C f : Addr} {k : Nat} {mk x : Str} {dv : V} {sp : Sp} {E : XK} {e : Expr} {kws : List Keyword} {tk : TA} {te tn : TE} {p pos sp_ : Pos}
/-- c(*e, mk = v), c a name that stands for the class -/
theorem pe_makeMS1L (M : Mk X.K C f) (F : FnM X.prog X.w X.K X.mg X.base CX k f mk dv sp) (hr : Room (k + 1) X.A) (hn : PE X (.Name x p) tn) (hx : Passes CX X E) (he : PE X e te) (hkw : PK X kws tk)
    (hall : (backToKw pos (keywordEach kws X.env)).all (·.1.isSome) = true := by rfl) (hks : (backToKw pos (keywordEach kws X.env)).filterMap (·.1) = [mk] := by rfl)
    (hst : backTo pos (starEach [.Starred e sp_] X.env) = [(true, (do let v ← eval e X.env; standAt pos; pure v))] := by rfl) :
    PE X (.Call (.Name x p) [.Starred e sp_] kws pos) (fun σ H Q => tn σ H fun y0 H0 => y0 = V.ref C ∧ te σ H0 fun y H1 => tk σ H1 fun zs H2 => ∃ a xs vm, y = V.ref a ∧ zs = [vm] ∧ (SqT X.K H2 a xs ∨ SqL X.K H2 a xs) ∧ mkAskM C sp E vm xs H2 Q) := by
  refine ⟨fun pins s σ H Q I h => ?_⟩
  refine wpAny_Call_Name_kw (thn (hn.run pins s σ H _ I h) fun f0 s0 ⟨y0, H0, I0, r0, e0, q0⟩ => ?_)
  subst e0
  obtain rfl : f0 = Value.ref C := r0
  refine PySem.W.ks_callK (P := X.K.In) (by rw [hst]; rfl) (PySem.W.keeps_K M.kp) ?_
  rw [hst]
  refine PySem.W.ks_loneK hall (thn (he.run pins s0 σ H0 _ I0 q0) fun v s1 ⟨y, H1, I1, ry, q⟩ => ?_)
  refine thn (hkw.run pos pins s1 σ H1 _ I1 q) fun ws s2 ⟨zs, H2, I2, rz, a, xs, vm, ey, ez, hxs, q2⟩ => ?_
  subst ey ez
  obtain rfl : v = Value.ref a := ry
  cases rz with
  | cons rm rn =>
    cases rn
    refine StX.star_any I2 hxs fun us s3 I3 rv => ⟨I3.kIn, ?_⟩
    rw [hks]
    exact run_makeM M F hr hx I3 rv rm q2
end
end Ow
namespace Dl
open PySem PySem.Spec PyProof.Rows L2 LamX
section
variable {X : Cx} {T : Tb} {E : XK} {e : Expr} {wa wm wc : WE} {F : WI} {C : Addr}
theorem ms1_imp {σ : L2.St} {H : Hp} {Q : VK} (h : (toTE X.K T E (wMakeM C F (wStar wa wNil) wm)) σ H Q) : (toTE X.K T E wa) σ H fun y H1 => (tCons (toTE X.K T E wm) tNil) σ H1 fun zs H2 => ∃ a xs vm, y = V.ref a ∧ zs = [vm] ∧ (SqT X.K H2 a xs ∨ SqL X.K H2 a xs) ∧ Ow.mkAskM C (spI X.K T C F) E vm xs H2 Q := by
  obtain ⟨g, M, S, n, k, x, rl, w, p⟩ := h
  exact ⟨g, M, S, n, _, x, rl, w, (fun d n1 v M1 H1 s1 r1 e1 w1 => by
    have fin : ∀ (a : Addr) (xs : List V) (ds : List D), (SqT X.K M1 a xs ∨ M1 a = some (.lst xs)) → Reps X.K g.pn M1 xs ds → v = .ref a → wNil S n1 (fun es n2 => wm S n2 (fun m n3 => fMakeM C F m (ds ++ es) n3 k x) x) x →
        (tCons (toTE X.K T E wm) tNil) σ H1 fun zs H2 => ∃ a xs vm, v = V.ref a ∧ zs = [vm] ∧ (SqT X.K H2 a xs ∨ SqL X.K H2 a xs) ∧ Ow.mkAskM C (spI X.K T C F) E vm xs H2 Q := fun a xs ds ha hx ev w1 => by
      refine ⟨g, M1, S, n1, _, x, r1, w1, (fun m n2 vm M2 H2 s2 r2 e2 w2 => ?_), p.2⟩
      rw [List.append_nil] at w2
      refine ⟨a, xs, vm, ev, rfl, ?_, askM_of r2 e2 (hx.mono s2) w2.1 w2.2 (p.step (s1.trans s2))⟩
      rcases ha with ha | ha
      · exact .inl (same_tup (s2.trans r2.bs.sub) ha)
      · exact .inr (.of (r2.bs.sub _ _ (s2 _ _ ha)))
    cases e1 with
    | @tup a xs ds ha hx => exact fin a xs ds (.inl ha) hx rfl w1
    | @lst a xs ds ha hx => exact fin a xs ds (.inr ha) hx rfl w1
    | _ => exact w1.elim), p.2⟩
/-- a name that stands for the class C, then as the class by its own name -/
def wAtC (C : Addr) (wc w : WE) : WE := fun S n k x => wc S n (fun d n1 => d = .obj C ∧ w S n1 k x) x
theorem de_makeMS1L (he : PE X e (fun σ H Q => (toTE X.K T E wc) σ H fun y0 H0 => y0 = V.ref C ∧ (toTE X.K T E wa) σ H0 fun y H1 => (tCons (toTE X.K T E wm) tNil) σ H1 fun zs H2 => ∃ a xs vm, y = V.ref a ∧ zs = [vm] ∧ (SqT X.K H2 a xs ∨ SqL X.K H2 a xs) ∧ Ow.mkAskM C (spI X.K T C F) E vm xs H2 Q)) : DE X T E e (wAtC C wc (wMakeM C F (wStar wa wNil) wm)) :=
  pe_imp he fun σ H Q ⟨g, M, S, n, k, x, rl, w, p⟩ => ⟨g, M, S, n, _, x, rl, w, (fun d n1 v M1 H1 s1 r1 e1 w1 => by
    obtain ⟨rfl, w1⟩ := w1
    cases e1 with
    | obj a => exact ⟨rfl, ms1_imp ⟨g, M1, S, n1, k, x, r1, w1, p.step s1⟩⟩), p.2⟩
end
end Dl

set_option Elab.async false
set_option linter.all false
set_option maxRecDepth 100000
set_option maxHeartbeats 4000000
namespace Ow
open PySem PySem.Spec PyProof.Rows L2
def tCMethK (C : Addr) (nk : Nat) (sp : Sp) (E : XK) (ta : TE) (tk : TA) : TE := fun σ H Q => ta σ H fun x H1 => x = .ref C ∧ tk σ H1 fun zs H2 => zs.length = nk ∧ sp (.ref C :: zs) H2 Q E
section
variable {X : Cx} {CX : CXT} {C g : Addr} {sp : Sp} {E : XK}
theorem pe_cmethK {fd : FuncData} {ps ks : List Str} {m : Str} {k : Nat} {mc : Value} {p : Addr} {pl : Sem Bool} {o : Expr} {kws : List Keyword} {ta : TE} {tk : TA} {apos pos : Pos} (he : PE X o ta) (r : ClX.CRead X.K C mc) (c : ClX.CMet X.K C mc m p g) (F : FnOk X.prog X.w X.K X.mg X.base CX k g fd ps sp) (hr : Room k X.A) (hb : KB1 X.K fd ps ks) (hx : Passes CX X E)
    (hkw : PK X kws tk) (hall : (backToKw pos (keywordEach kws X.env)).all (·.1.isSome) = true := by rfl) (hks : (backToKw pos (keywordEach kws X.env)).filterMap (·.1) = ks := by rfl)
    (hpl : ((backTo pos (starEach [] X.env)).any (·.1) || (backToKw pos (keywordEach kws X.env)).any (·.1.isNone)) = false := by rfl)
    (ht : eval (.Call (.Attribute o m apos) [] kws pos) X.env = (do
      let ov ← eval o X.env
      standAt apos.atName
      let (f, first) ← holding [ov] (getMethod ov m pl)
      callWith pos f first (backTo pos (starEach [] X.env)) (backToKw pos (keywordEach kws X.env))) := by rfl) :
    PE X (.Call (.Attribute o m apos) [] kws pos) (tCMethK C ks.length sp E ta tk) := by
  refine ⟨fun pins s σ H Q I h => ?_⟩
  refine PySem.W.methodCall_KW (pl := pl) (thn (he.run pins s σ H _ I h) fun u s1 ⟨x, H1, I1, rx, ex, q⟩ => ?_) ht
  subst ex
  obtain rfl : u = Value.ref C := rx
  refine ClX.getmethcm_ok I1 r c fun s2 I2 => ?_
  refine PySem.W.callWith_of hpl (PySem.W.keeps_M (K := X.K) (self := .ref C) c.fi) (PyProof.Rows.evalArgs_kw2_nil hall ?_)
  refine thn (hkw.run pos _ _ σ H1 _ I2 q) fun ws s3 ⟨zs, H2, I3, rz, hl, q2⟩ => ⟨⟨ClX.pin_at I3, I3.kIn⟩, ?_⟩
  rw [hks]
  have hlw : ws.length = ks.length := by rw [← rz.length]; exact hl
  refine wpAny_call (PySem.W.method_call (ClX.pin_at I3) (codeAny_mono (F.run X.A X.stack s3 H2 ⟨[.ref C], ks.zip ws⟩ (.ref C :: ws) (.ref C :: zs) Q E hr I3.env0 (hb s3 (.ref C) ws I3.kIn hlw) (.cons rfl rz) q2) fun r s' hq => ?_))
  cases r with
  | error e => exact hx _ σ H2 s3 e s' I3 hq
  | ok fl =>
    cases fl with
    | ret u => exact ClX.unpinE (I3.after hq)
    | next => exact False.elim hq
    | brk => exact False.elim hq
    | cont => exact False.elim hq
end
end Ow
namespace Dl
open PySem PySem.Spec PyProof.Rows L2 LamX
/-! ### classmethods -/
structure CMeAt (K : PySem.W.Frag) (c m q : Str) (st : Stmt) (ps ks : List Str) : Prop where
  ex : ∃ mc p g fd, ClX.CRead K (ga K c) mc ∧ ClX.CMet K (ga K c) mc m p g ∧ L2.Fun K m q st g fd ∧ Binds K fd ps [] ∧ Ow.KB1 K fd ps ks
/-- a classmethod's promise: its first datum is the class -/
structure CMe (P : Program) (w : World) (K : PySem.W.Frag) (mg : Str → Option Value) (base : Heap) (c m : Str) (k : Nat) (ps ks : List Str) (F : WF) : Prop where
  ex : ∃ mc p g fd, ClX.CRead K (ga K c) mc ∧ ClX.CMet K (ga K c) mc m p g ∧ (∀ T : Tb, FnD P w K mg base T k g fd ps F) ∧ Binds K fd ps [] ∧ Ow.KB1 K fd ps ks
theorem cme_of {P : Program} {w : World} {K : PySem.W.Frag} {mg : Str → Option Value} {base : Heap} {c m q : Str} {st : Stmt} {N ps ks : List Str} {k : Nat} {F : WF} {WB : WS} (Fn : CMeAt K c m q st ps ks) (S : FnScope N ps (defScope st)) (len : ∀ ds n k x, F ds n k x → ds.length = ps.length)
    (body : ∀ (T : Tb) (f : Addr) (cdv : Value) (A : Around) (outer : List Env) (s : Shared) (H : Hp) (E : XK), Room k (A.deeper (envOfC q (defScope st) s.heap.objs.size f cdv)) → PSs (cxOf (L2.CX P w) P w K mg base N q (defScope st) f cdv A outer s H E) (defBody st) (toTS K T E WB))
    (h : ∀ ds n k x, F ds n k x → WB (startD N ds) n { nx := fun _ n' => k .non n', rt := k } x) : CMe P w K mg base c m (k + 1) ps ks F := by
  obtain ⟨mc, p, g, fd, r, cm, F1, b, kb⟩ := Fn.ex
  exact ⟨⟨mc, p, g, fd, r, cm, fun T => fnD_of F1 S len (body T _) h, b, kb⟩⟩
section
variable {X : Cx} {T : Tb} {E : XK} {e o : Expr} {es : List Expr} {kws : List Keyword} {pos apos : Pos} {wa : WE} {ws : WA} {F : WF} {k : Nat} {ps ks : List Str} {m c : Str}
def wCMeth (C : Addr) (F : WF) (a : WE) (ws : WA) : WE := fun S n k x => a S n (fun d n1 => d = .obj C ∧ ws S n1 (fun ds n2 => F (d :: ds) n2 k x) x) x
def wCMethK (C : Addr) (nk : Nat) (F : WF) (a : WE) (ws : WA) : WE := fun S n k x => a S n (fun d n1 => d = .obj C ∧ ws S n1 (fun ds n2 => ds.length = nk ∧ F (d :: ds) n2 k x) x) x
/-- C.m(..) -/
theorem de_cm (d : CMe X.prog X.w X.K X.mg X.base c m k ps ks F) (hr : Room k X.A) (hx : Passes (L2.CX X.prog X.w) X E) (ho : DE X T E o wa) (ha : DA X T E (e :: es) ws) {pl : Sem Bool}
    (hst : starEach (e :: es) X.env = (false, eval e X.env) :: starEach es X.env := by rfl) (hpl : (backTo pos (starEach es X.env)).any (·.1) = false := by rfl)
    (ht : eval (.Call (.Attribute o m apos) (e :: es) [] pos) X.env = (do
      let ov ← eval o X.env
      standAt apos.atName
      let (f, first) ← holding [ov] (getMethod ov m pl)
      callWith pos f first (backTo pos (starEach (e :: es) X.env)) (backToKw pos (keywordEach [] X.env))) := by rfl) : DE X T E (.Call (.Attribute o m apos) (e :: es) [] pos) (wCMeth (ga X.K c) F wa ws) := by
  obtain ⟨mc, p, gg, fd, r, cm, F1, b, kb⟩ := d.ex
  exact pe_imp (ClX.pe_cmeth ho r cm ((F1 T).raw b .nil) hr hx ha hst hpl ht) fun σ H Q ⟨g, M, S, n, k, x, rl, w, p⟩ => ⟨g, M, S, n, _, x, rl, w, (fun d n1 v M1 H1 s1 r1 h1 w1 => by
    obtain ⟨rfl, w1⟩ := w1
    cases h1 with
    | obj a => exact ⟨rfl, g, M1, S, n1, _, x, r1, w1, (fun ds n2 vs M2 H2 s2 r2 e2 w2 => spD_nil (spD_of r2 (.cons (.obj _) e2) w2 (p.step (s1.trans s2)))), p.2⟩), p.2⟩
/-- C.m(a = .., ..) -/
theorem de_cmK (d : CMe X.prog X.w X.K X.mg X.base c m k ps ks F) (hr : Room k X.A) (hx : Passes (L2.CX X.prog X.w) X E) (ho : DE X T E o wa) (hkw : DK X T E kws ws) {nk : Nat} (hn : ks.length = nk := by rfl) {pl : Sem Bool}
    (hall : (backToKw pos (keywordEach kws X.env)).all (·.1.isSome) = true := by rfl) (hks : (backToKw pos (keywordEach kws X.env)).filterMap (·.1) = ks := by rfl)
    (hpl : ((backTo pos (starEach [] X.env)).any (·.1) || (backToKw pos (keywordEach kws X.env)).any (·.1.isNone)) = false := by rfl)
    (ht : eval (.Call (.Attribute o m apos) [] kws pos) X.env = (do
      let ov ← eval o X.env
      standAt apos.atName
      let (f, first) ← holding [ov] (getMethod ov m pl)
      callWith pos f first (backTo pos (starEach [] X.env)) (backToKw pos (keywordEach kws X.env))) := by rfl) :
    DE X T E (.Call (.Attribute o m apos) [] kws pos) (wCMethK (ga X.K c) nk F wa ws) := by
  subst hn
  obtain ⟨mc, p, gg, fd, r, cm, F1, b, kb⟩ := d.ex
  exact pe_imp (Ow.pe_cmethK ho r cm (F1 T) hr kb hx hkw hall hks hpl ht) fun σ H Q ⟨g, M, S, n, k, x, rl, w, p⟩ => ⟨g, M, S, n, _, x, rl, w, (fun d n1 v M1 H1 s1 r1 h1 w1 => by
    obtain ⟨rfl, w1⟩ := w1
    cases h1 with
    | obj a => exact ⟨rfl, g, M1, S, n1, _, x, r1, w1, (fun ds n2 vs M2 H2 s2 r2 e2 w2 => ⟨by rw [e2.len]; exact w2.1, spD_of r2 (.cons (.obj _) e2) w2.2 (p.step (s1.trans s2))⟩), p.2⟩), p.2⟩
end
end Dl

set_option Elab.async false
set_option linter.all false
set_option maxRecDepth 100000
set_option maxHeartbeats 4000000
/-! str(x), x an instance with a __str__ of its own -/
namespace Ow
open PySem PySem.Spec PyProof.Rows L2
section
variable {X : Cx} {CX : CXT} {C g : Addr} {sp : Sp} {E : XK} {n : Nat}
def rStrO (C : Addr) (sp : Sp) (E : XK) : List V → Hp → VK → Prop := fun xs H Q => ∃ a dx fs, xs = [V.ref a] ∧ H a = some (.ins C dx fs) ∧ sp [.ref a] H (fun v H' => ∃ y : Str, v = .str y ∧ Q v H') E
theorem call_strO (hs : PySem.W.findIn X.K (.ref C) "__str__" = some (some (.ref g))) (hf : PySem.W.isFn X.K (.ref g) = true) (F : FnR X.prog X.w X.K X.mg X.base CX n g sp) (hr : Room (n + 2) X.A) (hx : Passes CX X E) : CallR X (.type "str") (rStrO C sp E) := by
  intro pins s σ H xs us Q I r h
  obtain ⟨a, dx, fs, rfl, ha, q⟩ := h
  obtain ⟨u, rfl, ru⟩ := r.one
  cases (show u = Value.ref a from ru)
  obtain ⟨ox, od, J, _⟩ := StX.insC_at (X := X) I (.inr ⟨dx, fs, ha⟩)
  have hr2 : Room n X.A.in1.in1 := hr.in1.in1
  refine PySem.W.kso_call (Nat.lt_of_succ_lt (hu_of hr2)) I.kIn J hs hf (wpAny_mono (wpAny_call (SlX.run_at (us := [.ref a]) (ws := [.ref a]) F hr2 I.env0.in1.in1 hx I (.cons rfl .nil) q)) (fun w s' z => ?_) fun _ _ e => e)
  obtain ⟨z', H', I', rz, y, ey, qz⟩ := z
  subst ey
  obtain ⟨t, e⟩ := (show ∃ t, w = Value.str y t from rz)
  subst e
  exact ⟨.str y, H', I', ⟨_, rfl⟩, qz⟩
end
end Ow
namespace Dl
open PySem PySem.Spec PyProof.Rows L2 LamX
section
variable {K : PySem.W.Frag} {T : Tb} {E : XK} {C : Addr} {F : WF}
def fOwnStr (C : Addr) (F : WF) : WF := fun ds n k x => match ds with
  | [d] => insI C d fun _ => F [d] n (fun r n1 => strI r fun y => k (.str y) n1) x
  | _ => False
theorem lr_ownStr : LRC K T E (Ow.rStrO C (spD K T F) E) (fOwnStr C F) := fun g n S σ M H vs ds Q k x r rd f p => by
  cases rd with
  | nil => exact f.elim
  | @cons v d vs ds h t =>
    cases t with
    | cons _ _ => exact f.elim
    | nil =>
      obtain ⟨a, dx, fs, gs, rfl, rfl, hm, rf, f⟩ := rep_ins h f
      refine ⟨a, dx, fs, rfl, r.bs.sub _ _ hm, spD_of r (.cons h .nil) f ⟨fun d n' v M' H' s r' h' q => ?_, p.2⟩⟩
      obtain ⟨y, rfl, rfl, q⟩ := rep_str h' q
      exact ⟨y, rfl, p.1 _ n' _ M' H' s r' (.str _) q⟩
end
end Dl

set_option Elab.async false
set_option linter.all false
set_option maxRecDepth 100000
set_option maxHeartbeats 4000000
/-! == and != of tuples and lists, the items compared by defs of their own: what stands changes from item to item. -/
namespace PySem.SeqAt
open AutoSeq1 (wpAny_loadPart')
open MeetsSeq MeetsSeq2 MeetsSeq3 SeqRoads2
/-- one item after another: P i stands ahead of the i-th, dif where they differ -/
def Step (prog : Program) (w : World) (A : Around) (P : Nat → Shared → Prop) (dif : Shared → Prop) (Ex : Value → Shared → Prop) (us vs : Array Value) : Prop :=
  ∀ (i : Nat) (h1 : i < us.size) (h2 : i < vs.size) (s : Shared), P i s → wpAny (model prog w) A (eqBool us[i] vs[i]) (fun c s' => if c = true then P (i + 1) s' else dif s') Ex s
section
variable {prog : Program} {w : World}
theorem tup_eqS (p q : Addr) (us vs : Array Value) (m m2 : Nat) (d1 d2 : Option Addr) (t1 t2 : Array (Option Value)) (P : Nat → Shared → Prop) :
    MeetsIn prog w (Builtin.«tuple.__eq__» ⟨[.ref p, .ref q], []⟩) (fun A R s => s.heap.get? p = some { cls := .type "tuple", dict := d1, data := .seq us m, slots := t1 } ∧ s.heap.get? q = some { cls := .type "tuple", dict := d2, data := .seq vs m2, slots := t2 } ∧
      P 0 s ∧ Step prog w A.in1 P (fun s' => R (.ok (.ret (.bool false))) s') (fun e s' => R (.error e) s') us vs ∧ ∀ s', P (min us.size vs.size) s' → R (.ok (.ret (.bool (us.size == vs.size)))) s') :=
  .of_wp fun A R s h => by
    obtain ⟨hp, g, d, tk, os⟩ := s
    obtain ⟨hl, hb, h0, st, fin⟩ := h
    have f2 := AutoSeq1.sub_tuple_tuple
    have lz : (us.toList.zip vs.toList).length = min us.size vs.size := by simp
    wp_walk using wpAny_loadPart' hl, wpAny_loadPart' hb, wpAny_forIn_list _ (fun rest b s' => b.1 = none ∧ ∃ i, i ≤ min us.size vs.size ∧ rest = (us.toList.zip vs.toList).drop i ∧ P i s') _
    case turn =>
      rintro ⟨y, z⟩ rest b s' ⟨hb', i, _, hz, hP⟩
      have lt : i < (us.toList.zip vs.toList).length := by
        rcases Nat.lt_or_ge i (us.toList.zip vs.toList).length with h' | h'
        · exact h'
        · rw [List.drop_of_length_le h'] at hz; cases hz
      have lm : i < min us.size vs.size := lz ▸ lt
      have i1 : i < us.size := Nat.lt_of_lt_of_le lm (Nat.min_le_left _ _)
      have i2 : i < vs.size := Nat.lt_of_lt_of_le lm (Nat.min_le_right _ _)
      rw [List.drop_eq_getElem_cons lt] at hz
      injection hz with e1 e2
      have ey : y = us[i] := by
        have := congrArg Prod.fst e1
        simpa using this
      have ez : z = vs[i] := by
        have := congrArg Prod.snd e1
        simpa using this
      subst ey ez
      refine wpAny_bind (wpAny_mono (st i i1 i2 s' hP) (fun c s2 hc => ?_) fun e s2 x => x)
      cases c with
      | true =>
        rw [if_pos rfl] at hc
        wp_walk
        exact ⟨rfl, i + 1, lm, e2, hc⟩
      | false =>
        rw [if_neg (by decide)] at hc
        wp_walk
        exact ⟨_, rfl, by simpa using hc⟩
    case fin =>
      rintro ⟨b1, b2⟩ s' ⟨hb', i, hi, hz, hP⟩
      simp only at hb'
      subst hb'
      have ge : min us.size vs.size ≤ i := by
        rcases Nat.lt_or_ge i (us.toList.zip vs.toList).length with h' | h'
        · rw [List.drop_eq_getElem_cons h'] at hz; cases hz
        · exact lz ▸ h'
      have ei : i = min us.size vs.size := Nat.le_antisymm hi ge
      subst ei
      have z := fin s' hP
      wp_walk
      exact ⟨_, rfl, by simpa [Builtin.Tuple.tupleCompareSizes] using z⟩
    case h =>
      exact ⟨rfl, 0, Nat.zero_le _, rfl, h0⟩
theorem tup_neS (p q : Addr) (us vs : Array Value) (m m2 : Nat) (d1 d2 : Option Addr) (t1 t2 : Array (Option Value)) (P : Nat → Shared → Prop) :
    MeetsIn prog w (Builtin.«tuple.__ne__» ⟨[.ref p, .ref q], []⟩) (fun A R s => s.heap.get? p = some { cls := .type "tuple", dict := d1, data := .seq us m, slots := t1 } ∧ s.heap.get? q = some { cls := .type "tuple", dict := d2, data := .seq vs m2, slots := t2 } ∧
      P 0 s ∧ Step prog w A.in1 P (fun s' => R (.ok (.ret (.bool true))) s') (fun e s' => R (.error e) s') us vs ∧ ∀ s', P (min us.size vs.size) s' → R (.ok (.ret (.bool (us.size != vs.size)))) s') :=
  .of_wp fun A R s h => by
    obtain ⟨hp, g, d, tk, os⟩ := s
    obtain ⟨hl, hb, h0, st, fin⟩ := h
    have f2 := AutoSeq1.sub_tuple_tuple
    have lz : (us.toList.zip vs.toList).length = min us.size vs.size := by simp
    wp_walk using wpAny_loadPart' hl, wpAny_loadPart' hb, wpAny_forIn_list _ (fun rest b s' => b.1 = none ∧ ∃ i, i ≤ min us.size vs.size ∧ rest = (us.toList.zip vs.toList).drop i ∧ P i s') _
    case turn =>
      rintro ⟨y, z⟩ rest b s' ⟨hb', i, _, hz, hP⟩
      have lt : i < (us.toList.zip vs.toList).length := by
        rcases Nat.lt_or_ge i (us.toList.zip vs.toList).length with h' | h'
        · exact h'
        · rw [List.drop_of_length_le h'] at hz; cases hz
      have lm : i < min us.size vs.size := lz ▸ lt
      have i1 : i < us.size := Nat.lt_of_lt_of_le lm (Nat.min_le_left _ _)
      have i2 : i < vs.size := Nat.lt_of_lt_of_le lm (Nat.min_le_right _ _)
      rw [List.drop_eq_getElem_cons lt] at hz
      injection hz with e1 e2
      have ey : y = us[i] := by
        have := congrArg Prod.fst e1
        simpa using this
      have ez : z = vs[i] := by
        have := congrArg Prod.snd e1
        simpa using this
      subst ey ez
      refine wpAny_bind (wpAny_mono (st i i1 i2 s' hP) (fun c s2 hc => ?_) fun e s2 x => x)
      cases c with
      | true =>
        rw [if_pos rfl] at hc
        wp_walk
        exact ⟨rfl, i + 1, lm, e2, hc⟩
      | false =>
        rw [if_neg (by decide)] at hc
        wp_walk
        exact ⟨_, rfl, by simpa using hc⟩
    case fin =>
      rintro ⟨b1, b2⟩ s' ⟨hb', i, hi, hz, hP⟩
      simp only at hb'
      subst hb'
      have ge : min us.size vs.size ≤ i := by
        rcases Nat.lt_or_ge i (us.toList.zip vs.toList).length with h' | h'
        · rw [List.drop_eq_getElem_cons h'] at hz; cases hz
        · exact lz ▸ h'
      have ei : i = min us.size vs.size := Nat.le_antisymm hi ge
      subst ei
      have z := fin s' hP
      wp_walk
      exact ⟨_, rfl, by simpa [Builtin.Tuple.tupleCompareSizes] using z⟩
    case h =>
      exact ⟨rfl, 0, Nat.zero_le _, rfl, h0⟩
theorem lst_loopS (p q : Addr) (us vs : Array Value) (ez : us.size = vs.size) (P : Nat → Shared → Prop) (k : Nat) :
    ∀ i : Nat, us.size - i = k → MeetsIn prog w (Builtin.«list.__eq__.loop» ⟨[.ref p, .ref q, rawInt i, rawInt 2], []⟩) (fun A R s => i ≤ us.size ∧ (∀ j s', P j s' → s'.heap.IsList p us ∧ s'.heap.IsList q vs) ∧
      P i s ∧ Step prog w A.in1 P (fun s' => (s'.heap.IsList p us ∧ s'.heap.IsList q vs) ∧ R (.ok (.ret (.bool false))) s') (fun e s' => R (.error e) s') us vs ∧ ∀ s', P us.size s' → R (.ok (.ret (.bool true))) s') := by
  induction k with
  | zero =>
    intro i hk A R s h
    obtain ⟨hi, hld, h0, st, fin⟩ := h
    obtain ⟨hl, hb⟩ := hld i s h0
    obtain ⟨⟨c1, d1, x1, t1⟩, hl, q1, m, y1⟩ := hl
    obtain ⟨⟨c2, d2, x2, t2⟩, hb, q2, m2, y2⟩ := hb
    simp only at q1 y1 q2 y2
    subst q1 y1 q2 y2
    have ei : i = us.size := by omega
    have z := fin s (ei ▸ h0)
    obtain ⟨hp, g, d, tk, os⟩ := s
    wp_walk using wpAny_loadPart' hl, wpAny_loadPart' hb
    have g1 : us[((i : Nat) : Int).toNat]? = none := by simp; omega
    have g2 : vs[((i : Nat) : Int).toNat]? = none := by simp; omega
    rw [g1, g2]
    wp_walk using wpAny_loadPart' hl, wpAny_loadPart' hb
    show R (.ok (.ret (.bool (us.size == vs.size)))) _
    rw [ez]
    simpa using z
  | succ k ih =>
    intro i hk A R s h
    obtain ⟨hi, hld, h0, st, fin⟩ := h
    obtain ⟨hl, hb⟩ := hld i s h0
    obtain ⟨⟨c1, d1, x1, t1⟩, hl, q1, m, y1⟩ := hl
    obtain ⟨⟨c2, d2, x2, t2⟩, hb, q2, m2, y2⟩ := hb
    simp only at q1 y1 q2 y2
    subst q1 y1 q2 y2
    have lt : i < us.size := by omega
    have lt2 : i < vs.size := by omega
    have st' := st i lt lt2 s h0
    obtain ⟨hp, g, d, tk, os⟩ := s
    wp_walk using wpAny_loadPart' hl, wpAny_loadPart' hb
    have g1 : us[((i : Nat) : Int).toNat]? = some us[i] := by simp [lt]
    have g2 : vs[((i : Nat) : Int).toNat]? = some vs[i] := by simp [lt2]
    have nx : ((i : Int) + 1) = ((i + 1 : Nat) : Int) := by push_cast; rfl
    rw [g1, g2]
    refine wpAny_bind (wpAny_mono st' (fun c s2 hc => ?_) fun e s2 x => x)
    cases c with
    | true =>
      rw [if_pos rfl] at hc
      wp_walk
      rw [nx]
      refine ⟨plainId_quiet plain_eq_loop _, codeAny_builtin entry_eq_loop ?_⟩
      rw [Around.under_plainId plain_eq_loop _]
      exact ih (i + 1) (by omega) A R s2 ⟨lt, hld, hc, st, fin⟩
    | false =>
      rw [if_neg (by decide)] at hc
      obtain ⟨⟨k1, k2⟩, hc⟩ := hc
      obtain ⟨⟨c1, d1, x1, t1⟩, k1, q1, m, y1⟩ := k1
      obtain ⟨⟨c2, d2, x2, t2⟩, k2, q2, m2, y2⟩ := k2
      simp only at q1 y1 q2 y2
      subst q1 y1 q2 y2
      obtain ⟨hp2, g2', d2', tk2, os2⟩ := s2
      wp_walk using wpAny_loadPart' k1, wpAny_loadPart' k2
      rw [g1, g2]
      wp_walk
      exact hc
theorem lst_loopN (p q : Addr) (us vs : Array Value) (ez : us.size = vs.size) (P : Nat → Shared → Prop) (k : Nat) :
    ∀ i : Nat, us.size - i = k → MeetsIn prog w (Builtin.«list.__eq__.loop» ⟨[.ref p, .ref q, rawInt i, rawInt 3], []⟩) (fun A R s => i ≤ us.size ∧ (∀ j s', P j s' → s'.heap.IsList p us ∧ s'.heap.IsList q vs) ∧
      P i s ∧ Step prog w A.in1 P (fun s' => (s'.heap.IsList p us ∧ s'.heap.IsList q vs) ∧ R (.ok (.ret (.bool true))) s') (fun e s' => R (.error e) s') us vs ∧ ∀ s', P us.size s' → R (.ok (.ret (.bool false))) s') := by
  induction k with
  | zero =>
    intro i hk A R s h
    obtain ⟨hi, hld, h0, st, fin⟩ := h
    obtain ⟨hl, hb⟩ := hld i s h0
    obtain ⟨⟨c1, d1, x1, t1⟩, hl, q1, m, y1⟩ := hl
    obtain ⟨⟨c2, d2, x2, t2⟩, hb, q2, m2, y2⟩ := hb
    simp only at q1 y1 q2 y2
    subst q1 y1 q2 y2
    have ei : i = us.size := by omega
    have z := fin s (ei ▸ h0)
    obtain ⟨hp, g, d, tk, os⟩ := s
    wp_walk using wpAny_loadPart' hl, wpAny_loadPart' hb
    have g1 : us[((i : Nat) : Int).toNat]? = none := by simp; omega
    have g2 : vs[((i : Nat) : Int).toNat]? = none := by simp; omega
    rw [g1, g2]
    wp_walk using wpAny_loadPart' hl, wpAny_loadPart' hb
    show R (.ok (.ret (.bool (us.size != vs.size)))) _
    rw [ez]
    simpa using z
  | succ k ih =>
    intro i hk A R s h
    obtain ⟨hi, hld, h0, st, fin⟩ := h
    obtain ⟨hl, hb⟩ := hld i s h0
    obtain ⟨⟨c1, d1, x1, t1⟩, hl, q1, m, y1⟩ := hl
    obtain ⟨⟨c2, d2, x2, t2⟩, hb, q2, m2, y2⟩ := hb
    simp only at q1 y1 q2 y2
    subst q1 y1 q2 y2
    have lt : i < us.size := by omega
    have lt2 : i < vs.size := by omega
    have st' := st i lt lt2 s h0
    obtain ⟨hp, g, d, tk, os⟩ := s
    wp_walk using wpAny_loadPart' hl, wpAny_loadPart' hb
    have g1 : us[((i : Nat) : Int).toNat]? = some us[i] := by simp [lt]
    have g2 : vs[((i : Nat) : Int).toNat]? = some vs[i] := by simp [lt2]
    have nx : ((i : Int) + 1) = ((i + 1 : Nat) : Int) := by push_cast; rfl
    rw [g1, g2]
    refine wpAny_bind (wpAny_mono st' (fun c s2 hc => ?_) fun e s2 x => x)
    cases c with
    | true =>
      rw [if_pos rfl] at hc
      wp_walk
      rw [nx]
      refine ⟨plainId_quiet plain_eq_loop _, codeAny_builtin entry_eq_loop ?_⟩
      rw [Around.under_plainId plain_eq_loop _]
      exact ih (i + 1) (by omega) A R s2 ⟨lt, hld, hc, st, fin⟩
    | false =>
      rw [if_neg (by decide)] at hc
      obtain ⟨⟨k1, k2⟩, hc⟩ := hc
      obtain ⟨⟨c1, d1, x1, t1⟩, k1, q1, m, y1⟩ := k1
      obtain ⟨⟨c2, d2, x2, t2⟩, k2, q2, m2, y2⟩ := k2
      simp only at q1 y1 q2 y2
      subst q1 y1 q2 y2
      obtain ⟨hp2, g2', d2', tk2, os2⟩ := s2
      wp_walk using wpAny_loadPart' k1, wpAny_loadPart' k2
      rw [g1, g2]
      wp_walk
      exact hc
theorem lst_eqS (p q : Addr) (us vs : Array Value) (ez : us.size = vs.size) (P : Nat → Shared → Prop) :
    MeetsIn prog w (Builtin.«list.__eq__» ⟨[.ref p, .ref q], []⟩) (fun A R s => (∀ j s', P j s' → s'.heap.IsList p us ∧ s'.heap.IsList q vs) ∧
      P 0 s ∧ Step prog w A.in1 P (fun s' => (s'.heap.IsList p us ∧ s'.heap.IsList q vs) ∧ R (.ok (.ret (.bool false))) s') (fun e s' => R (.error e) s') us vs ∧ ∀ s', P us.size s' → R (.ok (.ret (.bool true))) s') := by
  intro A R s h
  obtain ⟨hld, h0, st, fin⟩ := h
  obtain ⟨hl, hb⟩ := hld 0 s h0
  obtain ⟨⟨c1, d1, x1, t1⟩, hl, q1, m, y1⟩ := hl
  obtain ⟨⟨c2, d2, x2, t2⟩, hb, q2, m2, y2⟩ := hb
  simp only at q1 y1 q2 y2
  subst q1 y1 q2 y2
  have f3 := AutoSeq1.sub_list_list
  have nz : ¬ (us.size != vs.size) = true := by simp [ez]
  have go := lst_loopS (prog := prog) (w := w) p q us vs ez P us.size 0 rfl A R s ⟨Nat.zero_le _, hld, h0, st, fin⟩
  obtain ⟨hp, g, d, tk, os⟩ := s
  wp_walk using wpAny_loadPart' hl, wpAny_loadPart' hb
  refine ⟨plainId_quiet plain_eq_loop _, codeAny_builtin entry_eq_loop ?_⟩
  rw [Around.under_plainId plain_eq_loop _]
  exact go
theorem lst_neS (p q : Addr) (us vs : Array Value) (ez : us.size = vs.size) (P : Nat → Shared → Prop) :
    MeetsIn prog w (Builtin.«list.__ne__» ⟨[.ref p, .ref q], []⟩) (fun A R s => (∀ j s', P j s' → s'.heap.IsList p us ∧ s'.heap.IsList q vs) ∧
      P 0 s ∧ Step prog w A.in1 P (fun s' => (s'.heap.IsList p us ∧ s'.heap.IsList q vs) ∧ R (.ok (.ret (.bool true))) s') (fun e s' => R (.error e) s') us vs ∧ ∀ s', P us.size s' → R (.ok (.ret (.bool false))) s') := by
  intro A R s h
  obtain ⟨hld, h0, st, fin⟩ := h
  obtain ⟨hl, hb⟩ := hld 0 s h0
  obtain ⟨⟨c1, d1, x1, t1⟩, hl, q1, m, y1⟩ := hl
  obtain ⟨⟨c2, d2, x2, t2⟩, hb, q2, m2, y2⟩ := hb
  simp only at q1 y1 q2 y2
  subst q1 y1 q2 y2
  have f3 := AutoSeq1.sub_list_list
  have nz : ¬ (us.size != vs.size) = true := by simp [ez]
  have go := lst_loopN (prog := prog) (w := w) p q us vs ez P us.size 0 rfl A R s ⟨Nat.zero_le _, hld, h0, st, fin⟩
  obtain ⟨hp, g, d, tk, os⟩ := s
  wp_walk using wpAny_loadPart' hl, wpAny_loadPart' hb
  refine ⟨plainId_quiet plain_eq_loop _, codeAny_builtin entry_eq_loop ?_⟩
  rw [Around.under_plainId plain_eq_loop _]
  exact go
theorem rc_tups {A : Around} {s : Shared} {E : Value → Shared → Prop} {p q : Addr} {us vs : Array Value} {Q : Value → Shared → Prop} {P : Nat → Shared → Prop} (hl : s.heap.IsTuple p us) (hb : s.heap.IsTuple q vs) (hu : A.units < cLine) (h0 : P 0 s)
    (st : Step prog w A.in1 P (fun s' => Q (.bool false) s') E us vs) (fin : ∀ s', P (min us.size vs.size) s' → Q (.bool (us.size == vs.size)) s') : wpAny (model prog w) A (richCompare .Eq (.ref p) (.ref q)) Q E s := by
  obtain ⟨⟨c1, d1, x1, t1⟩, hl, q1, m, y1⟩ := hl
  obtain ⟨⟨c2, d2, x2, t2⟩, hb, q2, m2, y2⟩ := hb
  simp only at q1 y1 q2 y2
  subst q1 y1 q2 y2
  have nt : ∀ b, Value.bool b ≠ Value.notImplemented := fun b z => nomatch z
  refine wpAny_richCompare_same_room (T := "tuple") (op := .Eq) ⟨_, hl, rfl⟩ ⟨_, hb, rfl⟩ F.slot_tuple_eq ?_ hu
  refine call_meetsIn F.slot_tuple_eq ⟨_, hl, rfl⟩ F.entry_tuple_eq (F.args_tuple_eq_2 _ _) (tup_eqS p q us vs m m2 d1 d2 t1 t2 P) ⟨hl, hb, h0, fun i h1 h2 s1 hP => ?_, fun s1 hP => ⟨nt _, fin s1 hP⟩⟩
  refine wpAny_mono (st i h1 h2 s1 hP) (fun c s2 hc => ?_) fun e s2 z => z
  cases c with
  | true => exact hc
  | false => exact ⟨nt _, hc⟩
theorem rn_tups {A : Around} {s : Shared} {E : Value → Shared → Prop} {p q : Addr} {us vs : Array Value} {Q : Value → Shared → Prop} {P : Nat → Shared → Prop} (hl : s.heap.IsTuple p us) (hb : s.heap.IsTuple q vs) (hu : A.units < cLine) (h0 : P 0 s)
    (st : Step prog w A.in1 P (fun s' => Q (.bool true) s') E us vs) (fin : ∀ s', P (min us.size vs.size) s' → Q (.bool (us.size != vs.size)) s') : wpAny (model prog w) A (richCompare .NotEq (.ref p) (.ref q)) Q E s := by
  obtain ⟨⟨c1, d1, x1, t1⟩, hl, q1, m, y1⟩ := hl
  obtain ⟨⟨c2, d2, x2, t2⟩, hb, q2, m2, y2⟩ := hb
  simp only at q1 y1 q2 y2
  subst q1 y1 q2 y2
  have nt : ∀ b, Value.bool b ≠ Value.notImplemented := fun b z => nomatch z
  refine wpAny_richCompare_same_room (T := "tuple") (op := .NotEq) ⟨_, hl, rfl⟩ ⟨_, hb, rfl⟩ F.slot_tuple_ne ?_ hu
  refine call_meetsIn F.slot_tuple_ne ⟨_, hl, rfl⟩ F.entry_tuple_ne (F.args_tuple_ne_2 _ _) (tup_neS p q us vs m m2 d1 d2 t1 t2 P) ⟨hl, hb, h0, fun i h1 h2 s1 hP => ?_, fun s1 hP => ⟨nt _, fin s1 hP⟩⟩
  refine wpAny_mono (st i h1 h2 s1 hP) (fun c s2 hc => ?_) fun e s2 z => z
  cases c with
  | true => exact hc
  | false => exact ⟨nt _, hc⟩
theorem rc_lsts {A : Around} {s : Shared} {E : Value → Shared → Prop} {p q : Addr} {us vs : Array Value} {Q : Value → Shared → Prop} {P : Nat → Shared → Prop} (ez : us.size = vs.size) (hld : ∀ j s', P j s' → s'.heap.IsList p us ∧ s'.heap.IsList q vs) (hu : A.units < cLine) (h0 : P 0 s)
    (st : Step prog w A.in1 P (fun s' => (s'.heap.IsList p us ∧ s'.heap.IsList q vs) ∧ Q (.bool false) s') E us vs) (fin : ∀ s', P us.size s' → Q (.bool true) s') : wpAny (model prog w) A (richCompare .Eq (.ref p) (.ref q)) Q E s := by
  obtain ⟨hl, hb⟩ := hld 0 s h0
  obtain ⟨⟨c1, d1, x1, t1⟩, hl, q1, m, y1⟩ := hl
  obtain ⟨⟨c2, d2, x2, t2⟩, hb, q2, m2, y2⟩ := hb
  simp only at q1 y1 q2 y2
  subst q1 y1 q2 y2
  have nt : ∀ b, Value.bool b ≠ Value.notImplemented := fun b z => nomatch z
  refine wpAny_richCompare_same_room (T := "list") (op := .Eq) ⟨_, hl, rfl⟩ ⟨_, hb, rfl⟩ F.slot_list_eq ?_ hu
  refine call_meetsIn F.slot_list_eq ⟨_, hl, rfl⟩ F.entry_list_eq (F.args_list_eq_2 _ _) (lst_eqS p q us vs ez P) ⟨hld, h0, fun i h1 h2 s1 hP => ?_, fun s1 hP => ⟨nt _, fin s1 hP⟩⟩
  refine wpAny_mono (st i h1 h2 s1 hP) (fun c s2 hc => ?_) fun e s2 z => z
  cases c with
  | true => exact hc
  | false => exact ⟨hc.1, nt _, hc.2⟩
theorem rn_lsts {A : Around} {s : Shared} {E : Value → Shared → Prop} {p q : Addr} {us vs : Array Value} {Q : Value → Shared → Prop} {P : Nat → Shared → Prop} (ez : us.size = vs.size) (hld : ∀ j s', P j s' → s'.heap.IsList p us ∧ s'.heap.IsList q vs) (hu : A.units < cLine) (h0 : P 0 s)
    (st : Step prog w A.in1 P (fun s' => (s'.heap.IsList p us ∧ s'.heap.IsList q vs) ∧ Q (.bool true) s') E us vs) (fin : ∀ s', P us.size s' → Q (.bool false) s') : wpAny (model prog w) A (richCompare .NotEq (.ref p) (.ref q)) Q E s := by
  obtain ⟨hl, hb⟩ := hld 0 s h0
  obtain ⟨⟨c1, d1, x1, t1⟩, hl, q1, m, y1⟩ := hl
  obtain ⟨⟨c2, d2, x2, t2⟩, hb, q2, m2, y2⟩ := hb
  simp only at q1 y1 q2 y2
  subst q1 y1 q2 y2
  have nt : ∀ b, Value.bool b ≠ Value.notImplemented := fun b z => nomatch z
  refine wpAny_richCompare_same_room (T := "list") (op := .NotEq) ⟨_, hl, rfl⟩ ⟨_, hb, rfl⟩ F.slot_list_ne ?_ hu
  refine call_meetsIn F.slot_list_ne ⟨_, hl, rfl⟩ F.entry_list_ne (F.args_list_ne_2 _ _) (lst_neS p q us vs ez P) ⟨hld, h0, fun i h1 h2 s1 hP => ?_, fun s1 hP => ⟨nt _, fin s1 hP⟩⟩
  refine wpAny_mono (st i h1 h2 s1 hP) (fun c s2 hc => ?_) fun e s2 z => z
  cases c with
  | true => exact hc
  | false => exact ⟨hc.1, nt _, hc.2⟩
end
end PySem.SeqAt

set_option Elab.async false
set_option linter.all false
set_option maxRecDepth 100000
set_option maxHeartbeats 4000000
namespace Ow
open PySem PySem.Spec PyProof.Rows L2
/-- the instances of two rows, one pair after another, by the def that the class has for ==; J stands all the while -/
def EqC (C : Addr) (sp : Sp) (E : XK) (J : Hp → Prop) : List Addr → List Addr → Hp → (Bool → Hp → Prop) → Prop
  | a :: as, b :: bs, H, k => (a = b → EqC C sp E J as bs H k) ∧ (a ≠ b → (∃ dx fs dy gs, H a = some (.ins C dx fs) ∧ H b = some (.ins C dy gs)) ∧ sp [.ref a, .ref b] H (fun v H' => ∃ c, v = .bl c ∧ J H' ∧ if c = true then EqC C sp E J as bs H' k else k false H') E)
  | [], [], H, k => k true H
  | _, _, H, k => k false H
section
variable {X : Cx} {CX : CXT} {pins : List (Addr × Obj)} {σ : L2.St} {H : Hp} {s : Shared} {a b C g : Addr} {n : Nat} {sp : Sp} {E : XK} {J : Hp → Prop}
theorem eq_bool (hs : PySem.W.findIn X.K (.ref C) "__eq__" = some (some (.ref g))) (hf : PySem.W.isFn X.K (.ref g) = true) (F : FnR X.prog X.w X.K X.mg X.base CX n g sp) (hr : Room (n + 1) X.A) (hx : Passes CX X E) (I : Inv X pins σ H s) {as bs : List Addr} {k : Bool → Hp → Prop} (hJ : J H) (h : EqC C sp E J (a :: as) (b :: bs) H k) :
    wpAny (model X.prog X.w) X.A.in1 (eqBool (.ref a) (.ref b)) (fun c s' => if c = true then ∃ H', Inv X pins σ H' s' ∧ J H' ∧ EqC C sp E J as bs H' k else ∃ H', Inv X pins σ H' s' ∧ J H' ∧ k false H') X.xe s := by
  obtain ⟨h1, h2⟩ := h
  have hr1 : Room n X.A.in1 := hr.in1
  unfold eqBool
  refine wpAny_holding (wpAny_ite_split (fun e => ?_) fun e => ?_)
  · have ab : a = b := by
      have := eq_of_beq e
      injection this
    refine wpAny_bind (wpAny_rule (wpAny_pure ?_))
    rw [if_pos rfl]
    exact ⟨H, I, hJ, h1 ab⟩
  · have ab : a ≠ b := fun z => e (by rw [z]; exact beq_self_eq_true _)
    obtain ⟨⟨dx, fs, dy, gs, ha, hb⟩, q⟩ := h2 ab
    obtain ⟨ox, od, J, _⟩ := StX.insC_at (X := X) I (.inr ⟨dx, fs, ha⟩)
    obtain ⟨ox', od', J', _⟩ := StX.insC_at (X := X) I (.inr ⟨dy, gs, hb⟩)
    obtain ⟨m, hF⟩ := I.fr
    refine wpAny_bind (PySem.W.cmp_K (op := .Eq) (tb := .ref C) hr1.units0 hF I.ok.mod.kin J J'.type (by simp [PySem.W.notFirst]) hs hf ?_)
    refine wpAny_mono (wpAny_call (SlX.run_at (us := [.ref a, .ref b]) (ws := [.ref a, .ref b]) F hr1 I.env0.in1 hx I (.cons rfl (.cons rfl .nil)) q)) (fun w s' z => ?_) fun _ _ e => e
    obtain ⟨z', H', I', rz, c, ec, jz, qz⟩ := z
    subst ec
    obtain rfl : w = Value.bool c := rz
    refine SlX.cmpback (z := .bl c) rfl ?_
    refine wpAny_truthy_bool ?_
    cases c with
    | true => exact ⟨H', I', jz, qz⟩
    | false => exact ⟨H', I', jz, qz⟩
theorem refs_of : ∀ {as : List Addr} {its : List Value}, Vals (as.map V.ref) its → its = as.map Value.ref
  | [], _, .nil => rfl
  | a :: as, _, .cons r t => by
    rw [List.map_cons, ← refs_of t]
    exact congrArg (· :: _) r
theorem eqC_end {as bs : List Addr} {k : Bool → Hp → Prop} (h : EqC C sp E J (as.drop (min as.length bs.length)) (bs.drop (min as.length bs.length)) H k) : k (as.length == bs.length) H := by
  rcases Nat.lt_trichotomy as.length bs.length with l | l | l
  · rw [Nat.min_eq_left (by omega), List.drop_length, List.drop_eq_getElem_cons l] at h
    have e : (as.length == bs.length) = false := by simp; omega
    rw [e]
    exact h
  · have e : (as.length == bs.length) = true := by simp [l]
    rw [l, Nat.min_self, List.drop_length, ← l, List.drop_length] at h
    rw [e]
    exact h
  · rw [Nat.min_eq_right (by omega), List.drop_length, List.drop_eq_getElem_cons l] at h
    have e : (as.length == bs.length) = false := by simp; omega
    rw [e]
    exact h
def rEqO (neg : Bool) (C : Addr) (sp : Sp) (E : XK) (K : PySem.W.Frag) : R2 := fun x y H Q => ∃ p q as bs, x = .ref p ∧ y = .ref q ∧
  ((SqT K H p (as.map V.ref) ∧ SqT K H q (bs.map V.ref) ∧ EqC C sp E (fun _ => True) as bs H fun c H' => Q (.bl (if neg = true then !c else c)) H') ∨
   (SqL K H p (as.map V.ref) ∧ SqL K H q (bs.map V.ref) ∧ (as.length ≠ bs.length → Q (.bl neg) H) ∧ (as.length = bs.length → EqC C sp E (fun H' => SqL K H' p (as.map V.ref) ∧ SqL K H' q (bs.map V.ref)) as bs H fun c H' => Q (.bl (if neg = true then !c else c)) H')))
theorem mid_step (hs : PySem.W.findIn X.K (.ref C) "__eq__" = some (some (.ref g))) (hf : PySem.W.isFn X.K (.ref g) = true) (F : FnR X.prog X.w X.K X.mg X.base CX n g sp) (hr : Room (n + 1) X.A) (hx : Passes CX X E) (as bs : List Addr) (k : Bool → Hp → Prop) {us vs : Array Value} (eu : us.toList = as.map Value.ref) (ev : vs.toList = bs.map Value.ref) :
    PySem.SeqAt.Step X.prog X.w X.A.in1 (fun i s' => ∃ H', Inv X pins σ H' s' ∧ J H' ∧ EqC C sp E J (as.drop i) (bs.drop i) H' k) (fun s' => ∃ H', Inv X pins σ H' s' ∧ J H' ∧ k false H') X.xe us vs := by
  rintro i h1 h2 s1 ⟨H1, I1, j1, c1⟩
  have la : us.size = as.length := by rw [← Array.length_toList, eu, List.length_map]
  have lb : vs.size = bs.length := by rw [← Array.length_toList, ev, List.length_map]
  have l1 : i < as.length := by omega
  have l2 : i < bs.length := by omega
  have e1 : us[i] = Value.ref as[i] := by
    have : us.toList[i]'(by simpa using h1) = Value.ref as[i] := by simp [eu]
    simpa using this
  have e2 : vs[i] = Value.ref bs[i] := by
    have : vs.toList[i]'(by simpa using h2) = Value.ref bs[i] := by simp [ev]
    simpa using this
  rw [List.drop_eq_getElem_cons l1, List.drop_eq_getElem_cons l2] at c1
  rw [e1, e2]
  exact eq_bool hs hf F hr hx I1 j1 c1
theorem op_eqO (hs : PySem.W.findIn X.K (.ref C) "__eq__" = some (some (.ref g))) (hf : PySem.W.isFn X.K (.ref g) = true) (F : FnR X.prog X.w X.K X.mg X.base CX n g sp) (hr : Room (n + 1) X.A) (hx : Passes CX X E) : OpR X (compareOp .Eq) (rEqO false C sp E X.K) := by
  intro pins s σ H x y v u Q I rx ry h
  obtain ⟨p, q, as, bs, rfl, rfl, h⟩ := h
  cases (show v = Value.ref p from rx)
  cases (show u = Value.ref q from ry)
  show wpAny (model X.prog X.w) X.A (richCompare .Eq (.ref p) (.ref q)) _ _ s
  rcases h with ⟨h1, h2, h3⟩ | ⟨h1, h2, h3, h4⟩
  · obtain ⟨us, r1, t1, _⟩ := I.tuple h1
    obtain ⟨vs, r2, t2, _⟩ := I.tuple h2
    have eu := refs_of r1
    have ev := refs_of r2
    subst eu ev
    refine PySem.SeqAt.rc_tups t1 t2 hr.units0 (P := fun i s' => ∃ H', Inv X pins σ H' s' ∧ True ∧ EqC C sp E (fun _ => True) (as.drop i) (bs.drop i) H' fun c H' => Q (.bl c) H') ⟨H, I, trivial, h3⟩ (fun i l1 l2 s1 hP => wpAny_mono (mid_step hs hf F hr hx as bs _ (by simp) (by simp) i l1 l2 s1 hP) (fun c s2 z => ?_) fun _ _ z => z) fun s' ⟨H', I', _, hc⟩ => ?_
    · cases c with
      | true => exact z
      | false =>
        obtain ⟨H', I', _, z⟩ := z
        exact ⟨.bl false, H', I', rfl, z⟩
    · have e : min (as.map Value.ref).toArray.size (bs.map Value.ref).toArray.size = min as.length bs.length := by simp
      rw [e] at hc
      have := eqC_end hc
      refine ⟨.bl (as.length == bs.length), H', I', ?_, this⟩
      show Value.bool _ = Value.bool _
      simp
  · obtain ⟨us, r1, t1, _⟩ := I.list h1
    obtain ⟨vs, r2, t2, _⟩ := I.list h2
    have eu := refs_of r1
    have ev := refs_of r2
    subst eu ev
    by_cases l : as.length = bs.length
    · refine PySem.SeqAt.rc_lsts (us := (as.map Value.ref).toArray) (vs := (bs.map Value.ref).toArray) (by simp [l]) (P := fun i s' => ∃ H', Inv X pins σ H' s' ∧ (SqL X.K H' p (as.map V.ref) ∧ SqL X.K H' q (bs.map V.ref)) ∧ EqC C sp E (fun H' => SqL X.K H' p (as.map V.ref) ∧ SqL X.K H' q (bs.map V.ref)) (as.drop i) (bs.drop i) H' fun c H' => Q (.bl c) H') (fun j s' ⟨H', I', ⟨j1, j2⟩, _⟩ => ?_) hr.units0 ⟨H, I, ⟨h1, h2⟩, h4 l⟩ (fun i l1 l2 s1 hP => wpAny_mono (mid_step hs hf F hr hx as bs _ (by simp) (by simp) i l1 l2 s1 hP) (fun c s2 z => ?_) fun _ _ z => z) fun s' ⟨H', I', _, hc⟩ => ?_
      · obtain ⟨us, r1, t1, _⟩ := I'.list j1
        obtain ⟨vs, r2, t2, _⟩ := I'.list j2
        have eu := refs_of r1
        have ev := refs_of r2
        subst eu ev
        exact ⟨t1.isList, t2.isList⟩
      · cases c with
        | true => exact z
        | false =>
          obtain ⟨H', I', ⟨j1, j2⟩, z⟩ := z
          obtain ⟨us, r1, t1, _⟩ := I'.list j1
          obtain ⟨vs, r2, t2, _⟩ := I'.list j2
          have eu := refs_of r1
          have ev := refs_of r2
          subst eu ev
          exact ⟨⟨t1.isList, t2.isList⟩, .bl false, H', I', rfl, z⟩
      · have e : (as.map Value.ref).toArray.size = min as.length bs.length := by simp [l]
        rw [e] at hc
        have := eqC_end hc
        have e2 : (as.length == bs.length) = true := by simp [l]
        rw [e2] at this
        exact ⟨.bl true, H', I', rfl, this⟩
    · exact SeqAt.RcAt.lists_lengths t1.isList t2.isList (by simpa using l) hr.units0 _ _ _ _ ⟨.bl false, H, I, rfl, h3 l⟩
theorem op_neO2 (hs : PySem.W.findIn X.K (.ref C) "__eq__" = some (some (.ref g))) (hf : PySem.W.isFn X.K (.ref g) = true) (F : FnR X.prog X.w X.K X.mg X.base CX n g sp) (hr : Room (n + 1) X.A) (hx : Passes CX X E) : OpR X (compareOp .NotEq) (rEqO true C sp E X.K) := by
  intro pins s σ H x y v u Q I rx ry h
  obtain ⟨p, q, as, bs, rfl, rfl, h⟩ := h
  cases (show v = Value.ref p from rx)
  cases (show u = Value.ref q from ry)
  show wpAny (model X.prog X.w) X.A (richCompare .NotEq (.ref p) (.ref q)) _ _ s
  rcases h with ⟨h1, h2, h3⟩ | ⟨h1, h2, h3, h4⟩
  · obtain ⟨us, r1, t1, _⟩ := I.tuple h1
    obtain ⟨vs, r2, t2, _⟩ := I.tuple h2
    have eu := refs_of r1
    have ev := refs_of r2
    subst eu ev
    refine PySem.SeqAt.rn_tups t1 t2 hr.units0 (P := fun i s' => ∃ H', Inv X pins σ H' s' ∧ True ∧ EqC C sp E (fun _ => True) (as.drop i) (bs.drop i) H' fun c H' => Q (.bl (!c)) H') ⟨H, I, trivial, h3⟩ (fun i l1 l2 s1 hP => wpAny_mono (mid_step hs hf F hr hx as bs _ (by simp) (by simp) i l1 l2 s1 hP) (fun c s2 z => ?_) fun _ _ z => z) fun s' ⟨H', I', _, hc⟩ => ?_
    · cases c with
      | true => exact z
      | false =>
        obtain ⟨H', I', _, z⟩ := z
        exact ⟨.bl true, H', I', rfl, z⟩
    · have e : min (as.map Value.ref).toArray.size (bs.map Value.ref).toArray.size = min as.length bs.length := by simp
      rw [e] at hc
      have := eqC_end hc
      refine ⟨.bl (!(as.length == bs.length)), H', I', ?_, this⟩
      show Value.bool _ = Value.bool _
      simp
      rfl
  · obtain ⟨us, r1, t1, _⟩ := I.list h1
    obtain ⟨vs, r2, t2, _⟩ := I.list h2
    have eu := refs_of r1
    have ev := refs_of r2
    subst eu ev
    by_cases l : as.length = bs.length
    · refine PySem.SeqAt.rn_lsts (us := (as.map Value.ref).toArray) (vs := (bs.map Value.ref).toArray) (by simp [l]) (P := fun i s' => ∃ H', Inv X pins σ H' s' ∧ (SqL X.K H' p (as.map V.ref) ∧ SqL X.K H' q (bs.map V.ref)) ∧ EqC C sp E (fun H' => SqL X.K H' p (as.map V.ref) ∧ SqL X.K H' q (bs.map V.ref)) (as.drop i) (bs.drop i) H' fun c H' => Q (.bl (!c)) H') (fun j s' ⟨H', I', ⟨j1, j2⟩, _⟩ => ?_) hr.units0 ⟨H, I, ⟨h1, h2⟩, h4 l⟩ (fun i l1 l2 s1 hP => wpAny_mono (mid_step hs hf F hr hx as bs _ (by simp) (by simp) i l1 l2 s1 hP) (fun c s2 z => ?_) fun _ _ z => z) fun s' ⟨H', I', _, hc⟩ => ?_
      · obtain ⟨us, r1, t1, _⟩ := I'.list j1
        obtain ⟨vs, r2, t2, _⟩ := I'.list j2
        have eu := refs_of r1
        have ev := refs_of r2
        subst eu ev
        exact ⟨t1.isList, t2.isList⟩
      · cases c with
        | true => exact z
        | false =>
          obtain ⟨H', I', ⟨j1, j2⟩, z⟩ := z
          obtain ⟨us, r1, t1, _⟩ := I'.list j1
          obtain ⟨vs, r2, t2, _⟩ := I'.list j2
          have eu := refs_of r1
          have ev := refs_of r2
          subst eu ev
          exact ⟨⟨t1.isList, t2.isList⟩, .bl true, H', I', rfl, z⟩
      · have e : (as.map Value.ref).toArray.size = min as.length bs.length := by simp [l]
        rw [e] at hc
        have := eqC_end hc
        have e2 : (as.length == bs.length) = true := by simp [l]
        rw [e2] at this
        exact ⟨.bl false, H', I', rfl, this⟩
    · exact SeqAt.RcNeAt.lists_lengths t1.isList t2.isList (by simpa using l) hr.units0 _ _ _ _ ⟨.bl true, H, I, rfl, h3 l⟩
end
end Ow

set_option Elab.async false
set_option linter.all false
set_option maxRecDepth 100000
set_option maxHeartbeats 4000000
/-! == and != of tuples and lists of instances with an == of their own. -/
namespace Dl
open PySem PySem.Spec PyProof.Rows L2 LamX
/-- what stands at an address is one thing -/
structure Uniq (K : PySem.W.Frag) (H : Hp) : Prop where
  tt : ∀ a xs ys, SqT K H a xs → SqT K H a ys → xs = ys
  tl : ∀ a xs ys, SqT K H a xs → H a ≠ some (.lst ys)
  ti : ∀ a xs C dx fs, SqT K H a xs → H a ≠ some (.ins C dx fs)
theorem uniq_of {X : Cx} {pins : List (Addr × Obj)} {σ : L2.St} {H : Hp} {s : Shared} (I : Inv X pins σ H s) : Uniq X.K H := by
  refine ⟨fun a xs ys h1 h2 => I.tuple_inj h1 h2, fun a xs ys h1 h2 => ?_, fun a xs C dx fs h1 h2 => ?_⟩
  · obtain ⟨_, _, ⟨o, e, c, _⟩, _⟩ := I.tuple h1
    obtain ⟨_, _, ⟨o', n', e', c', _⟩, _⟩ := I.list (SqL.of h2)
    rw [e] at e'
    cases e'
    injection (c.symm.trans c') with z
    exact absurd z (by decide)
  · obtain ⟨_, _, ⟨o, e, c, _⟩, _⟩ := I.tuple h1
    obtain ⟨ox, od, J, _⟩ := StX.insC_at (X := X) I (.inr ⟨dx, fs, h2⟩)
    have e' := J.at_
    rw [e] at e'
    cases e'
    have c' := J.cls
    rw [c] at c'
    cases c'
mutual
/-- data without an address -/
def det : D → Bool
  | .non => true
  | .bl _ => true
  | .int _ => true
  | .str _ => true
  | .tup xs => detL xs
  | .lst xs => detL xs
  | .ins _ fs => detF fs
  | _ => false
def detL : List D → Bool
  | [] => true
  | d :: ds => det d && detL ds
def detF : List (Str × D) → Bool
  | [] => true
  | (_, d) :: ds => det d && detF ds
end
section
variable {K : PySem.W.Frag} {pn : Addr} {M H : Hp}
mutual
theorem rep_inj (u : Uniq K H) (s : Same M H) : ∀ {v : V} {d e : D}, Rep K pn M v d → Rep K pn M v e → det d = true → det e = true → d = e
  | _, _, _, .non, h2, _, _ => by cases h2; rfl
  | _, _, _, .bl b, h2, _, _ => by cases h2; rfl
  | _, _, _, .int b, h2, _, _ => by cases h2; rfl
  | _, _, _, .str b, h2, _, _ => by cases h2; rfl
  | _, _, _, .tup h r, h2, d1, d2 => by
    cases h2 with
    | tup h' r' =>
      cases u.tt _ _ _ (same_tup s h) (same_tup s h')
      rw [det] at d1 d2
      rw [reps_inj u s r r' d1 d2]
    | lst h' r' => exact absurd (s _ _ h') (u.tl _ _ _ (same_tup s h))
    | ins h' r' => exact absurd (s _ _ h') (u.ti _ _ _ _ _ (same_tup s h))
    | _ => cases d2
  | _, _, _, .lst h r, h2, d1, d2 => by
    cases h2 with
    | tup h' r' => exact absurd (s _ _ h) (u.tl _ _ _ (same_tup s h'))
    | lst h' r' =>
      rw [h] at h'
      cases h'
      rw [det] at d1 d2
      rw [reps_inj u s r r' d1 d2]
    | ins h' r' => rw [h] at h'; cases h'
    | _ => cases d2
  | _, _, _, .ins h r, h2, d1, d2 => by
    cases h2 with
    | tup h' r' => exact absurd (s _ _ h) (u.ti _ _ _ _ _ (same_tup s h'))
    | lst h' r' => rw [h] at h'; cases h'
    | ins h' r' =>
      rw [h] at h'
      cases h'
      rw [det] at d1 d2
      rw [repF_inj u s r r' d1 d2]
    | _ => cases d2
  | _, _, _, .dct h r, _, d1, _ => by cases d1
  | _, _, _, .pen, _, d1, _ => by cases d1
  | _, _, _, .obj a, _, d1, _ => by cases d1
  | _, _, _, .ty n, _, d1, _ => by cases d1
  | _, _, _, .exc h h2 r, _, d1, _ => by cases d1
theorem reps_inj (u : Uniq K H) (s : Same M H) : ∀ {v : List V} {d e : List D}, Reps K pn M v d → Reps K pn M v e → detL d = true → detL e = true → d = e
  | _, _, _, .nil, h2, _, _ => by cases h2; rfl
  | _, _, _, .cons h t, h2, d1, d2 => by
    cases h2 with
    | cons h' t' =>
      rw [detL, Bool.and_eq_true] at d1 d2
      rw [rep_inj u s h h' d1.1 d2.1, reps_inj u s t t' d1.2 d2.2]
theorem repF_inj (u : Uniq K H) (s : Same M H) : ∀ {v : List (Str × V)} {d e : List (Str × D)}, RepFs K pn M v d → RepFs K pn M v e → detF d = true → detF e = true → d = e
  | _, _, _, .nil, h2, _, _ => by cases h2; rfl
  | _, _, _, .cons h t, h2, d1, d2 => by
    cases h2 with
    | cons h' t' =>
      rw [detF, Bool.and_eq_true] at d1 d2
      rw [rep_inj u s h h' d1.1 d2.1, repF_inj u s t t' d1.2 d2.2]
end
end
/-- one pair after another -/
def eqsD (C : Addr) (F : WF) : List D → List D → Nat → (Bool → Nat → Prop) → KX → Prop
  | a :: as, b :: bs, n, k, x => (a = b → eqsD C F as bs n k x) ∧ ((∃ fs, a = .ins C fs) ∧ ∃ fs, b = .ins C fs) ∧ F [a, b] n (fun r n1 => isB r fun c => if c = true then eqsD C F as bs n1 k x else k false n1) x
  | [], [], n, k, _ => k true n
  | _, _, n, k, _ => k false n
def insAll (C : Addr) (ds : List D) : Prop := ∀ d ∈ ds, det d = true ∧ ∃ fs, d = .ins C fs
def fEqO (neg : Bool) (C : Addr) (F : WF) : F2 := fun d e n k x => match d, e with
  | .tup as, .tup bs => insAll C as ∧ insAll C bs ∧ eqsD C F as bs n (fun c n1 => k (.bl (if neg = true then !c else c)) n1) x
  | .lst as, .lst bs => insAll C as ∧ insAll C bs ∧ (as.length ≠ bs.length → k (.bl neg) n) ∧ (as.length = bs.length → eqsD C F as bs n (fun c n1 => k (.bl (if neg = true then !c else c)) n1) x)
  | _, _ => False
theorem reps_refs {K : PySem.W.Frag} {pn : Addr} {M : Hp} {C : Addr} : ∀ {vs : List V} {ds : List D}, Reps K pn M vs ds → insAll C ds → ∃ as : List Addr, vs = as.map V.ref
  | _, _, .nil, _ => ⟨[], rfl⟩
  | _, _, .cons h t, a => by
    obtain ⟨as, rfl⟩ := reps_refs t fun d hd => a d (List.mem_cons_of_mem _ hd)
    obtain ⟨_, fs, rfl⟩ := a _ List.mem_cons_self
    cases h with
    | ins h r => exact ⟨_ :: as, rfl⟩
def rEqU (neg : Bool) (C : Addr) (sp : Sp) (E : XK) (K : PySem.W.Frag) : R2 := fun x y H Q => Uniq K H → Ow.rEqO neg C sp E K x y H Q
section
variable {X : Cx} {CX : CXT} {C g : Addr} {n : Nat} {sp : Sp} {E : XK}
theorem op_eqU (hs : PySem.W.findIn X.K (.ref C) "__eq__" = some (some (.ref g))) (hf : PySem.W.isFn X.K (.ref g) = true) (F : FnR X.prog X.w X.K X.mg X.base CX n g sp) (hr : Room (n + 1) X.A) (hx : Passes CX X E) : OpR X (compareOp .Eq) (rEqU false C sp E X.K) := by
  intro pins s σ H x y v u Q I rx ry h
  exact Ow.op_eqO hs hf F hr hx pins s σ H x y v u Q I rx ry (h (uniq_of I))
theorem op_neU (hs : PySem.W.findIn X.K (.ref C) "__eq__" = some (some (.ref g))) (hf : PySem.W.isFn X.K (.ref g) = true) (F : FnR X.prog X.w X.K X.mg X.base CX n g sp) (hr : Room (n + 1) X.A) (hx : Passes CX X E) : OpR X (compareOp .NotEq) (rEqU true C sp E X.K) := by
  intro pins s σ H x y v u Q I rx ry h
  exact Ow.op_neO2 hs hf F hr hx pins s σ H x y v u Q I rx ry (h (uniq_of I))
end
section
variable {K : PySem.W.Frag} {T : Tb} {E : XK} {C : Addr} {F : WF} {g : Gh} {S : List Sl} {σ : L2.St} {kk : Bool → Nat → Prop} {x : KX} {k : Bool → Hp → Prop} {J : Hp → Prop} {M0 : Hp}
theorem eqs_run (px : ExcP K T E g x) (hJ : ∀ M H, Same M0 M → Same M H → J H) (fin : ∀ (b : Bool) (n : Nat) (M H : Hp), Same M0 M → Rel K T g n S σ M H → kk b n → k b H) :
    ∀ (as bs : List Addr) (ds es : List D) (n : Nat) (M H : Hp), Same M0 M → Rel K T g n S σ M H → Reps K g.pn M (as.map V.ref) ds → Reps K g.pn M (bs.map V.ref) es → (∀ p ∈ (as.zip bs).zip (ds.zip es), p.1.1 = p.1.2 → p.2.1 = p.2.2) → eqsD C F ds es n kk x → Ow.EqC C (spD K T F) E J as bs H k
  | [], [], ds, es, n, M, H, s, r, h1, h2, _, w => by
    cases h1
    cases h2
    exact fin true n M H s r w
  | [], b :: bs, ds, es, n, M, H, s, r, h1, h2, _, w => by
    cases h1
    cases h2 with
    | cons _ _ => exact fin false n M H s r w
  | a :: as, [], ds, es, n, M, H, s, r, h1, h2, _, w => by
    cases h2
    cases h1 with
    | cons _ _ => exact fin false n M H s r w
  | a :: as, b :: bs, ds, es, n, M, H, s, r, h1, h2, pr, w => by
    cases h1 with
    | @cons _ d _ ds h1 t1 =>
      cases h2 with
      | @cons _ e _ es h2 t2 =>
        obtain ⟨w0, ⟨⟨fs, ed⟩, ⟨gs, ee⟩⟩, w1⟩ := w
        have pr' : ∀ p ∈ (as.zip bs).zip (ds.zip es), p.1.1 = p.1.2 → p.2.1 = p.2.2 := fun p hp => pr p (List.mem_cons_of_mem _ hp)
        refine ⟨fun ab => eqs_run px hJ fin as bs ds es n M H s r t1 t2 pr' (w0 (pr ((a, b), (d, e)) List.mem_cons_self ab)), fun ab => ⟨?_, ?_⟩⟩
        · subst ed ee
          cases h1 with
          | ins m1 _ =>
            cases h2 with
            | ins m2 _ => exact ⟨_, _, _, _, r.bs.sub _ _ m1, r.bs.sub _ _ m2⟩
        · refine spD_of r (.cons h1 (.cons h2 .nil)) w1 ⟨fun d2 n2 v M2 H2 s2 r2 h3 q => ?_, px⟩
          obtain ⟨c, rfl, q⟩ := rep_bl h3 q
          refine ⟨c, rfl, hJ M2 H2 (s.trans s2) r2.bs.sub, ?_⟩
          cases c with
          | true => exact eqs_run px hJ fin as bs ds es n2 M2 H2 (s.trans s2) r2 (t1.mono s2) (t2.mono s2) pr' q
          | false => exact fin false n2 M2 H2 (s.trans s2) r2 q
theorem pair_inj {pn : Addr} {M H : Hp} (u : Uniq K H) (s : Same M H) : ∀ {as bs : List Addr} {ds es : List D}, Reps K pn M (as.map V.ref) ds → Reps K pn M (bs.map V.ref) es → insAll C ds → insAll C es → ∀ p ∈ (as.zip bs).zip (ds.zip es), p.1.1 = p.1.2 → p.2.1 = p.2.2
  | [], _, _, _, _, _, _, _, p, hp => by simp at hp
  | _ :: _, [], _, _, _, _, _, _, p, hp => by simp at hp
  | a :: as, b :: bs, _, _, .cons h1 t1, .cons h2 t2, i1, i2, p, hp => by
    rw [List.zip_cons_cons, List.zip_cons_cons, List.zip_cons_cons] at hp
    rcases List.mem_cons.mp hp with e | hp
    · subst e
      intro ab
      have ab : a = b := ab
      subst ab
      exact rep_inj u s h1 h2 (i1 _ List.mem_cons_self).1 (i2 _ List.mem_cons_self).1
    · exact pair_inj u s t1 t2 (fun d hd => i1 d (List.mem_cons_of_mem _ hd)) (fun d hd => i2 d (List.mem_cons_of_mem _ hd)) p hp
theorem lr_eqO {neg : Bool} : LR2 K T E (rEqU neg C (spD K T F) E K) (fEqO neg C F) := fun g n S σ M H v w d e Q k x r rd re f p => fun u => by
  cases rd with
  | @tup a xs ds ha hx =>
    cases re with
    | @tup b ys es hb hy =>
      obtain ⟨i1, i2, w⟩ := f
      obtain ⟨as, rfl⟩ := reps_refs hx i1
      obtain ⟨bs, rfl⟩ := reps_refs hy i2
      refine ⟨a, b, as, bs, rfl, rfl, .inl ⟨same_tup r.bs.sub ha, same_tup r.bs.sub hb, ?_⟩⟩
      exact eqs_run (kk := fun c n1 => k (.bl (if neg = true then !c else c)) n1) (k := fun c H' => Q (.bl (if neg = true then !c else c)) H') (J := fun _ => True) (M0 := M) p.2 (fun _ _ _ _ => trivial) (fun c n' M' H' s' r' q => p.1 _ n' _ M' H' s' r' (.bl _) q) as bs ds es n M H (Same.refl M) r hx hy (pair_inj u r.bs.sub hx hy i1 i2) w
    | _ => exact f.elim
  | @lst a xs ds ha hx =>
    cases re with
    | @lst b ys es hb hy =>
      obtain ⟨i1, i2, w1, w2⟩ := f
      obtain ⟨as, rfl⟩ := reps_refs hx i1
      obtain ⟨bs, rfl⟩ := reps_refs hy i2
      have la : as.length = ds.length := by
        have := hx.len
        rwa [List.length_map] at this
      have lb : bs.length = es.length := by
        have := hy.len
        rwa [List.length_map] at this
      refine ⟨a, b, as, bs, rfl, rfl, .inr ⟨.of (r.bs.sub _ _ ha), .of (r.bs.sub _ _ hb), fun l => p.here r (.bl _) (w1 (by omega)), fun l => ?_⟩⟩
      exact eqs_run (kk := fun c n1 => k (.bl (if neg = true then !c else c)) n1) (k := fun c H' => Q (.bl (if neg = true then !c else c)) H') (J := fun H' => SqL K H' a (as.map V.ref) ∧ SqL K H' b (bs.map V.ref)) (M0 := M) p.2 (fun M' H' s1 s2 => ⟨.of (s2 _ _ (s1 _ _ ha)), .of (s2 _ _ (s1 _ _ hb))⟩) (fun c n' M' H' s' r' q => p.1 _ n' _ M' H' s' r' (.bl _) q) as bs ds es n M H (Same.refl M) r hx hy (pair_inj u r.bs.sub hx hy i1 i2) (w2 (by omega))
    | _ => exact f.elim
  | _ =>
    cases re <;> exact f.elim
end
end Dl

set_option Elab.async false
set_option linter.all false
set_option maxRecDepth 100000
set_option maxHeartbeats 4000000
/-! Instances made by an __init__ with a star parameter alone. -/
namespace Dl
open PySem PySem.Spec PyProof.Rows L2 LamX
def spStar (sp : Sp) : Sp := fun vs H Q E => ∃ ws rest, vs = ws ++ rest ∧ ws.length = ["self"].length ∧ rest.length ≤ sizeLine ∧ ∀ p, H p = Option.none → sp (ws ++ [V.ref p]) (upd H p (.tup rest)) Q E
abbrev FnV (P : Program) (w : World) (K : PySem.W.Frag) (mg : Str → Option Value) (base : Heap) (k : Nat) (f C : Addr) (F : WI) : Prop := ∀ T : Tb, FnR P w K mg base (L2.CX P w) k f (spStar (spI K T C F))
section
variable {K : PySem.W.Frag} {T : Tb} {E : XK} {C : Addr} {F : WI} {X : Cx} {e e2 : Expr} {wa wc : WE} {ws : WA}
theorem askV_of {g : Gh} {n : Nat} {S : List Sl} {σ : L2.St} {M H : Hp} {k : KD} {x : KX} {Q : VK} {vs : List V} {ds : List D} (r : Rel K T g n S σ M H) (hr : Reps K g.pn M vs ds) (hl : ds.length ≤ 1000)
    (f : F [.tup ds] n (fun fs n' => k (.ins C fs) n') x) (p : PostE K T E g S σ M k x Q) : Ow.mkAsk C (spStar (spI K T C F)) E vs H Q := by
  intro x0 dx nx nd ne
  refine ⟨[V.ref x0], vs, rfl, rfl, by rw [hr.len]; exact sl1000 hl, fun q np => ?_⟩
  have b0 := r.bs.enter true
  have b1 := b0.grow (same_upd (o := HO.own x0) nd)
  have n1 : (upd H dx (.own x0)) x0 = none := by
    rw [upd_ne (Ne.symm ne)]
    exact nx
  have b2 := b1.grow (same_upd (o := HO.ins C dx []) n1)
  have b3 := b2.new (o := HO.tup vs) np (fun ps z => by cases z)
  have qx : q ≠ x0 := fun e => by
    rw [e, upd_same] at np
    cases np
  have mq : M q = none := b2.mn np
  have sm := same_upd (o := HO.tup vs) mq
  exact spI_of r nx sm b3 (by rw [upd_ne (Ne.symm qx), upd_same]) (by rw [upd_ne (Ne.symm qx)]; exact r.bs.mn nx) (.cons (.tup (.of upd_same) (hr.mono sm)) .nil) f p
/-- C(e, ..), C(*e, ..) -/
def wMakeV (C : Addr) (F : WI) (ws : WA) : WE := fun S n k x => ws S n (fun ds n1 => ds.length ≤ 1000 ∧ F [.tup ds] n1 (fun fs n' => k (.ins C fs) n') x) x
theorem de_makeV (he : PE X e (fun σ H Q => (toTA X.K T E ws) σ H fun vs H1 => Ow.mkAsk C (spStar (spI X.K T C F)) E vs H1 Q)) : DE X T E e (wMakeV C F ws) :=
  pe_imp he fun σ H Q ⟨g, M, S, n, k, x, rl, w, p⟩ => ⟨g, M, S, n, _, x, rl, w, (fun ds n1 vs M1 H1 s1 r1 e1 w1 => askV_of r1 e1 w1.1 w1.2 (p.step s1)), p.2⟩
theorem de_makeV0 (he : PE X e (fun σ H Q => Ow.mkAsk C (spStar (spI X.K T C F)) E [] H Q)) : DE X T E e (wMakeV C F wNil) :=
  pe_imp he fun σ H Q ⟨g, M, S, n, k, x, rl, w, p⟩ => askV_of rl .nil w.1 w.2 p
theorem star_seq {g : Gh} {M H : Hp} {v : V} {d : D} {k : List D → Prop} (sub : Same M H) (h : Rep K g.pn M v d) (w : seqI d k) : ∃ a xs ds, v = V.ref a ∧ (SqT K H a xs ∨ SqL K H a xs) ∧ Reps K g.pn M xs ds ∧ k ds := by
  cases h with
  | tup ha hx => exact ⟨_, _, _, rfl, .inl (same_tup sub ha), hx, w⟩
  | lst ha hx => exact ⟨_, _, _, rfl, .inr (.of (sub _ _ ha)), hx, w⟩
  | _ => exact w.elim
theorem de_makeVS (he : PE X e (fun σ H Q => (toTE X.K T E wa) σ H fun y H1 => ∃ a xs, y = V.ref a ∧ (SqT X.K H1 a xs ∨ SqL X.K H1 a xs) ∧ Ow.mkAsk C (spStar (spI X.K T C F)) E xs H1 Q)) : DE X T E e (wMakeV C F (wStar wa wNil)) :=
  pe_imp he fun σ H Q ⟨g, M, S, n, k, x, rl, w, p⟩ => ⟨g, M, S, n, _, x, rl, w, (fun d n1 v M1 H1 s1 r1 e1 w1 => by
    obtain ⟨a, xs, ds, rfl, h2, h3, w2⟩ := star_seq r1.bs.sub e1 w1
    have w3 : (ds ++ []).length ≤ 1000 ∧ F [.tup (ds ++ [])] n1 (fun fs n' => k (.ins C fs) n') x := w2
    rw [List.append_nil] at w3
    exact ⟨a, xs, rfl, h2, askV_of r1 h3 w3.1 w3.2 (p.step s1)⟩), p.2⟩
theorem de_makeVSL (he : PE X e (fun σ H Q => (toTE X.K T E wc) σ H fun y0 H0 => y0 = V.ref C ∧ (toTE X.K T E wa) σ H0 fun y H1 => ∃ a xs, y = V.ref a ∧ (SqT X.K H1 a xs ∨ SqL X.K H1 a xs) ∧ Ow.mkAsk C (spStar (spI X.K T C F)) E xs H1 Q)) : DE X T E e (wAtC C wc (wMakeV C F (wStar wa wNil))) :=
  pe_imp he fun σ H Q ⟨g, M, S, n, k, x, rl, w, p⟩ => ⟨g, M, S, n, _, x, rl, w, (fun d n1 v M1 H1 s1 r1 e1 w1 => by
    obtain ⟨rfl, w1⟩ := w1
    cases e1 with
    | obj a => exact ⟨rfl, g, M1, S, n1, _, x, r1, w1, (fun d n2 v M2 H2 s2 r2 e2 w2 => by
        obtain ⟨a, xs, ds, rfl, h2, h3, w3⟩ := star_seq r2.bs.sub e2 w2
        have w3 : (ds ++ []).length ≤ 1000 ∧ F [.tup (ds ++ [])] n2 (fun fs n' => k (.ins C fs) n') x := w3
        rw [List.append_nil] at w3
        exact ⟨a, xs, rfl, h2, askV_of r2 h3 w3.1 w3.2 (p.step (s1.trans s2))⟩), p.2⟩), p.2⟩
end
end Dl
namespace Ow
open PySem PySem.Spec PyProof.Rows L2
section
variable {X : Cx} {CX : CXT} {C f : Addr} {sp : Sp} {E : XK} {k : Nat} {x : Str} {e : Expr} {te tn : TE} {p pos sp_ : Pos}
/-- c(*e), c a name that stands for the class -/
theorem pe_makeSL (M : Mk X.K C f) (F : FnR X.prog X.w X.K X.mg X.base CX k f sp) (hr : Room (k + 1) X.A) (hn : PE X (.Name x p) tn) (hx : Passes CX X E) (he : PE X e te)
    (hst : starEach [.Starred e sp_] X.env = [(true, eval e X.env)] := by rfl) :
    PE X (.Call (.Name x p) [.Starred e sp_] [] pos) (fun σ H Q => tn σ H fun y0 H0 => y0 = V.ref C ∧ te σ H0 fun y H1 => ∃ a xs, y = V.ref a ∧ (SqT X.K H1 a xs ∨ SqL X.K H1 a xs) ∧ mkAsk C sp E xs H1 Q) := by
  refine ⟨fun pins s σ H Q I h => ?_⟩
  refine wpAny_Call_Name_kw (thn (hn.run pins s σ H _ I h) fun f0 s0 ⟨y0, H0, I0, r0, e0, q0⟩ => ?_)
  subst e0
  obtain rfl : f0 = Value.ref C := r0
  refine PySem.W.callWith_S (h₀ := X.base) I.ok.mod.kin M.kp (thn (he.run pins s0 σ H0 _ I0 q0) fun v s1 ⟨y, H1, I1, ry, a, xs, ey, hxs, q⟩ => ?_) hst
  subst ey
  obtain rfl : v = Value.ref a := ry
  exact StX.star_any I1 hxs fun us s2 I2 rv => ⟨I2.kIn, StX.run_makeR M F hr hx I2 rv q⟩
end
end Ow

set_option Elab.async false
set_option linter.all false
set_option maxRecDepth 100000
set_option maxHeartbeats 4000000
/-! An item by an own __getitem__; own lists: repeated, cut, an item set. -/
namespace Dl
open PySem PySem.Spec PyProof.Rows L2 LamX
section
variable {X : Cx} {CX : CXT} {C g : Addr} {n : Nat} {sp : Sp} {E : XK} {a b : Expr} {ta tb : TE} {pos : Pos}
def rIxO (C : Addr) (sp : Sp) (E : XK) : R2 := fun x y H Q => ∃ a dx fs, x = V.ref a ∧ H a = some (.ins C dx fs) ∧ sp [.ref a, y] H Q E
theorem pe_ixO (hs : PySem.W.findIn X.K (.ref C) "__getitem__" = some (some (.ref g))) (hf : PySem.W.isFn X.K (.ref g) = true) (hfn : PySem.W.fnIn X.K g = true) (F : FnR X.prog X.w X.K X.mg X.base CX n g sp) (hr : Room (n + 1) X.A) (hx : Passes CX X E) (ha : PE X a ta) (hb : PE X b tb)
    (hsl : ∀ o i, subscripted b true o i = runValue (.builtin "lifetime.subscript" ⟨[o, i], []⟩)) : PE X (.Subscript a b pos) (tOp (rIxO C sp E) ta tb) := by
  refine ⟨fun pins s σ H Q I h => ?_⟩
  refine Subscript_ (binT ha hb I h fun v u s2 x y H2 I2 rx ry q => ?_)
  obtain ⟨p, dx, fs, rfl, hp, q⟩ := q
  cases (show v = Value.ref p from rx)
  obtain ⟨ox, od, J, _⟩ := StX.insC_at (X := X) I2 (.inr ⟨dx, fs, hp⟩)
  obtain ⟨m, hF⟩ := I2.fr
  have hr1 : Room n X.A.in1 := hr.in1
  refine PySem.W.sub_K hF I2.ok.mod.kin J hs hfn hf (wpAny_mono (wpAny_call (SlX.run_at (us := [.ref p, u]) (ws := [.ref p, y]) F hr1 I2.env0.in1 hx I2 (.cons rfl (.cons ry .nil)) q)) (fun w s' z => ?_) fun _ _ e => e) (hsl _ _)
  obtain ⟨z', H', I', rz, qz⟩ := z
  exact ⟨z', H', I', rz, qz⟩
end
section
variable {K : PySem.W.Frag} {T : Tb} {E : XK} {C : Addr} {F : WF}
def fOwnA (C : Addr) (F : WF) : F2 := fun d e n k x => insI C d fun _ => F [d, e] n k x
theorem lr_ixO : LR2 K T E (rIxO C (spD K T F) E) (fOwnA C F) := fun g n S σ M H v w d e Q k x r rd re f p => by
  obtain ⟨a, dx, fs, gs, rfl, rfl, hm, rf, f⟩ := rep_ins rd f
  exact ⟨a, dx, fs, rfl, r.bs.sub _ _ hm, spD_of r (.cons rd (.cons re .nil)) f p⟩
end
section
variable {X : Cx} {T : Tb} {E : XK} {st : Stmt} {pos : Pos} {e a b : Expr} {wa wb : WE} {wt : WT} {C g : Addr} {F : WF} {m : Nat}
theorem de_ixO (hs : PySem.W.findIn X.K (.ref C) "__getitem__" = some (some (.ref g))) (hf : PySem.W.isFn X.K (.ref g) = true) (hfn : PySem.W.fnIn X.K g = true) (G : FnR X.prog X.w X.K X.mg X.base (L2.CX X.prog X.w) m g (spD X.K T F)) (hr : Room (m + 1) X.A) (hx : Passes (L2.CX X.prog X.w) X E) (ha : DE X T E a wa) (hb : DE X T E b wb)
    (hsl : ∀ o i, subscripted b true o i = runValue (.builtin "lifetime.subscript" ⟨[o, i], []⟩)) : DE X T E (.Subscript a b pos) (wOp (fOwnA C F) wa wb) :=
  pe_imp (pe_ixO hs hf hfn G hr hx ha hb hsl) fun σ H Q ⟨g, M, S, n, k, x, rl, w, p⟩ => ⟨g, M, S, n, _, x, rl, w, fun d1 n1 v1 M1 H1 s1 r1 e1 w1 =>
    ⟨g, M1, S, n1, _, x, r1, w1, fun d2 n2 v2 M2 H2 s2 r2 e2 w2 => lr_ixO (E := E) g n2 S σ M2 H2 v1 v2 d1 d2 Q k x r2 (e1.mono s2) e2 w2 (p.step (s1.trans s2)), p.2⟩, p.2⟩
/-- a * b, a list and a number -/
def wfRep (wa wb : WE) : WA := fun S n k x => wa S n (fun d n1 => wb S n1 (fun e n2 => lstI d fun a => intI e fun j => (a.length ≤ 1000 ∧ -1000 ≤ j ∧ j ≤ 1000) ∧ k (repD j.toNat a) n2) x) x
theorem df_rep (ha : DE X T E a wa) (hb : DE X T E b wb) : DF X T E (.BinOp a .Mult b pos) (wfRep wa wb) :=
  pe_imp (pe_op op_rep ha hb) fun σ H Q ⟨g, M, S, n, k, x, rl, w, p⟩ => ⟨g, M, S, n, _, x, rl, w, (fun d1 n1 v1 M1 H1 s1 r1 h1 w1 =>
    ⟨g, M1, S, n1, _, x, r1, w1, (fun d2 n2 v2 M2 H2 s2 r2 h2 w2 => by
      obtain ⟨p1, xs, ds, rfl, rfl, e1, q1, w2⟩ := rep_lst h1 w2
      obtain ⟨j, rfl, rfl, ⟨l1, l2, l3⟩, w2⟩ := rep_int h2 w2
      refine ⟨p1, j, xs, rfl, rfl, r2.bs.sub _ _ (s2 _ _ e1), by omega, by omega, ?_, fun q nq => ?_⟩
      · rw [q1.len, sizeLine_eq]
        have h4 : j.toNat ≤ 1000 := by omega
        have := Nat.mul_le_mul l1 h4
        omega
      · exact p.1 _ n2 q _ M2 _ (s1.trans s2) (r2.grow (same_upd nq)) upd_same (r2.bs.mn nq) (r2.free nq) ((q1.mono s2).rep _) w2), p.2⟩), p.2⟩
/-- name[k] = v, the name a list of one's own -/
def wLPut (i : Nat) (wk wv : WE) : WS := fun S n D x => wv S n (fun d n1 => ownL (gt S i) fun _ => wk S n1 (fun kd n2 => ownL (gt S i) fun ds => intI kd fun y => ∃ j, ixN ds.length y = some j ∧ D.nx (S.set i (.own (ds.set j d))) n2) x) x
theorem ds_lput {i : Nat} (h : PS X st (tAsg (toTE X.K T E wa) (gSub (tVar i) (toTE X.K T E wb) rSetL))) : DS X T E st (wLPut i wb wa) :=
  ps_imp h fun Dn σ H ⟨g, M, S, n, Dd, x, gs, rl, w, p, q⟩ => ⟨g, M, S, n, _, x, rl, w, (fun d n1 v M1 H1 s1 r1 h1 w1 => by
    obtain ⟨ds0, hs0, w1⟩ := slO_get w1
    obtain ⟨a, vs0, e0, _⟩ := r1.own hs0
    refine ⟨.ref a, e0, g, M1, S, n1, _, x, r1, w1, (fun kd n2 kv M2 H2 s2 r2 h2 w2 => ?_), q⟩
    obtain ⟨ds, hs, w2⟩ := slO_get w2
    obtain ⟨a', vs, e2, hH, hM, hn, hr⟩ := r2.own hs
    rw [e0] at e2
    cases e2
    obtain ⟨y, rfl, rfl, j, hj, w2⟩ := rep_int h2 w2
    refine ⟨a, vs, y, j, rfl, rfl, hH, by rw [hr.len]; exact hj, ?_⟩
    exact p.nx _ n2 σ M2 _ (r2.upOwn gs hs rfl rfl e0 hM (.own upd_same hM hn (hr.set j (h1.mono s2)))) w2), q⟩
/-- name = name[:k] if c else name, the name a list of one's own -/
def wCut (i : Nat) (wt : WT) (c : Int) : WS := fun S n D x => wt S n (fun t n1 => ownL (gt S i) fun ds => D.nx (S.set i (.own (if t = true then cutD ds none (some c) else ds))) n1) x
theorem ds_cut {i : Nat} {c : Int} (h : PS X st (tAsg (tIf (toTT X.K T E wt) (tSl (rSlAll X.K) (tVar i) tNoPart (tPart (tC (.int c)))) (tVar i)) (gName i))) : DS X T E st (wCut i wt c) :=
  ps_imp h fun Dn σ H ⟨g, M, S, n, Dd, x, gs, rl, w, p, q⟩ => ⟨g, M, S, n, _, x, rl, w, (fun t n1 M1 H1 s1 r1 w1 => by
    obtain ⟨ds, hs, w1⟩ := slO_get w1
    obtain ⟨a, vs, e2, hH, hM, hn, hr⟩ := r1.own hs
    cases t with
    | true =>
      rw [if_pos rfl] at w1 ⊢
      refine ⟨_, e2, c, rfl, .inr (.inl ⟨a, vs, rfl, .of hH, fun y ny => ?_⟩)⟩
      have fr := r1.free ny
      exact p.nx _ n1 _ M1 _ ((r1.grow (same_upd ny)).setOwn rfl (.own upd_same (r1.bs.mn ny) fr.np (hr.cut none (some c))) fr.h0 fun j s _ h o => fr.no j s h o) w1
    | false =>
      rw [if_neg (by decide)] at w1 ⊢
      refine ⟨_, e2, ?_⟩
      have e1 : σ.set i (some (V.ref a)) = σ := by
        apply List.ext_getElem?
        intro j
        rw [List.getElem?_set]
        split
        · subst_vars
          rw [e2]
          simp
          exact (List.getElem?_eq_some_iff.mp e2).1
        · rfl
      have e3 : S.set i (.own ds) = S := by
        apply List.ext_getElem?
        intro j
        rw [List.getElem?_set]
        split
        · subst_vars
          rw [hs]
          simp
          exact (List.getElem?_eq_some_iff.mp hs).1
        · rfl
      show Dn.nx (σ.set i (some (V.ref a))) H1
      rw [e1]
      rw [e3] at w1
      exact p.nx _ n1 _ M1 _ r1 w1), q⟩
end
end Dl

set_option Elab.async false
set_option linter.all false
set_option maxRecDepth 100000
set_option maxHeartbeats 4000000
/-! Starred arguments among others, defs of a star parameter, defs by keyword, tuple(range(a, b)), append(pop). -/
namespace Ow
open PySem PySem.Spec PyProof.Rows L2
section
variable {X : Cx} {CX : CXT} {C f : Addr} {k : Nat} {mk x : Str} {dv : V} {sp : Sp} {E : XK} {e : Expr} {l es : List Expr} {t : TA} {p pos : Pos}
theorem pe_mix {R : List V → Hp → VK → Prop} (hk : PySem.W.keepIn X.K (.ref f) = true) (hg : Gl X x) (hm : X.mg x = some (.ref f))
    (run : ∀ {pins : List (Addr × Obj)} {s : Shared} {σ : L2.St} {H : Hp} {Q : VK} {us : List Value} {vs : List V}, Inv X pins σ H s → Vals vs us → R vs H Q → wpAny (model X.prog X.w) X.A (call (.ref f) us) (EP X pins σ Q) X.xe s)
    (ha : PA X l t) (hdb : (x == ("__debug__" : Str)) = false) (he : ∃ a b r, backTo pos (starEach l X.env) = a :: b :: r) (hpl : (backTo pos (starEach l X.env)).any (·.1) = true) :
    PE X (.Call (.Name x p) l [] pos) (fun σ H Q => t σ H fun vs H1 => R vs H1 Q) := by
  refine ⟨fun pins s σ H Q I h => ?_⟩
  refine wpAny_Call_Name_kw (ld_glob I hg hm ?_ hdb)
  refine PySem.W.ks_callK (P := X.K.In) hpl (PySem.W.keeps_K hk) ?_
  obtain ⟨a, b, r, he⟩ := he
  have run1 := ha.run pos pins s σ H _ I h
  rw [he] at run1 ⊢
  refine PySem.W.evalArgs_many rfl (thn run1 fun us s1 ⟨vs, H1, I1, rv, q⟩ => ?_)
  refine thn ((pk_nil (X := X)).run pos pins s1 σ H1 (fun zs H2 => zs = [] ∧ R vs H2 Q) I1 ⟨rfl, q⟩) fun ws s2 ⟨zs, H2, I2, rz, ez, q2⟩ => ⟨I2.kIn, ?_⟩
  subst ez
  cases rz
  exact run I2 rv q2
theorem pe_makeRX (M : Mk X.K C f) (F : FnR X.prog X.w X.K X.mg X.base CX k f sp) (hr : Room (k + 1) X.A) (hg : Gl X x) (hm : X.mg x = some (.ref C)) (hx : Passes CX X E) (ha : PA X l t) (hdb : (x == ("__debug__" : Str)) = false := by decide)
    (he : ∃ a b r, backTo pos (starEach l X.env) = a :: b :: r := by exact ⟨_, _, _, rfl⟩) (hpl : (backTo pos (starEach l X.env)).any (·.1) = true := by rfl) : PE X (.Call (.Name x p) l [] pos) (fun σ H Q => t σ H fun vs H1 => mkAsk C sp E vs H1 Q) :=
  pe_mix M.kp hg hm (fun I r q => StX.run_makeR M F hr hx I r q) ha hdb he hpl
theorem pe_makeNX (M : Mk X.K C f) (F : FnM X.prog X.w X.K X.mg X.base CX k f mk dv sp) (hr : Room (k + 1) X.A) (hg : Gl X x) (hm : X.mg x = some (.ref C)) (hx : Passes CX X E) (ha : PA X l t) (hdb : (x == ("__debug__" : Str)) = false := by decide)
    (he : ∃ a b r, backTo pos (starEach l X.env) = a :: b :: r := by exact ⟨_, _, _, rfl⟩) (hpl : (backTo pos (starEach l X.env)).any (·.1) = true := by rfl) : PE X (.Call (.Name x p) l [] pos) (fun σ H Q => t σ H fun vs H1 => mkAskM C sp E dv vs H1 Q) :=
  pe_mix M.kp hg hm (fun I r q => run_makeN M F hr hx I r q) ha hdb he hpl
theorem pe_callR (F : FnR X.prog X.w X.K X.mg X.base CX k f sp) (hr : Room k X.A) (hg : Gl X x) (hm : X.mg x = some (.ref f)) (hk : PySem.W.keepIn X.K (.ref f) = true) (hx : Passes CX X E)
    (ha : PA X (e :: es) t) (hdb : (x == ("__debug__" : Str)) = false := by decide) (he : starEach (e :: es) X.env = (false, eval e X.env) :: starEach es X.env := by rfl) (hpl : (backTo pos (starEach es X.env)).any (·.1) = false := by rfl) :
    PE X (.Call (.Name x p) (e :: es) [] pos) (fun σ H Q => t σ H fun vs H1 => sp vs H1 Q E) := by
  refine ⟨fun pins s σ H Q I h => ?_⟩
  refine wpAny_Call_Name_kw (ld_glob I hg hm ?_ hdb)
  refine PySem.W.callWith_K (h₀ := X.base) I.ok.mod.kin hk (thn (ha.run pos pins s σ H _ I h) fun us s1 ⟨vs, H1, I1, r, q⟩ => ⟨I1.kIn, ?_⟩) he hpl
  exact wpAny_call (run_fnR F hr hx I1 r q)
theorem pe_callR0 (F : FnR X.prog X.w X.K X.mg X.base CX k f sp) (hr : Room k X.A) (hg : Gl X x) (hm : X.mg x = some (.ref f)) (hk : PySem.W.keepIn X.K (.ref f) = true) (hx : Passes CX X E) (hdb : (x == ("__debug__" : Str)) = false := by decide) :
    PE X (.Call (.Name x p) [] [] pos) (fun σ H Q => sp [] H Q E) := by
  refine ⟨fun pins s σ H Q I h => ?_⟩
  refine wpAny_Call_Name_kw (ld_glob I hg hm ?_ hdb)
  exact PySem.W.callWith_K0 I.kIn hk (wpAny_call (run_fnR F hr hx I .nil h))
end
end Ow
namespace Dl
open PySem PySem.Spec PyProof.Rows L2 LamX
/-! ### a def whose one parameter is a star -/
def spStar0 (sp : Sp) : Sp := fun vs H Q E => ∃ ws rest, vs = ws ++ rest ∧ ws.length = ([] : List Str).length ∧ rest.length ≤ sizeLine ∧ ∀ p, H p = Option.none → sp (ws ++ [V.ref p]) (upd H p (.tup rest)) Q E
structure DefV (P : Program) (w : World) (K : PySem.W.Frag) (mg : Str → Option Value) (base : Heap) (nm : Str) (k : Nat) (F : WF) : Prop where
  fn : ∀ T : Tb, FnR P w K mg base (L2.CX P w) k (ga K nm) (spStar0 (spD K T F))
  kp : PySem.W.keepIn K (.ref (ga K nm)) = true
  g : mg nm = some (.ref (ga K nm))
structure FunV (K : PySem.W.Frag) (mg : Str → Option Value) (nm : Str) (st : Stmt) : Prop where
  ex : ∃ fd, L2.Fun K nm nm st (ga K nm) fd
  g : mg nm = some (.ref (ga K nm))
/-- f(k = v) -/
structure DefK (P : Program) (w : World) (K : PySem.W.Frag) (mg : Str → Option Value) (base : Heap) (nm : Str) (k : Nat) (ps ks : List Str) (F : WF) : Prop where
  ex : ∃ fd, (∀ T : Tb, FnD P w K mg base T k (ga K nm) fd ps F) ∧ PySem.W.keepIn K (.ref (ga K nm)) = true ∧ ∀ (s : Shared) (ws : List Value), K.In s.heap → ws.length = ks.length → BindsTo s fd ⟨[], ks.zip ws⟩ (ps.zip ws)
  g : mg nm = some (.ref (ga K nm))
section
variable {K : PySem.W.Frag} {T : Tb} {E : XK} {C : Addr} {X : Cx} {e e2 a b : Expr} {es : List Expr} {kws : List Keyword} {wa wb wc : WE} {ws : WA} {F : WF} {nm : Str} {k : Nat} {p pos : Pos} {st : Stmt} {ps ks : List Str}
theorem askD_of {g : Gh} {n : Nat} {S : List Sl} {σ : L2.St} {M H : Hp} {k : KD} {x : KX} {Q : VK} {vs : List V} {ds : List D} (r : Rel K T g n S σ M H) (hr : Reps K g.pn M vs ds) (hl : ds.length ≤ 1000)
    (f : F [.tup ds] n k x) (p : PostE K T E g S σ M k x Q) : spStar0 (spD K T F) vs H Q E := by
  refine ⟨[], vs, rfl, rfl, by rw [hr.len]; exact sl1000 hl, fun q np => ?_⟩
  have fr := r.free np
  have mq : M q = none := r.bs.mn np
  have sm := same_upd (o := HO.tup vs) mq
  have r2 := (r.grow (same_upd (o := HO.tup vs) np)).freeze upd_same mq fr.np fr.h0 (fun ps z => by cases z) fr.no
  exact spD_of r2 (.cons (.tup (.of upd_same) (hr.mono sm)) .nil) f (p.step sm)
def wFV (F : WF) (ws : WA) : WE := fun S n k x => ws S n (fun ds n1 => ds.length ≤ 1000 ∧ F [.tup ds] n1 k x) x
theorem de_defV (d : DefV X.prog X.w X.K X.mg X.base nm k F) (hr : Room k X.A) (hx : Passes (L2.CX X.prog X.w) X E) (ha : DA X T E (e :: es) ws) (hg : Gl X nm := by rfl) (hdb : (nm == ("__debug__" : Str)) = false := by decide)
    (he : starEach (e :: es) X.env = (false, eval e X.env) :: starEach es X.env := by rfl) (hpl : (backTo pos (starEach es X.env)).any (·.1) = false := by rfl) : DE X T E (.Call (.Name nm p) (e :: es) [] pos) (wFV F ws) :=
  pe_imp (Ow.pe_callR (d.fn T) hr hg d.g d.kp hx ha hdb he hpl) fun σ H Q ⟨g, M, S, n, k, x, rl, w, p⟩ => ⟨g, M, S, n, _, x, rl, w, (fun ds n1 vs M1 H1 s1 r1 e1 w1 => askD_of r1 e1 w1.1 w1.2 (p.step s1)), p.2⟩
theorem de_defV0 (d : DefV X.prog X.w X.K X.mg X.base nm k F) (hr : Room k X.A) (hx : Passes (L2.CX X.prog X.w) X E) (hg : Gl X nm := by rfl) (hdb : (nm == ("__debug__" : Str)) = false := by decide) : DE X T E (.Call (.Name nm p) [] [] pos) (wFV F wNil) :=
  pe_imp (Ow.pe_callR0 (d.fn T) hr hg d.g d.kp hx hdb) fun σ H Q ⟨g, M, S, n, k, x, rl, w, p⟩ => askD_of rl .nil w.1 w.2 p
/-! ### f(k = v) -/
def wFK (nk : Nat) (F : WF) (ws : WA) : WE := fun S n k x => ws S n (fun ds n1 => ds.length = nk ∧ F ds n1 k x) x
theorem de_defK (d : DefK X.prog X.w X.K X.mg X.base nm k ps ks F) (hr : Room k X.A) (hx : Passes (L2.CX X.prog X.w) X E) (hkw : DK X T E kws ws) {nk : Nat} (hn : ks.length = nk := by rfl) (hg : Gl X nm := by rfl) (hdb : (nm == ("__debug__" : Str)) = false := by decide)
    (hall : (backToKw pos (keywordEach kws X.env)).all (·.1.isSome) = true := by rfl) (hks : (backToKw pos (keywordEach kws X.env)).filterMap (·.1) = ks := by rfl)
    (hpl : ((backTo pos (starEach [] X.env)).any (·.1) || (backToKw pos (keywordEach kws X.env)).any (·.1.isNone)) = false := by rfl) : DE X T E (.Call (.Name nm p) [] kws pos) (wFK nk F ws) := by
  obtain ⟨fd, F1, kp, hb⟩ := d.ex
  have pe : PE X (.Call (.Name nm p) [] kws pos) (fun σ H Q => (toTA X.K T E ws) σ H fun zs H1 => zs.length = ks.length ∧ spD X.K T F zs H1 Q E) := by
    refine ⟨fun pins s σ H Q I h => ?_⟩
    refine wpAny_Call_Name_kw (ld_glob I hg d.g ?_ hdb)
    refine PySem.W.callWith_KW0 (h₀ := X.base) I.ok.mod.kin kp hall ?_ hpl
    refine thn (hkw.run pos pins s σ H _ I h) fun us s2 ⟨zs, H2, I2, rz, hl, q2⟩ => ⟨I2.kIn, ?_⟩
    rw [hks]
    refine wpAny_call (codeAny_mono ((F1 T).run X.A X.stack s2 H2 ⟨[], ks.zip us⟩ us zs Q E hr I2.env0 (hb s2 us I2.kIn (by rw [← rz.length]; exact hl)) rz q2) fun r s' hq => ?_)
    cases r with
    | error e => exact hx pins σ H2 s2 e s' I2 hq
    | ok fl =>
      cases fl with
      | ret u => exact I2.after hq
      | next => exact False.elim hq
      | brk => exact False.elim hq
      | cont => exact False.elim hq
  exact pe_imp pe fun σ H Q ⟨g, M, S, n, k, x, rl, w, p⟩ => ⟨g, M, S, n, _, x, rl, w, (fun ds n1 vs M1 H1 s1 r1 e1 w1 => ⟨by rw [e1.len, hn]; exact w1.1, spD_of r1 e1 w1.2 (p.step s1)⟩), p.2⟩
/-! ### tuple(range(a, b)) -/
def wTupRg (wa wb : WE) : WE := fun S n k x => wa S n (fun d n1 => wb S n1 (fun e n2 => intI d fun i => intI e fun j => (-1000000 ≤ i ∧ i ≤ 1000000 ∧ -1000000 ≤ j ∧ j ≤ 1000000) ∧ k (.tup (rngD i (j - i).toNat)) n2) x) x
theorem reps_rg {pn : Addr} {M : Hp} (i : Int) (m : Nat) : Reps K pn M ((List.range m).map fun t => V.int (i + (t : Nat))) (rngD i m) := by
  unfold rngD
  generalize List.range m = l
  induction l with
  | nil => exact .nil
  | cons a l ih => exact .cons (.int _) ih
theorem de_tupRg {p2 pos2 : Pos} (ha : DE X T E a wa) (hb : DE X T E b wb) (hc : X.calm = true) (hg : Gl X "tuple") (hm : X.mg "tuple" = none) (hg2 : Gl X "range") (hm2 : X.mg "range" = none)
    (na : starEach [.Call (.Name "range" p2) [a, b] [] pos2] X.env = (false, eval (.Call (.Name "range" p2) [a, b] [] pos2) X.env) :: starEach [] X.env := by rfl)
    (nb : starEach [a, b] X.env = (false, eval a X.env) :: starEach [b] X.env := by rfl) (nc : starEach [b] X.env = (false, eval b X.env) :: starEach [] X.env := by rfl) (hp : (backTo pos2 (starEach [b] X.env)).any (·.1) = false := by rfl) : DE X T E (.Call (.Name "tuple" p) [.Call (.Name "range" p2) [a, b] [] pos2] [] pos) (wTupRg wa wb) :=
  pe_imp (pe_tupRg hc hg hm (prg_2 hg2 hm2 ha hb nb nc hp) na) fun σ H Q ⟨g, M, S, n, k, x, rl, w, p⟩ => ⟨g, M, S, n, _, x, rl, w, (fun d1 n1 v1 M1 H1 s1 r1 e1 w1 =>
    ⟨g, M1, S, n1, _, x, r1, w1, (fun d2 n2 v2 M2 H2 s2 r2 e2 w2 => by
      cases e1 with
      | int i =>
        cases e2 with
        | int j =>
          obtain ⟨⟨h1, h2, h3, h4⟩, w2⟩ := w2
          refine ⟨i, j, rfl, rfl, ⟨by omega, by omega, by omega, by omega, by omega⟩, fun q nq => ?_⟩
          exact (p.step (s1.trans s2)).put r2 nq (fun ps z => by cases z) (fun sm => .tup (.of upd_same) (reps_rg _ _)) w2
        | _ => exact w2.elim
      | _ => exact w2.elim), p.2⟩), p.2⟩
/-! ### a, b = [..], [] with lists of one's own -/
def wPar2 (i j : Nat) (w1 : WA) : WS := fun S n D x => w1 S n (fun ds n1 => D.nx ((S.set i (.own ds)).set j (.own [])) n1) x
theorem ds_par2 {i j : Nat} {w1 : WA} (h : PS X st (tAsg (tTup (tCons (toTF X.K T E w1) (tCons (tLst tNil) tNil))) (gTup X.K 2 (gCons (gName i) (gCons (gName j) gNil))))) : DS X T E st (wPar2 i j w1) :=
  ps_imp h fun Dn σ H ⟨g, M, S, n, Dd, x, gs, rl, w, p, q⟩ => ⟨g, M, S, n, _, x, rl, w, (fun ds n1 p1 vs M1 H1 s1 r1 hp mp fr ra w2 => by
    refine ⟨by rw [sizeLine_eq]; simp, fun p2 n2 => ⟨by rw [sizeLine_eq]; simp, fun p3 n3 => ?_⟩⟩
    refine ⟨p3, _, rfl, .of upd_same, rfl, _, _, rfl, _, _, rfl, rfl, ?_⟩
    have r2 := r1.grow (same_upd (o := HO.lst []) n2)
    have r3 := r2.grow (same_upd (o := HO.tup [V.ref p1, V.ref p2]) n3)
    have ne12 : p1 ≠ p2 := fun z => by rw [z, n2] at hp; cases hp
    have h13 : p1 ≠ p3 := fun z => by
      rw [← z, upd_ne ne12, hp] at n3
      cases n3
    have h23 : p2 ≠ p3 := fun z => by
      rw [← z, upd_same] at n3
      cases n3
    have f2 := r1.free n2
    have m2 : M1 p2 = none := r1.bs.mn n2
    have r4 := r3.setOwn (i := i) (a := p1) (s0 := .own ds) rfl (.own (by rw [upd_ne h13, upd_ne ne12]; exact hp) mp fr.np ra) fr.h0 fun j s _ h o => fr.no j s h o
    have k2 : Fr g (S.set i (.own ds)) (σ.set i (some (V.ref p1))) p2 := f2.keep r3 fun _ z => by cases z; exact ne12 rfl
    exact p.nx _ n1 _ M1 _ (r4.setOwn (i := j) (a := p2) (s0 := .own []) rfl (.own (by rw [upd_ne h23, upd_same]) m2 f2.np .nil) f2.h0 fun j s _ h o => k2.no j s h o) w2), q⟩
/-! ### x.append(y.pop(e)), both lists of one's own -/
theorem repsG {pn : Addr} {M : Hp} : ∀ {vs : List V} {ds : List D} {c : Nat} {y : D}, Reps K pn M vs ds → ds[c]? = some y → ∃ v, vs[c]? = some v ∧ Rep K pn M v y
  | _, _, 0, _, .cons h _, e => ⟨_, rfl, by cases e; exact h⟩
  | _, _, c + 1, _, .cons _ t, e => repsG (c := c) t e
theorem repsE {pn : Addr} {M : Hp} : ∀ {vs : List V} {ds : List D}, Reps K pn M vs ds → ∀ c, Reps K pn M (vs.eraseIdx c) (ds.eraseIdx c)
  | _, _, .nil, _ => .nil
  | _, _, .cons _ t, 0 => t
  | _, _, .cons h t, c + 1 => .cons h (repsE t c)
def wAppPop (i j : Nat) (we : WE) : WS := fun S n D x => ownL (gt S i) fun _ => ownL (gt S j) fun _ => we S n (fun d n1 => ownL (gt S i) fun ds => ownL (gt S j) fun es => intI d fun z => ∃ (c : Nat) (y : Dl.D), i ≠ j ∧ z = (c : Int) ∧ es[c]? = some y ∧ ds.length ≤ 100000 ∧ es.length ≤ 100000 ∧ D.nx ((S.set j (.own (es.eraseIdx c))).set i (.own (ds ++ [y]))) n1) x
theorem ds_appPop {i j : Nat} (h : PS X st (tDrop (tBM X.K "list" rAppend (tVar i) (tCons (tBM X.K "list" rPopAt (tVar j) (tCons (toTE X.K T E wa) tNil)) tNil)))) : DS X T E st (wAppPop i j wa) :=
  ps_imp h fun Dn σ H ⟨g, M, S, n, Dd, x, gs, rl, w, p, q⟩ => by
    obtain ⟨ds0, h0, w⟩ := slO_get w
    obtain ⟨es0, h1, w⟩ := slO_get w
    obtain ⟨a, vs0, e0, hH0, hM0, hn0, hr0⟩ := rl.own h0
    obtain ⟨b, us0, e1, hH1, hM1, hn1, hr1⟩ := rl.own h1
    refine ⟨.ref a, e0, .inl ⟨rfl, vs0, .of hH0⟩, .ref b, e1, .inl ⟨rfl, us0, .of hH1⟩, g, M, S, n, _, x, rl, w, (fun d n1 v M1 H1 s1 r1 h1 w1 => ?_), q⟩
    obtain ⟨ds, h2, w1⟩ := slO_get w1
    obtain ⟨es, h3, w1⟩ := slO_get w1
    obtain ⟨z, rfl, rfl, c, y, ij, rfl, hy, l1, l2, w1⟩ := rep_int h1 w1
    obtain ⟨a', vs, e2, hH, hM, hn, hr⟩ := r1.own h2
    rw [e0] at e2
    cases e2
    obtain ⟨b', us, e3, hB, hMb, hnb, hrb⟩ := r1.own h3
    rw [e1] at e3
    cases e3
    have ab : a ≠ b := fun z => ij (r1.sep i j _ _ a h2 h3 rfl rfl e0 (by rw [e1, z]))
    obtain ⟨yv, hyv, ry⟩ := repsG hrb hy
    have clt : c < us.length := (List.getElem?_eq_some_iff.mp hyv).1
    have l3 : us.length ≤ 100000 := by rw [hrb.len]; exact l2
    refine ⟨b, us, (c : Int), c, yv, rfl, rfl, hB, by omega, by omega, ?_, hyv, ?_⟩
    · rw [seqIndex_of (by omega) (by omega)]
      simp
    have r2 := r1.upOwn gs h3 rfl rfl e1 hMb (s' := .own (es.eraseIdx c)) (o := .lst (us.eraseIdx c)) (.own upd_same hMb hnb (repsE hrb c))
    have h2' : (S.set j (.own (es.eraseIdx c)))[i]? = some (.own ds) := by rw [List.getElem?_set_ne (Ne.symm ij)]; exact h2
    refine ⟨a, vs, yv, rfl, rfl, by rw [upd_ne ab]; exact hH, by rw [hr.len, sizeLine_eq]; omega, ?_⟩
    exact p.nx _ n1 σ M1 _ (r2.upOwn gs h2' rfl rfl e0 hM (.own upd_same hM hn (hr.snoc ry))) w1
end
/-! ### a def of a star, by what its body asks of data -/
theorem defV_of {P : Program} {w : World} {K : PySem.W.Frag} {mg : Str → Option Value} {base : Heap} {nm pv : Str} {st : Stmt} {N : List Str} {k : Nat} {F : WF} {WB : WS} {fd : FuncData} (Fn : L2.Fun K nm nm st (ga K nm) fd) (g : mg nm = some (.ref (ga K nm))) (S : FnScope N [pv] (defScope st))
    (hb : ∀ (kV doc pm : Value) (an : Option Addr) (cdv ct : Value) (us rest : List Value), us.length = ([] : List Str).length → bindArgs (PySem.W.fnOf nm nm (defArgs st) (defBody st) (defScope st) Value.none kV doc pm an cdv ct) ⟨us ++ rest, []⟩ = (newTuple rest >>= fun t => pure (([] : List Str).zip us ++ [(pv, t)])))
    (body : ∀ (T : Tb) (f : Addr) (cdv : Value) (A : Around) (outer : List Env) (s : Shared) (H : Hp) (E : XK), Room k (A.deeper (envOfC nm (defScope st) s.heap.objs.size f cdv)) → PSs (cxOf (L2.CX P w) P w K mg base N nm (defScope st) f cdv A outer s H E) (defBody st) (toTS K T E WB))
    (h : ∀ ds n k x, F ds n k x → WB (startD N ds) n { nx := fun _ n' => k .non n', rt := k } x) : DefV P w K mg base nm (k + 1) F := by
  refine ⟨fun T => ?_, Fn.kp, g⟩
  obtain ⟨oc, od, kV, doc, pm, an, cdv, ct, osl, rfl, lk, hcd⟩ := Fn.ex
  refine StX.fn_star (ps := []) (pv := pv) (sp := spD K T F) (k := k) lk hcd S StX.cxUp (hb kV doc pm an cdv ct) fun A outer s H vs Q E hr hs => ?_
  obtain ⟨g, n, ds, k, x, gs, rfl, b, r, f, p, e⟩ := hs
  exact ⟨_, body T _ _ A outer s _ E hr, g, g.M0, startD N ds, n, _, x, gs, r.slots b, h _ _ _ _ f, ⟨fun S' n' σ' M' H' r' w' => p .non n' .non M' H' r'.bs .non w', p, fun _ _ _ _ _ _ z => z.elim, fun _ _ _ _ _ _ z => z.elim⟩, e⟩
end Dl

set_option Elab.async false
set_option linter.all false
set_option maxRecDepth 100000
set_option maxHeartbeats 4000000
namespace Lz
open PySem PySem.Spec PyProof.Rows L2 LamX Dl
def topS (i : Nat) : Stmt := PySem.Challenge.pw_laterepair_k16_copies_and_parities.main.body.getD i (.Pass ⟨0, 0, 0, 0⟩)
def inClass (s : Stmt) (i : Nat) : Stmt := match s with
  | .ClassDef _ _ _ body _ _ _ _ _ _ _ => body.getD i (.Pass ⟨0, 0, 0, 0⟩)
  | _ => .Pass ⟨0, 0, 0, 0⟩
abbrev s_is_integer : Stmt := topS 6
theorem sc_is_integer : FnScope ["value"] ["value"] (defScope s_is_integer) := ⟨rfl, rfl, rfl, by decide +kernel, rfl, by decide +kernel, by decide +kernel⟩
abbrev s_is_within : Stmt := topS 7
theorem sc_is_within : FnScope ["value", "least", "most"] ["value", "least", "most"] (defScope s_is_within) := ⟨rfl, rfl, rfl, by decide +kernel, rfl, by decide +kernel, by decide +kernel⟩
abbrev s_is_age : Stmt := topS 8
theorem sc_is_age : FnScope ["value"] ["value"] (defScope s_is_age) := ⟨rfl, rfl, rfl, by decide +kernel, rfl, by decide +kernel, by decide +kernel⟩
abbrev s_is_ascending : Stmt := topS 9
theorem sc_is_ascending : FnScope ["values", "at"] ["values"] (defScope s_is_ascending) := ⟨rfl, rfl, rfl, by decide +kernel, rfl, by decide +kernel, by decide +kernel⟩
abbrev s_is_sum : Stmt := topS 30
theorem sc_is_sum : FnScope ["value", "age"] ["value"] (defScope s_is_sum) := ⟨rfl, rfl, rfl, by decide +kernel, rfl, by decide +kernel, by decide +kernel⟩
abbrev s_Tick_init : Stmt := inClass (topS 31) 0
theorem sc_Tick_init : FnScope ["self", "mute", "sums", "at", "ages"] ["self", "mute", "sums"] (defScope s_Tick_init) := ⟨rfl, rfl, rfl, by decide +kernel, rfl, by decide +kernel, by decide +kernel⟩
abbrev s_Tick_eq : Stmt := inClass (topS 31) 9
theorem sc_Tick_eq : FnScope ["self", "other"] ["self", "other"] (defScope s_Tick_eq) := ⟨rfl, rfl, rfl, by decide +kernel, rfl, by decide +kernel, by decide +kernel⟩
abbrev s_Tick_str : Stmt := inClass (topS 31) 10
theorem sc_Tick_str : FnScope ["self", "texts", "first", "words", "ages", "age"] ["self"] (defScope s_Tick_str) := ⟨rfl, rfl, rfl, by decide +kernel, rfl, by decide +kernel, by decide +kernel⟩
abbrev s_Plan_init : Stmt := inClass (topS 32) 0
theorem sc_Plan_init : FnScope ["self", "ticks", "at", "tick"] ["self", "ticks"] (defScope s_Plan_init) := ⟨rfl, rfl, rfl, by decide +kernel, rfl, by decide +kernel, by decide +kernel⟩
abbrev s_Plan_len : Stmt := inClass (topS 32) 1
theorem sc_Plan_len : FnScope ["self"] ["self"] (defScope s_Plan_len) := ⟨rfl, rfl, rfl, by decide +kernel, rfl, by decide +kernel, by decide +kernel⟩
abbrev s_Plan_getitem : Stmt := inClass (topS 32) 3
theorem sc_Plan_getitem : FnScope ["self", "at"] ["self", "at"] (defScope s_Plan_getitem) := ⟨rfl, rfl, rfl, by decide +kernel, rfl, by decide +kernel, by decide +kernel⟩
abbrev s_Plan_rate : Stmt := inClass (topS 32) 6
theorem sc_Plan_rate : FnScope ["self", "many", "speaking", "tick"] ["self"] (defScope s_Plan_rate) := ⟨rfl, rfl, rfl, by decide +kernel, rfl, by decide +kernel, by decide +kernel⟩
abbrev s_Plan_str : Stmt := inClass (topS 32) 13
theorem sc_Plan_str : FnScope ["self", "tick"] ["self"] (defScope s_Plan_str) := ⟨rfl, rfl, rfl, by decide +kernel, rfl, by decide +kernel, by decide +kernel⟩
abbrev s_copies : Stmt := topS 35
theorem sc_copies : FnScope ["ages", "at", "age", "sums"] ["ages"] (defScope s_copies) := ⟨rfl, rfl, rfl, by decide +kernel, rfl, by decide +kernel, by decide +kernel⟩
abbrev s_parity : Stmt := topS 36
theorem sc_parity : FnScope ["size", "single", "closing", "_"] ["size"] (defScope s_parity) := ⟨rfl, rfl, rfl, by decide +kernel, rfl, by decide +kernel, by decide +kernel⟩
abbrev s_l_pick : Stmt := topS 40
theorem sc_l_pick : FnScope ["_law_pen_here", "_law_some"] ["_law_pen_here", "_law_some"] (defScope s_l_pick) := ⟨rfl, rfl, rfl, by decide +kernel, rfl, by decide +kernel, by decide +kernel⟩
abbrev s_l_heard : Stmt := topS 41
theorem sc_l_heard : FnScope ["_law_ask", "_law_caught", "error", "_law_found"] ["_law_ask"] (defScope s_l_heard) := ⟨rfl, rfl, rfl, by decide +kernel, rfl, by decide +kernel, by decide +kernel⟩
def N_l_heard : List Str := ["_law_ask", "_law_caught", "error", "_law_found"]
abbrev s_l_copies : Stmt := topS 42
theorem sc_l_copies : FnScope ["_law_ages", "_law_a", "_law_b", "_law_c", "_law_d", "_law_e", "_law_f", "_law_g"] ["_law_ages"] (defScope s_l_copies) := ⟨rfl, rfl, rfl, by decide +kernel, rfl, by decide +kernel, by decide +kernel⟩
abbrev s_l_turn_right : Stmt := topS 43
theorem sc_l_turn_right : FnScope ["_law_pen_here", "_law_left", "_law_turn", "_law_plan", "_law_heard_here", "_law_ages", "_law_odd", "_law_spot", "_law_age"] ["_law_pen_here"] (defScope s_l_turn_right) := ⟨rfl, rfl, rfl, by decide +kernel, rfl, by decide +kernel, by decide +kernel⟩
abbrev s_law : Stmt := topS 44
theorem sc_law : FnScope ["_law_script", "_law_pen_here", "_law_turn", "_law_many", "_law_plan", "_law_due", "_law_heard_here", "_law_tick"] ["_law_script"] (defScope s_law) := ⟨rfl, rfl, rfl, by decide +kernel, rfl, by decide +kernel, by decide +kernel⟩
section
variable (K : PySem.W.Frag)
def Cs : List Addr := [ga K "Tick", ga K "Plan"]
def Es : List Addr := [ga K "BadTick", ga K "BadPlan", ga K "TooMany", ga K "NoPhase", ga K "BadCount"]
def hcE (C : Addr) : Bool := decide (C ∈ Es K)
def Es_part : List Addr := [ga K "BadTick"]
def Es_value : List Addr := [ga K "BadCount"]
def Es_at (_ : PySem.W.Frag) : List Addr := []
def Es_what : List Addr := [ga K "TooMany"]
def Es_most : List Addr := [ga K "TooMany"]
end
structure Nm (mg : Str → Option Value) : Prop where
  all : mg "all" = none
  any : mg "any" = none
  bool : mg "bool" = none
  enumerate : mg "enumerate" = none
  int : mg "int" = none
  isinstance : mg "isinstance" = none
  len : mg "len" = none
  list : mg "list" = none
  range : mg "range" = none
  repr : mg "repr" = none
  str : mg "str" = none
  sum : mg "sum" = none
  tuple : mg "tuple" = none
structure Fct (P : Program) (w : World) (K : PySem.W.Frag) (mg : Str → Option Value) (base : Heap) : Prop where
  n : Nm mg
  cl_Plan : Cls K (ga K "Plan")
  cl_Tick : Cls K (ga K "Tick")
  e_BadCount : Er1 P w K mg base "BadCount" "value"
  e_BadPlan : Er1 P w K mg base "BadPlan" "part"
  e_BadTick : Er1 P w K mg base "BadTick" "part"
  e_NoPhase : Er1 P w K mg base "NoPhase" "at"
  e_TooMany : Er2 P w K mg base "TooMany" "what" "most"
  exm_RepairError : ∀ C, hcE K C = true → PySem.W.exmOne K (.ref C) (.ref (ga K "RepairError")) = some true
  g_BadCount : mg "BadCount" = some (.ref (ga K "BadCount"))
  g_BadPlan : mg "BadPlan" = some (.ref (ga K "BadPlan"))
  g_BadTick : mg "BadTick" = some (.ref (ga K "BadTick"))
  g_NoPhase : mg "NoPhase" = some (.ref (ga K "NoPhase"))
  g_Plan : mg "Plan" = some (.ref (ga K "Plan"))
  g_RepairError : mg "RepairError" = some (.ref (ga K "RepairError"))
  g_Tick : mg "Tick" = some (.ref (ga K "Tick"))
  g_TooMany : mg "TooMany" = some (.ref (ga K "TooMany"))
  gi_Plan : PySem.W.fnIn K (ma K "Plan" "__getitem__") = true
  h_l_heard : HearAt K mg "_law_heard" "_law_ask" s_l_heard
  k_MOST_AGE : ∃ t, mg "MOST_AGE" = some (.int 8 t)
  k_MOST_PHASES : ∃ t, mg "MOST_PHASES" = some (.int 6 t)
  k_MOST_SUMS : ∃ t, mg "MOST_SUMS" = some (.int 6 t)
  mk_Plan : Mk K (ga K "Plan") (ma K "Plan" "__init__")
  mk_Tick : Mk K (ga K "Tick") (ma K "Tick" "__init__")
  na_Plan__ticks : NoAttr K (ga K "Plan") "_ticks"
  na_Tick_mute : NoAttr K (ga K "Tick") "mute"
  na_Tick_sums : NoAttr K (ga K "Tick") "sums"
  t_Plan : Tells K (.ref (ga K "Plan")) (tyC (ga K "Plan") (Cs K))
  t_Tick : Tells K (.ref (ga K "Tick")) (tyC (ga K "Tick") (Cs K))
  t_bool : Tells K (.ty "bool") (tyB "bool" (Cs K))
  t_int : Tells K (.ty "int") (tyB "int" (Cs K))
  t_tuple : Tells K (.ty "tuple") (tyB "tuple" (Cs K))
  x_BadCount : TellsX K (.ref (ga K "BadCount")) (tyX (ga K "BadCount") (Es K))
  x_BadPlan : TellsX K (.ref (ga K "BadPlan")) (tyX (ga K "BadPlan") (Es K))
  x_BadTick : TellsX K (.ref (ga K "BadTick")) (tyX (ga K "BadTick") (Es K))
  x_NoPhase : TellsX K (.ref (ga K "NoPhase")) (tyX (ga K "NoPhase") (Es K))
  x_TooMany : TellsX K (.ref (ga K "TooMany")) (tyX (ga K "TooMany") (Es K))
  xf_at : ∀ C ∈ Es_at K, L2.XfC K C ∧ PySem.W.findIn K (.ref C) "at" = some none
  xf_most : ∀ C ∈ Es_most K, L2.XfC K C ∧ PySem.W.findIn K (.ref C) "most" = some none
  xf_part : ∀ C ∈ Es_part K, L2.XfC K C ∧ PySem.W.findIn K (.ref C) "part" = some none
  xf_value : ∀ C ∈ Es_value K, L2.XfC K C ∧ PySem.W.findIn K (.ref C) "value" = some none
  xf_what : ∀ C ∈ Es_what K, L2.XfC K C ∧ PySem.W.findIn K (.ref C) "what" = some none
structure ItAt (P : Program) (w : World) (K : PySem.W.Frag) (mg : Str → Option Value) (base : Heap) (c nm : Str) (k : Nat) : Prop where
  at_ : PySem.W.findIn K (.ref (ga K c)) "__iter__" = some (some (.ref (ma K c "__iter__")))
  fn : PySem.W.isFn K (.ref (ma K c "__iter__")) = true
  it : Ow.ItRunF P w K mg base k (ga K c) (ma K c "__iter__") nm
end Lz

set_option Elab.async false
set_option linter.all false
set_option maxRecDepth 100000
set_option maxHeartbeats 4000000
namespace Lz
open PySem PySem.Spec PyProof.Rows L2 Ow
open Dl (Kept PenAt vi spDraw spPen same_upd)
section
variable {P : Program} {w : World} {K : PySem.W.Frag} {mg : Str → Option Value} {base : Heap}
abbrev ii (l : List Int) : List V := l.map V.int
theorem ii_len (l : List Int) : (ii l).length = l.length := List.length_map ..
theorem kept_trans {a : Addr} {H H1 H2 : Hp} (x : Kept a H H1) (y : Kept a H1 H2) : Kept a H H2 := fun c o n h => y c o n (x c o n h)
theorem same_kept {a : Addr} {H H' : Hp} (s : Dl.Same H H') : Kept a H H' := fun c o _ h => s c o h
theorem kept_upd {a : Addr} {H : Hp} {o : HO} : Kept a H (upd H a o) := fun c o' n h => by
  rw [upd_ne n]
  exact h
theorem pen_ne {H : Hp} {a b c : Addr} {ns : List Int} {v w : V} (h1 : H a = some (.lst [.ref c, v, w])) (h2 : H b = some (.lst (ii ns))) : b ≠ a := by
  rintro rfl
  rw [h1] at h2
  have e : [V.ref c, v, w] = ii ns := by
    injection h2 with e
    injection e
  cases ns with
  | nil => cases e
  | cons x xs => cases e
theorem dp_ints {K : PySem.W.Frag} {H : Hp} : ∀ ns : List Int, DpAll K H (ii ns) (ns.map PyData.int)
  | [] => .nil
  | n :: ns => .cons (.int n) (dp_ints ns)
theorem canlay_i : ∀ ns : List Int, PyData.canLayAll0 (ns.map PyData.int) = true
  | [] => by simp [PyData.canLayAll0]
  | n :: ns => by simp [PyData.canLayAll0, PyData.canLay0, canlay_i ns]
theorem depth_i : ∀ ns : List Int, PyData.depthAll (ns.map PyData.int) ≤ 1 := by
  intro ns
  induction ns with
  | nil => simp [PyData.depthAll]
  | cons n ns ih => simp [PyData.depthAll, PyData.depth]; omega
theorem same_put {H H' : Hp} {p : Addr} {o : HO} (s : Dl.Same H H') (h : H p = none) : Dl.Same H (upd H' p o) := fun b x e => by
  rw [upd_ne (ne_of_none e h)]
  exact s b x e
abbrev s_draw : Stmt := topS 39
theorem sc_draw : FnScope ["_law_pen_here", "_law_many", "_law_digit", "_law_at", "_law_cell", "_law_great", "_law_mixed"] ["_law_pen_here", "_law_many"] (defScope s_draw) := ⟨rfl, rfl, rfl, by decide +kernel, rfl, by decide +kernel, by decide +kernel⟩
theorem modv (x : Int) {m : Nat} (h : 0 < m) : ∃ d : Nat, d < m ∧ x % (m : Int) = (d : Int) := by
  refine ⟨(x % (m : Int)).toNat, ?_, ?_⟩
  · have h1 := Int.emod_nonneg x (by omega : (m : Int) ≠ 0)
    have h2 := Int.emod_lt_of_pos x (by omega : (0 : Int) < (m : Int))
    omega
  · have h1 := Int.emod_nonneg x (by omega : (m : Int) ≠ 0)
    omega
theorem cp1 (x : Int) {i : Nat} (h : i ≤ 10000) : CPow (x % 2147483563 + 75664 * (i : Int) + 3952) 5 := by
  refine ⟨by decide, by decide, ?_⟩
  show _ < 18446744073709551616
  omega
theorem mulB {y : Int} {i : Nat} (h0 : 0 ≤ y) (h1 : y < 2147483629) (h : i ≤ 10000) : 0 ≤ y * (2 * (i : Int) + 353) ∧ y * (2 * (i : Int) + 353) ≤ 2147483629 * 20973 ∧ 0 ≤ 48416 * (i : Int) * (i : Int) ∧ 48416 * (i : Int) * (i : Int) ≤ 484160000 * 10000 := by
  refine ⟨Int.mul_nonneg h0 (by omega), Int.mul_le_mul (by omega) (by omega) (by omega) (by omega), Int.mul_nonneg (by omega) (by omega), Int.mul_le_mul (by omega) (by omega) (by omega) (by omega)⟩
theorem cp2 {y : Int} {i : Nat} (h0 : 0 ≤ y) (h1 : y < 2147483629) (h : i ≤ 10000) : CPow (y * (2 * (i : Int) + 353) + 48416 * (i : Int) * (i : Int) + 13) 3 := by
  refine ⟨by decide, by decide, ?_⟩
  obtain ⟨a, b, c, d⟩ := mulB h0 h1 h
  show _ < 18446744073709551616
  omega
theorem ok_draw {f : Addr} {fd : FuncData} (F : Fun K "_law_draw" "_law_draw" s_draw f fd) (T : Nm mg) (hab : mg "abs" = none) : FnOk P w K mg base CX0 1 f fd ["_law_pen_here", "_law_many"] spDraw := by
  refine F.ok sc_draw (fun vs H Q E h => ?_) (fun cdv A outer s H vs Q E hr h => ?_)
  · obtain ⟨a, b, m, n, rfl, _⟩ := h
    rfl
  · obtain ⟨a, b, m, n, rfl, ⟨ns, i, g, ha, hb, hn, hi⟩, hn1, m0, m1, q⟩ := h
    have hu := hr.units
    refine ⟨_, (pss_cons (ps_if (pt_cmpR op_gt (pe_ix ix_list (pv 0) pe_int (fun _ _ => rfl)) pe_int (nomark _)) (pss_cons (ps_set (i := 2) sc_draw.nd rfl (Or.inl rfl) (pe_op op_mod (pe_callTy call_int1 (by rfl) T.int PyProof.Rows.boot_int (pa_cons (pe_ix ix_list (pv 0) pe_int (fun _ _ => rfl)) pa_nil)) (pv 1)))
    (pss_cons (ps_asg (pe_op op_fdiv (pe_callTy call_int1 (by rfl) T.int PyProof.Rows.boot_int (pa_cons (pe_ix ix_list (pv 0) pe_int (fun _ _ => rfl)) pa_nil)) (pv 1)) (pg_sub (pv 0) pe_int set_list))
    (pss_one (ps_ret (pv 2))))) pss_nil)
    (pss_cons (ps_set (i := 3) sc_draw.nd rfl (Or.inl rfl) (pe_ix ix_list (pv 0) pe_int (fun _ _ => rfl)))
    (pss_cons (ps_asg (pe_op op_add (pv 3) pe_int) (pg_sub (pv 0) pe_int set_list))
    (pss_cons (ps_set (i := 4) sc_draw.nd rfl (Or.inl rfl) (pe_op op_add (pe_op op_mul pe_int (pv 3)) pe_int))
    (pss_cons (ps_if (pt_cmpR (op_neD hu) (pe_ix ix_list (pv 0) pe_int (fun _ _ => rfl)) (pe_lst pa_nil) (nomark _)) (pss_one (ps_set (i := 4) sc_draw.nd rfl (Or.inl rfl) (pe_ix ix_list (pe_ix ix_list (pv 0) pe_int (fun _ _ => rfl)) (pe_op op_mod (pe_callTy call_int1 (by rfl) T.int PyProof.Rows.boot_int (pa_cons (pv 3) pa_nil)) (pe_callB call_len_seq (by rfl) T.len PySem.boot_len (pa_cons (pe_ix ix_list (pv 0) pe_int (fun _ _ => rfl)) pa_nil))) (fun _ _ => rfl)))) pss_nil)
    (pss_cons (ps_if (PW.pt (pw_and (pt_cmpR op_lt (pv 3) (pe_callB call_len_seq (by rfl) T.len PySem.boot_len (pa_cons (pe_ix ix_list (pv 0) pe_int (fun _ _ => rfl)) pa_nil)) (nomark _)) (pw_and1 (pt_cmpR op_ge (pe_callB call_abs (by rfl) hab PyProof.Rows.boot_abs (pa_cons (pv 4) pa_nil)) (pe_op op_pow pe_int pe_int) (nomark _))))) (pss_cons (ps_set (i := 5) sc_draw.nd rfl (Or.inl rfl) (pe_op op_add (pe_op op_mul pe_int (pe_op op_sub (pe_callB call_abs (by rfl) hab PyProof.Rows.boot_abs (pa_cons (pv 4) pa_nil)) (pe_op op_pow pe_int pe_int))) (pe_callTy call_int1 (by rfl) T.int PyProof.Rows.boot_int (pa_cons (pe_cmpR op_lt (pv 4) pe_int (nomark _)) pa_nil))))
    (pss_cons (ps_asg (pe_op op_fdiv (pe_callTy call_int1 (by rfl) T.int PyProof.Rows.boot_int (pa_cons (pv 5) pa_nil)) (pv 1)) (pg_sub (pv 0) pe_int set_list))
    (pss_one (ps_ret (pe_op op_mod (pe_callTy call_int1 (by rfl) T.int PyProof.Rows.boot_int (pa_cons (pv 5) pa_nil)) (pv 1)))))) pss_nil)
    (pss_cons (ps_set (i := 6) sc_draw.nd rfl (Or.inl rfl) (pe_op op_mod (pe_callTy call_int1 (by rfl) T.int PyProof.Rows.boot_int (pa_cons (pe_op op_pow (pe_op op_add (pe_op op_add (pe_op op_mod (pe_callTy call_int1 (by rfl) T.int PyProof.Rows.boot_int (pa_cons (pv 4) pa_nil)) pe_int) (pe_op op_mul pe_int (pv 3))) pe_int) pe_int) pa_nil)) pe_int))
    (pss_cons (ps_set (i := 6) sc_draw.nd rfl (Or.inl rfl) (pe_op op_mod (pe_callTy call_int1 (by rfl) T.int PyProof.Rows.boot_int (pa_cons (pe_op op_pow (pe_op op_add (pe_op op_add (pe_op op_mul (pv 6) (pe_op op_add (pe_op op_mul pe_int (pv 3)) pe_int)) (pe_op op_mul (pe_op op_mul pe_int (pv 3)) (pv 3))) pe_int) pe_int) pa_nil)) pe_int))
    (pss_one (ps_ret (pe_op op_mod (pe_callTy call_int1 (by rfl) T.int PyProof.Rows.boot_int (pa_cons (pe_op op_fdiv (pv 6) pe_int) pa_nil)) (pv 1)))))))))))), ?_⟩
    have sq : ∀ {H' : Hp} {v w : V}, H' a = some (.lst [.ref b, v, w]) → SqL K H' a [.ref b, v, w] := fun h => .of h
    refine ⟨_, rfl, a, _, _, .int g, rfl, rfl, .of ha, at_of (j := 2) rfl rfl, _, _, rfl, rfl, _, rfl, ?_⟩
    refine ite2 (fun c => ?_) (fun c => ?_)
    · refine ⟨_, rfl, a, _, _, .int g, rfl, rfl, .of ha, at_of (j := 2) rfl rfl, .inl ⟨_, rfl, _, rfl, _, _, rfl, rfl, ?_, ?_⟩⟩
      · show (0 : Int) < (m : Int)
        omega
      · refine ⟨_, rfl, a, _, _, .int g, rfl, rfl, .of ha, at_of (j := 2) rfl rfl, .inl ⟨_, rfl, _, rfl, _, _, rfl, rfl, ?_, ?_⟩⟩
        · exact ⟨by omega, by omega⟩
        · refine ⟨_, rfl, a, _, _, 2, rfl, rfl, ha, rfl, ?_⟩
          obtain ⟨d, hd, ed⟩ := modv g m0
          refine ⟨_, rfl, ?_⟩
          show Q (V.int (g % (m : Int))) _
          rw [ed]
          exact q d _ hd ⟨ns, i, _, upd_same, by rw [upd_ne (pen_ne ha hb)]; exact hb, hn, by omega⟩ kept_upd
    · refine ⟨_, rfl, a, _, _, .int i, rfl, rfl, .of ha, at_of (j := 1) rfl rfl, ?_⟩
      refine ⟨_, rfl, _, _, rfl, rfl, _, rfl, a, _, _, 1, rfl, rfl, ha, rfl, ?_⟩
      have h1 : (upd H a (HO.lst ([V.ref b, V.int (i : Int), V.int g].set 1 (V.int ((i : Int) + 1))))) a = some (HO.lst [V.ref b, V.int ((i + 1 : Nat) : Int), V.int g]) := by
        rw [upd_same]
        rfl
      have hb1 : (upd H a (HO.lst ([V.ref b, V.int (i : Int), V.int g].set 1 (V.int ((i : Int) + 1))))) b = some (HO.lst (ii ns)) := by
        rw [upd_ne (pen_ne ha hb)]
        exact hb
      have k1 : Kept a H (upd H a (HO.lst ([V.ref b, V.int (i : Int), V.int g].set 1 (V.int ((i : Int) + 1))))) := kept_upd
      show (fun H3 : Hp => _) _
      generalize (upd H a (HO.lst ([V.ref b, V.int (i : Int), V.int g].set 1 (V.int ((i : Int) + 1))))) = H1 at *
      refine ⟨_, rfl, _, _, rfl, rfl, .inl ⟨by decide, by decide⟩, _, _, rfl, rfl, ?_⟩
      refine ⟨_, rfl, a, _, _, .ref b, rfl, rfl, .of h1, at_of (j := 0) rfl rfl, Nat.zero_le _, fun o no => ?_⟩
      have oa : a ≠ o := ne_of_none h1 no
      have ob : b ≠ o := ne_of_none hb1 no
      have h2 : (upd H1 o (.lst [])) a = _ := (upd_ne oa).trans h1
      have hb2 : (upd H1 o (.lst [])) b = _ := (upd_ne ob).trans hb1
      have k2 : Kept a H (upd H1 o (.lst [])) := kept_trans k1 (same_kept (same_upd no))
      refine ⟨.list (ns.map PyData.int), .list [], .lst (.of hb2) (dp_ints ns), .lst (.of upd_same) .nil, ?_, rfl, _, rfl, ?_⟩
      · refine Bool.and_eq_true_iff.mpr ⟨?_, decide_eq_true ?_⟩
        · show PyData.canLay0 (.list _) = true
          rw [PyData.canLay0]
          exact canlay_i ns
        · show PyData.depth (.list _) ≤ 64
          rw [PyData.depth]
          have := depth_i ns
          omega
      generalize upd H1 o (.lst []) = H2 at *
      have cp : CPow 10 18 := ⟨by decide, by decide, by decide⟩
      have i1 : i ≤ 10000 := Nat.le_trans hi hn1
      have cm : ∀ x : Int, CMul 48416 x ∧ CMul 75664 x ∧ CMul 2 x := fun x => ⟨.inl ⟨by decide, by decide⟩, .inl ⟨by decide, by decide⟩, .inl ⟨by decide, by decide⟩⟩
      have pos5 : (0 : Int) < (m : Int) := by omega
      have dv : CDiv 0 (m : Int) := ⟨by omega, by omega⟩
      have fin : ∀ (x : Int) (H3 : Hp), PenAt H3 a b (n + 1) → Kept a H H3 → Q (.int (x % (m : Int))) H3 := fun x H3 p k => by
        obtain ⟨d, hd, ed⟩ := modv x m0
        rw [ed]
        exact q d H3 hd p k
      have pen : PenAt H2 a b (n + 1) := ⟨ns, i + 1, g, h2, hb2, hn, by omega⟩
      have ba : b ≠ a := pen_ne h2 hb2
      refine ite2 (fun c2 => ?_) (fun c2 => ?_)
      have nz : 0 < ns.length := by
        cases ns with
        | nil =>
          have : (!(PyData.list (List.map PyData.int [])).eqv (PyData.list [])) = true := c2
          exact absurd this (by decide)
        | cons x xs => exact Nat.succ_pos _
      have lt : i % ns.length < ns.length := Nat.mod_lt _ nz
      have gz : (ii ns)[i % ns.length]? = some (V.int ns[i % ns.length]) := by
        unfold ii
        rw [List.getElem?_map, List.getElem?_eq_getElem lt]
        rfl
      refine ⟨_, rfl, a, _, _, .ref b, rfl, rfl, .of h2, at_of (j := 0) rfl rfl, _, rfl, .inl ⟨_, rfl, _, rfl, a, _, _, .ref b, rfl, rfl, .of h2, at_of (j := 0) rfl rfl, b, _, rfl, .inl (.of hb2), _, _, rfl, rfl, ?_, ?_⟩⟩
      · show (0 : Int) < (((ii ns).length : Nat) : Int)
        rw [ii_len]
        omega
      refine ⟨b, ii ns, _, _, rfl, rfl, .of hb2, at_of (j := i % ns.length) ?_ gz, ?_⟩
      · show (i : Int) % (((ii ns).length : Nat) : Int) = _
        rw [ii_len]
        exact (Int.natCast_emod i ns.length).symm
      all_goals
        refine ⟨_, rfl, _, rfl, a, _, _, .ref b, rfl, rfl, .of h2, at_of (j := 0) rfl rfl, b, _, rfl, .inl (.of hb2), _, _, rfl, rfl, _, rfl, ?_⟩
      all_goals
        refine ite2 (fun c3 => ?_) (fun c3 => ?_)
      all_goals first
        | refine ⟨_, rfl, _, rfl, _, _, rfl, rfl, cp, _, _, rfl, rfl, _, rfl, ?_⟩
          refine ite2 (fun c4 => ?_) (fun c4 => ?_)
          · refine ⟨_, rfl, _, rfl, _, _, rfl, rfl, cp, _, _, rfl, rfl, _, _, rfl, rfl, (cm _).2.2, _, rfl, _, _, rfl, rfl, .inr ⟨_, rfl, _, _, rfl, rfl, ?_⟩⟩
            refine ⟨_, rfl, .inl ⟨_, rfl, _, rfl, _, _, rfl, rfl, dv, _, rfl, a, _, _, 2, rfl, rfl, h2, rfl, ?_⟩⟩
            refine ⟨_, rfl, .inl ⟨_, rfl, _, rfl, _, _, rfl, rfl, pos5, ?_⟩⟩
            exact fin _ _ ⟨ns, i + 1, _, upd_same, by rw [upd_ne ba]; exact hb2, hn, by omega⟩ (kept_trans k2 kept_upd)
          skip
        | skip
      all_goals
        have y0 : ∀ x : Int, 0 ≤ x % 2147483629 ∧ x % 2147483629 < 2147483629 := fun x => by omega
        refine ⟨_, rfl, .inl ⟨_, rfl, _, _, rfl, rfl, (by show (0 : Int) < 2147483563; decide), _, rfl, _, _, rfl, rfl, (cm _).2.1, _, _, rfl, rfl, _, _, rfl, rfl, _, _, rfl, rfl, cp1 _ i1, .inl ⟨_, rfl, _, _, rfl, rfl, (by show (0 : Int) < 2147483629; decide), ?_⟩⟩⟩
        refine ⟨_, rfl, _, rfl, _, _, rfl, rfl, (cm _).2.2, _, _, rfl, rfl, _, _, rfl, rfl, .inl ⟨?_, ?_⟩, _, rfl, _, _, rfl, rfl, (cm _).1, _, rfl, _, _, rfl, rfl, .inl ⟨?_, ?_⟩, _, _, rfl, rfl, _, _, rfl, rfl, _, _, rfl, rfl, cp2 (y0 _).1 (y0 _).2 i1, .inl ⟨_, rfl, _, _, rfl, rfl, (by show (0 : Int) < 2147483587; decide), ?_⟩⟩
        · exact Int.lt_of_lt_of_le (by decide) (y0 _).1
        · exact Int.lt_trans (y0 _).2 (by decide)
        · omega
        · omega
        refine ⟨_, rfl, _, _, rfl, rfl, ⟨by decide, by decide⟩, .inl ⟨_, rfl, _, rfl, _, _, rfl, rfl, pos5, ?_⟩⟩
        exact fin _ _ pen k2
abbrev s_pen : Stmt := topS 38
theorem sc_pen : FnScope ["_law_script"] ["_law_script"] (defScope s_pen) := ⟨rfl, rfl, rfl, by decide +kernel, rfl, by decide +kernel, by decide +kernel⟩
theorem cut_ii (ns : List Int) (lo hi : Option Int) : ∃ ms, cutV (ii ns) lo hi = ii ms ∧ ms.length ≤ ns.length := by
  refine ⟨((ns.drop (HT.sIx (ii ns).length 0 lo)).take (HT.sIx (ii ns).length (ii ns).length hi - HT.sIx (ii ns).length 0 lo)), ?_, ?_⟩
  · unfold cutV ii
    rw [List.map_take, List.map_drop]
  · rw [List.length_take, List.length_drop]
    omega
theorem ok_pen {f : Addr} {fd : FuncData} (F : Fun K "_law_pen" "_law_pen" s_pen f fd) (T : Nm mg) : FnOk P w K mg base CX0 1 f fd ["_law_script"] (spPen K) := by
  refine F.ok sc_pen (fun vs H Q E h => ?_) (fun cdv A outer s H vs Q E hr h => ?_)
  · obtain ⟨a, ns, rfl, _⟩ := h
    rfl
  · obtain ⟨a, ns, rfl, hS, hl, q⟩ := h
    refine ⟨_, pss_one (ps_ret (pe_lst (pa_cons (pe_callTy call_list_of (by rfl) T.list PyProof.Rows.boot_list (pa_cons (pe_slice sl_list (pv 0) po_none (po_some pe_int)) pa_nil)) (pa_cons pe_int (pa_cons pe_int pa_nil))))), ?_⟩
    obtain ⟨ms, em, lm⟩ := cut_ii ns none (some 63)
    refine ⟨_, rfl, _, rfl, a, _, rfl, hS, fun p np => ?_⟩
    refine ⟨p, _, rfl, .inl (.of upd_same), fun p2 np2 => ?_⟩
    have e12 : p ≠ p2 := ne_of_none upd_same np2
    have nq : H p2 = none := by
      rw [upd_ne (Ne.symm e12)] at np2
      exact np2
    refine ⟨small1000 (by show 3 ≤ 1000; omega) |> Nat.le_of_lt, fun p3 np3 => ?_⟩
    have e23 : p2 ≠ p3 := ne_of_none upd_same np3
    have nr : (upd H p (.lst (cutV (ii ns) none (some 63)))) p3 = none := by
      rw [upd_ne (Ne.symm e23)] at np3
      exact np3
    have e13 : p ≠ p3 := ne_of_none upd_same nr
    have n3 : H p3 = none := by
      rw [upd_ne (Ne.symm e13)] at nr
      exact nr
    refine q p3 p2 _ ⟨ms, 0, 0, upd_same, ?_, by omega, Nat.le_refl _⟩ (same_put (same_put (same_upd np) nq) n3) n3
    rw [upd_ne e23, upd_same, em]
end
end Lz

set_option Elab.async false
set_option linter.all false
set_option maxRecDepth 100000
set_option maxHeartbeats 4000000
/-! What the top leaves, found by name: tests over the table, what they tell. -/
namespace Hk
open PySem PySem.Spec PyProof.Rows L2 Ow Oe LamX Dl
section
variable (K : PySem.W.Frag)
def recd (p : Addr) (T : String) : Bool := match PySem.W.recIn K p T with
  | some (.ref _ :: _) => true
  | _ => false
def atA (a : Addr) : He.FnW := match K.lookup a with
  | some ob => (match ob.data with
    | .func z => some (z.name, z.qualname, z.params, z.body, z.scope, z.globals, z.closure, z.builtins)
    | _ => none)
  | none => none
def okA (a : Addr) (q : Str) : Bool := match K.lookup a with
  | some ob => (match ob.data with
    | .func z => PySem.W.codeIn K z.code q && decide (z.defaults = Value.none)
    | _ => false)
  | none => false
def none_ (T : Value) (nm : Str) : Bool := match PySem.W.findIn K T nm with
  | some none => true
  | _ => false
def oexB (C : Addr) : Bool := match K.lookup C with
  | some ⟨.type "type", _, .cls cd, sl⟩ => (match cd.mro, sl.toList with
    | .ref C' :: bm, [_, _, _, _, some (.builtin n), _] => C' == C && (PySem.HandSPX.refsVE bm && (n == "ValueError.__new__" && (cd.hasDict && !cd.hasDel)))
    | _, _ => false)
  | _ => false
def errB (C : Addr) (f : Str) : Bool := oexB K C && (He.eqO (PySem.W.findIn K (.ref C) "__setattr__") (some (some (.builtin "object.__setattr__"))) && (decide (PySem.W.subIn K (.ref C) (.type "BaseException") = some true) && (decide (PySem.W.typeIn K (.ref C) = some (.type "type")) && (PySem.W.keepIn K (.ref C) && (xfB K C &&
  (He.eqO (PySem.W.findIn K (.ref C) "__class__") (some (some (.builtin "object.__class__"))) && (He.eqO (PySem.W.specialIn K (.builtin "object.__class__") "__get__") (some (some (.builtin "getset_descriptor.__get__"))) && (decide (PySem.W.takesIn K (.builtin "object.__class__") = some true) && (decide (PySem.W.mroIn K C (.type "object") = some true) &&
  (He.eqO (PySem.W.findIn K (.ref C) "__init__") (some (some (.ref (He.ma K C "__init__")))) && (decide (PySem.W.typeIn K (.ref (He.ma K C "__init__")) = some (.type "function")) && none_ K (.ref C) f)))))))))))
def tabOf (nm : Str) : Option Addr := match K.lookup (He.ga K nm) with
  | some ⟨_, _, .func fd, _⟩ => (match fd.code with
    | .ref c => (match K.lookup c with
      | some ⟨_, _, .fields vs, _⟩ => (match (vs[11]? : Option Value) with
        | some (.ref p) => if (K.lookup p).isNone then some p else none
        | _ => none)
      | _ => none)
    | _ => none)
  | _ => none
def propG (c m : Str) : Addr := match PySem.W.recIn K (Dl.ma K c m) "property" with
  | some (.ref g :: _) => g
  | _ => 0
def propB (c m q : Str) : Bool := He.eqO (PySem.W.findIn K (.ref (Dl.ga K c)) m) (some (some (.ref (Dl.ma K c m)))) && (He.eqO (PySem.W.specialIn K (.ref (Dl.ma K c m)) "__get__") (some (some (.builtin "property.__get__"))) && (decide (PySem.W.takesIn K (.ref (Dl.ma K c m)) = some true) && (recd K (Dl.ma K c m) "property" && (PySem.W.keepIn K (.ref (propG K c m)) && okA K (propG K c m) q))))
def insB (C : Addr) : Bool := He.eqO (PySem.W.findIn K (.ref C) "__class__") (some (some (.builtin "object.__class__"))) && (He.eqO (PySem.W.specialIn K (.builtin "object.__class__") "__get__") (some (some (.builtin "getset_descriptor.__get__"))) && (decide (PySem.W.takesIn K (.builtin "object.__class__") = some true) && decide (PySem.W.mroIn K C (.type "object") = some true)))
def kitB (c d : Value) (b : Bool) : Bool := decide (PySem.W.kitOne K c d = some b)
def tyClB (C : Addr) : Bool := kitB K (.type "NoneType") (.ref C) false && (kitB K (.type "bool") (.ref C) false && (kitB K (.type "int") (.ref C) false && (kitB K (.type "str") (.ref C) false && (kitB K (.type "tuple") (.ref C) false && (kitB K (.type "list") (.ref C) false && kitB K (.type "dict") (.ref C) false)))))
def rtB (C : Addr) (nm t : String) : Bool := (PySem.W.findIn K (.type t) (PySem.dunder nm)).isSome && ((PySem.W.findIn K (.type t) (PySem.dunderR nm)).isSome && decide (PySem.W.subIn K (.type t) (.ref C) = some false))
def neB (c : Str) : Bool := He.eqO (PySem.W.findIn K (.ref (Dl.ga K c)) "__eq__") (some (some (.ref (Dl.ma K c "__eq__")))) && (PySem.W.isFn K (.ref (Dl.ma K c "__eq__")) && (He.eqO (PySem.W.findIn K (.ref (Dl.ga K c)) "__ne__") (some (some (.builtin "object.__ne__"))) && decide (PySem.W.mroIn K (Dl.ga K c) (.type "object") = some true)))
def tabsB (a b : Str) : Bool := match tabOf K a, tabOf K b with
  | some p, some q => decide (p ≠ q)
  | _, _ => false
end
def dg (x : Str) (st : Stmt) : He.DefD := ⟨(x, none), x, x, defArgs st, defBody st, defScope st, [], []⟩
def de (x m q : Str) (st : Stmt) : He.DefD := ⟨(x, some m), m, q, defArgs st, defBody st, defScope st, [], []⟩
def notTab (g : Addr → Option Obj) (a : Addr) : Bool := match g a with
  | some o => !(o.cls == .none && (match o.data with | .fields vs => vs.isEmpty | _ => false))
  | none => true
def reach (g : Addr → Option Obj) : Nat → List Addr
  | 0 => [mainGlobals, cStatics]
  | n + 1 => He.growD g (reach g n)
section
variable {K : PySem.W.Frag} {x q : Str} {st : Stmt} {f : Addr} {fd : FuncData}
theorem toFun (F : FunD K x q (defArgs st) (defBody st) (defScope st) [] [] f fd) : L2.Fun K x q st f fd := by
  obtain ⟨oc, od, dV, kV, doc, pm, an, cdv, ct, osl, rfl, lk, hc, hD, _⟩ := F.ex
  rcases hD with ⟨_, e⟩ | ⟨e, _⟩
  · subst e
    exact ⟨⟨oc, od, kV, doc, pm, an, cdv, ct, osl, rfl, lk, hc⟩, F.kp⟩
  · exact absurd rfl e
theorem fun_at {a : Addr} (e : atA K a = some (x, q, defArgs st, .stmts (defBody st), defScope st, mainGlobals, [], builtinsNs)) (c : okA K a q = true) (kp : PySem.W.keepIn K (.ref a) = true) : ∃ fd, L2.Fun K x q st a fd := by
  unfold atA at e
  unfold okA at c
  cases lk : K.lookup a with
  | none =>
    rw [lk] at c
    cases c
  | some o =>
    rw [lk] at e c
    obtain ⟨oc, od, dt, osl⟩ := o
    cases dt with
    | func z =>
      obtain ⟨a1, a2, a3, a4, a5, a6, a7, a8, a9, b1, b2, b3, b4, b5, b6⟩ := z
      have e' : (some (a1, a2, a3, a4, a5, a6, a7, b6) : He.FnW) = some (x, q, defArgs st, .stmts (defBody st), defScope st, mainGlobals, [], builtinsNs) := e
      have c' : (PySem.W.codeIn K b4 q && decide (a8 = Value.none)) = true := c
      obtain ⟨c1, c2⟩ := He.ba c'
      have c3 := of_decide_eq_true c2
      simp only [Option.some.injEq, Prod.mk.injEq] at e'
      obtain ⟨h1, h2, h3, h4, h5, h6, h7, h8⟩ := e'
      subst h1 h2 h3 h4 h5 h6 h7 h8 c3
      exact ⟨_, ⟨oc, od, a9, b1, b2, b3, b4, b5, osl, rfl, lk, c1⟩, kp⟩
    | _ => cases c
end
theorem all_id {l : List Bool} (h : l.all id = true) {i : Nat} {b : Bool} (e : l[i]? = some b) : b = true := List.all_eq_true.mp h b (List.mem_of_getElem? e)
theorem none_ok {K : PySem.W.Frag} {T : Value} {nm : Str} (h : none_ K T nm = true) : PySem.W.findIn K T nm = some none := by
  unfold none_ at h
  split at h
  · assumption
  · cases h
structure ErrX (K : PySem.W.Frag) (C : Addr) (f : Str) : Prop where
  ox : OexC K C
  ec : L2.ExcC K C
  xf : XfC K C
  ic : PySem.W.findIn K (.ref C) "__init__" = some (some (.ref (He.ma K C "__init__")))
  ti : PySem.W.typeIn K (.ref (He.ma K C "__init__")) = some (.type "function")
  no : PySem.W.findIn K (.ref C) f = some none
theorem oexB_ok {K : PySem.W.Frag} {C : Addr} (h : oexB K C = true) : ∃ nm q N bs bm sn sub ab col dd k0 k1 k2 k3 k5, K.lookup C = some (excClassObj nm q C N bs bm true sn sub ab col dd k0 k1 k2 k3 k5 "ValueError.__new__") ∧ PySem.HandSPX.refsVE bm = true := by
  unfold oexB at h
  split at h
  · rename_i dd cd sl ho
    split at h
    · rename_i C' bm k0 k1 k2 k3 n k5 hm hs
      simp only [Bool.and_eq_true, beq_iff_eq, Bool.not_eq_true'] at h
      obtain ⟨rfl, hr, rfl, hd1, hd2⟩ := h
      obtain ⟨nm, bs, mro, ns, qn, hd, sn, sub, ab, col, del⟩ := cd
      dsimp only at hm hd1 hd2
      subst hm hd1 hd2
      have hsl : sl = #[k0, k1, k2, k3, some (.builtin "ValueError.__new__"), k5] := by
        obtain ⟨l⟩ := sl
        simp only at hs
        rw [hs]
      subst hsl
      exact ⟨nm, qn, ns, bs, bm, sn, sub, ab, col, dd, k0, k1, k2, k3, k5, ho, hr⟩
    · cases h
  · cases h
theorem errB_ok {K : PySem.W.Frag} {C : Addr} {f : Str} (h : errB K C f = true) : ErrX K C f := by
  obtain ⟨h1, h⟩ := He.ba h
  obtain ⟨h2, h⟩ := He.ba h
  obtain ⟨h3, h⟩ := He.ba h
  obtain ⟨h4, h⟩ := He.ba h
  obtain ⟨h5, h⟩ := He.ba h
  obtain ⟨h6, h⟩ := He.ba h
  obtain ⟨h7, h⟩ := He.ba h
  obtain ⟨h8, h⟩ := He.ba h
  obtain ⟨h9, h⟩ := He.ba h
  obtain ⟨h10, h⟩ := He.ba h
  obtain ⟨h11, h⟩ := He.ba h
  obtain ⟨h12, h13⟩ := He.ba h
  have xf := xfB_ok h6
  exact ⟨⟨oexB_ok h1, He.eqO_ok h2, of_decide_eq_true h3, of_decide_eq_true h4, h5⟩, ⟨xf.ga, xf.gg, of_decide_eq_true h3, xf.hdC, He.eqO_ok h7, He.eqO_ok h8, of_decide_eq_true h9, of_decide_eq_true h10⟩, xf, He.eqO_ok h11, of_decide_eq_true h12, none_ok h13⟩
theorem tabOf_ok {K : PySem.W.Frag} {h : Heap} {fd : FuncData} {c P : Addr} {oc : Value} {od : Option Addr} {sl : Array (Option Value)} {nm : Str} {p : Addr} (X : K.In h) (t : tabOf K nm = some p) (lk : K.lookup (He.ga K nm) = some ⟨oc, od, .func fd, sl⟩) (hc : fd.code = .ref c) (C : PySem.W.CodeHd h c P) : p = P ∧ K.lookup P = none := by
  unfold tabOf at t
  rw [lk] at t
  dsimp only at t
  rw [hc] at t
  dsimp only at t
  split at t
  · rename_i vs _ ho
    obtain ⟨o, us, _, _, _, _, _, _, _, e1, _, e2, e3, _⟩ := C
    rw [X _ _ ho] at e1
    cases e1
    cases e2
    rw [e3] at t
    dsimp only at t
    split at t
    · rename_i hn
      cases t
      exact ⟨rfl, Option.isNone_iff_eq_none.mp hn⟩
    · cases t
  · cases t
theorem tabsB_ok {K : PySem.W.Frag} {a b : Str} (h : tabsB K a b = true) : ∃ p q, tabOf K a = some p ∧ tabOf K b = some q ∧ p ≠ q := by
  unfold tabsB at h
  split at h
  · rename_i p q h1 h2
    exact ⟨p, q, h1, h2, of_decide_eq_true h⟩
  · cases h
section
variable {K : PySem.W.Frag}
theorem kitB_ok {c d : Value} {b : Bool} (h : kitB K c d b = true) : PySem.W.kitOne K c d = some b := of_decide_eq_true h
theorem insB_ok {C : Addr} (cl : Cls K C) (h : insB K C = true) : InsF K C := by
  obtain ⟨h1, h⟩ := He.ba h
  obtain ⟨h2, h⟩ := He.ba h
  obtain ⟨h3, h4⟩ := He.ba h
  exact ⟨cl, He.eqO_ok h1, He.eqO_ok h2, of_decide_eq_true h3, of_decide_eq_true h4⟩
theorem tyClB_ok {C : Addr} (h : tyClB K C = true) : TyCl K C := by
  obtain ⟨h1, h⟩ := He.ba h
  obtain ⟨h2, h⟩ := He.ba h
  obtain ⟨h3, h⟩ := He.ba h
  obtain ⟨h4, h⟩ := He.ba h
  obtain ⟨h5, h⟩ := He.ba h
  obtain ⟨h6, h7⟩ := He.ba h
  exact ⟨kitB_ok h1, kitB_ok h2, kitB_ok h3, kitB_ok h4, kitB_ok h5, kitB_ok h6, kitB_ok h7⟩
theorem rtB_ok {C : Addr} {nm t : String} (h : rtB K C nm t = true) : Ox.RtX K C nm t := by
  obtain ⟨h1, h⟩ := He.ba h
  obtain ⟨h2, h3⟩ := He.ba h
  exact ⟨Option.isSome_iff_exists.mp h1, Option.isSome_iff_exists.mp h2, of_decide_eq_true h3⟩
theorem neB_ok {c : Str} (h : neB K c = true) : Ow.NeC K (Dl.ga K c) (Dl.ma K c "__eq__") := by
  obtain ⟨h1, h⟩ := He.ba h
  obtain ⟨h2, h⟩ := He.ba h
  obtain ⟨h3, h4⟩ := He.ba h
  exact ⟨He.eqO_ok h1, h2, He.eqO_ok h3, of_decide_eq_true h4⟩
theorem all_mem {α : Type} {p : α → Bool} {l : List α} (h : l.all p = true) {a : α} (m : a ∈ l) : p a = true := List.all_eq_true.mp h a m
theorem prp_at {c m q : Str} {st : Stmt} (h : propB K c m q = true) (e : atA K (propG K c m) = some (m, q, defArgs st, .stmts (defBody st), defScope st, mainGlobals, [], builtinsNs)) (bd : ∀ fd, L2.Fun K m q st (propG K c m) fd → L2.Binds K fd ["self"] []) : PrpAt K c m q st := by
  obtain ⟨h1, h⟩ := He.ba h
  obtain ⟨h2, h⟩ := He.ba h
  obtain ⟨h3, h⟩ := He.ba h
  obtain ⟨h4, h⟩ := He.ba h
  obtain ⟨h5, h6⟩ := He.ba h
  obtain ⟨fd, F⟩ := fun_at e h6 h5
  refine ⟨⟨Dl.ma K c m, propG K c m, fd, ⟨He.eqO_ok h1, He.eqO_ok h2, of_decide_eq_true h3, ?_⟩, F, bd fd F⟩⟩
  unfold recd at h4
  unfold propG
  split at h4
  · rename_i g1 r1 e
    rw [e]
    exact ⟨_, rfl⟩
  · cases h4
theorem tyB_bool : Dl.TyB K "bool" := ⟨kit_ty (by decide +kernel), kit_ty (by decide +kernel), kit_ty (by decide +kernel), kit_ty (by decide +kernel), kit_ty (by decide +kernel), kit_ty (by decide +kernel), kit_ty (by decide +kernel)⟩
theorem tyB_int : Dl.TyB K "int" := ⟨kit_ty (by decide +kernel), kit_ty (by decide +kernel), kit_ty (by decide +kernel), kit_ty (by decide +kernel), kit_ty (by decide +kernel), kit_ty (by decide +kernel), kit_ty (by decide +kernel)⟩
theorem tyB_str : Dl.TyB K "str" := ⟨kit_ty (by decide +kernel), kit_ty (by decide +kernel), kit_ty (by decide +kernel), kit_ty (by decide +kernel), kit_ty (by decide +kernel), kit_ty (by decide +kernel), kit_ty (by decide +kernel)⟩
theorem tyB_tuple : Dl.TyB K "tuple" := ⟨kit_ty (by decide +kernel), kit_ty (by decide +kernel), kit_ty (by decide +kernel), kit_ty (by decide +kernel), kit_ty (by decide +kernel), kit_ty (by decide +kernel), kit_ty (by decide +kernel)⟩
theorem tyB_list : Dl.TyB K "list" := ⟨kit_ty (by decide +kernel), kit_ty (by decide +kernel), kit_ty (by decide +kernel), kit_ty (by decide +kernel), kit_ty (by decide +kernel), kit_ty (by decide +kernel), kit_ty (by decide +kernel)⟩
theorem tyB_dict : Dl.TyB K "dict" := ⟨kit_ty (by decide +kernel), kit_ty (by decide +kernel), kit_ty (by decide +kernel), kit_ty (by decide +kernel), kit_ty (by decide +kernel), kit_ty (by decide +kernel), kit_ty (by decide +kernel)⟩
/-- a class of one's own, the classes that it is told apart from -/
theorem tells_own {C0 : Addr} {Cs : List Addr} (B : TyCl K C0) (h0 : InsF K C0 ∧ PySem.W.kitOne K (.ref C0) (.ref C0) = some true) (hC : ∀ C ∈ Cs, C ≠ C0 → InsF K C ∧ PySem.W.kitOne K (.ref C) (.ref C0) = some false) : Tells K (.ref C0) (tyC C0 Cs) := fun pn M H v d b s h e => by
  cases h with
  | non => cases e; exact ⟨_, _, .own C0, .base .non, B.non⟩
  | bl x => cases e; exact ⟨_, _, .own C0, .base (.bl x), B.bl⟩
  | int x => cases e; exact ⟨_, _, .own C0, .base (.int x), B.int⟩
  | str x => cases e; exact ⟨_, _, .own C0, .base (.str x), B.str⟩
  | tup h r => cases e; exact ⟨_, _, .own C0, tyx_tup (Dl.same_tup s h), B.tup⟩
  | lst h r => cases e; exact ⟨_, _, .own C0, .base (.lst (s _ _ h)), B.lst⟩
  | dct h r => cases e; exact ⟨_, _, .own C0, .base (.dK (s _ _ h)), B.dct⟩
  | @ins a C dx fs gs h r =>
    simp only [tyC] at e
    by_cases z : C = C0
    · subst z
      rw [if_pos rfl] at e
      cases e
      obtain ⟨i, k⟩ := h0
      exact ⟨_, _, .own C, .base (.ins (s _ _ h) i.cl i.ha i.hn i.htk i.hm), k⟩
    · rw [if_neg z] at e
      by_cases c : C ∈ Cs
      · rw [if_pos c] at e
        cases e
        obtain ⟨i, k⟩ := hC C c z
        exact ⟨_, _, .own C0, .base (.ins (s _ _ h) i.cl i.ha i.hn i.htk i.hm), k⟩
      · rw [if_neg c] at e
        cases e
  | _ => cases e
end
end Hk

set_option Elab.async false
set_option linter.all false
set_option maxRecDepth 100000
set_option maxHeartbeats 4000000
/-! Tests of the head: class methods. -/
namespace Hk
open PySem PySem.Spec PyProof.Rows L2 Ow Oe LamX Dl
section
variable (K : PySem.W.Frag)
def cmG (c m : Str) : Addr := match PySem.W.recIn K (Dl.ma K c m) "classmethod" with
  | some (.ref g :: _) => g
  | _ => 0
def isCm (c nm : Str) : Bool := match PySem.W.findCls K (.ref (Dl.ga K c)) (.type "type") nm with
  | some (.get g a o t) => decide ([g, a, o, t] = [.builtin "classmethod.__get__", .ref (Dl.ma K c nm), .none, .ref (Dl.ga K c)])
  | _ => false
def cmB (c m q : Str) : Bool := PySem.W.readsIn K (Dl.ga K c) (.type "type") && (He.eqO (PySem.W.specialIn K (.ref (Dl.ga K c)) "__getattribute__") (some (some (.builtin "type.__getattribute__"))) && (isCm K c m && (recd K (Dl.ma K c m) "classmethod" && (PySem.W.keepIn K (.ref (cmG K c m)) && (okA K (cmG K c m) q && PySem.W.fnIn K (cmG K c m))))))
end
theorem cm_at {K : PySem.W.Frag} {c m q : Str} {st : Stmt} {ps ks : List Str} (h : cmB K c m q = true) (e : atA K (cmG K c m) = some (m, q, defArgs st, .stmts (defBody st), defScope st, mainGlobals, [], builtinsNs)) (bd : ∀ fd, L2.Fun K m q st (cmG K c m) fd → L2.Binds K fd ps []) (kb : ∀ fd, L2.Fun K m q st (cmG K c m) fd → Ow.KB1 K fd ps ks) : CMeAt K c m q st ps ks := by
  obtain ⟨h1, h⟩ := He.ba h
  obtain ⟨h2, h⟩ := He.ba h
  obtain ⟨h3, h⟩ := He.ba h
  obtain ⟨h4, h⟩ := He.ba h
  obtain ⟨h5, h⟩ := He.ba h
  obtain ⟨h6, h7⟩ := He.ba h
  obtain ⟨fd, F⟩ := fun_at e h6 h5
  refine ⟨⟨.type "type", Dl.ma K c m, cmG K c m, fd, ⟨h1, He.eqO_ok h2⟩, ⟨?_, ?_, h7⟩, F, bd fd F, kb fd F⟩⟩
  · unfold isCm at h3
    split at h3
    · rename_i g1 a1 o1 t1 e
      have := of_decide_eq_true h3
      simp only [List.cons.injEq, and_true] at this
      obtain ⟨r1, r2, r3, r4⟩ := this
      subst r1 r2 r3 r4
      exact e
    · cases h3
  · unfold recd at h4
    unfold cmG
    split at h4
    · rename_i g1 r1 e
      rw [e]
      exact ⟨_, rfl⟩
    · cases h4
end Hk

set_option Elab.async false
set_option linter.all false
set_option maxRecDepth 100000
set_option maxHeartbeats 0
namespace Hk
open PySem PySem.Spec PyProof.Rows L2 Ow Oe LamX Dl Lz
abbrev s_Plan_iter : Stmt := Lz.inClass (Lz.topS 32) 2
abbrev s_BadTick_init : Stmt := Lz.inClass (Lz.topS 12) 0
abbrev s_BadPlan_init : Stmt := Lz.inClass (Lz.topS 13) 0
abbrev s_TooMany_init : Stmt := Lz.inClass (Lz.topS 17) 0
abbrev s_NoPhase_init : Stmt := Lz.inClass (Lz.topS 16) 0
abbrev s_BadCount_init : Stmt := Lz.inClass (Lz.topS 14) 0
theorem sc_Plan_iter : FnScope ["self"] ["self"] (defScope s_Plan_iter) := ⟨rfl, rfl, rfl, by decide +kernel, rfl, by decide +kernel, by decide +kernel⟩
theorem sc_BadTick_init : FnScope ["self", "part"] ["self", "part"] (defScope s_BadTick_init) := ⟨rfl, rfl, rfl, by decide +kernel, rfl, by decide +kernel, by decide +kernel⟩
theorem sc_BadPlan_init : FnScope ["self", "part"] ["self", "part"] (defScope s_BadPlan_init) := ⟨rfl, rfl, rfl, by decide +kernel, rfl, by decide +kernel, by decide +kernel⟩
theorem sc_TooMany_init : FnScope ["self", "what", "most"] ["self", "what", "most"] (defScope s_TooMany_init) := ⟨rfl, rfl, rfl, by decide +kernel, rfl, by decide +kernel, by decide +kernel⟩
theorem sc_NoPhase_init : FnScope ["self", "at"] ["self", "at"] (defScope s_NoPhase_init) := ⟨rfl, rfl, rfl, by decide +kernel, rfl, by decide +kernel, by decide +kernel⟩
theorem sc_BadCount_init : FnScope ["self", "value"] ["self", "value"] (defScope s_BadCount_init) := ⟨rfl, rfl, rfl, by decide +kernel, rfl, by decide +kernel, by decide +kernel⟩
section
variable {P : Program} {w : World} {K : PySem.W.Frag} {mg : Str → Option Value} {base : Heap}
theorem ok_BadTick {f : Addr} {fd : FuncData} (F : L2.Fun K "__init__" "BadTick.__init__" s_BadTick_init f fd) : FnOk P w K mg base CX0 1 f fd ["self", "part"] (spErr1 K "part") := by
  refine F.ok sc_BadTick_init (fun vs H Q E h => ?_) (fun cdv A outer s H vs Q E hr h => ?_)
  · obtain ⟨a, C, y, rfl, _⟩ := h
    rfl
  · obtain ⟨a, C, y, rfl, T, no, ha, q⟩ := h
    refine ⟨_, pss_one (ps_ost (pv 0) (pv 1)), ?_⟩
    exact ⟨_, rfl, _, rfl, a, C, rfl, T, no, .inl ⟨ha, fun dx nd ne => q dx nd ne⟩⟩
theorem ok_BadPlan {f : Addr} {fd : FuncData} (F : L2.Fun K "__init__" "BadPlan.__init__" s_BadPlan_init f fd) : FnOk P w K mg base CX0 1 f fd ["self", "part"] (spErr1 K "part") := by
  refine F.ok sc_BadPlan_init (fun vs H Q E h => ?_) (fun cdv A outer s H vs Q E hr h => ?_)
  · obtain ⟨a, C, y, rfl, _⟩ := h
    rfl
  · obtain ⟨a, C, y, rfl, T, no, ha, q⟩ := h
    refine ⟨_, pss_one (ps_ost (pv 0) (pv 1)), ?_⟩
    exact ⟨_, rfl, _, rfl, a, C, rfl, T, no, .inl ⟨ha, fun dx nd ne => q dx nd ne⟩⟩
theorem ok_TooMany {f : Addr} {fd : FuncData} (F : L2.Fun K "__init__" "TooMany.__init__" s_TooMany_init f fd) : FnOk P w K mg base CX0 1 f fd ["self", "what", "most"] (spErr2 K "what" "most") := by
  refine F.ok sc_TooMany_init (fun vs H Q E h => ?_) (fun cdv A outer s H vs Q E hr h => ?_)
  · obtain ⟨a, C, y, z, rfl, _⟩ := h
    rfl
  · obtain ⟨a, C, y, z, rfl, T, no, no2, ha, q⟩ := h
    refine ⟨_, pss_cons (ps_ost (pv 0) (pv 1)) (pss_one (ps_ost (pv 0) (pv 2))), ?_⟩
    refine ⟨_, rfl, _, rfl, a, C, rfl, T, no, .inl ⟨ha, fun dx nd ne => ?_⟩⟩
    refine ⟨_, rfl, _, rfl, a, C, rfl, T, no2, .inr ⟨dx, _, upd_same, ?_, (by show 1 ≤ 900; omega), q dx nd ne⟩⟩
    rw [upd_ne ne, upd_same]
theorem ok_NoPhase {f : Addr} {fd : FuncData} (F : L2.Fun K "__init__" "NoPhase.__init__" s_NoPhase_init f fd) : FnOk P w K mg base CX0 1 f fd ["self", "at"] (spErr1 K "at") := by
  refine F.ok sc_NoPhase_init (fun vs H Q E h => ?_) (fun cdv A outer s H vs Q E hr h => ?_)
  · obtain ⟨a, C, y, rfl, _⟩ := h
    rfl
  · obtain ⟨a, C, y, rfl, T, no, ha, q⟩ := h
    refine ⟨_, pss_one (ps_ost (pv 0) (pv 1)), ?_⟩
    exact ⟨_, rfl, _, rfl, a, C, rfl, T, no, .inl ⟨ha, fun dx nd ne => q dx nd ne⟩⟩
theorem ok_BadCount {f : Addr} {fd : FuncData} (F : L2.Fun K "__init__" "BadCount.__init__" s_BadCount_init f fd) : FnOk P w K mg base CX0 1 f fd ["self", "value"] (spErr1 K "value") := by
  refine F.ok sc_BadCount_init (fun vs H Q E h => ?_) (fun cdv A outer s H vs Q E hr h => ?_)
  · obtain ⟨a, C, y, rfl, _⟩ := h
    rfl
  · obtain ⟨a, C, y, rfl, T, no, ha, q⟩ := h
    refine ⟨_, pss_one (ps_ost (pv 0) (pv 1)), ?_⟩
    exact ⟨_, rfl, _, rfl, a, C, rfl, T, no, .inl ⟨ha, fun dx nd ne => q dx nd ne⟩⟩
end
def fn : List He.DefD := [dg "is_integer" s_is_integer, dg "is_within" s_is_within, dg "is_age" s_is_age, dg "is_ascending" s_is_ascending, dg "is_sum" s_is_sum, dg "copies" s_copies, dg "parity" s_parity, dg "_law_pick" s_l_pick, dg "_law_heard" s_l_heard, dg "_law_copies" s_l_copies, dg "_law_turn_right" s_l_turn_right, dg "law" s_law, dg "_law_draw" s_draw, dg "_law_pen" s_pen, de "Tick" "__eq__" "Tick.__eq__" s_Tick_eq, de "Tick" "__str__" "Tick.__str__" s_Tick_str, de "Plan" "__len__" "Plan.__len__" s_Plan_len, de "Plan" "__getitem__" "Plan.__getitem__" s_Plan_getitem, de "Plan" "__str__" "Plan.__str__" s_Plan_str, de "Plan" "__iter__" "Plan.__iter__" s_Plan_iter, de "BadTick" "__init__" "BadTick.__init__" s_BadTick_init, de "BadPlan" "__init__" "BadPlan.__init__" s_BadPlan_init, de "TooMany" "__init__" "TooMany.__init__" s_TooMany_init, de "NoPhase" "__init__" "NoPhase.__init__" s_NoPhase_init, de "BadCount" "__init__" "BadCount.__init__" s_BadCount_init, de "Plan" "__init__" "Plan.__init__" s_Plan_init, ⟨("Tick", some "__init__"), "__init__", "Tick.__init__", defArgs s_Tick_init, defBody s_Tick_init, defScope s_Tick_init, [], [("mute", .bl false)]⟩]
def faA : List He.Fa := [.free "all", .free "any", .free "bool", .free "enumerate", .free "int", .free "isinstance", .free "len", .free "list", .free "range", .free "repr", .free "str", .free "sum", .free "tuple", .free "abs", .free "iter", .int "MOST_AGE" 8, .int "MOST_PHASES" 6, .int "MOST_SUMS" 6, .cls "Tick", .cls "Plan", .noat "Plan" "_ticks", .noat "Tick" "mute", .noat "Tick" "sums", .mkr "Tick", .mkr "Plan", .glo "Tick", .glo "Plan", .glo "BadCount", .glo "BadPlan", .glo "BadTick", .glo "NoPhase", .glo "RepairError", .glo "TooMany", .glo "is_integer", .glo "is_within", .glo "is_age", .glo "is_ascending", .glo "is_sum", .glo "copies", .glo "parity", .glo "_law_pick", .glo "_law_heard", .glo "_law_copies", .glo "_law_turn_right", .glo "law", .glo "_law_draw", .glo "_law_pen", .meth "Tick" "__eq__", .meth "Tick" "__str__", .meth "Plan" "__len__", .meth "Plan" "__getitem__", .meth "Plan" "__str__", .meth "Plan" "__iter__"]
def tests (K : PySem.W.Frag) : List Bool := [
  errB K (Dl.ga K "BadTick") "part",
  decide (PySem.W.exmOne K (.ref (Dl.ga K "BadTick")) (.ref (Dl.ga K "RepairError")) = some true),
  errB K (Dl.ga K "BadPlan") "part",
  decide (PySem.W.exmOne K (.ref (Dl.ga K "BadPlan")) (.ref (Dl.ga K "RepairError")) = some true),
  errB K (Dl.ga K "TooMany") "what",
  none_ K (.ref (Dl.ga K "TooMany")) "most",
  decide (PySem.W.exmOne K (.ref (Dl.ga K "TooMany")) (.ref (Dl.ga K "RepairError")) = some true),
  errB K (Dl.ga K "NoPhase") "at",
  decide (PySem.W.exmOne K (.ref (Dl.ga K "NoPhase")) (.ref (Dl.ga K "RepairError")) = some true),
  errB K (Dl.ga K "BadCount") "value",
  decide (PySem.W.exmOne K (.ref (Dl.ga K "BadCount")) (.ref (Dl.ga K "RepairError")) = some true),
  kitB K (.type "NoneType") (.ref (Dl.ga K "BadCount")) false,
  kitB K (.ref (Dl.ga K "BadTick")) (.ref (Dl.ga K "BadCount")) (decide ((Dl.ga K "BadTick") = (Dl.ga K "BadCount"))),
  kitB K (.ref (Dl.ga K "BadPlan")) (.ref (Dl.ga K "BadCount")) (decide ((Dl.ga K "BadPlan") = (Dl.ga K "BadCount"))),
  kitB K (.ref (Dl.ga K "TooMany")) (.ref (Dl.ga K "BadCount")) (decide ((Dl.ga K "TooMany") = (Dl.ga K "BadCount"))),
  kitB K (.ref (Dl.ga K "NoPhase")) (.ref (Dl.ga K "BadCount")) (decide ((Dl.ga K "NoPhase") = (Dl.ga K "BadCount"))),
  kitB K (.ref (Dl.ga K "BadCount")) (.ref (Dl.ga K "BadCount")) (decide ((Dl.ga K "BadCount") = (Dl.ga K "BadCount"))),
  kitB K (.type "NoneType") (.ref (Dl.ga K "BadPlan")) false,
  kitB K (.ref (Dl.ga K "BadTick")) (.ref (Dl.ga K "BadPlan")) (decide ((Dl.ga K "BadTick") = (Dl.ga K "BadPlan"))),
  kitB K (.ref (Dl.ga K "BadPlan")) (.ref (Dl.ga K "BadPlan")) (decide ((Dl.ga K "BadPlan") = (Dl.ga K "BadPlan"))),
  kitB K (.ref (Dl.ga K "TooMany")) (.ref (Dl.ga K "BadPlan")) (decide ((Dl.ga K "TooMany") = (Dl.ga K "BadPlan"))),
  kitB K (.ref (Dl.ga K "NoPhase")) (.ref (Dl.ga K "BadPlan")) (decide ((Dl.ga K "NoPhase") = (Dl.ga K "BadPlan"))),
  kitB K (.ref (Dl.ga K "BadCount")) (.ref (Dl.ga K "BadPlan")) (decide ((Dl.ga K "BadCount") = (Dl.ga K "BadPlan"))),
  kitB K (.type "NoneType") (.ref (Dl.ga K "BadTick")) false,
  kitB K (.ref (Dl.ga K "BadTick")) (.ref (Dl.ga K "BadTick")) (decide ((Dl.ga K "BadTick") = (Dl.ga K "BadTick"))),
  kitB K (.ref (Dl.ga K "BadPlan")) (.ref (Dl.ga K "BadTick")) (decide ((Dl.ga K "BadPlan") = (Dl.ga K "BadTick"))),
  kitB K (.ref (Dl.ga K "TooMany")) (.ref (Dl.ga K "BadTick")) (decide ((Dl.ga K "TooMany") = (Dl.ga K "BadTick"))),
  kitB K (.ref (Dl.ga K "NoPhase")) (.ref (Dl.ga K "BadTick")) (decide ((Dl.ga K "NoPhase") = (Dl.ga K "BadTick"))),
  kitB K (.ref (Dl.ga K "BadCount")) (.ref (Dl.ga K "BadTick")) (decide ((Dl.ga K "BadCount") = (Dl.ga K "BadTick"))),
  kitB K (.type "NoneType") (.ref (Dl.ga K "NoPhase")) false,
  kitB K (.ref (Dl.ga K "BadTick")) (.ref (Dl.ga K "NoPhase")) (decide ((Dl.ga K "BadTick") = (Dl.ga K "NoPhase"))),
  kitB K (.ref (Dl.ga K "BadPlan")) (.ref (Dl.ga K "NoPhase")) (decide ((Dl.ga K "BadPlan") = (Dl.ga K "NoPhase"))),
  kitB K (.ref (Dl.ga K "TooMany")) (.ref (Dl.ga K "NoPhase")) (decide ((Dl.ga K "TooMany") = (Dl.ga K "NoPhase"))),
  kitB K (.ref (Dl.ga K "NoPhase")) (.ref (Dl.ga K "NoPhase")) (decide ((Dl.ga K "NoPhase") = (Dl.ga K "NoPhase"))),
  kitB K (.ref (Dl.ga K "BadCount")) (.ref (Dl.ga K "NoPhase")) (decide ((Dl.ga K "BadCount") = (Dl.ga K "NoPhase"))),
  kitB K (.type "NoneType") (.ref (Dl.ga K "TooMany")) false,
  kitB K (.ref (Dl.ga K "BadTick")) (.ref (Dl.ga K "TooMany")) (decide ((Dl.ga K "BadTick") = (Dl.ga K "TooMany"))),
  kitB K (.ref (Dl.ga K "BadPlan")) (.ref (Dl.ga K "TooMany")) (decide ((Dl.ga K "BadPlan") = (Dl.ga K "TooMany"))),
  kitB K (.ref (Dl.ga K "TooMany")) (.ref (Dl.ga K "TooMany")) (decide ((Dl.ga K "TooMany") = (Dl.ga K "TooMany"))),
  kitB K (.ref (Dl.ga K "NoPhase")) (.ref (Dl.ga K "TooMany")) (decide ((Dl.ga K "NoPhase") = (Dl.ga K "TooMany"))),
  kitB K (.ref (Dl.ga K "BadCount")) (.ref (Dl.ga K "TooMany")) (decide ((Dl.ga K "BadCount") = (Dl.ga K "TooMany"))),
  decide ((Dl.ga K "BadTick") ≠ (Dl.ga K "BadCount")),
  decide ((Dl.ga K "BadTick") ≠ (Dl.ga K "TooMany")),
  decide ((Dl.ga K "BadTick") ≠ (Dl.ga K "BadPlan")),
  decide ((Dl.ga K "BadTick") ≠ (Dl.ga K "NoPhase")),
  decide ((Dl.ga K "BadCount") ≠ (Dl.ga K "TooMany")),
  decide ((Dl.ga K "BadCount") ≠ (Dl.ga K "BadPlan")),
  decide ((Dl.ga K "BadCount") ≠ (Dl.ga K "NoPhase")),
  decide ((Dl.ga K "TooMany") ≠ (Dl.ga K "BadPlan")),
  decide ((Dl.ga K "TooMany") ≠ (Dl.ga K "NoPhase")),
  decide ((Dl.ga K "BadPlan") ≠ (Dl.ga K "NoPhase")),
  tabsB K "law" "_law_turn_right",
  propB K "Plan" "rate" "Plan.rate",
  insB K (Dl.ga K "Tick"),
  insB K (Dl.ga K "Plan"),
  tyClB K (Dl.ga K "Plan"),
  kitB K (.ref (Dl.ga K "Plan")) (.ref (Dl.ga K "Plan")) true,
  kitB K (.ref (Dl.ga K "Tick")) (.ref (Dl.ga K "Plan")) false,
  tyClB K (Dl.ga K "Tick"),
  kitB K (.ref (Dl.ga K "Tick")) (.ref (Dl.ga K "Tick")) true,
  kitB K (.ref (Dl.ga K "Plan")) (.ref (Dl.ga K "Tick")) false,
  PySem.W.fnIn K (Dl.ma K "Plan" "__getitem__"),
  kitB K (.ref (Dl.ga K "Tick")) (.type "bool") false,
  kitB K (.ref (Dl.ga K "Plan")) (.type "bool") false,
  kitB K (.ref (Dl.ga K "Tick")) (.type "int") false,
  kitB K (.ref (Dl.ga K "Plan")) (.type "int") false,
  kitB K (.ref (Dl.ga K "Tick")) (.type "tuple") false,
  kitB K (.ref (Dl.ga K "Plan")) (.type "tuple") false]
def v_Plan_rate : He.FnW := some ("rate", "Plan.rate", defArgs s_Plan_rate, .stmts (defBody s_Plan_rate), defScope s_Plan_rate, mainGlobals, [], builtinsNs)
abbrev Al : Type := He.AlD × Bool × List He.FnW
def see (K : PySem.W.Frag) : Al := (He.obsD faA fn K, (tests K).all id, [atA K (propG K "Plan" "rate")])
def seen : Al := (He.valD fn, true, [v_Plan_rate])
def look (g : Addr → Option Obj) : Al := see (He.frG g ((reach g 5).filter (notTab g)))
def hook : PySem.W.Hook where
  α := Al
  obs := fun s => look s.heap.get?
  val := fun _ => seen
  says := fun _ h => ∃ K : PySem.W.Frag, K.In h ∧ see K = seen
  of := fun _ _ e => ⟨_, He.frG_in, e⟩
  keeps := fun _ _ _ z k => z.elim fun K y => ⟨K, y.1.keeps k, y.2⟩
def ob (s : PySem.W.SharedT) : Al := look (HandSHeadRun.getT s)
theorem ob_eq (s : PySem.W.SharedT) : ob s = hook.obs s.abs := by
  have e : HandSHeadRun.getT s = s.abs.heap.get? := funext (HandSHeadRun.getT_eq s)
  unfold ob
  rw [e]
  rfl
abbrev R : PySem.W.OpenRow := PySem.W.OpenLaw.row PySem.Challenge.rw_laterepair_k16_copies_and_parities
def names : List PySem.Str := "_wall" :: "MOST_SUMS" :: "MOST_PHASES" :: "MOST_AGE" :: "is_integer" :: "is_within" :: "is_age" :: "is_ascending" :: "RepairError" :: "BadTick" :: "BadPlan" :: "BadCount" :: "BadText" :: "NoPhase" :: "TooMany" :: "words_of" :: "word_at" :: "ended" :: "tells_natural" :: "tells_number" :: "number_at" :: "sum_ages" :: "tick_sums" :: "tick_parts" :: "plan_parts" :: "is_sum" :: "Tick" :: "Plan" :: "ticks_of" :: "joined_tick" :: "copies" :: "parity" :: "_law_pen" :: "_law_draw" :: "_law_pick" :: "_law_heard" :: "_law_copies" :: []
theorem run (w : World) : HandSHeadRun.RunEqI R (PySem.W.view R.prog [0, 43, 44]) hook ob 20000 names w := by
  unfold HandSHeadRun.RunEqI
  kernel_rfl
end Hk

set_option Elab.async false
set_option linter.all false
set_option maxRecDepth 100000
set_option maxHeartbeats 4000000
/-! Xt: words that write ages, and the words of sums; what reads them. -/
namespace Xt
open PySem TL L2
def numI (a : Int) : Str := Str.ofString (toString a)
/-- the age that a word writes -/
def ageOf (z : Str) : Option Int := match tl z with
  | [c] => if 48 ≤ c ∧ c ≤ 56 then some ((c : Int) - 48) else none
  | _ => none
theorem tl_numI {a : Int} (h0 : 0 ≤ a) (h8 : a ≤ 8) : tl (numI a) = [48 + a.toNat] := by
  obtain ⟨n, rfl⟩ := Int.eq_ofNat_of_zero_le h0
  show tl (Str.ofString (toString ((n : Nat) : Int))) = _
  rw [tl_num, numL_lt (by omega), Int.toNat_natCast]
theorem ageOf_num {a : Int} (h0 : 0 ≤ a) (h8 : a ≤ 8) : ageOf (numI a) = some a := by
  unfold ageOf
  rw [tl_numI h0 h8]
  show (if 48 ≤ 48 + a.toNat ∧ 48 + a.toNat ≤ 56 then some (((48 + a.toNat : Nat) : Int) - 48) else none) = _
  rw [if_pos ⟨by omega, by omega⟩]
  congr 1
  omega
theorem ageOf_some {z : Str} {a : Int} (h : ageOf z = some a) : 0 ≤ a ∧ a ≤ 8 ∧ z = numI a := by
  unfold ageOf at h
  split at h
  · next c e =>
    by_cases q : 48 ≤ c ∧ c ≤ 56
    · rw [if_pos q] at h
      cases h
      refine ⟨by omega, by omega, ext_tl ?_⟩
      rw [tl_numI (by omega) (by omega), e]
      congr 1
      omega
    · rw [if_neg q] at h
      cases h
  · cases h
theorem ageOf_int {z : Str} {a : Int} (h : ageOf z = some a) : intText? z = some a ∧ z.length ≤ 640 := by
  obtain ⟨h0, h8, rfl⟩ := ageOf_some h
  have hl : (numI a).length = 1 := by rw [len_tl, tl_numI h0 h8]; rfl
  obtain ⟨n, rfl⟩ := Int.eq_ofNat_of_zero_le h0
  refine ⟨int_num ?_, by omega⟩
  rw [numL_lt (by omega)]
  show 1 ≤ 4300
  decide
/-! ### the words of a sum -/
/-- from a word on: the sum, and where it ends, or the place of the word that cannot stand -/
def sumGo : Int → List Int → List Str → Nat → Except Nat (List Int × Nat)
  | _, acc, [], j => if acc = [] then .error j else .ok (acc, j)
  | lo, acc, w :: ws, j => match ageOf w with
    | none => if acc = [] then .error j else .ok (acc, j)
    | some a => if lo ≤ a then sumGo (a + 1) (acc ++ [a]) ws (j + 1) else .error j
theorem sumGo_nil {lo : Int} {acc : List Int} {j : Nat} : sumGo lo acc [] j = if acc = [] then .error j else .ok (acc, j) := by rw [sumGo]
theorem sumGo_none {lo : Int} {acc : List Int} {w : Str} {ws : List Str} {j : Nat} (h : ageOf w = none) : sumGo lo acc (w :: ws) j = if acc = [] then .error j else .ok (acc, j) := by rw [sumGo, h]
theorem sumGo_some {lo a : Int} {acc : List Int} {w : Str} {ws : List Str} {j : Nat} (h : ageOf w = some a) : sumGo lo acc (w :: ws) j = if lo ≤ a then sumGo (a + 1) (acc ++ [a]) ws (j + 1) else .error j := by rw [sumGo, h]
/-- a sum from a bound on -/
structure SumOk (lo : Int) (s : List Int) : Prop where
  ne : s ≠ []
  lo : ∀ i ∈ s, lo ≤ i
  hi : ∀ i ∈ s, i ≤ 8
  up : s.Pairwise (· < ·)
theorem sumGo_ok {lo0 : Int} : ∀ {ws : List Str} {lo : Int} {acc : List Int} {j : Nat} {s : List Int} {j' : Nat}, lo0 ≤ lo → (∀ i ∈ acc, lo0 ≤ i ∧ i ≤ 8 ∧ i < lo) → acc.Pairwise (· < ·) → sumGo lo acc ws j = .ok (s, j') →
    SumOk lo0 s ∧ ∃ t : List Int, s = acc ++ t ∧ j' = j + t.length ∧ ws.take t.length = t.map numI ∧ t.length ≤ ws.length
  | [], lo, acc, j, s, j', hl, ha, hp, h => by
    rw [sumGo_nil] at h
    by_cases e : acc = []
    · rw [if_pos e] at h; cases h
    · rw [if_neg e] at h
      cases h
      exact ⟨⟨e, fun i hi => (ha i hi).1, fun i hi => (ha i hi).2.1, hp⟩, [], by simp, rfl, rfl, Nat.le_refl _⟩
  | w :: ws, lo, acc, j, s, j', hl, ha, hp, h => by
    cases q : ageOf w with
    | none =>
      rw [sumGo_none q] at h
      by_cases e : acc = []
      · rw [if_pos e] at h; cases h
      · rw [if_neg e] at h
        cases h
        exact ⟨⟨e, fun i hi => (ha i hi).1, fun i hi => (ha i hi).2.1, hp⟩, [], by simp, rfl, rfl, Nat.zero_le _⟩
    | some a =>
      rw [sumGo_some q] at h
      obtain ⟨a0, a8, rfl⟩ := ageOf_some q
      by_cases c : lo ≤ a
      · rw [if_pos c] at h
        obtain ⟨k, t, rfl, rfl, e, l⟩ := sumGo_ok (lo0 := lo0) (by omega) (fun i hi => by
          rcases List.mem_append.mp hi with hi | hi
          · have := ha i hi; omega
          · rw [List.mem_singleton.mp hi]; omega) (by
          rw [List.pairwise_append]
          refine ⟨hp, List.pairwise_singleton _ _, fun i hi m hm => ?_⟩
          rw [List.mem_singleton.mp hm]
          have := ha i hi
          omega) h
        refine ⟨k, a :: t, by simp, by simp; omega, ?_, by simpa using l⟩
        rw [List.length_cons, List.take_succ_cons, e, List.map_cons]
      · rw [if_neg c] at h; cases h
theorem sumGo_run {ws : List Str} (hw : ∀ w, ws.head? = some w → ageOf w = none) : ∀ {t : List Int} {lo : Int} {acc : List Int} {j : Nat}, (∀ i ∈ t, lo ≤ i ∧ 0 ≤ i ∧ i ≤ 8) → t.Pairwise (· < ·) → acc ++ t ≠ [] → sumGo lo acc (t.map numI ++ ws) j = .ok (acc ++ t, j + t.length)
  | [], lo, acc, j, h, hp, ne => by
    rw [List.append_nil] at ne ⊢
    cases ws with
    | nil => exact (sumGo_nil).trans (by rw [if_neg ne]; rfl)
    | cons w ws => exact (sumGo_none (hw w rfl)).trans (by rw [if_neg ne]; rfl)
  | a :: t, lo, acc, j, h, hp, ne => by
    have ha := h a List.mem_cons_self
    have ht : ∀ i ∈ t, a + 1 ≤ i ∧ 0 ≤ i ∧ i ≤ 8 := fun i hi => by
      have := h i (List.mem_cons_of_mem _ hi)
      have := (List.pairwise_cons.mp hp).1 i hi
      omega
    rw [List.map_cons, List.cons_append, sumGo_some (ageOf_num ha.2.1 ha.2.2), if_pos ha.1, sumGo_run hw ht (List.pairwise_cons.mp hp).2 (by simp)]
    rw [List.append_assoc, List.singleton_append, List.length_cons]
    congr 2
    omega
/-! ### the sums of a tick -/
def comma : Str := ","
def sumsGo (vs : List Str) (lo : Int) : Nat → Nat → List (List Int) → Except Nat (List (List Int) × Nat)
  | 0, j, _ => .error j
  | f + 1, j, acc => match sumGo lo [] (vs.drop j) j with
    | .error e => .error e
    | .ok (s, j') => if s ∈ acc then .error (j' - 1) else if vs[j']? = some comma then (if f = 0 then .error j' else sumsGo vs lo f (j' + 1) (acc ++ [s])) else .ok (acc ++ [s], j')
/-- the words of sums -/
def wordsOf : List (List Int) → List Str
  | [] => []
  | [s] => s.map numI
  | s :: t :: r => s.map numI ++ (comma :: wordsOf (t :: r))
theorem wordsOf_cons {s : List Int} {r : List (List Int)} (h : r ≠ []) : wordsOf (s :: r) = s.map numI ++ (comma :: wordsOf r) := by
  cases r with
  | nil => exact absurd rfl h
  | cons t r => rfl
theorem wordsOf_ne {s : List Int} {r : List (List Int)} (h : s ≠ []) : wordsOf (s :: r) ≠ [] := by
  cases r with
  | nil => rw [wordsOf]; simpa using h
  | cons t r => rw [wordsOf]; simp
theorem comma_age : ageOf comma = none := by decide +kernel
theorem sumsGo_ok {vs : List Str} {lo : Int} (l0 : 0 ≤ lo) : ∀ {f j : Nat} {acc ss : List (List Int)} {j' : Nat}, (∀ s ∈ acc, SumOk lo s) → acc.Nodup → sumsGo vs lo f j acc = .ok (ss, j') →
    ((∀ s ∈ ss, SumOk lo s) ∧ ss.Nodup ∧ ss.length ≤ acc.length + f) ∧ ∃ t, t ≠ [] ∧ ss = acc ++ t ∧ j' = j + (wordsOf t).length ∧ (vs.drop j).take (wordsOf t).length = wordsOf t ∧ j' ≤ vs.length
  | 0, j, acc, ss, j', ha, hn, h => by rw [sumsGo] at h; cases h
  | f + 1, j, acc, ss, j', ha, hn, h => by
    rw [sumsGo] at h
    cases q : sumGo lo [] (vs.drop j) j with
    | error e => rw [q] at h; cases h
    | ok p =>
      obtain ⟨s, j1⟩ := p
      rw [q] at h
      dsimp only at h
      obtain ⟨so, t, e1, rfl, e3, e4⟩ := sumGo_ok (lo0 := lo) (Int.le_refl _) (fun i hi => by cases hi) List.Pairwise.nil q
      rw [List.nil_append] at e1
      subst e1
      by_cases c : s ∈ acc
      · rw [if_pos c] at h; cases h
      · rw [if_neg c] at h
        have ha' : ∀ x ∈ acc ++ [s], SumOk lo x := fun x hx => by
          rcases List.mem_append.mp hx with hx | hx
          · exact ha x hx
          · rw [List.mem_singleton.mp hx]; exact so
        have hn' : (acc ++ [s]).Nodup := by
          rw [List.nodup_append]
          refine ⟨hn, by simp, fun a h1 b h2 => ?_⟩
          rw [List.mem_singleton.mp h2]
          exact fun z => c (z ▸ h1)
        by_cases c2 : vs[j + s.length]? = some comma
        · rw [if_pos c2] at h
          by_cases c3 : f = 0
          · rw [if_pos c3] at h; cases h
          · rw [if_neg c3] at h
            obtain ⟨⟨k1, k2, k3⟩, t, tn, rfl, rfl, e5, e6⟩ := sumsGo_ok l0 ha' hn' h
            refine ⟨⟨k1, k2, by simp only [List.length_append, List.length_singleton] at k3 ⊢; omega⟩, s :: t, by simp, by simp, ?_, ?_, e6⟩
            · rw [wordsOf_cons tn, List.length_append, List.length_cons, List.length_map]; omega
            · rw [wordsOf_cons tn, List.length_append, List.length_cons, List.length_map, List.take_add, e3, List.drop_drop]
              have lt : j + s.length < vs.length := by
                have := List.getElem?_eq_some_iff.mp c2
                exact this.1
              have e7 : vs.drop (j + s.length) = comma :: vs.drop (j + s.length + 1) := by
                rw [List.drop_eq_getElem_cons lt]
                congr 1
                have := (List.getElem?_eq_some_iff.mp c2).2
                exact this
              rw [e7, List.take_succ_cons, e5]
        · rw [if_neg c2] at h
          cases h
          refine ⟨⟨ha', hn', by simp⟩, [s], by simp, rfl, ?_, ?_, ?_⟩
          · rw [wordsOf, List.length_map]
          · rw [wordsOf, List.length_map]; exact e3
          · rw [List.length_drop] at e4
            have := so.ne
            have : s.length ≠ 0 := fun z => this (List.length_eq_zero_iff.mp z)
            omega
theorem sumsGo_run {vs : List Str} {lo : Int} (l0 : 0 ≤ lo) : ∀ {t : List (List Int)} {f j : Nat} {acc : List (List Int)}, t ≠ [] → (∀ s ∈ t, SumOk lo s) → (acc ++ t).Nodup → t.length ≤ f → vs.drop j = wordsOf t → sumsGo vs lo f j acc = .ok (acc ++ t, vs.length)
  | [], _, _, _, h, _, _, _, _ => absurd rfl h
  | s :: r, 0, _, _, _, _, _, hf, _ => by simp at hf
  | s :: r, f + 1, j, acc, _, hs, hn, hf, hd => by
    have so := hs s List.mem_cons_self
    have sn : s ∉ acc := fun z => by
      rw [List.nodup_append] at hn
      exact hn.2.2 s z s List.mem_cons_self rfl
    have run : ∀ ws : List Str, (∀ w, ws.head? = some w → ageOf w = none) → sumGo lo [] (s.map numI ++ ws) j = .ok (s, j + s.length) := fun ws hw => by
      have := sumGo_run (ws := ws) hw (t := s) (lo := lo) (acc := []) (j := j) (fun i hi => ⟨so.lo i hi, by have := so.lo i hi; omega, so.hi i hi⟩) so.up (by simpa using so.ne)
      rwa [List.nil_append] at this
    rw [sumsGo]
    have hlen := congrArg List.length hd
    rw [List.length_drop] at hlen
    by_cases e : r = []
    · subst e
      rw [wordsOf] at hd hlen
      have := run [] (fun w h => by cases h)
      rw [List.append_nil] at this
      rw [hd, this]
      dsimp only
      rw [List.length_map] at hlen
      have s1 : s.length ≠ 0 := fun z => so.ne (List.length_eq_zero_iff.mp z)
      have hj : j + s.length = vs.length := by omega
      rw [if_neg sn, hj, List.getElem?_eq_none (Nat.le_refl _), if_neg (by simp)]
    · rw [wordsOf_cons e] at hd hlen
      have := run (comma :: wordsOf r) (fun w h => by cases h; exact comma_age)
      rw [hd, this]
      dsimp only
      have c1 : vs[j + s.length]? = some comma := by
        have h1 : (vs.drop j)[s.length]? = some comma := by
          rw [hd, List.getElem?_append_right (by rw [List.length_map]; exact Nat.le_refl _), List.length_map, Nat.sub_self]
          rfl
        rwa [List.getElem?_drop] at h1
      have f0 : f ≠ 0 := fun z => by
        subst z
        cases r with
        | nil => exact e rfl
        | cons => simp at hf
      rw [if_neg sn, if_pos c1, if_neg f0, sumsGo_run l0 e (fun x hx => hs x (List.mem_cons_of_mem _ hx)) (by rw [List.append_assoc]; exact hn) (by simp at hf; omega) ?_]
      · rw [List.append_assoc]; rfl
      · have h1 : (vs.drop j).drop (s.length + 1) = wordsOf r := by
          rw [hd, List.drop_append, List.length_map, List.drop_eq_nil_of_le (by rw [List.length_map]; omega), Nat.add_sub_cancel_left]
          rfl
        rw [List.drop_drop] at h1
        rw [Nat.add_assoc]
        exact h1
/-! ### a tick's words and text -/
def muteW : Str := "mute"
def dashW : Str := "-"
def sp1 : Str := " "
def loM (m : Bool) : Int := if m = true then 1 else 0
def tickP (vs : List Str) (j : Nat) : Except Nat (List (List Int) × Bool × Nat) :=
  let m := decide (vs[j]? = some muteW)
  let j1 := if m = true then j + 1 else j
  if vs[j1]? = some dashW then .ok ([], m, j1 + 1) else match sumsGo vs (loM m) 6 j1 [] with
    | .error e => .error e
    | .ok (ss, j') => .ok (ss, m, j')
theorem tickP_mute {vs : List Str} {j : Nat} (h : vs[j]? = some muteW) : tickP vs j = if vs[j + 1]? = some dashW then .ok ([], true, j + 1 + 1) else match sumsGo vs (loM true) 6 (j + 1) [] with
    | .error e => .error e
    | .ok (ss, j') => .ok (ss, true, j') := by
  unfold tickP
  dsimp only
  rw [decide_eq_true h]
  rfl
theorem tickP_not {vs : List Str} {j : Nat} (h : vs[j]? ≠ some muteW) : tickP vs j = if vs[j]? = some dashW then .ok ([], false, j + 1) else match sumsGo vs (loM false) 6 j [] with
    | .error e => .error e
    | .ok (ss, j') => .ok (ss, false, j') := by
  unfold tickP
  dsimp only
  rw [decide_eq_false h]
  rfl
def readP (z : Str) : Except Nat (List (List Int) × Bool) := match tickP (Txt.split z sp1) 0 with
  | .error e => .error e
  | .ok (ss, m, j) => if j < (Txt.split z sp1).length then .error j else .ok (ss, m)
def sumT (s : List Int) : Str := Txt.join sp1 (s.map numI)
def sumsT (ss : List (List Int)) : Str := if ss = [] then dashW else Txt.join " , " (ss.map sumT)
def tickT (ss : List (List Int)) (m : Bool) : Str := (if m = true then "mute " else "") ++ sumsT ss
def tickW (ss : List (List Int)) (m : Bool) : List Str := (if m = true then [muteW] else []) ++ (if ss = [] then [dashW] else wordsOf ss)
structure TickOk (ss : List (List Int)) (m : Bool) : Prop where
  sm : ∀ s ∈ ss, SumOk (loM m) s
  nd : ss.Nodup
  ln : ss.length ≤ 6
theorem loM_nn (m : Bool) : 0 ≤ loM m := by cases m <;> decide
theorem joinL_app {S : List Nat} : ∀ {A B : List (List Nat)}, A ≠ [] → B ≠ [] → joinL S (A ++ B) = joinL S A ++ (S ++ joinL S B)
  | [], _, h, _ => absurd rfl h
  | [a], B, _, h => by
    cases B with
    | nil => exact absurd rfl h
    | cons b B => rfl
  | a :: b :: A, B, _, h => by
    show a ++ (S ++ joinL S ((b :: A) ++ B)) = (a ++ (S ++ joinL S (b :: A))) ++ (S ++ joinL S B)
    rw [joinL_app (by simp) h]
    simp only [List.append_assoc]
theorem tl_joinT (y : Str) (ps : List Str) : tl (Txt.join y ps) = joinL (tl y) (ps.map tl) := by rw [join_eq, tl_join]
theorem words_text : ∀ {ss : List (List Int)}, ss ≠ [] → (∀ s ∈ ss, s ≠ []) → Txt.join sp1 (wordsOf ss) = Txt.join " , " (ss.map sumT)
  | [], h, _ => absurd rfl h
  | [s], _, _ => by
    refine ext_tl ?_
    rw [tl_joinT, tl_joinT]
    show joinL _ ((s.map numI).map tl) = tl (sumT s)
    rw [sumT, tl_joinT]
  | s :: t :: r, _, h => by
    have ih := congrArg tl (words_text (ss := t :: r) (by simp) fun x hx => h x (List.mem_cons_of_mem _ hx))
    refine ext_tl ?_
    rw [tl_joinT, tl_joinT] at ih ⊢
    rw [wordsOf_cons (by simp), List.map_append, List.map_cons, joinL_app (by simpa using h s List.mem_cons_self) (by simp), show ∀ W : List (List Nat), tl comma :: W = [tl comma] ++ W from fun _ => rfl,
      joinL_app (by simp) (by simpa using wordsOf_ne (h t (List.mem_cons_of_mem _ List.mem_cons_self))), ih]
    show _ = tl (sumT s) ++ (tl " , " ++ joinL (tl " , ") (((t :: r).map sumT).map tl))
    rw [sumT, tl_joinT, show tl (" , " : Str) = tl sp1 ++ ([44] ++ tl sp1) from by decide +kernel]
    simp only [List.append_assoc]
    rfl
theorem tick_text {ss : List (List Int)} {m : Bool} (h : ∀ s ∈ ss, s ≠ []) : Txt.join sp1 (tickW ss m) = tickT ss m := by
  have e : Txt.join sp1 (if ss = [] then [dashW] else wordsOf ss) = sumsT ss := by
    unfold sumsT
    by_cases c : ss = []
    · rw [if_pos c, if_pos c]
      exact ext_tl (by rw [tl_joinT]; rfl)
    · rw [if_neg c, if_neg c]
      exact words_text c h
  have ne : (if ss = [] then [dashW] else wordsOf ss) ≠ [] := by
    by_cases c : ss = []
    · rw [if_pos c]; simp
    · rw [if_neg c]
      cases ss with
      | nil => exact absurd rfl c
      | cons s r => exact wordsOf_ne (h s List.mem_cons_self)
  unfold tickW tickT
  cases m with
  | false =>
    refine ext_tl ?_
    show tl (Txt.join sp1 ([] ++ _)) = tl (("" : Str) ++ _)
    rw [List.nil_append, e, tl_append]
    rfl
  | true =>
    refine ext_tl ?_
    show tl (Txt.join sp1 ([muteW] ++ _)) = tl (("mute " : Str) ++ _)
    have e2 := congrArg tl e
    rw [tl_joinT] at e2
    rw [tl_joinT, List.map_append, joinL_app (by simp) (by simpa using ne), e2, tl_append]
    show tl muteW ++ (tl sp1 ++ tl (sumsT ss)) = _
    rw [← List.append_assoc]
    rfl
theorem not_dash_of {vs : List Str} {j : Nat} {t : List (List Int)} (hne : t ≠ []) (hs : ∀ s ∈ t, SumOk 0 s) (hd : vs.drop j = wordsOf t) : vs[j]? ≠ some dashW ∧ vs[j]? ≠ some muteW := by
  cases t with
  | nil => exact absurd rfl hne
  | cons s r =>
    have so := hs s List.mem_cons_self
    cases s with
    | nil => exact absurd rfl so.ne
    | cons a s =>
      have h0 : vs[j]? = some (numI a) := by
        have h1 : (vs.drop j)[0]? = some (numI a) := by
          rw [hd]
          cases r with
          | nil => rfl
          | cons => rfl
        rwa [List.getElem?_drop] at h1
      have q := ageOf_num (so.lo a List.mem_cons_self) (so.hi a List.mem_cons_self)
      rw [h0]
      have d1 : ageOf dashW = none := by decide +kernel
      have d2 : ageOf muteW = none := by decide +kernel
      refine ⟨fun z => ?_, fun z => ?_⟩
      · rw [Option.some.inj z, d1] at q; cases q
      · rw [Option.some.inj z, d2] at q; cases q
theorem SumOk.zero {m : Bool} {s : List Int} (h : SumOk (loM m) s) : SumOk 0 s := ⟨h.ne, fun i hi => by have := h.lo i hi; have := loM_nn m; omega, h.hi, h.up⟩
theorem split_ne (x : Str) : Txt.split x sp1 ≠ [] := by
  intro e
  have h := split_spl x sp1 (by decide) (kind_ok (by decide +kernel))
  rw [e] at h
  have spl_ne : ∀ (l : List Nat) (k : Nat) (acc : List Nat), spl (tl sp1) k acc l ≠ [] := by
    intro l
    induction l with
    | nil => intro k acc; rw [spl_nil]; simp
    | cons c l ih =>
      intro k acc
      cases k with
      | zero =>
        rw [spl]
        split
        · simp
        · exact ih 0 _
      | succ k => rw [spl]; exact ih k _
  exact spl_ne _ _ _ h.symm
theorem join_words (x : Str) : Txt.join sp1 (Txt.split x sp1) = x := by rw [join_eq, PySem.StrLaws.join_split]
theorem take_all {α : Type} {l : List α} {n : Nat} (h : l.length ≤ n) : l.take n = l := List.take_of_length_le h
theorem read_ok {z : Str} {ss : List (List Int)} {m : Bool} (h : readP z = .ok (ss, m)) : TickOk ss m ∧ tickT ss m = z := by
  unfold readP at h
  cases q : tickP (Txt.split z sp1) 0 with
  | error e => rw [q] at h; cases h
  | ok p =>
    obtain ⟨ss1, m1, j⟩ := p
    rw [q] at h
    dsimp only at h
    by_cases c : j < (Txt.split z sp1).length
    · rw [if_pos c] at h; cases h
    · rw [if_neg c] at h
      cases h
      have jz := join_words z
      generalize Txt.split z sp1 = vs at q c jz
      by_cases cm : vs[0]? = some muteW
      · rw [tickP_mute cm] at q
        cases vs with
        | nil => cases cm
        | cons v vs =>
          cases cm
          by_cases cd : (muteW :: vs)[0 + 1]? = some dashW
          · rw [if_pos cd] at q
            cases q
            refine ⟨⟨fun s hs => absurd hs List.not_mem_nil, List.Pairwise.nil, by decide⟩, ?_⟩
            rw [← tick_text (fun s hs => absurd hs List.not_mem_nil), ← jz]
            cases vs with
            | nil => cases cd
            | cons v vs =>
              cases cd
              cases vs with
              | nil => rfl
              | cons v vs => simp at c
          · rw [if_neg cd] at q
            cases q2 : sumsGo (muteW :: vs) (loM true) 6 (0 + 1) [] with
            | error e => rw [q2] at q; cases q
            | ok p =>
              obtain ⟨ss2, j2⟩ := p
              rw [q2] at q
              cases q
              obtain ⟨⟨k1, k2, k3⟩, t, tn, e1, rfl, e5, e6⟩ := sumsGo_ok (by decide) (fun s hs => absurd hs List.not_mem_nil) List.Pairwise.nil q2
              rw [List.nil_append] at e1
              subst e1
              refine ⟨⟨k1, k2, by simpa using k3⟩, ?_⟩
              rw [← tick_text (fun s hs => (k1 s hs).ne), ← jz]
              congr 1
              unfold tickW
              rw [if_pos rfl, if_neg tn]
              show muteW :: wordsOf ss = _
              rw [← e5]
              rw [take_all (by simp at c ⊢; omega)]
              rfl
      · rw [tickP_not cm] at q
        by_cases cd : vs[0]? = some dashW
        · rw [if_pos cd] at q
          cases q
          refine ⟨⟨fun s hs => absurd hs List.not_mem_nil, List.Pairwise.nil, by decide⟩, ?_⟩
          rw [← tick_text (fun s hs => absurd hs List.not_mem_nil), ← jz]
          cases vs with
          | nil => cases cd
          | cons v vs =>
            cases cd
            cases vs with
            | nil => rfl
            | cons v vs => simp at c
        · rw [if_neg cd] at q
          cases q2 : sumsGo vs (loM false) 6 0 [] with
          | error e => rw [q2] at q; cases q
          | ok p =>
            obtain ⟨ss2, j2⟩ := p
            rw [q2] at q
            cases q
            obtain ⟨⟨k1, k2, k3⟩, t, tn, e1, rfl, e5, e6⟩ := sumsGo_ok (by decide) (fun s hs => absurd hs List.not_mem_nil) List.Pairwise.nil q2
            rw [List.nil_append] at e1
            subst e1
            refine ⟨⟨k1, k2, by simpa using k3⟩, ?_⟩
            rw [← tick_text (fun s hs => (k1 s hs).ne), ← jz]
            congr 1
            unfold tickW
            rw [if_neg (by decide), if_neg tn]
            show wordsOf ss = _
            rw [← e5, take_all (by simp at c ⊢; omega)]
            rfl
theorem nums_free {s : List Int} (so : SumOk 0 s) : ∀ w ∈ s.map numI, 32 ∉ tl w ∧ w.length = 1 := fun w h => by
  obtain ⟨a, ha, rfl⟩ := List.mem_map.mp h
  have e := tl_numI (so.lo a ha) (so.hi a ha)
  rw [len_tl, e]
  exact ⟨by simp; omega, rfl⟩
theorem wordsOf_free : ∀ {ss : List (List Int)}, (∀ s ∈ ss, SumOk 0 s) → ∀ w ∈ wordsOf ss, 32 ∉ tl w ∧ w.length = 1
  | [], _, w, h => by cases h
  | [s], hs, w, h => nums_free (hs s List.mem_cons_self) w h
  | s :: t :: r, hs, w, h => by
    rw [wordsOf_cons (by simp)] at h
    rcases List.mem_append.mp h with h | h
    · exact nums_free (hs s List.mem_cons_self) w h
    · rcases List.mem_cons.mp h with rfl | h
      · decide +kernel
      · exact wordsOf_free (fun x hx => hs x (List.mem_cons_of_mem _ hx)) w h
theorem tickW_free {ss : List (List Int)} {m : Bool} (hs : ∀ s ∈ ss, SumOk 0 s) : ∀ w ∈ tickW ss m, 32 ∉ tl w ∧ w.length ≤ 4 := fun w h => by
  unfold tickW at h
  rcases List.mem_append.mp h with h | h
  · cases m with
    | false => cases h
    | true => rw [List.mem_singleton.mp h]; decide +kernel
  · by_cases c : ss = []
    · rw [if_pos c] at h
      rw [List.mem_singleton.mp h]; decide +kernel
    · rw [if_neg c] at h
      have := wordsOf_free hs w h
      exact ⟨this.1, by omega⟩
theorem tickW_ne {ss : List (List Int)} {m : Bool} (hs : ∀ s ∈ ss, s ≠ []) : tickW ss m ≠ [] := by
  unfold tickW
  by_cases c : ss = []
  · rw [if_pos c]; simp
  · rw [if_neg c]
    cases ss with
    | nil => exact absurd rfl c
    | cons s r => exact fun z => wordsOf_ne (hs s List.mem_cons_self) (List.append_eq_nil_iff.mp z).2
theorem split_tick {ss : List (List Int)} {m : Bool} (hs : ∀ s ∈ ss, SumOk 0 s) : Txt.split (tickT ss m) sp1 = tickW ss m := by
  rw [← tick_text fun s h => (hs s h).ne]
  exact split_join (y := sp1) (s := 32) (S := []) (by decide +kernel) (by decide +kernel) (tickW_ne fun s h => (hs s h).ne) fun w h => (tickW_free hs w h).1
theorem read_run {ss : List (List Int)} {m : Bool} (h : TickOk ss m) : readP (tickT ss m) = .ok (ss, m) := by
  have hz : ∀ s ∈ ss, SumOk 0 s := fun s hs => (h.sm s hs).zero
  unfold readP
  rw [split_tick hz]
  have key : tickP (tickW ss m) 0 = .ok (ss, m, (tickW ss m).length) := by
    by_cases c : ss = []
    · subst c
      cases m with
      | true =>
        rw [tickP_mute (by rfl), if_pos (by rfl)]
        rfl
      | false =>
        rw [tickP_not (by decide +kernel), if_pos (by rfl)]
        rfl
    · cases m with
      | true =>
        have e : tickW ss true = muteW :: wordsOf ss := by
          unfold tickW
          rw [if_pos rfl, if_neg c]
          rfl
        rw [e]
        have e1 : (muteW :: wordsOf ss)[0]? = some muteW := rfl
        rw [tickP_mute e1, if_neg (not_dash_of (vs := muteW :: wordsOf ss) (j := 0 + 1) c hz (by rfl)).1, sumsGo_run (by decide) c h.sm (by simpa using h.nd) h.ln (by rfl)]
        rfl
      | false =>
        have e : tickW ss false = wordsOf ss := by
          unfold tickW
          rw [if_neg (by decide), if_neg c]
          rfl
        rw [e]
        have nd := not_dash_of (vs := wordsOf ss) (j := 0) c hz (by rfl)
        rw [tickP_not nd.2, if_neg nd.1, sumsGo_run (by decide) c h.sm (by simpa using h.nd) h.ln (by rfl)]
        rfl
  rw [key]
  dsimp only
  rw [if_neg (by omega)]
theorem sum_len {lo : Int} : ∀ {s : List Int}, s.Pairwise (· < ·) → (∀ i ∈ s, lo ≤ i ∧ i ≤ 8) → lo ≤ 9 → (s.length : Int) ≤ 9 - lo
  | [], _, _, h => by simp; omega
  | a :: s, hp, hs, _ => by
    have ha := hs a List.mem_cons_self
    have := sum_len (lo := a + 1) (List.pairwise_cons.mp hp).2 (fun i hi => ⟨by have := (List.pairwise_cons.mp hp).1 i hi; omega, (hs i (List.mem_cons_of_mem _ hi)).2⟩) (by omega)
    rw [List.length_cons]
    omega
theorem SumOk.len {s : List Int} (h : SumOk 0 s) : s.length ≤ 9 := by
  have := sum_len (lo := 0) h.up (fun i hi => ⟨h.lo i hi, h.hi i hi⟩) (by decide)
  omega
theorem wordsOf_len : ∀ {ss : List (List Int)}, (∀ s ∈ ss, SumOk 0 s) → (wordsOf ss).length ≤ 10 * ss.length
  | [], _ => Nat.le_refl _
  | [s], hs => by
    have := (hs s List.mem_cons_self).len
    rw [wordsOf, List.length_map]
    simp
    omega
  | s :: t :: r, hs => by
    have := (hs s List.mem_cons_self).len
    have ih := wordsOf_len (ss := t :: r) fun x hx => hs x (List.mem_cons_of_mem _ hx)
    rw [wordsOf_cons (by simp), List.length_append, List.length_map, List.length_cons, List.length_cons]
    omega
theorem joinL_len (S : List Nat) : ∀ parts : List (List Nat), (joinL S parts).length ≤ (parts.map List.length).sum + parts.length * S.length
  | [] => Nat.zero_le _
  | [p] => by
    show p.length ≤ _
    simp
  | p :: q :: r => by
    have ih := joinL_len S (q :: r)
    show (p ++ (S ++ joinL S (q :: r))).length ≤ _
    rw [List.length_append, List.length_append, List.map_cons, List.sum_cons, List.length_cons, Nat.succ_mul]
    omega
theorem sum_le {α : Type} (f : α → Nat) (k : Nat) : ∀ l : List α, (∀ x ∈ l, f x ≤ k) → (l.map f).sum ≤ l.length * k
  | [], _ => by simp
  | x :: l, h => by
    have := sum_le f k l fun y hy => h y (List.mem_cons_of_mem _ hy)
    have := h x List.mem_cons_self
    rw [List.map_cons, List.sum_cons, List.length_cons, Nat.succ_mul]
    omega
theorem join_len (y : Str) (ys : List Str) : (Txt.join y ys).length ≤ (ys.map (·.length)).sum + ys.length * y.length := by
  rw [len_tl, tl_joinT]
  have := joinL_len (tl y) (ys.map tl)
  rw [List.map_map, List.length_map, ← len_tl] at this
  refine Nat.le_trans this (Nat.le_of_eq ?_)
  congr 2
theorem tickT_len {ss : List (List Int)} {m : Bool} (hs : ∀ s ∈ ss, SumOk 0 s) (hl : ss.length ≤ 6) : (tickT ss m).length ≤ 305 := by
  rw [← tick_text fun s h => (hs s h).ne]
  refine Nat.le_trans (join_len _ _) ?_
  have h1 := sum_le (fun w : Str => w.length) 4 (tickW ss m) fun w hw => (tickW_free hs w hw).2
  have h2 : (tickW ss m).length ≤ 61 := by
    unfold tickW
    have := wordsOf_len hs
    rw [List.length_append]
    have a1 : (if m = true then [muteW] else []).length ≤ 1 := by cases m <;> decide
    have a2 : (if ss = [] then [dashW] else wordsOf ss).length ≤ 60 := by
      by_cases c : ss = []
      · rw [if_pos c]; decide
      · rw [if_neg c]; omega
    omega
  have : sp1.length = 1 := by decide +kernel
  rw [this]
  omega
theorem sumT_len {s : List Int} (h : SumOk 0 s) : (s.map (fun a => (numI a).length)).sum ≤ 9 ∧ (sumT s).length ≤ 18 := by
  have l := h.len
  have h1 := sum_le (fun a => (numI a).length) 1 s fun a ha => by rw [len_tl, tl_numI (h.lo a ha) (h.hi a ha)]; exact Nat.le_refl _
  refine ⟨by omega, Nat.le_trans (join_len _ _) ?_⟩
  rw [List.map_map, List.length_map]
  have : sp1.length = 1 := by decide +kernel
  rw [this]
  have e : (s.map ((fun x : Str => x.length) ∘ numI)).sum = (s.map fun a => (numI a).length).sum := rfl
  rw [e]
  omega
theorem split_w (x : Str) : ((Txt.split x sp1).map (·.length)).sum + (Txt.split x sp1).length ≤ x.length + 1 := PyProof.Rows.split_weight x sp1 (by decide +kernel)
end Xt

set_option Elab.async false
set_option linter.all false
set_option maxRecDepth 100000
set_option maxHeartbeats 4000000
/-! Xp: the words of plans, what reads them. -/
namespace Xt
open PySem TL L2
def slash : Str := "/"
theorem slash_age : ageOf slash = none := by decide +kernel
/-- what may stand behind a tick -/
def Stop (rest : List Str) : Prop := rest = [] ∨ ∃ r, rest = slash :: r
theorem Stop.age {rest : List Str} (h : Stop rest) : ∀ w, rest.head? = some w → ageOf w = none := fun w e => by
  rcases h with rfl | ⟨r, rfl⟩
  · cases e
  · cases e; exact slash_age
theorem Stop.comma {rest : List Str} (h : Stop rest) : rest.head? ≠ some comma := fun e => by
  rcases h with rfl | ⟨r, rfl⟩
  · cases e
  · injection e with e
    revert e
    decide +kernel
theorem sumsGo_run2 {vs : List Str} {lo : Int} (l0 : 0 ≤ lo) {rest : List Str} (hr : Stop rest) : ∀ {t : List (List Int)} {f j : Nat} {acc : List (List Int)}, t ≠ [] → (∀ s ∈ t, SumOk lo s) → (acc ++ t).Nodup → t.length ≤ f → vs.drop j = wordsOf t ++ rest → sumsGo vs lo f j acc = .ok (acc ++ t, j + (wordsOf t).length)
  | [], _, _, _, h, _, _, _, _ => absurd rfl h
  | s :: r, 0, _, _, _, _, _, hf, _ => by simp at hf
  | s :: r, f + 1, j, acc, _, hs, hn, hf, hd => by
    have so := hs s List.mem_cons_self
    have sn : s ∉ acc := fun z => by
      rw [List.nodup_append] at hn
      exact hn.2.2 s z s List.mem_cons_self rfl
    have run : ∀ ws : List Str, (∀ w, ws.head? = some w → ageOf w = none) → sumGo lo [] (s.map numI ++ ws) j = .ok (s, j + s.length) := fun ws hw => by
      have := sumGo_run (ws := ws) hw (t := s) (lo := lo) (acc := []) (j := j) (fun i hi => ⟨so.lo i hi, by have := so.lo i hi; omega, so.hi i hi⟩) so.up (by simpa using so.ne)
      rwa [List.nil_append] at this
    rw [sumsGo]
    have at_ : ∀ x : List Str, vs.drop j = s.map numI ++ x → vs[j + s.length]? = x.head? := fun x hx => by
      have h1 : (vs.drop j)[s.length]? = x.head? := by
        rw [hx, List.getElem?_append_right (by rw [List.length_map]; exact Nat.le_refl _), List.length_map, Nat.sub_self]
        cases x <;> rfl
      rwa [List.getElem?_drop] at h1
    by_cases e : r = []
    · subst e
      rw [wordsOf] at hd ⊢
      rw [hd, run rest hr.age]
      dsimp only
      rw [if_neg sn, at_ rest hd, if_neg hr.comma, List.length_map]
    · rw [wordsOf_cons e, List.append_assoc, List.cons_append] at hd
      rw [hd, run (comma :: (wordsOf r ++ rest)) (fun w h => by cases h; exact comma_age)]
      dsimp only
      have c1 : vs[j + s.length]? = some comma := at_ _ hd
      have f0 : f ≠ 0 := fun z => by
        subst z
        cases r with
        | nil => exact e rfl
        | cons => simp at hf
      rw [if_neg sn, if_pos c1, if_neg f0, sumsGo_run2 l0 hr e (fun x hx => hs x (List.mem_cons_of_mem _ hx)) (by rw [List.append_assoc]; exact hn) (by simp at hf; omega) ?_]
      · rw [List.append_assoc, wordsOf_cons e, List.length_append, List.length_cons, List.length_map]
        simp only [Except.ok.injEq, Prod.mk.injEq]
        exact ⟨rfl, by omega⟩
      · have h1 : (vs.drop j).drop (s.length + 1) = wordsOf r ++ rest := by
          rw [hd, List.drop_append, List.length_map, List.drop_eq_nil_of_le (by rw [List.length_map]; omega), Nat.add_sub_cancel_left]
          rfl
        rw [List.drop_drop] at h1
        rw [Nat.add_assoc]
        exact h1
theorem head_sum {t : List (List Int)} (hne : t ≠ []) (hs : ∀ s ∈ t, SumOk 0 s) : ∃ a r, wordsOf t = numI a :: r ∧ 0 ≤ a ∧ a ≤ 8 := by
  cases t with
  | nil => exact absurd rfl hne
  | cons s r =>
    have so := hs s List.mem_cons_self
    cases s with
    | nil => exact absurd rfl so.ne
    | cons a s =>
      refine ⟨a, ?_⟩
      cases r with
      | nil => exact ⟨_, rfl, so.lo a List.mem_cons_self, so.hi a List.mem_cons_self⟩
      | cons t r => exact ⟨_, rfl, so.lo a List.mem_cons_self, so.hi a List.mem_cons_self⟩
theorem num_ne {a : Int} (h0 : 0 ≤ a) (h8 : a ≤ 8) : numI a ≠ dashW ∧ numI a ≠ muteW := by
  have q := ageOf_num h0 h8
  have d1 : ageOf dashW = none := by decide +kernel
  have d2 : ageOf muteW = none := by decide +kernel
  refine ⟨fun z => ?_, fun z => ?_⟩
  · rw [z, d1] at q; cases q
  · rw [z, d2] at q; cases q
theorem drop_head {vs : List Str} {j : Nat} {w : Str} {r : List Str} (h : vs.drop j = w :: r) : vs[j]? = some w ∧ vs.drop (j + 1) = r := by
  have h1 : (vs.drop j)[0]? = some w := by rw [h]; rfl
  rw [List.getElem?_drop] at h1
  refine ⟨h1, ?_⟩
  have h2 : (vs.drop j).drop 1 = r := by rw [h]; rfl
  rwa [List.drop_drop] at h2
/-- a tick is read, whatever may stand behind it -/
theorem tickP_run {vs : List Str} {j : Nat} {ss : List (List Int)} {m : Bool} {rest : List Str} (h : TickOk ss m) (hr : Stop rest) (hd : vs.drop j = tickW ss m ++ rest) : tickP vs j = .ok (ss, m, j + (tickW ss m).length) := by
  have hz : ∀ s ∈ ss, SumOk 0 s := fun s hs => (h.sm s hs).zero
  have go : ∀ (i : Nat), vs.drop i = (if ss = [] then [dashW] else wordsOf ss) ++ rest → (if vs[i]? = some dashW then Except.ok ([], m, i + 1) else match sumsGo vs (loM m) 6 i [] with
      | .error e => .error e
      | .ok (ss, j') => .ok (ss, m, j') : Except Nat (List (List Int) × Bool × Nat)) = .ok (ss, m, i + (if ss = [] then [dashW] else wordsOf ss).length) := fun i hi => by
    by_cases c : ss = []
    · subst c
      rw [if_pos rfl] at hi ⊢
      rw [if_pos (drop_head hi).1]
      rfl
    · rw [if_neg c] at hi ⊢
      obtain ⟨a, r, e, a0, a8⟩ := head_sum c hz
      have hi' := hi
      rw [e, List.cons_append] at hi'
      rw [(drop_head hi').1, if_neg (fun z => (num_ne a0 a8).1 (Option.some.inj z)), sumsGo_run2 (loM_nn m) hr c h.sm (by simpa using h.nd) h.ln hi]
      rfl
  have hm : vs[j]? = some muteW ↔ m = true := by
    unfold tickW at hd
    cases m with
    | true =>
      rw [if_pos rfl] at hd
      exact ⟨fun _ => rfl, fun _ => (drop_head hd).1⟩
    | false =>
      rw [if_neg (by decide), List.nil_append] at hd
      refine ⟨fun z => ?_, fun z => by cases z⟩
      by_cases c : ss = []
      · rw [if_pos c] at hd
        rw [(drop_head hd).1] at z
        revert z
        decide +kernel
      · rw [if_neg c] at hd
        obtain ⟨a, r, e, a0, a8⟩ := head_sum c hz
        rw [e, List.cons_append] at hd
        rw [(drop_head hd).1] at z
        exact absurd (Option.some.inj z) (num_ne a0 a8).2
  cases m with
  | true =>
    rw [tickP_mute (hm.mpr rfl)]
    unfold tickW at hd ⊢
    rw [if_pos rfl] at hd ⊢
    refine (go (j + 1) (drop_head hd).2).trans ?_
    simp only [Except.ok.injEq, Prod.mk.injEq, List.length_append, List.length_singleton]
    exact ⟨trivial, trivial, by omega⟩
  | false =>
    rw [tickP_not (fun z => by have := hm.mp z; cases this)]
    have hd' : vs.drop j = (if ss = [] then [dashW] else wordsOf ss) ++ rest := hd
    exact go j hd'
/-- .. and what was read stands there -/
theorem tickP_ok {vs : List Str} {j : Nat} {ss : List (List Int)} {m : Bool} {j' : Nat} (h : tickP vs j = .ok (ss, m, j')) : TickOk ss m ∧ j' = j + (tickW ss m).length ∧ (vs.drop j).take (tickW ss m).length = tickW ss m ∧ j' ≤ vs.length := by
  have go : ∀ (m' : Bool) (i : Nat), (if vs[i]? = some dashW then Except.ok ([], m', i + 1) else match sumsGo vs (loM m') 6 i [] with
      | .error e => .error e
      | .ok (ss, j') => .ok (ss, m', j') : Except Nat (List (List Int) × Bool × Nat)) = .ok (ss, m, j') → m = m' ∧ TickOk ss m ∧ j' = i + (if ss = [] then [dashW] else wordsOf ss).length ∧ (vs.drop i).take (if ss = [] then [dashW] else wordsOf ss).length = (if ss = [] then [dashW] else wordsOf ss) ∧ j' ≤ vs.length := fun m' i h => by
    by_cases c : vs[i]? = some dashW
    · rw [if_pos c] at h
      cases h
      obtain ⟨hi, e⟩ := List.getElem?_eq_some_iff.mp c
      refine ⟨rfl, ⟨fun s hs => absurd hs List.not_mem_nil, List.Pairwise.nil, by decide⟩, rfl, ?_, hi⟩
      rw [if_pos rfl, List.drop_eq_getElem_cons hi, e]
      rfl
    · rw [if_neg c] at h
      cases e : sumsGo vs (loM m') 6 i [] with
      | error er => rw [e] at h; cases h
      | ok p =>
        obtain ⟨s2, j2⟩ := p
        rw [e] at h
        cases h
        obtain ⟨⟨k1, k2, k3⟩, t, tn, e1, e2, e5, e6⟩ := sumsGo_ok (loM_nn _) (fun s hs => absurd hs List.not_mem_nil) List.Pairwise.nil e
        rw [List.nil_append] at e1
        subst e1
        rw [if_neg tn]
        exact ⟨rfl, ⟨k1, k2, by simpa using k3⟩, e2, e5, e6⟩
  by_cases c : vs[j]? = some muteW
  · rw [tickP_mute c] at h
    obtain ⟨rfl, h1, h2, h3, h4⟩ := go true _ h
    obtain ⟨hj, e⟩ := List.getElem?_eq_some_iff.mp c
    unfold tickW
    rw [if_pos rfl]
    refine ⟨h1, by rw [h2, List.length_append, List.length_singleton]; omega, ?_, h4⟩
    rw [List.drop_eq_getElem_cons hj, e, List.singleton_append, List.length_cons, List.take_succ_cons, h3]
  · rw [tickP_not c] at h
    obtain ⟨rfl, h1, h2, h3, h4⟩ := go false _ h
    unfold tickW
    rw [if_neg (by decide), List.nil_append]
    exact ⟨h1, h2, h3, h4⟩
/-! ### plans -/
abbrev Tk : Type := List (List Int) × Bool
def planGo (vs : List Str) : Nat → Nat → List Tk → Except Nat (List Tk)
  | 0, j, _ => .error j
  | f + 1, j, acc => match tickP vs j with
    | .error e => .error e
    | .ok (ss, m, j') => if j' = vs.length then .ok (acc ++ [(ss, m)]) else if vs[j']? = some slash then (if f = 0 then .error j' else planGo vs f (j' + 1) (acc ++ [(ss, m)])) else .error j'
def planW : List Tk → List Str
  | [] => []
  | [p] => tickW p.1 p.2
  | p :: q :: r => tickW p.1 p.2 ++ (slash :: planW (q :: r))
theorem planW_cons {p : Tk} {r : List Tk} (h : r ≠ []) : planW (p :: r) = tickW p.1 p.2 ++ (slash :: planW r) := by
  cases r with
  | nil => exact absurd rfl h
  | cons q r => rfl
def planT (ps : List Tk) : Str := Txt.join " / " (ps.map fun p => tickT p.1 p.2)
structure PlanOk (ps : List Tk) : Prop where
  tk : ∀ p ∈ ps, TickOk p.1 p.2
  ne : ps ≠ []
  ln : ps.length ≤ 6
theorem planGo_ok {vs : List Str} : ∀ {f j : Nat} {acc ps : List Tk}, (∀ p ∈ acc, TickOk p.1 p.2) → planGo vs f j acc = .ok ps → (∀ p ∈ ps, TickOk p.1 p.2) ∧ ps.length ≤ acc.length + f ∧ ∃ t, t ≠ [] ∧ ps = acc ++ t ∧ vs.drop j = planW t
  | 0, j, acc, ps, _, h => by rw [planGo] at h; cases h
  | f + 1, j, acc, ps, ha, h => by
    rw [planGo] at h
    cases q : tickP vs j with
    | error e => rw [q] at h; cases h
    | ok p =>
      obtain ⟨ss, m, j'⟩ := p
      rw [q] at h
      dsimp only at h
      obtain ⟨tk, e1, e2, e3⟩ := tickP_ok q
      have ha' : ∀ p ∈ acc ++ [(ss, m)], TickOk p.1 p.2 := fun p hp => by
        rcases List.mem_append.mp hp with hp | hp
        · exact ha p hp
        · rw [List.mem_singleton.mp hp]; exact tk
      by_cases c : j' = vs.length
      · rw [if_pos c] at h
        cases h
        refine ⟨ha', by simp, [(ss, m)], by simp, rfl, ?_⟩
        show vs.drop j = tickW ss m
        rw [← e2, List.take_of_length_le (by rw [List.length_drop]; omega)]
      · rw [if_neg c] at h
        by_cases c2 : vs[j']? = some slash
        · rw [if_pos c2] at h
          by_cases c3 : f = 0
          · rw [if_pos c3] at h; cases h
          · rw [if_neg c3] at h
            obtain ⟨k1, k2, t, tn, e4, e5⟩ := planGo_ok ha' h
            refine ⟨k1, by simp at k2; omega, (ss, m) :: t, by simp, by rw [e4]; simp, ?_⟩
            rw [planW_cons tn, ← List.take_append_drop (tickW ss m).length (vs.drop j), e2]
            congr 1
            rw [List.drop_drop, ← e1]
            obtain ⟨lt, es⟩ := List.getElem?_eq_some_iff.mp c2
            rw [List.drop_eq_getElem_cons lt, es, e5]
        · rw [if_neg c2] at h; cases h
theorem planGo_run {vs : List Str} : ∀ {t : List Tk} {f j : Nat} {acc : List Tk}, t ≠ [] → (∀ p ∈ t, TickOk p.1 p.2) → t.length ≤ f → vs.drop j = planW t → planGo vs f j acc = .ok (acc ++ t)
  | [], _, _, _, h, _, _, _ => absurd rfl h
  | p :: r, 0, _, _, _, _, hf, _ => by simp at hf
  | p :: r, f + 1, j, acc, _, hp, hf, hd => by
    have tk := hp p List.mem_cons_self
    have ne : ∀ s ∈ p.1, s ≠ [] := fun s hs => (tk.sm s hs).ne
    have pos : 0 < (tickW p.1 p.2).length := List.length_pos_iff.mpr (tickW_ne ne)
    have hlen := congrArg List.length hd
    rw [List.length_drop] at hlen
    rw [planGo]
    by_cases e : r = []
    · subst e
      have hd' : vs.drop j = tickW p.1 p.2 ++ [] := by rw [List.append_nil]; exact hd
      rw [tickP_run tk (.inl rfl) hd']
      dsimp only
      have l : (planW [p]).length = (tickW p.1 p.2).length := rfl
      rw [if_pos (by omega)]
    · rw [planW_cons e] at hd hlen
      rw [tickP_run tk (.inr ⟨_, rfl⟩) hd]
      dsimp only
      rw [List.length_append, List.length_cons] at hlen
      have c1 : vs.drop (j + (tickW p.1 p.2).length) = slash :: planW r := by
        rw [← List.drop_drop, hd, List.drop_append, List.drop_length, Nat.sub_self]
        rfl
      have f0 : f ≠ 0 := fun z => by
        subst z
        cases r with
        | nil => exact e rfl
        | cons => simp at hf
      rw [if_neg (by omega), if_pos (drop_head c1).1, if_neg f0, planGo_run e (fun x hx => hp x (List.mem_cons_of_mem _ hx)) (by simp at hf; omega) (drop_head c1).2]
      rw [List.append_assoc]
      rfl
theorem plan_words : ∀ {ps : List Tk}, ps ≠ [] → (∀ p ∈ ps, ∀ s ∈ p.1, s ≠ []) → Txt.join sp1 (planW ps) = planT ps
  | [], h, _ => absurd rfl h
  | [p], _, h => by
    refine ext_tl ?_
    unfold planT
    rw [tl_joinT, tl_joinT]
    show joinL _ ((tickW p.1 p.2).map tl) = tl (tickT p.1 p.2)
    rw [← tick_text (h p List.mem_cons_self), tl_joinT]
  | p :: q :: r, _, h => by
    have ih := congrArg tl (plan_words (ps := q :: r) (by simp) fun x hx => h x (List.mem_cons_of_mem _ hx))
    have hn := tickW_ne (m := p.2) (h p List.mem_cons_self)
    have hn2 : planW (q :: r) ≠ [] := by
      have := tickW_ne (m := q.2) (h q (List.mem_cons_of_mem _ List.mem_cons_self))
      cases r with
      | nil => exact this
      | cons t r =>
        rw [planW_cons (by simp)]
        exact fun z => this (List.append_eq_nil_iff.mp z).1
    refine ext_tl ?_
    unfold planT at ih ⊢
    rw [tl_joinT, tl_joinT] at ih ⊢
    rw [planW_cons (by simp), List.map_append, List.map_cons, joinL_app (by simpa using hn) (by simp), show ∀ W : List (List Nat), tl slash :: W = [tl slash] ++ W from fun _ => rfl, joinL_app (by simp) (by simpa using hn2), ih, ← tl_joinT sp1 (tickW p.1 p.2), tick_text (h p List.mem_cons_self)]
    show _ = tl (tickT p.1 p.2) ++ (tl " / " ++ joinL (tl " / ") (((q :: r).map fun p => tickT p.1 p.2).map tl))
    rw [show tl (" / " : Str) = tl sp1 ++ ([47] ++ tl sp1) from by decide +kernel]
    simp only [List.append_assoc]
    rfl
theorem planW_free : ∀ {ps : List Tk}, (∀ p ∈ ps, TickOk p.1 p.2) → ∀ w ∈ planW ps, 32 ∉ tl w ∧ w.length ≤ 4
  | [], _, w, h => by cases h
  | [p], hs, w, h => tickW_free (m := p.2) (fun s hh => ((hs p List.mem_cons_self).sm s hh).zero) w h
  | p :: q :: r, hs, w, h => by
    rw [planW_cons (by simp)] at h
    rcases List.mem_append.mp h with h | h
    · exact tickW_free (m := p.2) (fun s hh => ((hs p List.mem_cons_self).sm s hh).zero) w h
    · rcases List.mem_cons.mp h with rfl | h
      · decide +kernel
      · exact planW_free (fun x hx => hs x (List.mem_cons_of_mem _ hx)) w h
def readPl (z : Str) : Except Nat (List Tk) := planGo (Txt.split z sp1) 6 0 []
theorem readPl_ok {z : Str} {ps : List Tk} (h : readPl z = .ok ps) : PlanOk ps ∧ planT ps = z := by
  obtain ⟨k1, k2, t, tn, e, hd⟩ := planGo_ok (fun p hp => absurd hp List.not_mem_nil) h
  rw [List.nil_append] at e
  subst e
  refine ⟨⟨k1, tn, by simpa using k2⟩, ?_⟩
  rw [← plan_words tn (fun p hp s hs => ((k1 p hp).sm s hs).ne), ← hd, List.drop_zero, join_words]
theorem planW_ne {ps : List Tk} (h : PlanOk ps) : planW ps ≠ [] := by
  cases ps with
  | nil => exact absurd rfl h.ne
  | cons p r =>
    have := tickW_ne (m := p.2) fun s hs => ((h.tk p List.mem_cons_self).sm s hs).ne
    cases r with
    | nil => exact this
    | cons t r =>
      rw [planW_cons (by simp)]
      exact fun z => this (List.append_eq_nil_iff.mp z).1
theorem readPl_run {ps : List Tk} (h : PlanOk ps) : readPl (planT ps) = .ok ps := by
  have ne : ∀ p ∈ ps, ∀ s ∈ p.1, s ≠ [] := fun p hp s hs => ((h.tk p hp).sm s hs).ne
  unfold readPl
  rw [← plan_words h.ne ne, split_join (y := sp1) (s := 32) (S := []) (by decide +kernel) (by decide +kernel) (planW_ne h) fun w hw => (planW_free h.tk w hw).1, planGo_run h.ne h.tk h.ln (by rfl)]
  rfl
theorem planT_len {ps : List Tk} (h : PlanOk ps) : (planT ps).length ≤ 1848 ∧ ((ps.map fun p => tickT p.1 p.2).map (·.length)).sum ≤ 1830 := by
  have h1 := sum_le (fun p : Tk => (tickT p.1 p.2).length) 305 ps fun p hp => tickT_len (fun s hs => ((h.tk p hp).sm s hs).zero) (h.tk p hp).ln
  have h2 := h.ln
  have e : ((ps.map fun p => tickT p.1 p.2).map (·.length)).sum = (ps.map fun p => (tickT p.1 p.2).length).sum := by rw [List.map_map]; rfl
  refine ⟨Nat.le_trans (join_len _ _) ?_, by rw [e]; omega⟩
  rw [e, List.length_map, show (Str.ofString " / ").length = 3 from by decide +kernel]
  omega
end Xt

set_option Elab.async false
set_option linter.all false
set_option maxRecDepth 100000
set_option maxHeartbeats 4000000
namespace Lz
open PySem PySem.Spec PyProof.Rows L2 LamX Dl Xt
/-! ### what the values are -/
def isI : D → Bool
  | .int _ => true
  | _ => false
def wi (lo hi : Int) : D → Bool
  | .int i => decide (lo ≤ i) && decide (i ≤ hi)
  | _ => false
def isAge (d : D) : Bool := wi 0 8 d
/-- a plain value: of a built-in type -/
def pln (d : D) : Bool := (tyN d).isSome
/-- .. the items of a tuple plain too -/
def pln2 : D → Bool
  | .tup ds => ds.all pln && decide (ds.length ≤ 1000)
  | d => pln d
def asc : List Int → Bool
  | a :: b :: r => decide (a < b) && asc (b :: r)
  | _ => true
/-- the ages of a sum -/
def sumOf : D → Option (List Int)
  | .tup ds => if !ds.isEmpty && ds.all isAge then (match intsOf ds with
    | some ns => if asc ns then some ns else none
    | none => none) else none
  | _ => none
def sumD (s : List Int) : D := .tup (s.map .int)
def ssD (ss : List (List Int)) : D := .tup (ss.map sumD)
def okS (s : List Int) : Prop := s ≠ [] ∧ (∀ i ∈ s, 0 ≤ i ∧ i ≤ 8) ∧ asc s = true
def tickF (ss : List (List Int)) (m : Bool) : List (Str × D) := [("sums", ssD ss), ("mute", .bl m)]
def tickD (K : PySem.W.Frag) (ss : List (List Int)) (m : Bool) : D := .ins (ga K "Tick") (tickF ss m)
structure Ok (ss : List (List Int)) (m : Bool) : Prop where
  sm : ∀ s ∈ ss, okS s
  nd : ss.Nodup
  ln : ss.length ≤ 6
  mu : m = true → ∀ s ∈ ss, s.head? ≠ some 0
/-- the first place that is no sum or repeats one -/
def badAt : Nat → List (List Int) → List D → Option Nat
  | _, _, [] => none
  | i, acc, d :: r => match sumOf d with
    | none => some i
    | some s => if s ∈ acc then some i else badAt (i + 1) (acc ++ [s]) r
def head0 (d : D) : Bool := match sumOf d with
  | some s => s.head? == some 0
  | none => false
def lastS (s : List Int) : Int := s.getLastD 0
/-! ### the promises -/
abbrev c_l_draw (_ : PySem.W.Frag) : WF := cDraw
def c_is_integer (K : PySem.W.Frag) : WF := fun ds n k _ => match ds with
  | [d] => pln d = true ∧ k (.bl (isI d)) n
  | _ => False
def c_is_within (K : PySem.W.Frag) : WF := fun ds n k _ => match ds with
  | [d, .int a, .int b] => pln d = true ∧ k (.bl (wi a b d)) n
  | _ => False
def c_is_age (K : PySem.W.Frag) : WF := fun ds n k _ => match ds with
  | [d] => pln d = true ∧ k (.bl (isAge d)) n
  | _ => False
def c_is_ascending (K : PySem.W.Frag) : WF := fun ds n k _ => match ds with
  | [.tup ds] => ∃ ns : List Int, ds = ns.map .int ∧ ns ≠ [] ∧ ns.length ≤ 1000 ∧ k (.bl (asc ns)) n
  | _ => False
def c_is_sum (K : PySem.W.Frag) : WF := fun ds n k _ => match ds with
  | [d] => pln2 d = true ∧ k (.bl (sumOf d).isSome) n
  | _ => False
def c_Tick_init (K : PySem.W.Frag) : WI := fun ds n k x => match ds with
  | [.bl m, .tup ds] => ds.all pln2 = true ∧ ds.length ≤ 100 ∧ (match badAt 0 [] ds with
    | some i => x (ga K "BadTick", [("part", .int (i : Int))]) n
    | none => if 6 < ds.length then x (ga K "TooMany", [("most", .int 6), ("what", .str "sums")]) n else if m && ds.any head0 then x (ga K "BadTick", [("part", .str "mute")]) n else k [("sums", .tup ds), ("mute", .bl m)] n)
  | _ => False
def c_Tick_eq (K : PySem.W.Frag) : WF := fun ds n k _ => ∃ ss m d, ds = [tickD K ss m, d] ∧ ((∃ ss' m', d = tickD K ss' m' ∧ k (.bl (decide (ss = ss') && decide (m = m'))) n) ∨ (pln d = true ∧ k (.bl false) n))
def c_l_pick (K : PySem.W.Frag) : WF := fun ds n k _ => match ds with
  | [.pen, .lst es] => n ≤ 10000 ∧ 0 < es.length ∧ es.length ≤ 1000 ∧ ∀ y ∈ es, k y (n + 1)
  | _ => False
def c_Tick_str (K : PySem.W.Frag) : WF := fun ds n k _ => ∃ ss m, ds = [tickD K ss m] ∧ Ok ss m ∧ k (.str (tickT ss m)) n
def tickP' (K : PySem.W.Frag) (p : Tk) : D := tickD K p.1 p.2
def planF (K : PySem.W.Frag) (ps : List Tk) : List (Str × D) := [("_ticks", .tup (ps.map (tickP' K)))]
def planD (K : PySem.W.Frag) (ps : List Tk) : D := .ins (ga K "Plan") (planF K ps)
/-- a plain phase -/
def plainD (p : Tk) : D := .tup [ssD p.1, .bl p.2]
def isTk (K : PySem.W.Frag) : D → Bool
  | .ins C _ => decide (C = ga K "Tick")
  | _ => false
/-- a value whose type is known -/
def tkn (K : PySem.W.Frag) (d : D) : Prop := tyC (ga K "Tick") (Cs K) d = some (isTk K d)
def badTk (K : PySem.W.Frag) : Nat → List D → Option Nat
  | _, [] => none
  | i, d :: r => if isTk K d = true then badTk K (i + 1) r else some i
def c_Plan_init (K : PySem.W.Frag) : WI := fun ds n k x => match ds with
  | [.tup ds] => (∀ d ∈ ds, tkn K d) ∧ ds.length ≤ 1000 ∧ (match badTk K 0 ds with
    | some i => x (ga K "BadPlan", [("part", .int (i : Int))]) n
    | none => if ds = [] then x (ga K "BadPlan", [("part", .str "ticks")]) n else if 6 < ds.length then x (ga K "TooMany", [("most", .int 6), ("what", .str "phases")]) n else k [("_ticks", .tup ds)] n)
  | _ => False
def c_Plan_str (K : PySem.W.Frag) : WF := fun ds n k _ => ∃ ps, ds = [planD K ps] ∧ PlanOk ps ∧ k (.str (planT ps)) n
def copySs (as : List Int) : List (List Int) := [0] :: as.map fun a => [a]
/-- the first place of an age that cannot stand there -/
def badAge : Nat → List Int → List D → Option Nat
  | _, _, [] => none
  | i, acc, .int a :: r => if 1 ≤ a ∧ a ≤ 8 then (if a ∈ acc then some i else badAge (i + 1) (acc ++ [a]) r) else some i
  | i, _, _ :: _ => some i
def c_copies (K : PySem.W.Frag) : WF := fun ds n k x => ∃ as : List D, ds = [.tup as] ∧ (∀ d ∈ as, pln d = true) ∧ as.length ≤ 7 ∧ (match badAge 0 [] as with
  | some i => x (ga K "BadTick", [("part", .int (i : Int))]) n
  | none => ∀ ages : List Int, as = ages.map .int → if 6 < ages.length + 1 then x (ga K "TooMany", [("most", .int 6), ("what", .str "sums")]) n else k (planD K [(copySs ages, false)]) n)
def parTs (m : Nat) : List Tk := List.replicate m ([[0]], false) ++ [([(List.range' 1 m).map fun i : Nat => (i : Int)], true)]
def c_parity (K : PySem.W.Frag) : WF := fun ds n k x => ∃ d, ds = [d] ∧ pln d = true ∧ ((∃ m : Nat, d = .int (m : Int) ∧ 1 ≤ m ∧ m ≤ 5 ∧ k (planD K (parTs m)) n) ∨ (wi 1 5 d = false ∧ x (ga K "BadCount", [("value", d)]) n))
def c_Plan_len (K : PySem.W.Frag) : WF := fun ds n k _ => ∃ ps, ds = [planD K ps] ∧ k (.int ((ps.length : Nat) : Int)) n
def c_Plan_getitem (K : PySem.W.Frag) : WF := fun ds n k _ => ∃ (ps : List Tk) (i : Nat) (p : Tk), ds = [planD K ps, .int (i : Int)] ∧ ps[i]? = some p ∧ k (tickP' K p) n
def c_Plan_rate (K : PySem.W.Frag) : WF := fun ds n k _ => ∃ ps : List Tk, ds = [planD K ps] ∧ ps.length ≤ 6 ∧ (∀ p ∈ ps, p.1.length ≤ 100) ∧ k (.tup [.int (((ps.map fun p => p.1.length).sum : Nat) : Int), .int (((ps.filter fun p => !p.2).length : Nat) : Int)]) n
def c_l_copies (K : PySem.W.Frag) : WF := fun ds n k x => ∃ es : List D, ds = [.lst es] ∧ es.length ≤ 7 ∧ c_copies K [.tup es] n k x
def c_l_turn_right (_ : PySem.W.Frag) : WF := fun ds n k _ => ds = [.pen] ∧ n + 100 ≤ 10000 ∧ ∀ n', n' ≤ n + 20 → k (.bl true) n'
end Lz

set_option Elab.async false
set_option linter.all false
set_option maxRecDepth 100000
set_option maxHeartbeats 4000000
namespace Lz
open PySem PySem.Spec PyProof.Rows L2 LamX Dl
def W_is_integer (K : PySem.W.Frag) : WS :=
  (wRet (wAndV (wIsi (tyB "int" (Cs K)) (wVar 0)) (wNotV (wIsi (tyB "bool" (Cs K)) (wVar 0)))))
def W_is_within (K : PySem.W.Frag) : WS :=
  (wRet (wAndV (wF (c_is_integer K) (wCons (wVar 0) wNil)) (wChain (fI0 fun i j => .bl (decide (i ≤ j))) (fI0 fun i j => .bl (decide (i ≤ j))) (wVar 1) (wVar 0) (wVar 2))))
def W_is_age (K : PySem.W.Frag) : WS :=
  (wRet (wF (c_is_within K) (wCons (wVar 0) (wCons (wC (.int 0)) (wCons (wC (.int 8)) wNil)))))
def W_is_ascending (K : PySem.W.Frag) : WS :=
  (wRet (wF (fOne fAll) (wCons (wLc (wRng2 (wC (.int 1)) (wF (fOne fLen) (wCons (wVar 0) wNil))) [1] (gwName 1) wYes (wOp (fI0 fun i j => .bl (decide (i < j))) (wOp fIx (wVar 0) (wOp (fI0 fun i j => .int (i - j)) (wVar 1) (wC (.int 1)))) (wOp fIx (wVar 0) (wVar 1)))) wNil)))
def W_is_sum (K : PySem.W.Frag) : WS :=
  (wThen (wIf (wOr (wNot (wTru (wIsi (tyB "tuple" (Cs K)) (wVar 0)))) (wB (wOp fEq (wF (fOne fLen) (wCons (wVar 0) wNil)) (wC (.int 0)))))
      (wRet (wC (.bl false)))
      wNext)
    (wRet (wAndV (wF (fOne fAll) (wCons (wLc (wSeq (wVar 0)) [1] (gwName 1) wYes (wF (c_is_age K) (wCons (wVar 1) wNil))) wNil)) (wF (c_is_ascending K) (wCons (wVar 0) wNil)))))
def W_Tick_init (K : PySem.W.Frag) : WS :=
  (wThen (wFor (wEnT (wVar 2)) (gwTup (gwCons (gwName 3) (gwCons (gwName 4) gwNil)))
      (wIf (wOr (wNot (wTru (wF (c_is_sum K) (wCons (wVar 4) wNil)))) (wB (wOp (fInS false) (wVar 4) (wSl (wVar 2) wNoP (wPart (wVar 3))))))
      (wRaise1 (ga K "BadTick") "part" (wVar 3))
      wNext))
    (wThen (wIf (wB (wOp (fI0 fun i j => .bl (decide (j < i))) (wF (fOne fLen) (wCons (wVar 2) wNil)) (wC (.int 6))))
      (wRaise2 (ga K "TooMany") "what" "most" (wC (.str "sums")) (wC (.int 6)))
      wNext)
    (wThen (wIf (wNot (wTru (wIsi (tyB "bool" (Cs K)) (wVar 1))))
      (wRaise1 (ga K "BadTick") "part" (wC (.str "mute")))
      wNext)
    (wThen (wIf (wAnd (wTru (wVar 1)) (wTru (wF (fOne fAny) (wCons (wLc (wSeq (wVar 2)) [4] (gwName 4) wYes (wOp fEq (wOp fIx (wVar 4) (wC (.int 0))) (wC (.int 0)))) wNil))))
      (wRaise1 (ga K "BadTick") "part" (wC (.str "mute")))
      wNext)
    (wThen (wFldOwn 0 (ga K "Tick") "sums" (wVar 2))
    (wFldOwn 0 (ga K "Tick") "mute" (wVar 1)))))))
def W_Tick_eq (K : PySem.W.Frag) : WS :=
  (wRet (wAndV (wIsi (tyC (ga K "Tick") (Cs K)) (wVar 1)) (wAndV (wOp fEq (wFld (ga K "Tick") "sums" (wVar 0)) (wFld (ga K "Tick") "sums" (wVar 1))) (wOp fEq (wFld (ga K "Tick") "mute" (wVar 0)) (wFld (ga K "Tick") "mute" (wVar 1))))))
def W_Tick_str (K : PySem.W.Frag) : WS :=
  (wThen (wLcOwn 1 (wSeq (wFld (ga K "Tick") "sums" (wVar 0))) [4] (gwName 4) wYes (wJoin (wC (.str " ")) (wLc (wSeq (wVar 4)) [5] (gwName 5) wYes (wF (fOne fStr) (wCons (wVar 5) wNil)))))
    (wThen (wSet 2 (wIfE (wTru (wFld (ga K "Tick") "mute" (wVar 0))) (wC (.str "mute ")) (wC (.str ""))))
    (wFreeze 1 (wThen (wSet 3 (wIfE (wTru (wVar 1)) (wJoin (wC (.str " , ")) (wVar 1)) (wC (.str "-"))))
    (wRet (wJs [(wFmt (wVar 2)), (wFmt (wVar 3))]))))))
def W_Plan_init (K : PySem.W.Frag) : WS :=
  (wThen (wFor (wEnT (wVar 1)) (gwTup (gwCons (gwName 2) (gwCons (gwName 3) gwNil)))
      (wIf (wNot (wTru (wIsi (tyC (ga K "Tick") (Cs K)) (wVar 3))))
      (wRaise1 (ga K "BadPlan") "part" (wVar 2))
      wNext))
    (wThen (wIf (wB (wOp fEq (wF (fOne fLen) (wCons (wVar 1) wNil)) (wC (.int 0))))
      (wRaise1 (ga K "BadPlan") "part" (wC (.str "ticks")))
      wNext)
    (wThen (wIf (wB (wOp (fI0 fun i j => .bl (decide (j < i))) (wF (fOne fLen) (wCons (wVar 1) wNil)) (wC (.int 6))))
      (wRaise2 (ga K "TooMany") "what" "most" (wC (.str "phases")) (wC (.int 6)))
      wNext)
    (wFldOwn 0 (ga K "Plan") "_ticks" (wVar 1)))))
def W_Plan_len (K : PySem.W.Frag) : WS :=
  (wRet (wF (fOne fLen) (wCons (wFld (ga K "Plan") "_ticks" (wVar 0)) wNil)))
def W_Plan_getitem (K : PySem.W.Frag) : WS :=
  (wThen (wIf (wNot (wTru (wF (c_is_within K) (wCons (wVar 1) (wCons (wC (.int 0)) (wCons (wOp (fI0 fun i j => .int (i - j)) (wF (fOne fLen) (wCons (wFld (ga K "Plan") "_ticks" (wVar 0)) wNil)) (wC (.int 1))) wNil))))))
      (wRaise1 (ga K "NoPhase") "at" (wVar 1))
      wNext)
    (wRet (wOp fIx (wFld (ga K "Plan") "_ticks" (wVar 0)) (wVar 1))))
def W_Plan_rate (K : PySem.W.Frag) : WS :=
  (wThen (wSet 1 (wF (fOne fSum) (wCons (wLc (wSeq (wFld (ga K "Plan") "_ticks" (wVar 0))) [3] (gwName 3) wYes (wF (fOne fLen) (wCons (wFld (ga K "Tick") "sums" (wVar 3)) wNil))) wNil)))
    (wThen (wLcOwn 2 (wSeq (wFld (ga K "Plan") "_ticks" (wVar 0))) [3] (gwName 3) (wNot (wTru (wFld (ga K "Tick") "mute" (wVar 3)))) (wVar 3))
    (wFreeze 2 (wRet (wTup (wCons (wVar 1) (wCons (wF (fOne fLen) (wCons (wVar 2) wNil)) wNil)))))))
def W_Plan_str (K : PySem.W.Frag) : WS :=
  (wRet (wJoin (wC (.str " / ")) (wLc (wSeq (wFld (ga K "Plan") "_ticks" (wVar 0))) [1] (gwName 1) wYes (wF (fOwnStr (ga K "Tick") (c_Tick_str K)) (wCons (wVar 1) wNil)))))
def W_copies (K : PySem.W.Frag) : WS :=
  (wThen (wFor (wEnT (wVar 0)) (gwTup (gwCons (gwName 1) (gwCons (gwName 2) gwNil)))
      (wIf (wOr (wNot (wTru (wF (c_is_within K) (wCons (wVar 2) (wCons (wC (.int 1)) (wCons (wC (.int 8)) wNil)))))) (wB (wOp (fInS false) (wVar 2) (wSl (wVar 0) wNoP (wPart (wVar 1))))))
      (wRaise1 (ga K "BadTick") "part" (wVar 1))
      wNext))
    (wThen (wLcOwn 3 (wSeq (wVar 0)) [2] (gwName 2) wYes (wTup (wCons (wVar 2) wNil)))
    (wFreeze 3 (wRet (wMakeV (ga K "Plan") (c_Plan_init K) (wCons (wMakeMn (ga K "Tick") (c_Tick_init K) (.bl false) (wCons (wTup (wCons (wC (.int 0)) wNil)) (wStar (wVar 3) wNil))) wNil))))))
def W_parity (K : PySem.W.Frag) : WS :=
  (wThen (wIf (wNot (wTru (wF (c_is_within K) (wCons (wVar 0) (wCons (wC (.int 1)) (wCons (wOp (fI0 fun i j => .int (i - j)) (wC (.int 6)) (wC (.int 1))) wNil))))))
      (wRaise1 (ga K "BadCount") "value" (wVar 0))
      wNext)
    (wThen (wLcOwn 1 (wRng1 (wVar 0)) [3] (gwName 3) wYes (wMakeMn (ga K "Tick") (c_Tick_init K) (.bl false) (wCons (wTup (wCons (wC (.int 0)) wNil)) wNil)))
    (wThen (wSet 2 (wMakeM (ga K "Tick") (c_Tick_init K) (wCons (wTupRg (wC (.int 1)) (wOp fAdd (wVar 0) (wC (.int 1)))) wNil) (wC (.bl true))))
    (wFreeze 1 (wRet (wMakeV (ga K "Plan") (c_Plan_init K) (wStar (wVar 1) (wCons (wVar 2) wNil))))))))
def W_l_pick (K : PySem.W.Frag) : WS :=
  (wRet (wOp fIx (wVar 1) (wF (c_l_draw K) (wCons (wVar 0) (wCons (wF (fOne fLen) (wCons (wVar 1) wNil)) wNil)))))
def W_l_heard (K : PySem.W.Frag) (f : Addr) (ask : Ask) : WS :=
  (wThen (wSet 1 (wC .non))
    (wThen (wTry 4 1 (hcE K) (wRet (wLst (wCons (wAsk f ask) wNil))))
    (wThen (wSetOwn 3 (wfLst wNil))
    (wThen (wIf (wTru (wIsi (tyX (ga K "BadTick") (Es K)) (wVar 1)))
      (wApp 3 (wTup (wCons (wC (.str "tick")) (wCons (wF (fOne fReprK) (wCons (wXk (Es_part K) "part" (wVar 1)) wNil)) wNil))))
      wNext)
    (wThen (wIf (wTru (wIsi (tyX (ga K "BadPlan") (Es K)) (wVar 1)))
      (wApp 3 (wTup (wCons (wC (.str "plan")) (wCons (wF (fOne fReprK) (wCons (wXk (Es_part K) "part" (wVar 1)) wNil)) wNil))))
      wNext)
    (wThen (wIf (wTru (wIsi (tyX (ga K "BadCount") (Es K)) (wVar 1)))
      (wApp 3 (wTup (wCons (wC (.str "count")) (wCons (wF (fOne fReprK) (wCons (wXk (Es_value K) "value" (wVar 1)) wNil)) wNil))))
      wNext)
    (wThen (wIf (wTru (wIsi (tyX (ga K "NoPhase") (Es K)) (wVar 1)))
      (wApp 3 (wTup (wCons (wC (.str "phase")) (wCons (wF (fOne fReprK) (wCons (wXk (Es_at K) "at" (wVar 1)) wNil)) wNil))))
      wNext)
    (wThen (wIf (wTru (wIsi (tyX (ga K "TooMany") (Es K)) (wVar 1)))
      (wApp 3 (wTup (wCons (wXk (Es_what K) "what" (wVar 1)) (wCons (wXk (Es_most K) "most" (wVar 1)) wNil))))
      wNext)
    (wFreeze 3 (wRet (wIfE (wB (wOp fEqI (wF (fOne fLen) (wCons (wVar 3) wNil)) (wC (.int 1)))) (wOp fIx (wVar 3) (wC (.int 0))) (wTup (wCons (wC (.str "odd")) wNil)))))))))))))
def W_l_copies (K : PySem.W.Frag) : WS :=
  (wThen (wAsg (wSl (wOp fAdd (wVar 0) (wOp fMul (wLst (wCons (wC .non) wNil)) (wC (.int 7)))) wNoP (wPart (wC (.int 7)))) (gwUnl (gwCons (gwName 1) (gwCons (gwName 2) (gwCons (gwName 3) (gwCons (gwName 4) (gwCons (gwName 5) (gwCons (gwName 6) (gwCons (gwName 7) gwNil)))))))))
    (wThen (wIf (wB (wOp (fI0 fun i j => .bl (decide (j < i))) (wF (fOne fLen) (wCons (wVar 0) wNil)) (wC (.int 3))))
      (wThen (wIf (wB (wOp fEq (wF (fOne fLen) (wCons (wVar 0) wNil)) (wC (.int 4))))
      (wRet (wFV (c_copies K) (wCons (wVar 1) (wCons (wVar 2) (wCons (wVar 3) (wCons (wVar 4) wNil))))))
      wNext)
    (wThen (wIf (wB (wOp fEq (wF (fOne fLen) (wCons (wVar 0) wNil)) (wC (.int 5))))
      (wRet (wFV (c_copies K) (wCons (wVar 1) (wCons (wVar 2) (wCons (wVar 3) (wCons (wVar 4) (wCons (wVar 5) wNil)))))))
      wNext)
    (wRet (wIfE (wB (wOp fEq (wF (fOne fLen) (wCons (wVar 0) wNil)) (wC (.int 6)))) (wFV (c_copies K) (wCons (wVar 1) (wCons (wVar 2) (wCons (wVar 3) (wCons (wVar 4) (wCons (wVar 5) (wCons (wVar 6) wNil))))))) (wFV (c_copies K) (wCons (wVar 1) (wCons (wVar 2) (wCons (wVar 3) (wCons (wVar 4) (wCons (wVar 5) (wCons (wVar 6) (wCons (wVar 7) wNil))))))))))))
      wNext)
    (wThen (wIf (wB (wOp fEq (wF (fOne fLen) (wCons (wVar 0) wNil)) (wC (.int 3))))
      (wRet (wFV (c_copies K) (wCons (wVar 1) (wCons (wVar 2) (wCons (wVar 3) wNil)))))
      wNext)
    (wThen (wIf (wB (wOp fEq (wF (fOne fLen) (wCons (wVar 0) wNil)) (wC (.int 0))))
      (wRet (wFV (c_copies K) wNil))
      wNext)
    (wRet (wIfE (wB (wOp fEq (wF (fOne fLen) (wCons (wVar 0) wNil)) (wC (.int 1)))) (wFV (c_copies K) (wCons (wVar 1) wNil)) (wFV (c_copies K) (wCons (wVar 1) (wCons (wVar 2) wNil)))))))))
def W_l_turn_right (K : PySem.W.Frag) : WS :=
  (wThen (wPar2 1 5 (wfLst (wCons (wC (.int 1)) (wCons (wC (.int 2)) (wCons (wC (.int 3)) (wCons (wC (.int 4)) (wCons (wC (.int 5)) (wCons (wC (.int 6)) (wCons (wC (.int 7)) (wCons (wC (.int 8)) wNil))))))))))
    (wThen (wFor (wRng1 (wF (c_l_draw K) (wCons (wVar 0) (wCons (wC (.int 6)) wNil)))) (gwName 2)
      (wAppPop 5 1 (wF (c_l_draw K) (wCons (wVar 0) (wCons (wLend 1 (wF (fOne fLen) (wCons (wVar 1) wNil))) wNil)))))
    (wFreeze 5 (wThen (wSet 3 (wF (c_l_copies K) (wCons (wVar 5) wNil)))
    (wThen (wIf (wOr (wNot (wTru (wIsi (tyC (ga K "Plan") (Cs K)) (wVar 3)))) (wOr (wB (wOp fNe (wF (fOwnStr (ga K "Plan") (c_Plan_str K)) (wCons (wVar 3) wNil)) (wJoin (wC (.str " , ")) (wOp fAdd (wLst (wCons (wC (.str "0")) wNil)) (wLc (wSeq (wVar 5)) [8] (gwName 8) wYes (wF (fOne fStr) (wCons (wVar 8) wNil))))))) (wOr (wB (wOp fNe (wF (fOwnLen (ga K "Plan") (c_Plan_len K)) (wCons (wVar 3) wNil)) (wC (.int 1)))) (wTru (wFld (ga K "Tick") "mute" (wOp (fOwnA (ga K "Plan") (c_Plan_getitem K)) (wVar 3) (wC (.int 0))))))))
      (wRet (wC (.bl false)))
      wNext)
    (wThen (wSet 7 (wF (c_l_draw K) (wCons (wVar 0) (wCons (wOp fAdd (wF (fOne fLen) (wCons (wVar 5) wNil)) (wC (.int 1))) wNil))))
    (wThen (wSet 6 (wF (c_l_pick K) (wCons (wVar 0) (wCons (wOp fAdd (wLst (wCons (wC .non) (wCons (wC (.int 0)) (wCons (wC (.int 9)) (wCons (wUn fNeg (wC (.int 1))) (wCons (wC (.bl true)) (wCons (wC (.str "1")) (wCons (wTup (wCons (wC (.int 1)) wNil)) (wCons (wLst wNil) (wCons (wOp (fI2 CPow fun i j => .int (i ^ j.toNat)) (wC (.int 10)) (wC (.int 30))) wNil)))))))))) (wSl (wVar 5) wNoP (wPart (wVar 7)))) wNil))))
    (wThen (wSetOwn 4 (wfLst (wCons (wHeard N_l_heard (W_l_heard K) (wF (c_l_copies K) (wCons (wOp fAdd (wOp fAdd (wSl (wVar 5) wNoP (wPart (wVar 7))) (wLst (wCons (wVar 6) wNil))) (wSl (wVar 5) (wPart (wVar 7)) wNoP)) wNil))) wNil)))
    (wThen (wApp 4 (wHeard N_l_heard (W_l_heard K) (wF (c_parity K) (wCons (wF (c_l_pick K) (wCons (wVar 0) (wCons (wLst (wCons (wC .non) (wCons (wC (.int 0)) (wCons (wC (.int 6)) (wCons (wUn fNeg (wC (.int 1))) (wCons (wC (.bl true)) (wCons (wC (.str "2")) (wCons (wTup (wCons (wC (.int 2)) wNil)) (wCons (wLst wNil) wNil))))))))) wNil))) wNil))))
    (wFreeze 4 (wRet (wAndV (wOp fEq (wOp fIx (wVar 4) (wC (.int 0))) (wTup (wCons (wC (.str "tick")) (wCons (wF (fOne fReprK) (wCons (wVar 7) wNil)) wNil)))) (wOp fEq (wOp fIx (wOp fIx (wVar 4) (wC (.int 1))) (wC (.int 0))) (wC (.str "count")))))))))))))))
def W_law (K : PySem.W.Frag) : WS :=
  (wThen (wFor (wRng1 (wC (.int 10))) (gwName 2)
      (wIf (wNot (wTru (wF (c_l_turn_right K) (wCons (wVar 1) wNil))))
      (wRet (wC (.bl false)))
      wNext))
    (wThen (wFor (wRng2 (wC (.int 1)) (wC (.int 6))) (gwName 3)
      (wThen (wSet 4 (wFK 1 (c_parity K) (wCons (wVar 3) wNil)))
    (wThen (wSet 5 (wOp fAdd (wLc (wRng1 (wVar 3)) [2] (gwName 2) wYes (wMakeMn (ga K "Tick") (c_Tick_init K) (.bl false) (wCons (wTup (wCons (wC (.int 0)) wNil)) wNil))) (wLst (wCons (wMakeM (ga K "Tick") (c_Tick_init K) (wCons (wTupRg (wC (.int 1)) (wOp fAdd (wVar 3) (wC (.int 1)))) wNil) (wC (.bl true))) wNil))))
    (wIf (wOr (wB (wOp (fEqO true (ga K "Tick") (c_Tick_eq K)) (wLc (wItOwn (ga K "Plan") "_ticks" (wVar 4)) [7] (gwName 7) wYes (wVar 7)) (wVar 5))) (wB (wOp fNe (wProp (ga K "Plan") (c_Plan_rate K) (wVar 4)) (wTup (wCons (wOp fAdd (wVar 3) (wC (.int 1))) (wCons (wVar 3) wNil))))))
      (wRet (wC (.bl false)))
      wNext))))
    (wThen (wSetOwn 6 (wfLst (wCons (wHeard N_l_heard (W_l_heard K) (wFV (c_copies K) (wCons (wC (.int 1)) (wCons (wC (.int 2)) (wCons (wC (.int 3)) (wCons (wC (.int 4)) (wCons (wC (.int 5)) (wCons (wC (.int 6)) wNil)))))))) wNil)))
    (wThen (wApp 6 (wHeard N_l_heard (W_l_heard K) (wFV (c_copies K) (wCons (wC (.int 1)) (wCons (wC (.int 2)) (wCons (wC (.int 3)) (wCons (wC (.int 4)) (wCons (wC (.int 5)) (wCons (wC (.int 6)) (wCons (wC (.int 1)) wNil))))))))))
    (wThen (wApp 6 (wHeard N_l_heard (W_l_heard K) (wF (c_parity K) (wCons (wC (.int 6)) wNil))))
    (wThen (wApp 6 (wHeard N_l_heard (W_l_heard K) (wFV (c_copies K) (wCons (wC (.int 2)) (wCons (wC (.int 2)) (wCons (wC (.int 9)) wNil))))))
    (wFreeze 6 (wRet (wOp fEq (wVar 6) (wLst (wCons (wTup (wCons (wC (.str "sums")) (wCons (wC (.int 6)) wNil))) (wCons (wTup (wCons (wC (.str "tick")) (wCons (wC (.str "6")) wNil))) (wCons (wTup (wCons (wC (.str "count")) (wCons (wC (.str "6")) wNil))) (wCons (wTup (wCons (wC (.str "tick")) (wCons (wC (.str "1")) wNil))) wNil))))))))))))))
end Lz

set_option Elab.async false
set_option linter.all false
set_option maxRecDepth 100000
set_option maxHeartbeats 4000000
namespace Lz
open PySem PySem.Spec PyProof.Rows L2 LamX Dl
section
variable {K : PySem.W.Frag} {d : D} {n : Nat} {k : KD} {x : KX} {ds : List D}
theorem one {P : D → Prop} (h : match ds with | [d] => P d | _ => False) : ∃ d, ds = [d] ∧ P d := by
  match ds, h with
  | [d], h => exact ⟨d, rfl, h⟩
theorem dt_is_integer (h : c_is_integer K ds n k x) : W_is_integer K (startD ["value"] ds) n { nx := fun _ n' => k .non n', rt := k } x := by
  obtain ⟨d, rfl, hp, q⟩ := one h
  show W_is_integer K [.val d] n _ x
  unfold W_is_integer
  (try simp only [Dl.wRet, Dl.wRetN, Dl.wThen, Dl.wIf, Dl.wOr, Dl.wAnd, Dl.wNot, Dl.wNotV, Dl.wAndV, Dl.wOrV, Dl.wB, Dl.wTru, Dl.wOp, Dl.wUn, Dl.wVar, Dl.wC, Dl.wF, Dl.wCons, Dl.wNil, Dl.wTup, Dl.wLst, Dl.wSet, Dl.wAsg, Dl.wNext, Dl.wDrop, Dl.wFz, Dl.wfLst, Dl.wfList, Dl.wfCat, Dl.wSetOwn, Dl.wApp, Dl.wFreeze, Dl.wFreezeD, Dl.wIsi, Dl.wChain, Dl.wIfE, Dl.wSeq, Dl.wRng1, Dl.wRng2, Dl.wLc, Dl.wLcOwn, Dl.wFor, Dl.wPar, Dl.wDPut, Dl.wGet2, Dl.wLend, Dl.wLendT, Dl.wFld, Dl.wProp, Dl.wMeth, Dl.wMethK, Dl.wMakeM, Dl.wMakeMn, Dl.fMakeM, Dl.wStar, Dl.wSl, Dl.wNoP, Dl.wPart, Dl.wItOwn, Dl.wEnT, Dl.wEnL, Dl.wRaise1, Dl.wRaise2, Dl.wFldOwn, Dl.wMaxD, Dl.wDct0, Dl.wYes, Dl.fOwn, Dl.fOwnX, Dl.fOwnNe, Dl.fOwnNeX, Dl.fOwnIn, Dl.fOwnNotIn, Dl.fOwnLen, Dl.fOwnBool, Dl.gt, Dl.isB_bl, Dl.tru_bl, Dl.optI_some, Dl.slV_val, Dl.ownL_own, Dl.ownDI_own, Dl.lendI_own, Dl.lendI_ownD, Dl.seqI_tup, Dl.seqI_lst, Dl.tupI_tup, Dl.lstI_lst, Dl.intI_int, Dl.dctI_dct, Dl.keyI_int, Dl.insI_ins, Dl.ownIi_own, Dl.excI_exc, Dl.fOne_one, Dl.fI0_int, Dl.fI2_int, Dl.fLen_tup, Dl.fLen_lst, Dl.fTuple_tup, Dl.fTuple_lst, Dl.fInt_int, Dl.fInt_bl, Dl.fAdd_int, Dl.fAdd_tup, Dl.fAdd_lst, Dl.fNeg_int, Dl.fSl_tup, Dl.fSl_lst, Dl.gwTup_tup, Dl.gwUnl_lst, Dl.gwCons_cons, Dl.gwNil_nil, Dl.gwName_eq, Dl.lcD_nil, Dl.wipeS, List.set, if_true, if_false, Bool.false_eq_true, Bool.not_true, Bool.not_false, ite_true, ite_false])
  cases d <;> first | cases hp | skip
  all_goals (simp only [tyB]; (try simp only [Dl.wRet, Dl.wRetN, Dl.wThen, Dl.wIf, Dl.wOr, Dl.wAnd, Dl.wNot, Dl.wNotV, Dl.wAndV, Dl.wOrV, Dl.wB, Dl.wTru, Dl.wOp, Dl.wUn, Dl.wVar, Dl.wC, Dl.wF, Dl.wCons, Dl.wNil, Dl.wTup, Dl.wLst, Dl.wSet, Dl.wAsg, Dl.wNext, Dl.wDrop, Dl.wFz, Dl.wfLst, Dl.wfList, Dl.wfCat, Dl.wSetOwn, Dl.wApp, Dl.wFreeze, Dl.wFreezeD, Dl.wIsi, Dl.wChain, Dl.wIfE, Dl.wSeq, Dl.wRng1, Dl.wRng2, Dl.wLc, Dl.wLcOwn, Dl.wFor, Dl.wPar, Dl.wDPut, Dl.wGet2, Dl.wLend, Dl.wLendT, Dl.wFld, Dl.wProp, Dl.wMeth, Dl.wMethK, Dl.wMakeM, Dl.wMakeMn, Dl.fMakeM, Dl.wStar, Dl.wSl, Dl.wNoP, Dl.wPart, Dl.wItOwn, Dl.wEnT, Dl.wEnL, Dl.wRaise1, Dl.wRaise2, Dl.wFldOwn, Dl.wMaxD, Dl.wDct0, Dl.wYes, Dl.fOwn, Dl.fOwnX, Dl.fOwnNe, Dl.fOwnNeX, Dl.fOwnIn, Dl.fOwnNotIn, Dl.fOwnLen, Dl.fOwnBool, Dl.gt, Dl.isB_bl, Dl.tru_bl, Dl.optI_some, Dl.slV_val, Dl.ownL_own, Dl.ownDI_own, Dl.lendI_own, Dl.lendI_ownD, Dl.seqI_tup, Dl.seqI_lst, Dl.tupI_tup, Dl.lstI_lst, Dl.intI_int, Dl.dctI_dct, Dl.keyI_int, Dl.insI_ins, Dl.ownIi_own, Dl.excI_exc, Dl.fOne_one, Dl.fI0_int, Dl.fI2_int, Dl.fLen_tup, Dl.fLen_lst, Dl.fTuple_tup, Dl.fTuple_lst, Dl.fInt_int, Dl.fInt_bl, Dl.fAdd_int, Dl.fAdd_tup, Dl.fAdd_lst, Dl.fNeg_int, Dl.fSl_tup, Dl.fSl_lst, Dl.gwTup_tup, Dl.gwUnl_lst, Dl.gwCons_cons, Dl.gwNil_nil, Dl.gwName_eq, Dl.lcD_nil, Dl.wipeS, List.set, if_true, if_false, Bool.false_eq_true, Bool.not_true, Bool.not_false, ite_true, ite_false]))
  all_goals first | exact q | skip
theorem dt_is_within (h : c_is_within K ds n k x) : W_is_within K (startD ["value", "least", "most"] ds) n { nx := fun _ n' => k .non n', rt := k } x := by
  match ds, h with
  | [d, .int a, .int b], h =>
    obtain ⟨hp, q⟩ := h
    show W_is_within K [.val d, .val (.int a), .val (.int b)] n _ x
    unfold W_is_within c_is_integer
    (try simp only [Dl.wRet, Dl.wRetN, Dl.wThen, Dl.wIf, Dl.wOr, Dl.wAnd, Dl.wNot, Dl.wNotV, Dl.wAndV, Dl.wOrV, Dl.wB, Dl.wTru, Dl.wOp, Dl.wUn, Dl.wVar, Dl.wC, Dl.wF, Dl.wCons, Dl.wNil, Dl.wTup, Dl.wLst, Dl.wSet, Dl.wAsg, Dl.wNext, Dl.wDrop, Dl.wFz, Dl.wfLst, Dl.wfList, Dl.wfCat, Dl.wSetOwn, Dl.wApp, Dl.wFreeze, Dl.wFreezeD, Dl.wIsi, Dl.wChain, Dl.wIfE, Dl.wSeq, Dl.wRng1, Dl.wRng2, Dl.wLc, Dl.wLcOwn, Dl.wFor, Dl.wPar, Dl.wDPut, Dl.wGet2, Dl.wLend, Dl.wLendT, Dl.wFld, Dl.wProp, Dl.wMeth, Dl.wMethK, Dl.wMakeM, Dl.wMakeMn, Dl.fMakeM, Dl.wStar, Dl.wSl, Dl.wNoP, Dl.wPart, Dl.wItOwn, Dl.wEnT, Dl.wEnL, Dl.wRaise1, Dl.wRaise2, Dl.wFldOwn, Dl.wMaxD, Dl.wDct0, Dl.wYes, Dl.fOwn, Dl.fOwnX, Dl.fOwnNe, Dl.fOwnNeX, Dl.fOwnIn, Dl.fOwnNotIn, Dl.fOwnLen, Dl.fOwnBool, Dl.gt, Dl.isB_bl, Dl.tru_bl, Dl.optI_some, Dl.slV_val, Dl.ownL_own, Dl.ownDI_own, Dl.lendI_own, Dl.lendI_ownD, Dl.seqI_tup, Dl.seqI_lst, Dl.tupI_tup, Dl.lstI_lst, Dl.intI_int, Dl.dctI_dct, Dl.keyI_int, Dl.insI_ins, Dl.ownIi_own, Dl.excI_exc, Dl.fOne_one, Dl.fI0_int, Dl.fI2_int, Dl.fLen_tup, Dl.fLen_lst, Dl.fTuple_tup, Dl.fTuple_lst, Dl.fInt_int, Dl.fInt_bl, Dl.fAdd_int, Dl.fAdd_tup, Dl.fAdd_lst, Dl.fNeg_int, Dl.fSl_tup, Dl.fSl_lst, Dl.gwTup_tup, Dl.gwUnl_lst, Dl.gwCons_cons, Dl.gwNil_nil, Dl.gwName_eq, Dl.lcD_nil, Dl.wipeS, List.set, if_true, if_false, Bool.false_eq_true, Bool.not_true, Bool.not_false, ite_true, ite_false])
    refine ⟨hp, ?_⟩
    cases d <;> first | cases hp | skip
    all_goals (simp only [isI]; (try simp only [Dl.wRet, Dl.wRetN, Dl.wThen, Dl.wIf, Dl.wOr, Dl.wAnd, Dl.wNot, Dl.wNotV, Dl.wAndV, Dl.wOrV, Dl.wB, Dl.wTru, Dl.wOp, Dl.wUn, Dl.wVar, Dl.wC, Dl.wF, Dl.wCons, Dl.wNil, Dl.wTup, Dl.wLst, Dl.wSet, Dl.wAsg, Dl.wNext, Dl.wDrop, Dl.wFz, Dl.wfLst, Dl.wfList, Dl.wfCat, Dl.wSetOwn, Dl.wApp, Dl.wFreeze, Dl.wFreezeD, Dl.wIsi, Dl.wChain, Dl.wIfE, Dl.wSeq, Dl.wRng1, Dl.wRng2, Dl.wLc, Dl.wLcOwn, Dl.wFor, Dl.wPar, Dl.wDPut, Dl.wGet2, Dl.wLend, Dl.wLendT, Dl.wFld, Dl.wProp, Dl.wMeth, Dl.wMethK, Dl.wMakeM, Dl.wMakeMn, Dl.fMakeM, Dl.wStar, Dl.wSl, Dl.wNoP, Dl.wPart, Dl.wItOwn, Dl.wEnT, Dl.wEnL, Dl.wRaise1, Dl.wRaise2, Dl.wFldOwn, Dl.wMaxD, Dl.wDct0, Dl.wYes, Dl.fOwn, Dl.fOwnX, Dl.fOwnNe, Dl.fOwnNeX, Dl.fOwnIn, Dl.fOwnNotIn, Dl.fOwnLen, Dl.fOwnBool, Dl.gt, Dl.isB_bl, Dl.tru_bl, Dl.optI_some, Dl.slV_val, Dl.ownL_own, Dl.ownDI_own, Dl.lendI_own, Dl.lendI_ownD, Dl.seqI_tup, Dl.seqI_lst, Dl.tupI_tup, Dl.lstI_lst, Dl.intI_int, Dl.dctI_dct, Dl.keyI_int, Dl.insI_ins, Dl.ownIi_own, Dl.excI_exc, Dl.fOne_one, Dl.fI0_int, Dl.fI2_int, Dl.fLen_tup, Dl.fLen_lst, Dl.fTuple_tup, Dl.fTuple_lst, Dl.fInt_int, Dl.fInt_bl, Dl.fAdd_int, Dl.fAdd_tup, Dl.fAdd_lst, Dl.fNeg_int, Dl.fSl_tup, Dl.fSl_lst, Dl.gwTup_tup, Dl.gwUnl_lst, Dl.gwCons_cons, Dl.gwNil_nil, Dl.gwName_eq, Dl.lcD_nil, Dl.wipeS, List.set, if_true, if_false, Bool.false_eq_true, Bool.not_true, Bool.not_false, ite_true, ite_false]))
    all_goals first | exact q | skip
    refine iteB (fun e => ?_) (fun e => ?_)
    · simp only [wi, e, Bool.true_and] at q
      exact q
    · simp only [wi, e, Bool.false_and] at q
      exact q
theorem dt_is_age (h : c_is_age K ds n k x) : W_is_age K (startD ["value"] ds) n { nx := fun _ n' => k .non n', rt := k } x := by
  obtain ⟨d, rfl, h⟩ := one h
  show W_is_age K [.val d] n _ x
  unfold W_is_age
  (try simp only [Dl.wRet, Dl.wRetN, Dl.wThen, Dl.wIf, Dl.wOr, Dl.wAnd, Dl.wNot, Dl.wNotV, Dl.wAndV, Dl.wOrV, Dl.wB, Dl.wTru, Dl.wOp, Dl.wUn, Dl.wVar, Dl.wC, Dl.wF, Dl.wCons, Dl.wNil, Dl.wTup, Dl.wLst, Dl.wSet, Dl.wAsg, Dl.wNext, Dl.wDrop, Dl.wFz, Dl.wfLst, Dl.wfList, Dl.wfCat, Dl.wSetOwn, Dl.wApp, Dl.wFreeze, Dl.wFreezeD, Dl.wIsi, Dl.wChain, Dl.wIfE, Dl.wSeq, Dl.wRng1, Dl.wRng2, Dl.wLc, Dl.wLcOwn, Dl.wFor, Dl.wPar, Dl.wDPut, Dl.wGet2, Dl.wLend, Dl.wLendT, Dl.wFld, Dl.wProp, Dl.wMeth, Dl.wMethK, Dl.wMakeM, Dl.wMakeMn, Dl.fMakeM, Dl.wStar, Dl.wSl, Dl.wNoP, Dl.wPart, Dl.wItOwn, Dl.wEnT, Dl.wEnL, Dl.wRaise1, Dl.wRaise2, Dl.wFldOwn, Dl.wMaxD, Dl.wDct0, Dl.wYes, Dl.fOwn, Dl.fOwnX, Dl.fOwnNe, Dl.fOwnNeX, Dl.fOwnIn, Dl.fOwnNotIn, Dl.fOwnLen, Dl.fOwnBool, Dl.gt, Dl.isB_bl, Dl.tru_bl, Dl.optI_some, Dl.slV_val, Dl.ownL_own, Dl.ownDI_own, Dl.lendI_own, Dl.lendI_ownD, Dl.seqI_tup, Dl.seqI_lst, Dl.tupI_tup, Dl.lstI_lst, Dl.intI_int, Dl.dctI_dct, Dl.keyI_int, Dl.insI_ins, Dl.ownIi_own, Dl.excI_exc, Dl.fOne_one, Dl.fI0_int, Dl.fI2_int, Dl.fLen_tup, Dl.fLen_lst, Dl.fTuple_tup, Dl.fTuple_lst, Dl.fInt_int, Dl.fInt_bl, Dl.fAdd_int, Dl.fAdd_tup, Dl.fAdd_lst, Dl.fNeg_int, Dl.fSl_tup, Dl.fSl_lst, Dl.gwTup_tup, Dl.gwUnl_lst, Dl.gwCons_cons, Dl.gwNil_nil, Dl.gwName_eq, Dl.lcD_nil, Dl.wipeS, List.set, if_true, if_false, Bool.false_eq_true, Bool.not_true, Bool.not_false, ite_true, ite_false])
  exact h
theorem asc_range : ∀ ns : List Int, asc ns = ((List.range (ns.length - 1)).map fun i => decide (ns.getD i 0 < ns.getD (i + 1) 0)).all id
  | [] => rfl
  | [_] => rfl
  | a :: b :: r => by
    have ih := asc_range (b :: r)
    unfold asc
    rw [ih]
    simp only [List.length_cons, Nat.add_sub_cancel, List.range_succ_eq_map, List.map_cons, List.map_map, List.all_cons, id]
    rfl
theorem dt_is_ascending (h : c_is_ascending K ds n k x) : W_is_ascending K (startD ["values", "at"] ds) n { nx := fun _ n' => k .non n', rt := k } x := by
  match ds, h with
  | [.tup ds], h =>
    obtain ⟨ns, rfl, h0, h1, q⟩ := h
    show W_is_ascending K [.val (.tup _), .un] n _ x
    unfold W_is_ascending
    (try simp only [Dl.wRet, Dl.wRetN, Dl.wThen, Dl.wIf, Dl.wOr, Dl.wAnd, Dl.wNot, Dl.wNotV, Dl.wAndV, Dl.wOrV, Dl.wB, Dl.wTru, Dl.wOp, Dl.wUn, Dl.wVar, Dl.wC, Dl.wF, Dl.wCons, Dl.wNil, Dl.wTup, Dl.wLst, Dl.wSet, Dl.wAsg, Dl.wNext, Dl.wDrop, Dl.wFz, Dl.wfLst, Dl.wfList, Dl.wfCat, Dl.wSetOwn, Dl.wApp, Dl.wFreeze, Dl.wFreezeD, Dl.wIsi, Dl.wChain, Dl.wIfE, Dl.wSeq, Dl.wRng1, Dl.wRng2, Dl.wLc, Dl.wLcOwn, Dl.wFor, Dl.wPar, Dl.wDPut, Dl.wGet2, Dl.wLend, Dl.wLendT, Dl.wFld, Dl.wProp, Dl.wMeth, Dl.wMethK, Dl.wMakeM, Dl.wMakeMn, Dl.fMakeM, Dl.wStar, Dl.wSl, Dl.wNoP, Dl.wPart, Dl.wItOwn, Dl.wEnT, Dl.wEnL, Dl.wRaise1, Dl.wRaise2, Dl.wFldOwn, Dl.wMaxD, Dl.wDct0, Dl.wYes, Dl.fOwn, Dl.fOwnX, Dl.fOwnNe, Dl.fOwnNeX, Dl.fOwnIn, Dl.fOwnNotIn, Dl.fOwnLen, Dl.fOwnBool, Dl.gt, Dl.isB_bl, Dl.tru_bl, Dl.optI_some, Dl.slV_val, Dl.ownL_own, Dl.ownDI_own, Dl.lendI_own, Dl.lendI_ownD, Dl.seqI_tup, Dl.seqI_lst, Dl.tupI_tup, Dl.lstI_lst, Dl.intI_int, Dl.dctI_dct, Dl.keyI_int, Dl.insI_ins, Dl.ownIi_own, Dl.excI_exc, Dl.fOne_one, Dl.fI0_int, Dl.fI2_int, Dl.fLen_tup, Dl.fLen_lst, Dl.fTuple_tup, Dl.fTuple_lst, Dl.fInt_int, Dl.fInt_bl, Dl.fAdd_int, Dl.fAdd_tup, Dl.fAdd_lst, Dl.fNeg_int, Dl.fSl_tup, Dl.fSl_lst, Dl.gwTup_tup, Dl.gwUnl_lst, Dl.gwCons_cons, Dl.gwNil_nil, Dl.gwName_eq, Dl.lcD_nil, Dl.wipeS, List.set, if_true, if_false, Bool.false_eq_true, Bool.not_true, Bool.not_false, ite_true, ite_false])
    rw [List.length_map]
    refine ⟨by omega, ?_, ?_⟩
    · rw [rngD_len]; omega
    · refine lc_map (fun d => match d with
        | .int i => .bl (decide (ns.getD (i - 1).toNat 0 < ns.getD i.toNat 0))
        | _ => .non) (fun d hd m kd q => ?_) ?_
      · obtain ⟨j, hj, rfl⟩ := List.mem_map.mp hd
        have hj := List.mem_range.mp hj
        have h2 : j + 1 < ns.length := by omega
        (try simp only [Dl.wRet, Dl.wRetN, Dl.wThen, Dl.wIf, Dl.wOr, Dl.wAnd, Dl.wNot, Dl.wNotV, Dl.wAndV, Dl.wOrV, Dl.wB, Dl.wTru, Dl.wOp, Dl.wUn, Dl.wVar, Dl.wC, Dl.wF, Dl.wCons, Dl.wNil, Dl.wTup, Dl.wLst, Dl.wSet, Dl.wAsg, Dl.wNext, Dl.wDrop, Dl.wFz, Dl.wfLst, Dl.wfList, Dl.wfCat, Dl.wSetOwn, Dl.wApp, Dl.wFreeze, Dl.wFreezeD, Dl.wIsi, Dl.wChain, Dl.wIfE, Dl.wSeq, Dl.wRng1, Dl.wRng2, Dl.wLc, Dl.wLcOwn, Dl.wFor, Dl.wPar, Dl.wDPut, Dl.wGet2, Dl.wLend, Dl.wLendT, Dl.wFld, Dl.wProp, Dl.wMeth, Dl.wMethK, Dl.wMakeM, Dl.wMakeMn, Dl.fMakeM, Dl.wStar, Dl.wSl, Dl.wNoP, Dl.wPart, Dl.wItOwn, Dl.wEnT, Dl.wEnL, Dl.wRaise1, Dl.wRaise2, Dl.wFldOwn, Dl.wMaxD, Dl.wDct0, Dl.wYes, Dl.fOwn, Dl.fOwnX, Dl.fOwnNe, Dl.fOwnNeX, Dl.fOwnIn, Dl.fOwnNotIn, Dl.fOwnLen, Dl.fOwnBool, Dl.gt, Dl.isB_bl, Dl.tru_bl, Dl.optI_some, Dl.slV_val, Dl.ownL_own, Dl.ownDI_own, Dl.lendI_own, Dl.lendI_ownD, Dl.seqI_tup, Dl.seqI_lst, Dl.tupI_tup, Dl.lstI_lst, Dl.intI_int, Dl.dctI_dct, Dl.keyI_int, Dl.insI_ins, Dl.ownIi_own, Dl.excI_exc, Dl.fOne_one, Dl.fI0_int, Dl.fI2_int, Dl.fLen_tup, Dl.fLen_lst, Dl.fTuple_tup, Dl.fTuple_lst, Dl.fInt_int, Dl.fInt_bl, Dl.fAdd_int, Dl.fAdd_tup, Dl.fAdd_lst, Dl.fNeg_int, Dl.fSl_tup, Dl.fSl_lst, Dl.gwTup_tup, Dl.gwUnl_lst, Dl.gwCons_cons, Dl.gwNil_nil, Dl.gwName_eq, Dl.lcD_nil, Dl.wipeS, List.set, if_true, if_false, Bool.false_eq_true, Bool.not_true, Bool.not_false, ite_true, ite_false])
        have g : ∀ (i : Int) (t : Nat), i = (t : Int) → t < ns.length → atI (ns.map D.int) i = some (.int (ns.getD t 0)) := fun i t e ht => by
          rw [e, atI_nat (j := t) (v := D.int ns[t]) (by rw [List.getElem?_map, List.getElem?_eq_getElem ht]; rfl), List.getD_eq_getElem?_getD, List.getElem?_eq_getElem ht]
          rfl
        have g1 := g (1 + (j : Int) - 1) j (by omega) (by omega)
        have g2 := g (1 + (j : Int)) (j + 1) (by omega) (by omega)
        simp only [fIx, g1, g2]
        (try simp only [Dl.wRet, Dl.wRetN, Dl.wThen, Dl.wIf, Dl.wOr, Dl.wAnd, Dl.wNot, Dl.wNotV, Dl.wAndV, Dl.wOrV, Dl.wB, Dl.wTru, Dl.wOp, Dl.wUn, Dl.wVar, Dl.wC, Dl.wF, Dl.wCons, Dl.wNil, Dl.wTup, Dl.wLst, Dl.wSet, Dl.wAsg, Dl.wNext, Dl.wDrop, Dl.wFz, Dl.wfLst, Dl.wfList, Dl.wfCat, Dl.wSetOwn, Dl.wApp, Dl.wFreeze, Dl.wFreezeD, Dl.wIsi, Dl.wChain, Dl.wIfE, Dl.wSeq, Dl.wRng1, Dl.wRng2, Dl.wLc, Dl.wLcOwn, Dl.wFor, Dl.wPar, Dl.wDPut, Dl.wGet2, Dl.wLend, Dl.wLendT, Dl.wFld, Dl.wProp, Dl.wMeth, Dl.wMethK, Dl.wMakeM, Dl.wMakeMn, Dl.fMakeM, Dl.wStar, Dl.wSl, Dl.wNoP, Dl.wPart, Dl.wItOwn, Dl.wEnT, Dl.wEnL, Dl.wRaise1, Dl.wRaise2, Dl.wFldOwn, Dl.wMaxD, Dl.wDct0, Dl.wYes, Dl.fOwn, Dl.fOwnX, Dl.fOwnNe, Dl.fOwnNeX, Dl.fOwnIn, Dl.fOwnNotIn, Dl.fOwnLen, Dl.fOwnBool, Dl.gt, Dl.isB_bl, Dl.tru_bl, Dl.optI_some, Dl.slV_val, Dl.ownL_own, Dl.ownDI_own, Dl.lendI_own, Dl.lendI_ownD, Dl.seqI_tup, Dl.seqI_lst, Dl.tupI_tup, Dl.lstI_lst, Dl.intI_int, Dl.dctI_dct, Dl.keyI_int, Dl.insI_ins, Dl.ownIi_own, Dl.excI_exc, Dl.fOne_one, Dl.fI0_int, Dl.fI2_int, Dl.fLen_tup, Dl.fLen_lst, Dl.fTuple_tup, Dl.fTuple_lst, Dl.fInt_int, Dl.fInt_bl, Dl.fAdd_int, Dl.fAdd_tup, Dl.fAdd_lst, Dl.fNeg_int, Dl.fSl_tup, Dl.fSl_lst, Dl.gwTup_tup, Dl.gwUnl_lst, Dl.gwCons_cons, Dl.gwNil_nil, Dl.gwName_eq, Dl.lcD_nil, Dl.wipeS, List.set, if_true, if_false, Bool.false_eq_true, Bool.not_true, Bool.not_false, ite_true, ite_false])
        have e1 : (1 + (j : Int) - 1).toNat = j := by omega
        have e2 : (1 + (j : Int)).toNat = j + 1 := by omega
        dsimp only at q
        rw [e1, e2] at q
        exact q
      · rw [List.nil_append, rngD_map]
        dsimp only
        have e : ((List.range ((ns.length : Int) - 1).toNat).map fun (i : Nat) => D.bl (decide (ns.getD (1 + (i : Int) - 1).toNat 0 < ns.getD (1 + (i : Int)).toNat 0))) = (((List.range (ns.length - 1)).map fun i => decide (ns.getD i 0 < ns.getD (i + 1) 0)).map D.bl) := by
          rw [List.map_map]
          have : ((ns.length : Int) - 1).toNat = ns.length - 1 := by omega
          rw [this]
          refine List.map_congr_left fun i _ => ?_
          have e1 : (1 + (i : Int) - 1).toNat = i := by omega
          have e2 : (1 + (i : Int)).toNat = i + 1 := by omega
          rw [e1, e2]
          rfl
        rw [e]
        show fAll (.lst (List.map D.bl _)) n k x
        unfold fAll
        rw [blsI_map, ← asc_range]
        exact q
theorem ages_ints : ∀ {ds : List D}, ds.all isAge = true → ∃ ns : List Int, ds = ns.map .int ∧ ∀ i ∈ ns, 0 ≤ i ∧ i ≤ 8
  | [], _ => ⟨[], rfl, fun _ h => by cases h⟩
  | d :: ds, h => by
    rw [List.all_cons, Bool.and_eq_true] at h
    obtain ⟨ns, rfl, hn⟩ := ages_ints h.2
    cases d with
    | int i =>
      have h1 := h.1
      simp only [isAge, wi, Bool.and_eq_true, decide_eq_true_eq] at h1
      exact ⟨i :: ns, rfl, fun j hj => by
        rcases List.mem_cons.mp hj with rfl | hj
        · exact h1
        · exact hn j hj⟩
    | _ => cases h.1
theorem isAge_int {i : Int} (h : 0 ≤ i ∧ i ≤ 8) : isAge (.int i) = true := by
  simp only [isAge, wi, Bool.and_eq_true, decide_eq_true_eq]
  exact h
theorem sumOf_sumD {s : List Int} (h : okS s) : sumOf (sumD s) = some s := by
  obtain ⟨h0, h1, h2⟩ := h
  unfold sumOf sumD
  have e : (s.map D.int).all isAge = true := by
    rw [List.all_eq_true]
    intro d hd
    obtain ⟨i, hi, rfl⟩ := List.mem_map.mp hd
    exact isAge_int (h1 i hi)
  have e0 : (s.map D.int).isEmpty = false := by cases s with
    | nil => exact absurd rfl h0
    | cons a r => rfl
  simp only [e, e0, intsOf_map, h2]
  rfl
theorem sumOf_some {d : D} {s : List Int} (h : sumOf d = some s) : d = sumD s ∧ okS s := by
  cases d with
  | tup ds =>
    simp only [sumOf] at h
    by_cases c : (!ds.isEmpty && ds.all isAge) = true
    · rw [if_pos c] at h
      rw [Bool.and_eq_true] at c
      obtain ⟨ns, rfl, hn⟩ := ages_ints c.2
      rw [intsOf_map] at h
      dsimp only at h
      by_cases a : asc ns = true
      · rw [if_pos a] at h
        cases h
        refine ⟨rfl, ?_, hn, a⟩
        rintro rfl
        exact absurd c.1 (by decide)
      · rw [if_neg a] at h
        cases h
    · rw [if_neg c] at h
      cases h
  | _ => cases h
theorem dt_is_sum (h : c_is_sum K ds n k x) : W_is_sum K (startD ["value", "age"] ds) n { nx := fun _ n' => k .non n', rt := k } x := by
  obtain ⟨d, rfl, hp, q⟩ := one h
  show W_is_sum K [.val d, .un] n _ x
  unfold W_is_sum
  (try simp only [Dl.wRet, Dl.wRetN, Dl.wThen, Dl.wIf, Dl.wOr, Dl.wAnd, Dl.wNot, Dl.wNotV, Dl.wAndV, Dl.wOrV, Dl.wB, Dl.wTru, Dl.wOp, Dl.wUn, Dl.wVar, Dl.wC, Dl.wF, Dl.wCons, Dl.wNil, Dl.wTup, Dl.wLst, Dl.wSet, Dl.wAsg, Dl.wNext, Dl.wDrop, Dl.wFz, Dl.wfLst, Dl.wfList, Dl.wfCat, Dl.wSetOwn, Dl.wApp, Dl.wFreeze, Dl.wFreezeD, Dl.wIsi, Dl.wChain, Dl.wIfE, Dl.wSeq, Dl.wRng1, Dl.wRng2, Dl.wLc, Dl.wLcOwn, Dl.wFor, Dl.wPar, Dl.wDPut, Dl.wGet2, Dl.wLend, Dl.wLendT, Dl.wFld, Dl.wProp, Dl.wMeth, Dl.wMethK, Dl.wMakeM, Dl.wMakeMn, Dl.fMakeM, Dl.wStar, Dl.wSl, Dl.wNoP, Dl.wPart, Dl.wItOwn, Dl.wEnT, Dl.wEnL, Dl.wRaise1, Dl.wRaise2, Dl.wFldOwn, Dl.wMaxD, Dl.wDct0, Dl.wYes, Dl.fOwn, Dl.fOwnX, Dl.fOwnNe, Dl.fOwnNeX, Dl.fOwnIn, Dl.fOwnNotIn, Dl.fOwnLen, Dl.fOwnBool, Dl.gt, Dl.isB_bl, Dl.tru_bl, Dl.optI_some, Dl.slV_val, Dl.ownL_own, Dl.ownDI_own, Dl.lendI_own, Dl.lendI_ownD, Dl.seqI_tup, Dl.seqI_lst, Dl.tupI_tup, Dl.lstI_lst, Dl.intI_int, Dl.dctI_dct, Dl.keyI_int, Dl.insI_ins, Dl.ownIi_own, Dl.excI_exc, Dl.fOne_one, Dl.fI0_int, Dl.fI2_int, Dl.fLen_tup, Dl.fLen_lst, Dl.fTuple_tup, Dl.fTuple_lst, Dl.fInt_int, Dl.fInt_bl, Dl.fAdd_int, Dl.fAdd_tup, Dl.fAdd_lst, Dl.fNeg_int, Dl.fSl_tup, Dl.fSl_lst, Dl.gwTup_tup, Dl.gwUnl_lst, Dl.gwCons_cons, Dl.gwNil_nil, Dl.gwName_eq, Dl.lcD_nil, Dl.wipeS, List.set, if_true, if_false, Bool.false_eq_true, Bool.not_true, Bool.not_false, ite_true, ite_false])
  cases d with
  | tup ds =>
    simp only [pln2, Bool.and_eq_true, decide_eq_true_eq] at hp
    rw [show tyB "tuple" (Cs K) (.tup ds) = some true from rfl]
    (try simp only [Dl.wRet, Dl.wRetN, Dl.wThen, Dl.wIf, Dl.wOr, Dl.wAnd, Dl.wNot, Dl.wNotV, Dl.wAndV, Dl.wOrV, Dl.wB, Dl.wTru, Dl.wOp, Dl.wUn, Dl.wVar, Dl.wC, Dl.wF, Dl.wCons, Dl.wNil, Dl.wTup, Dl.wLst, Dl.wSet, Dl.wAsg, Dl.wNext, Dl.wDrop, Dl.wFz, Dl.wfLst, Dl.wfList, Dl.wfCat, Dl.wSetOwn, Dl.wApp, Dl.wFreeze, Dl.wFreezeD, Dl.wIsi, Dl.wChain, Dl.wIfE, Dl.wSeq, Dl.wRng1, Dl.wRng2, Dl.wLc, Dl.wLcOwn, Dl.wFor, Dl.wPar, Dl.wDPut, Dl.wGet2, Dl.wLend, Dl.wLendT, Dl.wFld, Dl.wProp, Dl.wMeth, Dl.wMethK, Dl.wMakeM, Dl.wMakeMn, Dl.fMakeM, Dl.wStar, Dl.wSl, Dl.wNoP, Dl.wPart, Dl.wItOwn, Dl.wEnT, Dl.wEnL, Dl.wRaise1, Dl.wRaise2, Dl.wFldOwn, Dl.wMaxD, Dl.wDct0, Dl.wYes, Dl.fOwn, Dl.fOwnX, Dl.fOwnNe, Dl.fOwnNeX, Dl.fOwnIn, Dl.fOwnNotIn, Dl.fOwnLen, Dl.fOwnBool, Dl.gt, Dl.isB_bl, Dl.tru_bl, Dl.optI_some, Dl.slV_val, Dl.ownL_own, Dl.ownDI_own, Dl.lendI_own, Dl.lendI_ownD, Dl.seqI_tup, Dl.seqI_lst, Dl.tupI_tup, Dl.lstI_lst, Dl.intI_int, Dl.dctI_dct, Dl.keyI_int, Dl.insI_ins, Dl.ownIi_own, Dl.excI_exc, Dl.fOne_one, Dl.fI0_int, Dl.fI2_int, Dl.fLen_tup, Dl.fLen_lst, Dl.fTuple_tup, Dl.fTuple_lst, Dl.fInt_int, Dl.fInt_bl, Dl.fAdd_int, Dl.fAdd_tup, Dl.fAdd_lst, Dl.fNeg_int, Dl.fSl_tup, Dl.fSl_lst, Dl.gwTup_tup, Dl.gwUnl_lst, Dl.gwCons_cons, Dl.gwNil_nil, Dl.gwName_eq, Dl.lcD_nil, Dl.wipeS, List.set, if_true, if_false, Bool.false_eq_true, Bool.not_true, Bool.not_false, ite_true, ite_false])
    refine fEq_int ?_
    (try simp only [Dl.wRet, Dl.wRetN, Dl.wThen, Dl.wIf, Dl.wOr, Dl.wAnd, Dl.wNot, Dl.wNotV, Dl.wAndV, Dl.wOrV, Dl.wB, Dl.wTru, Dl.wOp, Dl.wUn, Dl.wVar, Dl.wC, Dl.wF, Dl.wCons, Dl.wNil, Dl.wTup, Dl.wLst, Dl.wSet, Dl.wAsg, Dl.wNext, Dl.wDrop, Dl.wFz, Dl.wfLst, Dl.wfList, Dl.wfCat, Dl.wSetOwn, Dl.wApp, Dl.wFreeze, Dl.wFreezeD, Dl.wIsi, Dl.wChain, Dl.wIfE, Dl.wSeq, Dl.wRng1, Dl.wRng2, Dl.wLc, Dl.wLcOwn, Dl.wFor, Dl.wPar, Dl.wDPut, Dl.wGet2, Dl.wLend, Dl.wLendT, Dl.wFld, Dl.wProp, Dl.wMeth, Dl.wMethK, Dl.wMakeM, Dl.wMakeMn, Dl.fMakeM, Dl.wStar, Dl.wSl, Dl.wNoP, Dl.wPart, Dl.wItOwn, Dl.wEnT, Dl.wEnL, Dl.wRaise1, Dl.wRaise2, Dl.wFldOwn, Dl.wMaxD, Dl.wDct0, Dl.wYes, Dl.fOwn, Dl.fOwnX, Dl.fOwnNe, Dl.fOwnNeX, Dl.fOwnIn, Dl.fOwnNotIn, Dl.fOwnLen, Dl.fOwnBool, Dl.gt, Dl.isB_bl, Dl.tru_bl, Dl.optI_some, Dl.slV_val, Dl.ownL_own, Dl.ownDI_own, Dl.lendI_own, Dl.lendI_ownD, Dl.seqI_tup, Dl.seqI_lst, Dl.tupI_tup, Dl.lstI_lst, Dl.intI_int, Dl.dctI_dct, Dl.keyI_int, Dl.insI_ins, Dl.ownIi_own, Dl.excI_exc, Dl.fOne_one, Dl.fI0_int, Dl.fI2_int, Dl.fLen_tup, Dl.fLen_lst, Dl.fTuple_tup, Dl.fTuple_lst, Dl.fInt_int, Dl.fInt_bl, Dl.fAdd_int, Dl.fAdd_tup, Dl.fAdd_lst, Dl.fNeg_int, Dl.fSl_tup, Dl.fSl_lst, Dl.gwTup_tup, Dl.gwUnl_lst, Dl.gwCons_cons, Dl.gwNil_nil, Dl.gwName_eq, Dl.lcD_nil, Dl.wipeS, List.set, if_true, if_false, Bool.false_eq_true, Bool.not_true, Bool.not_false, ite_true, ite_false])
    refine iteB (fun e => ?_) (fun e => ?_)
    · have e := of_decide_eq_true e
      have : ds = [] := List.eq_nil_of_length_eq_zero (by omega)
      subst this
      exact q
    · have e := of_decide_eq_false e
      have ne : ds ≠ [] := fun z => e (by rw [z]; rfl)
      refine ⟨by omega, ?_⟩
      refine lc_map (fun d => .bl (isAge d)) (fun d hd m kd q => ?_) ?_
      · (try simp only [Dl.wRet, Dl.wRetN, Dl.wThen, Dl.wIf, Dl.wOr, Dl.wAnd, Dl.wNot, Dl.wNotV, Dl.wAndV, Dl.wOrV, Dl.wB, Dl.wTru, Dl.wOp, Dl.wUn, Dl.wVar, Dl.wC, Dl.wF, Dl.wCons, Dl.wNil, Dl.wTup, Dl.wLst, Dl.wSet, Dl.wAsg, Dl.wNext, Dl.wDrop, Dl.wFz, Dl.wfLst, Dl.wfList, Dl.wfCat, Dl.wSetOwn, Dl.wApp, Dl.wFreeze, Dl.wFreezeD, Dl.wIsi, Dl.wChain, Dl.wIfE, Dl.wSeq, Dl.wRng1, Dl.wRng2, Dl.wLc, Dl.wLcOwn, Dl.wFor, Dl.wPar, Dl.wDPut, Dl.wGet2, Dl.wLend, Dl.wLendT, Dl.wFld, Dl.wProp, Dl.wMeth, Dl.wMethK, Dl.wMakeM, Dl.wMakeMn, Dl.fMakeM, Dl.wStar, Dl.wSl, Dl.wNoP, Dl.wPart, Dl.wItOwn, Dl.wEnT, Dl.wEnL, Dl.wRaise1, Dl.wRaise2, Dl.wFldOwn, Dl.wMaxD, Dl.wDct0, Dl.wYes, Dl.fOwn, Dl.fOwnX, Dl.fOwnNe, Dl.fOwnNeX, Dl.fOwnIn, Dl.fOwnNotIn, Dl.fOwnLen, Dl.fOwnBool, Dl.gt, Dl.isB_bl, Dl.tru_bl, Dl.optI_some, Dl.slV_val, Dl.ownL_own, Dl.ownDI_own, Dl.lendI_own, Dl.lendI_ownD, Dl.seqI_tup, Dl.seqI_lst, Dl.tupI_tup, Dl.lstI_lst, Dl.intI_int, Dl.dctI_dct, Dl.keyI_int, Dl.insI_ins, Dl.ownIi_own, Dl.excI_exc, Dl.fOne_one, Dl.fI0_int, Dl.fI2_int, Dl.fLen_tup, Dl.fLen_lst, Dl.fTuple_tup, Dl.fTuple_lst, Dl.fInt_int, Dl.fInt_bl, Dl.fAdd_int, Dl.fAdd_tup, Dl.fAdd_lst, Dl.fNeg_int, Dl.fSl_tup, Dl.fSl_lst, Dl.gwTup_tup, Dl.gwUnl_lst, Dl.gwCons_cons, Dl.gwNil_nil, Dl.gwName_eq, Dl.lcD_nil, Dl.wipeS, List.set, if_true, if_false, Bool.false_eq_true, Bool.not_true, Bool.not_false, ite_true, ite_false])
        exact ⟨List.all_eq_true.mp hp.1 d hd, q⟩
      · rw [List.nil_append, show (ds.map fun d => D.bl (isAge d)) = (ds.map isAge).map D.bl by rw [List.map_map]; rfl]
        show fAll (.lst (List.map D.bl _)) n _ x
        unfold fAll
        rw [blsI_map]
        (try simp only [Dl.wRet, Dl.wRetN, Dl.wThen, Dl.wIf, Dl.wOr, Dl.wAnd, Dl.wNot, Dl.wNotV, Dl.wAndV, Dl.wOrV, Dl.wB, Dl.wTru, Dl.wOp, Dl.wUn, Dl.wVar, Dl.wC, Dl.wF, Dl.wCons, Dl.wNil, Dl.wTup, Dl.wLst, Dl.wSet, Dl.wAsg, Dl.wNext, Dl.wDrop, Dl.wFz, Dl.wfLst, Dl.wfList, Dl.wfCat, Dl.wSetOwn, Dl.wApp, Dl.wFreeze, Dl.wFreezeD, Dl.wIsi, Dl.wChain, Dl.wIfE, Dl.wSeq, Dl.wRng1, Dl.wRng2, Dl.wLc, Dl.wLcOwn, Dl.wFor, Dl.wPar, Dl.wDPut, Dl.wGet2, Dl.wLend, Dl.wLendT, Dl.wFld, Dl.wProp, Dl.wMeth, Dl.wMethK, Dl.wMakeM, Dl.wMakeMn, Dl.fMakeM, Dl.wStar, Dl.wSl, Dl.wNoP, Dl.wPart, Dl.wItOwn, Dl.wEnT, Dl.wEnL, Dl.wRaise1, Dl.wRaise2, Dl.wFldOwn, Dl.wMaxD, Dl.wDct0, Dl.wYes, Dl.fOwn, Dl.fOwnX, Dl.fOwnNe, Dl.fOwnNeX, Dl.fOwnIn, Dl.fOwnNotIn, Dl.fOwnLen, Dl.fOwnBool, Dl.gt, Dl.isB_bl, Dl.tru_bl, Dl.optI_some, Dl.slV_val, Dl.ownL_own, Dl.ownDI_own, Dl.lendI_own, Dl.lendI_ownD, Dl.seqI_tup, Dl.seqI_lst, Dl.tupI_tup, Dl.lstI_lst, Dl.intI_int, Dl.dctI_dct, Dl.keyI_int, Dl.insI_ins, Dl.ownIi_own, Dl.excI_exc, Dl.fOne_one, Dl.fI0_int, Dl.fI2_int, Dl.fLen_tup, Dl.fLen_lst, Dl.fTuple_tup, Dl.fTuple_lst, Dl.fInt_int, Dl.fInt_bl, Dl.fAdd_int, Dl.fAdd_tup, Dl.fAdd_lst, Dl.fNeg_int, Dl.fSl_tup, Dl.fSl_lst, Dl.gwTup_tup, Dl.gwUnl_lst, Dl.gwCons_cons, Dl.gwNil_nil, Dl.gwName_eq, Dl.lcD_nil, Dl.wipeS, List.set, if_true, if_false, Bool.false_eq_true, Bool.not_true, Bool.not_false, ite_true, ite_false])
        have e3 : (ds.map isAge).all id = ds.all isAge := by rw [List.all_map]; rfl
        rw [e3]
        refine iteB (fun c => ?_) (fun c => ?_)
        · obtain ⟨ns, rfl, hn⟩ := ages_ints c
          refine ⟨ns, rfl, fun z => ne (by rw [z]; rfl), by have := hp.2; rw [List.length_map] at this; exact this, ?_⟩
          have e4 : (sumOf (.tup (ns.map .int))).isSome = asc ns := by
            simp only [sumOf]
            have e0 : (ns.map D.int).isEmpty = false := by cases ns with
              | nil => exact absurd rfl ne
              | cons a r => rfl
            rw [e0, c, intsOf_map]
            dsimp only
            cases asc ns <;> rfl
          rw [e4] at q
          exact q
        · have e4 : (sumOf (.tup ds)).isSome = false := by
            simp only [sumOf, c, Bool.and_false]
            rfl
          rw [e4] at q
          exact q
  | _ =>
    simp only [tyB]
    first
      | ((try simp only [Dl.wRet, Dl.wRetN, Dl.wThen, Dl.wIf, Dl.wOr, Dl.wAnd, Dl.wNot, Dl.wNotV, Dl.wAndV, Dl.wOrV, Dl.wB, Dl.wTru, Dl.wOp, Dl.wUn, Dl.wVar, Dl.wC, Dl.wF, Dl.wCons, Dl.wNil, Dl.wTup, Dl.wLst, Dl.wSet, Dl.wAsg, Dl.wNext, Dl.wDrop, Dl.wFz, Dl.wfLst, Dl.wfList, Dl.wfCat, Dl.wSetOwn, Dl.wApp, Dl.wFreeze, Dl.wFreezeD, Dl.wIsi, Dl.wChain, Dl.wIfE, Dl.wSeq, Dl.wRng1, Dl.wRng2, Dl.wLc, Dl.wLcOwn, Dl.wFor, Dl.wPar, Dl.wDPut, Dl.wGet2, Dl.wLend, Dl.wLendT, Dl.wFld, Dl.wProp, Dl.wMeth, Dl.wMethK, Dl.wMakeM, Dl.wMakeMn, Dl.fMakeM, Dl.wStar, Dl.wSl, Dl.wNoP, Dl.wPart, Dl.wItOwn, Dl.wEnT, Dl.wEnL, Dl.wRaise1, Dl.wRaise2, Dl.wFldOwn, Dl.wMaxD, Dl.wDct0, Dl.wYes, Dl.fOwn, Dl.fOwnX, Dl.fOwnNe, Dl.fOwnNeX, Dl.fOwnIn, Dl.fOwnNotIn, Dl.fOwnLen, Dl.fOwnBool, Dl.gt, Dl.isB_bl, Dl.tru_bl, Dl.optI_some, Dl.slV_val, Dl.ownL_own, Dl.ownDI_own, Dl.lendI_own, Dl.lendI_ownD, Dl.seqI_tup, Dl.seqI_lst, Dl.tupI_tup, Dl.lstI_lst, Dl.intI_int, Dl.dctI_dct, Dl.keyI_int, Dl.insI_ins, Dl.ownIi_own, Dl.excI_exc, Dl.fOne_one, Dl.fI0_int, Dl.fI2_int, Dl.fLen_tup, Dl.fLen_lst, Dl.fTuple_tup, Dl.fTuple_lst, Dl.fInt_int, Dl.fInt_bl, Dl.fAdd_int, Dl.fAdd_tup, Dl.fAdd_lst, Dl.fNeg_int, Dl.fSl_tup, Dl.fSl_lst, Dl.gwTup_tup, Dl.gwUnl_lst, Dl.gwCons_cons, Dl.gwNil_nil, Dl.gwName_eq, Dl.lcD_nil, Dl.wipeS, List.set, if_true, if_false, Bool.false_eq_true, Bool.not_true, Bool.not_false, ite_true, ite_false]); exact q)
      | cases hp
end
end Lz

set_option Elab.async false
set_option linter.all false
set_option maxRecDepth 100000
set_option maxHeartbeats 4000000
namespace Lz
open PySem PySem.Spec PyProof.Rows L2 LamX Dl
/-! ### sums compared -/
def pyS (s : List Int) : PyData := .tuple (s.map .int)
theorem toPys_ints : ∀ s : List Int, toPys (s.map D.int) = some (s.map PyData.int)
  | [] => rfl
  | i :: s => by simp only [List.map_cons, toPys, toPy, toPys_ints s]
theorem toPy_sum (s : List Int) : toPy (sumD s) = some (pyS s) := by
  unfold sumD pyS
  simp only [toPy, toPys_ints]
theorem toPys_sums : ∀ ss : List (List Int), toPys (ss.map sumD) = some (ss.map pyS)
  | [] => rfl
  | s :: ss => by simp only [List.map_cons, toPys, toPy_sum, toPys_sums ss]
theorem canlay_ints : ∀ ns : List Int, PyData.canLayAll0 (ns.map PyData.int) = true
  | [] => by simp [PyData.canLayAll0]
  | n :: ns => by simp [PyData.canLayAll0, PyData.canLay0, canlay_ints ns]
theorem depth_ints : ∀ ns : List Int, PyData.depthAll (ns.map PyData.int) ≤ 1
  | [] => by simp [PyData.depthAll]
  | n :: ns => by have := depth_ints ns; simp [PyData.depthAll, PyData.depth]; omega
theorem canlay_sums : ∀ ss : List (List Int), PyData.canLayAll0 (ss.map pyS) = true
  | [] => by simp [PyData.canLayAll0]
  | s :: ss => by simp [PyData.canLayAll0, pyS, PyData.canLay0, canlay_ints s, canlay_sums ss]
theorem depth_sums : ∀ ss : List (List Int), PyData.depthAll (ss.map pyS) ≤ 2
  | [] => by simp [PyData.depthAll]
  | s :: ss => by
    have := depth_sums ss
    have := depth_ints s
    simp [PyData.depthAll, pyS, PyData.depth]
    omega
theorem shaped_sum (s : List Int) : SeqAt.shaped (pyS s) = true := by
  have := depth_ints s
  simp [SeqAt.shaped, pyS, PyData.canLay0, canlay_ints s, PyData.depth]
  omega
theorem shaped_sums (ss : List (List Int)) : SeqAt.shaped (.tuple (ss.map pyS)) = true := by
  have := depth_sums ss
  simp [SeqAt.shaped, PyData.canLay0, canlay_sums ss, PyData.depth]
  omega
theorem shaped_sumsL (ss : List (List Int)) : SeqAt.shaped (.list (ss.map pyS)) = true := by
  have := depth_sums ss
  simp [SeqAt.shaped, PyData.canLay0, canlay_sums ss, PyData.depth]
  omega
theorem eqvAll_ints : ∀ a b : List Int, PyData.eqvAll (a.map PyData.int) (b.map PyData.int) = decide (a = b)
  | [], [] => rfl
  | [], _ :: _ => rfl
  | _ :: _, [] => rfl
  | x :: a, y :: b => by
    show (x == y && PyData.eqvAll (a.map PyData.int) (b.map PyData.int)) = _
    rw [eqvAll_ints a b]
    by_cases h : x = y
    · subst h
      by_cases k : a = b
      · subst k; simp
      · simp [k]
    · simp [h]
theorem eqv_sum (a b : List Int) : PyData.eqv (pyS a) (pyS b) = decide (a = b) := by
  unfold pyS
  simp only [PyData.eqv]
  exact eqvAll_ints a b
theorem eqvAll_sums : ∀ a b : List (List Int), PyData.eqvAll (a.map pyS) (b.map pyS) = decide (a = b)
  | [], [] => rfl
  | [], _ :: _ => rfl
  | _ :: _, [] => rfl
  | x :: a, y :: b => by
    show (PyData.eqv (pyS x) (pyS y) && PyData.eqvAll (a.map pyS) (b.map pyS)) = _
    rw [eqvAll_sums a b, eqv_sum]
    by_cases h : x = y
    · subst h
      by_cases k : a = b
      · subst k; simp
      · simp [k]
    · simp [h]
theorem anyEq_sums (ss : List (List Int)) (s : List Int) : anyEq (ss.map pyS) (pyS s) = decide (s ∈ ss) := by
  unfold anyEq
  induction ss with
  | nil => rfl
  | cons a ss ih =>
    rw [List.map_cons, List.any_cons, ih, eqv_sum]
    by_cases h : a = s
    · subst h; simp
    · have h' : s ≠ a := fun z => h z.symm
      simp [h, h']
theorem toPy_ssD (ss : List (List Int)) : toPy (ssD ss) = some (.tuple (ss.map pyS)) := by
  unfold ssD
  simp only [toPy, toPys_sums]
theorem toPy_ssL (ss : List (List Int)) : toPy (.lst (ss.map sumD)) = some (.list (ss.map pyS)) := by
  simp only [toPy, toPys_sums]
section
variable {K : PySem.W.Frag} {d : D} {n : Nat} {k : KD} {x : KX} {ds : List D} {s : List Int} {ss : List (List Int)}
theorem in_tup {neg : Bool} (q : k (.bl (if neg = true then !decide (s ∈ ss) else decide (s ∈ ss))) n) : fInS neg (sumD s) (.tup (ss.map sumD)) n k x := by
  refine pyv_of (toPy_sum s) (shaped_sum s) (pyv_of (toPy_ssD ss) (shaped_sums ss) ?_)
  show k (.bl (if neg = true then !anyEq (ss.map pyS) (pyS s) else anyEq (ss.map pyS) (pyS s))) n
  rw [anyEq_sums]
  exact q
theorem in_lst {neg : Bool} (q : k (.bl (if neg = true then !decide (s ∈ ss) else decide (s ∈ ss))) n) : fInS neg (sumD s) (.lst (ss.map sumD)) n k x := by
  refine pyv_of (toPy_sum s) (shaped_sum s) (pyv_of (toPy_ssL ss) (shaped_sumsL ss) ?_)
  show k (.bl (if neg = true then !anyEq (ss.map pyS) (pyS s) else anyEq (ss.map pyS) (pyS s))) n
  rw [anyEq_sums]
  exact q
theorem cmp_sum : cmpD (sumD s) = true := by
  unfold cmpD
  rw [toPy_sum]
  exact shaped_sum s
theorem cmp_ss : cmpD (ssD ss) = true := by
  unfold cmpD
  rw [toPy_ssD]
  exact shaped_sums ss
theorem cmp_ssL : cmpD (.lst (ss.map sumD)) = true := by
  unfold cmpD
  rw [toPy_ssL]
  exact shaped_sumsL ss
theorem eqD_sum {a b : List Int} : eqD (sumD a) (sumD b) = decide (a = b) := by
  unfold eqD
  rw [toPy_sum, toPy_sum]
  exact eqv_sum a b
theorem eqD_ss {a b : List (List Int)} : eqD (ssD a) (ssD b) = decide (a = b) := by
  unfold eqD
  rw [toPy_ssD, toPy_ssD]
  simp only [PyData.eqv]
  exact eqvAll_sums a b
theorem eqD_ssL {a b : List (List Int)} : eqD (.lst (a.map sumD)) (.lst (b.map sumD)) = decide (a = b) := by
  unfold eqD
  rw [toPy_ssL, toPy_ssL]
  simp only [PyData.eqv]
  exact eqvAll_sums a b
/-! ### the program's defs -/
theorem badAt_none : ∀ {r : List D} {i : Nat} {acc : List (List Int)}, badAt i acc r = none → acc.Nodup → ∃ rs, r = rs.map sumD ∧ (∀ s ∈ rs, okS s) ∧ (acc ++ rs).Nodup
  | [], i, acc, _, hn => ⟨[], rfl, (fun _ h => by cases h), by rw [List.append_nil]; exact hn⟩
  | d :: r, i, acc, h, hn => by
    unfold badAt at h
    cases e : sumOf d with
    | none => rw [e] at h; cases h
    | some s =>
      rw [e] at h
      dsimp only at h
      by_cases c : s ∈ acc
      · rw [if_pos c] at h; cases h
      · rw [if_neg c] at h
        obtain ⟨rfl, ok⟩ := sumOf_some e
        obtain ⟨rs, rfl, h1, h2⟩ := badAt_none h (by
          rw [List.nodup_append]
          refine ⟨hn, by simp, fun a ha b hb => ?_⟩
          rw [List.mem_singleton.mp hb]
          exact fun z => c (z ▸ ha))
        refine ⟨s :: rs, rfl, fun t ht => ?_, by rw [List.append_assoc] at h2; exact h2⟩
        rcases List.mem_cons.mp ht with rfl | ht
        · exact ok
        · exact h1 t ht
theorem cutD_take {ds : List D} {i : Nat} : cutD ds none (some (i : Int)) = ds.take i := by
  unfold Dl.cutD
  rw [HT.sIx_nat]
  show (ds.drop 0).take (min i ds.length - 0) = ds.take i
  rw [List.drop_zero, Nat.sub_zero, ← List.take_eq_take_min]
theorem init_loop {m : D} {x0 : Addr} {E : DEnds} (hl : ds.length ≤ 1000) (hp : ds.all pln2 = true) : ∀ (r pre : List D) (acc : List (List Int)) (s3 s4 : Sl), ds = pre ++ r → pre = acc.map sumD → acc.Nodup →
    (match badAt pre.length acc r with
      | some i => x (ga K "BadTick", [("part", .int (i : Int))]) n
      | none => ∀ s3 s4, E.nx [.ownI x0 (ga K "Tick") [], .val m, .val (.tup ds), s3, s4] n) →
    forD (gwTup (gwCons (gwName 3) (gwCons (gwName 4) gwNil)))
      (wIf (wOr (wNot (wTru (wF (c_is_sum K) (wCons (wVar 4) wNil)))) (wB (wOp (fInS false) (wVar 4) (wSl (wVar 2) wNoP (wPart (wVar 3)))))) (wRaise1 (ga K "BadTick") "part" (wVar 3)) wNext) E x (enumD pre.length r) [.ownI x0 (ga K "Tick") [], .val m, .val (.tup ds), s3, s4] n
  | [], pre, acc, s3, s4, _, _, _, q => q s3 s4
  | d :: r, pre, acc, s3, s4, e, ep, hn, q => by
    simp only [enumD, forD]
    (try simp only [Dl.wRet, Dl.wRetN, Dl.wThen, Dl.wIf, Dl.wOr, Dl.wAnd, Dl.wNot, Dl.wNotV, Dl.wAndV, Dl.wOrV, Dl.wB, Dl.wTru, Dl.wOp, Dl.wUn, Dl.wVar, Dl.wC, Dl.wF, Dl.wCons, Dl.wNil, Dl.wTup, Dl.wLst, Dl.wSet, Dl.wAsg, Dl.wNext, Dl.wDrop, Dl.wFz, Dl.wfLst, Dl.wfList, Dl.wfCat, Dl.wSetOwn, Dl.wApp, Dl.wFreeze, Dl.wFreezeD, Dl.wIsi, Dl.wChain, Dl.wIfE, Dl.wSeq, Dl.wRng1, Dl.wRng2, Dl.wLc, Dl.wLcOwn, Dl.wFor, Dl.wPar, Dl.wDPut, Dl.wGet2, Dl.wLend, Dl.wLendT, Dl.wFld, Dl.wProp, Dl.wMeth, Dl.wMethK, Dl.wMakeM, Dl.wMakeMn, Dl.fMakeM, Dl.wStar, Dl.wSl, Dl.wNoP, Dl.wPart, Dl.wItOwn, Dl.wEnT, Dl.wEnL, Dl.wRaise1, Dl.wRaise2, Dl.wFldOwn, Dl.wMaxD, Dl.wDct0, Dl.wYes, Dl.fOwn, Dl.fOwnX, Dl.fOwnNe, Dl.fOwnNeX, Dl.fOwnIn, Dl.fOwnNotIn, Dl.fOwnLen, Dl.fOwnBool, Dl.gt, Dl.isB_bl, Dl.tru_bl, Dl.optI_some, Dl.slV_val, Dl.ownL_own, Dl.ownDI_own, Dl.lendI_own, Dl.lendI_ownD, Dl.seqI_tup, Dl.seqI_lst, Dl.tupI_tup, Dl.lstI_lst, Dl.intI_int, Dl.dctI_dct, Dl.keyI_int, Dl.insI_ins, Dl.ownIi_own, Dl.excI_exc, Dl.fOne_one, Dl.fI0_int, Dl.fI2_int, Dl.fLen_tup, Dl.fLen_lst, Dl.fTuple_tup, Dl.fTuple_lst, Dl.fInt_int, Dl.fInt_bl, Dl.fAdd_int, Dl.fAdd_tup, Dl.fAdd_lst, Dl.fNeg_int, Dl.fSl_tup, Dl.fSl_lst, Dl.gwTup_tup, Dl.gwUnl_lst, Dl.gwCons_cons, Dl.gwNil_nil, Dl.gwName_eq, Dl.lcD_nil, Dl.wipeS, List.set, if_true, if_false, Bool.false_eq_true, Bool.not_true, Bool.not_false, ite_true, ite_false])
    have hd : pln2 d = true := by
      refine List.all_eq_true.mp hp d ?_
      rw [e]
      simp
    refine ⟨hd, ?_⟩
    unfold badAt at q
    cases es : sumOf d with
    | none =>
      rw [es] at q
      exact q
    | some s =>
      rw [es] at q
      dsimp only at q
      obtain ⟨rfl, ok⟩ := sumOf_some es
      simp only [Option.isSome_some]
      (try simp only [Dl.wRet, Dl.wRetN, Dl.wThen, Dl.wIf, Dl.wOr, Dl.wAnd, Dl.wNot, Dl.wNotV, Dl.wAndV, Dl.wOrV, Dl.wB, Dl.wTru, Dl.wOp, Dl.wUn, Dl.wVar, Dl.wC, Dl.wF, Dl.wCons, Dl.wNil, Dl.wTup, Dl.wLst, Dl.wSet, Dl.wAsg, Dl.wNext, Dl.wDrop, Dl.wFz, Dl.wfLst, Dl.wfList, Dl.wfCat, Dl.wSetOwn, Dl.wApp, Dl.wFreeze, Dl.wFreezeD, Dl.wIsi, Dl.wChain, Dl.wIfE, Dl.wSeq, Dl.wRng1, Dl.wRng2, Dl.wLc, Dl.wLcOwn, Dl.wFor, Dl.wPar, Dl.wDPut, Dl.wGet2, Dl.wLend, Dl.wLendT, Dl.wFld, Dl.wProp, Dl.wMeth, Dl.wMethK, Dl.wMakeM, Dl.wMakeMn, Dl.fMakeM, Dl.wStar, Dl.wSl, Dl.wNoP, Dl.wPart, Dl.wItOwn, Dl.wEnT, Dl.wEnL, Dl.wRaise1, Dl.wRaise2, Dl.wFldOwn, Dl.wMaxD, Dl.wDct0, Dl.wYes, Dl.fOwn, Dl.fOwnX, Dl.fOwnNe, Dl.fOwnNeX, Dl.fOwnIn, Dl.fOwnNotIn, Dl.fOwnLen, Dl.fOwnBool, Dl.gt, Dl.isB_bl, Dl.tru_bl, Dl.optI_some, Dl.slV_val, Dl.ownL_own, Dl.ownDI_own, Dl.lendI_own, Dl.lendI_ownD, Dl.seqI_tup, Dl.seqI_lst, Dl.tupI_tup, Dl.lstI_lst, Dl.intI_int, Dl.dctI_dct, Dl.keyI_int, Dl.insI_ins, Dl.ownIi_own, Dl.excI_exc, Dl.fOne_one, Dl.fI0_int, Dl.fI2_int, Dl.fLen_tup, Dl.fLen_lst, Dl.fTuple_tup, Dl.fTuple_lst, Dl.fInt_int, Dl.fInt_bl, Dl.fAdd_int, Dl.fAdd_tup, Dl.fAdd_lst, Dl.fNeg_int, Dl.fSl_tup, Dl.fSl_lst, Dl.gwTup_tup, Dl.gwUnl_lst, Dl.gwCons_cons, Dl.gwNil_nil, Dl.gwName_eq, Dl.lcD_nil, Dl.wipeS, List.set, if_true, if_false, Bool.false_eq_true, Bool.not_true, Bool.not_false, ite_true, ite_false])
      have ec : cutD ds none (some ((pre.length : Nat) : Int)) = acc.map sumD := by
        rw [cutD_take, e, List.take_left, ep]
      rw [ec]
      refine in_tup ?_
      (try simp only [Dl.wRet, Dl.wRetN, Dl.wThen, Dl.wIf, Dl.wOr, Dl.wAnd, Dl.wNot, Dl.wNotV, Dl.wAndV, Dl.wOrV, Dl.wB, Dl.wTru, Dl.wOp, Dl.wUn, Dl.wVar, Dl.wC, Dl.wF, Dl.wCons, Dl.wNil, Dl.wTup, Dl.wLst, Dl.wSet, Dl.wAsg, Dl.wNext, Dl.wDrop, Dl.wFz, Dl.wfLst, Dl.wfList, Dl.wfCat, Dl.wSetOwn, Dl.wApp, Dl.wFreeze, Dl.wFreezeD, Dl.wIsi, Dl.wChain, Dl.wIfE, Dl.wSeq, Dl.wRng1, Dl.wRng2, Dl.wLc, Dl.wLcOwn, Dl.wFor, Dl.wPar, Dl.wDPut, Dl.wGet2, Dl.wLend, Dl.wLendT, Dl.wFld, Dl.wProp, Dl.wMeth, Dl.wMethK, Dl.wMakeM, Dl.wMakeMn, Dl.fMakeM, Dl.wStar, Dl.wSl, Dl.wNoP, Dl.wPart, Dl.wItOwn, Dl.wEnT, Dl.wEnL, Dl.wRaise1, Dl.wRaise2, Dl.wFldOwn, Dl.wMaxD, Dl.wDct0, Dl.wYes, Dl.fOwn, Dl.fOwnX, Dl.fOwnNe, Dl.fOwnNeX, Dl.fOwnIn, Dl.fOwnNotIn, Dl.fOwnLen, Dl.fOwnBool, Dl.gt, Dl.isB_bl, Dl.tru_bl, Dl.optI_some, Dl.slV_val, Dl.ownL_own, Dl.ownDI_own, Dl.lendI_own, Dl.lendI_ownD, Dl.seqI_tup, Dl.seqI_lst, Dl.tupI_tup, Dl.lstI_lst, Dl.intI_int, Dl.dctI_dct, Dl.keyI_int, Dl.insI_ins, Dl.ownIi_own, Dl.excI_exc, Dl.fOne_one, Dl.fI0_int, Dl.fI2_int, Dl.fLen_tup, Dl.fLen_lst, Dl.fTuple_tup, Dl.fTuple_lst, Dl.fInt_int, Dl.fInt_bl, Dl.fAdd_int, Dl.fAdd_tup, Dl.fAdd_lst, Dl.fNeg_int, Dl.fSl_tup, Dl.fSl_lst, Dl.gwTup_tup, Dl.gwUnl_lst, Dl.gwCons_cons, Dl.gwNil_nil, Dl.gwName_eq, Dl.lcD_nil, Dl.wipeS, List.set, if_true, if_false, Bool.false_eq_true, Bool.not_true, Bool.not_false, ite_true, ite_false])
      refine iteB (fun c => ?_) (fun c => ?_)
      · have c := of_decide_eq_true c
        rw [if_pos c] at q
        exact q
      · have c := of_decide_eq_false c
        rw [if_neg c] at q
        have hn' : (acc ++ [s]).Nodup := by
          rw [List.nodup_append]
          refine ⟨hn, by simp, fun a ha b hb => ?_⟩
          rw [List.mem_singleton.mp hb]
          exact fun z => c (z ▸ ha)
        have := init_loop hl hp r (pre ++ [sumD s]) (acc ++ [s]) (.val (.int (pre.length : Nat))) (.val (sumD s)) (by rw [e, List.append_assoc]; rfl) (by rw [ep, List.map_append]; rfl) hn' (E := E) (by rw [List.length_append]; exact q)
        rw [List.length_append] at this
        exact this
end
end Lz

set_option Elab.async false
set_option linter.all false
set_option maxRecDepth 100000
set_option maxHeartbeats 4000000
namespace Lz
open PySem PySem.Spec PyProof.Rows L2 LamX Dl
section
variable {K : PySem.W.Frag} {d : D} {n : Nat} {k : KD} {x : KX} {ds : List D} {s : List Int} {ss : List (List Int)}
theorem asc_len : ∀ (s : List Int) (a : Int), asc (a :: s) = true → (∀ i ∈ a :: s, i ≤ 8) → (s.length : Int) ≤ 8 - a
  | [], a, _, h => by have := h a List.mem_cons_self; simp; omega
  | b :: r, a, h, hb => by
    unfold asc at h
    rw [Bool.and_eq_true] at h
    have h1 := of_decide_eq_true h.1
    have := asc_len r b h.2 fun i hi => hb i (List.mem_cons_of_mem _ hi)
    rw [List.length_cons]
    omega
theorem okS_len {s : List Int} (h : okS s) : s.length ≤ 9 := by
  cases s with
  | nil => simp
  | cons a r =>
    have h1 := asc_len r a h.2.2 fun i hi => (h.2.1 i hi).2
    have h2 := h.2.1 a List.mem_cons_self
    rw [List.length_cons]
    omega
theorem head0_sum (h : okS s) : head0 (sumD s) = (s.head? == some 0) := by
  unfold head0
  rw [sumOf_sumD h]
theorem atI_head {s : List Int} (h : s ≠ []) : ∃ a, s.head? = some a ∧ atI (s.map D.int) 0 = some (.int a) := by
  cases s with
  | nil => exact absurd rfl h
  | cons a r => exact ⟨a, rfl, atI_nat (j := 0) (v := D.int a) rfl⟩
theorem dt_Tick_init {x0 : Addr} {k : List (Str × D) → Nat → Prop} (h : c_Tick_init K ds n k x) :
    W_Tick_init K (startI ["self", "mute", "sums", "at", "ages"] x0 (ga K "Tick") ds) n { nx := fun S' n' => ownIi (ga K "Tick") (gt S' 0) fun a fs => a = x0 ∧ k fs n', rt := fun _ _ => False } x := by
  match ds, h with
  | [.bl m, .tup ds], h =>
    obtain ⟨hp, hl, q⟩ := h
    show W_Tick_init K [.ownI x0 (ga K "Tick") [], .val (.bl m), .val (.tup ds), .un, .un] n _ x
    unfold W_Tick_init
    (try simp only [Dl.wRet, Dl.wRetN, Dl.wThen, Dl.wIf, Dl.wOr, Dl.wAnd, Dl.wNot, Dl.wNotV, Dl.wAndV, Dl.wOrV, Dl.wB, Dl.wTru, Dl.wOp, Dl.wUn, Dl.wVar, Dl.wC, Dl.wF, Dl.wCons, Dl.wNil, Dl.wTup, Dl.wLst, Dl.wSet, Dl.wAsg, Dl.wNext, Dl.wDrop, Dl.wFz, Dl.wfLst, Dl.wfList, Dl.wfCat, Dl.wSetOwn, Dl.wApp, Dl.wFreeze, Dl.wFreezeD, Dl.wIsi, Dl.wChain, Dl.wIfE, Dl.wSeq, Dl.wRng1, Dl.wRng2, Dl.wLc, Dl.wLcOwn, Dl.wFor, Dl.wPar, Dl.wDPut, Dl.wGet2, Dl.wLend, Dl.wLendT, Dl.wFld, Dl.wProp, Dl.wMeth, Dl.wMethK, Dl.wMakeM, Dl.wMakeMn, Dl.fMakeM, Dl.wStar, Dl.wSl, Dl.wNoP, Dl.wPart, Dl.wItOwn, Dl.wEnT, Dl.wEnL, Dl.wRaise1, Dl.wRaise2, Dl.wFldOwn, Dl.wMaxD, Dl.wDct0, Dl.wYes, Dl.fOwn, Dl.fOwnX, Dl.fOwnNe, Dl.fOwnNeX, Dl.fOwnIn, Dl.fOwnNotIn, Dl.fOwnLen, Dl.fOwnBool, Dl.gt, Dl.isB_bl, Dl.tru_bl, Dl.optI_some, Dl.slV_val, Dl.ownL_own, Dl.ownDI_own, Dl.lendI_own, Dl.lendI_ownD, Dl.seqI_tup, Dl.seqI_lst, Dl.tupI_tup, Dl.lstI_lst, Dl.intI_int, Dl.dctI_dct, Dl.keyI_int, Dl.insI_ins, Dl.ownIi_own, Dl.excI_exc, Dl.fOne_one, Dl.fI0_int, Dl.fI2_int, Dl.fLen_tup, Dl.fLen_lst, Dl.fTuple_tup, Dl.fTuple_lst, Dl.fInt_int, Dl.fInt_bl, Dl.fAdd_int, Dl.fAdd_tup, Dl.fAdd_lst, Dl.fNeg_int, Dl.fSl_tup, Dl.fSl_lst, Dl.gwTup_tup, Dl.gwUnl_lst, Dl.gwCons_cons, Dl.gwNil_nil, Dl.gwName_eq, Dl.lcD_nil, Dl.wipeS, List.set, if_true, if_false, Bool.false_eq_true, Bool.not_true, Bool.not_false, ite_true, ite_false])
    refine init_loop (by omega) hp ds [] [] .un .un rfl rfl List.nodup_nil ?_
    show (match badAt 0 [] ds with
      | some i => x (ga K "BadTick", [("part", .int (i : Int))]) n
      | none => _)
    cases e : badAt 0 [] ds with
    | some i => rw [e] at q; exact q
    | none =>
      rw [e] at q
      dsimp only at q
      intro s3 s4
      obtain ⟨ss, rfl, hs, hn⟩ := badAt_none e List.nodup_nil
      (try simp only [Dl.wRet, Dl.wRetN, Dl.wThen, Dl.wIf, Dl.wOr, Dl.wAnd, Dl.wNot, Dl.wNotV, Dl.wAndV, Dl.wOrV, Dl.wB, Dl.wTru, Dl.wOp, Dl.wUn, Dl.wVar, Dl.wC, Dl.wF, Dl.wCons, Dl.wNil, Dl.wTup, Dl.wLst, Dl.wSet, Dl.wAsg, Dl.wNext, Dl.wDrop, Dl.wFz, Dl.wfLst, Dl.wfList, Dl.wfCat, Dl.wSetOwn, Dl.wApp, Dl.wFreeze, Dl.wFreezeD, Dl.wIsi, Dl.wChain, Dl.wIfE, Dl.wSeq, Dl.wRng1, Dl.wRng2, Dl.wLc, Dl.wLcOwn, Dl.wFor, Dl.wPar, Dl.wDPut, Dl.wGet2, Dl.wLend, Dl.wLendT, Dl.wFld, Dl.wProp, Dl.wMeth, Dl.wMethK, Dl.wMakeM, Dl.wMakeMn, Dl.fMakeM, Dl.wStar, Dl.wSl, Dl.wNoP, Dl.wPart, Dl.wItOwn, Dl.wEnT, Dl.wEnL, Dl.wRaise1, Dl.wRaise2, Dl.wFldOwn, Dl.wMaxD, Dl.wDct0, Dl.wYes, Dl.fOwn, Dl.fOwnX, Dl.fOwnNe, Dl.fOwnNeX, Dl.fOwnIn, Dl.fOwnNotIn, Dl.fOwnLen, Dl.fOwnBool, Dl.gt, Dl.isB_bl, Dl.tru_bl, Dl.optI_some, Dl.slV_val, Dl.ownL_own, Dl.ownDI_own, Dl.lendI_own, Dl.lendI_ownD, Dl.seqI_tup, Dl.seqI_lst, Dl.tupI_tup, Dl.lstI_lst, Dl.intI_int, Dl.dctI_dct, Dl.keyI_int, Dl.insI_ins, Dl.ownIi_own, Dl.excI_exc, Dl.fOne_one, Dl.fI0_int, Dl.fI2_int, Dl.fLen_tup, Dl.fLen_lst, Dl.fTuple_tup, Dl.fTuple_lst, Dl.fInt_int, Dl.fInt_bl, Dl.fAdd_int, Dl.fAdd_tup, Dl.fAdd_lst, Dl.fNeg_int, Dl.fSl_tup, Dl.fSl_lst, Dl.gwTup_tup, Dl.gwUnl_lst, Dl.gwCons_cons, Dl.gwNil_nil, Dl.gwName_eq, Dl.lcD_nil, Dl.wipeS, List.set, if_true, if_false, Bool.false_eq_true, Bool.not_true, Bool.not_false, ite_true, ite_false])
      refine iteB (fun c => ?_) (fun c => ?_)
      · have c := of_decide_eq_true c
        rw [if_pos (by omega)] at q
        exact q
      · have c := of_decide_eq_false c
        rw [if_neg (by omega)] at q
        rw [show tyB "bool" (Cs K) (.bl m) = some true from rfl]
        (try simp only [Dl.wRet, Dl.wRetN, Dl.wThen, Dl.wIf, Dl.wOr, Dl.wAnd, Dl.wNot, Dl.wNotV, Dl.wAndV, Dl.wOrV, Dl.wB, Dl.wTru, Dl.wOp, Dl.wUn, Dl.wVar, Dl.wC, Dl.wF, Dl.wCons, Dl.wNil, Dl.wTup, Dl.wLst, Dl.wSet, Dl.wAsg, Dl.wNext, Dl.wDrop, Dl.wFz, Dl.wfLst, Dl.wfList, Dl.wfCat, Dl.wSetOwn, Dl.wApp, Dl.wFreeze, Dl.wFreezeD, Dl.wIsi, Dl.wChain, Dl.wIfE, Dl.wSeq, Dl.wRng1, Dl.wRng2, Dl.wLc, Dl.wLcOwn, Dl.wFor, Dl.wPar, Dl.wDPut, Dl.wGet2, Dl.wLend, Dl.wLendT, Dl.wFld, Dl.wProp, Dl.wMeth, Dl.wMethK, Dl.wMakeM, Dl.wMakeMn, Dl.fMakeM, Dl.wStar, Dl.wSl, Dl.wNoP, Dl.wPart, Dl.wItOwn, Dl.wEnT, Dl.wEnL, Dl.wRaise1, Dl.wRaise2, Dl.wFldOwn, Dl.wMaxD, Dl.wDct0, Dl.wYes, Dl.fOwn, Dl.fOwnX, Dl.fOwnNe, Dl.fOwnNeX, Dl.fOwnIn, Dl.fOwnNotIn, Dl.fOwnLen, Dl.fOwnBool, Dl.gt, Dl.isB_bl, Dl.tru_bl, Dl.optI_some, Dl.slV_val, Dl.ownL_own, Dl.ownDI_own, Dl.lendI_own, Dl.lendI_ownD, Dl.seqI_tup, Dl.seqI_lst, Dl.tupI_tup, Dl.lstI_lst, Dl.intI_int, Dl.dctI_dct, Dl.keyI_int, Dl.insI_ins, Dl.ownIi_own, Dl.excI_exc, Dl.fOne_one, Dl.fI0_int, Dl.fI2_int, Dl.fLen_tup, Dl.fLen_lst, Dl.fTuple_tup, Dl.fTuple_lst, Dl.fInt_int, Dl.fInt_bl, Dl.fAdd_int, Dl.fAdd_tup, Dl.fAdd_lst, Dl.fNeg_int, Dl.fSl_tup, Dl.fSl_lst, Dl.gwTup_tup, Dl.gwUnl_lst, Dl.gwCons_cons, Dl.gwNil_nil, Dl.gwName_eq, Dl.lcD_nil, Dl.wipeS, List.set, if_true, if_false, Bool.false_eq_true, Bool.not_true, Bool.not_false, ite_true, ite_false])
        have fin : ∀ S1 S2 : Sl, k [("sums", .tup (ss.map sumD)), ("mute", .bl m)] n → ([] : List (Str × D)).length < 900 ∧ (putD ("sums" : Str) (D.tup (ss.map sumD)) []).length < 900 ∧ True ∧ k (putD "mute" (.bl m) (putD "sums" (.tup (ss.map sumD)) [])) n := fun _ _ q => ⟨by decide, by show 1 < 900; decide, trivial, q⟩
        refine iteB (fun cm => ?_) (fun cm => ?_)
        · subst cm
          refine ⟨by rw [List.length_map]; rw [List.length_map] at hl; omega, ?_⟩
          refine lc_map (fun d => .bl (head0 d)) (fun d hd m kd q => ?_) ?_
          · obtain ⟨s, hs', rfl⟩ := List.mem_map.mp hd
            have ok := hs s hs'
            obtain ⟨a, ea, ia⟩ := atI_head ok.1
            unfold sumD
            (try simp only [Dl.wRet, Dl.wRetN, Dl.wThen, Dl.wIf, Dl.wOr, Dl.wAnd, Dl.wNot, Dl.wNotV, Dl.wAndV, Dl.wOrV, Dl.wB, Dl.wTru, Dl.wOp, Dl.wUn, Dl.wVar, Dl.wC, Dl.wF, Dl.wCons, Dl.wNil, Dl.wTup, Dl.wLst, Dl.wSet, Dl.wAsg, Dl.wNext, Dl.wDrop, Dl.wFz, Dl.wfLst, Dl.wfList, Dl.wfCat, Dl.wSetOwn, Dl.wApp, Dl.wFreeze, Dl.wFreezeD, Dl.wIsi, Dl.wChain, Dl.wIfE, Dl.wSeq, Dl.wRng1, Dl.wRng2, Dl.wLc, Dl.wLcOwn, Dl.wFor, Dl.wPar, Dl.wDPut, Dl.wGet2, Dl.wLend, Dl.wLendT, Dl.wFld, Dl.wProp, Dl.wMeth, Dl.wMethK, Dl.wMakeM, Dl.wMakeMn, Dl.fMakeM, Dl.wStar, Dl.wSl, Dl.wNoP, Dl.wPart, Dl.wItOwn, Dl.wEnT, Dl.wEnL, Dl.wRaise1, Dl.wRaise2, Dl.wFldOwn, Dl.wMaxD, Dl.wDct0, Dl.wYes, Dl.fOwn, Dl.fOwnX, Dl.fOwnNe, Dl.fOwnNeX, Dl.fOwnIn, Dl.fOwnNotIn, Dl.fOwnLen, Dl.fOwnBool, Dl.gt, Dl.isB_bl, Dl.tru_bl, Dl.optI_some, Dl.slV_val, Dl.ownL_own, Dl.ownDI_own, Dl.lendI_own, Dl.lendI_ownD, Dl.seqI_tup, Dl.seqI_lst, Dl.tupI_tup, Dl.lstI_lst, Dl.intI_int, Dl.dctI_dct, Dl.keyI_int, Dl.insI_ins, Dl.ownIi_own, Dl.excI_exc, Dl.fOne_one, Dl.fI0_int, Dl.fI2_int, Dl.fLen_tup, Dl.fLen_lst, Dl.fTuple_tup, Dl.fTuple_lst, Dl.fInt_int, Dl.fInt_bl, Dl.fAdd_int, Dl.fAdd_tup, Dl.fAdd_lst, Dl.fNeg_int, Dl.fSl_tup, Dl.fSl_lst, Dl.gwTup_tup, Dl.gwUnl_lst, Dl.gwCons_cons, Dl.gwNil_nil, Dl.gwName_eq, Dl.lcD_nil, Dl.wipeS, List.set, if_true, if_false, Bool.false_eq_true, Bool.not_true, Bool.not_false, ite_true, ite_false])
            simp only [fIx, ia]
            refine fEq_int ?_
            rw [head0_sum ok, ea] at q
            have e3 : (some a == some (0 : Int)) = decide (a = 0) := by
              by_cases z : a = 0
              · subst z; rfl
              · simp [z]
            rw [e3] at q
            exact q
          · rw [List.nil_append, show ((ss.map sumD).map fun d => D.bl (head0 d)) = ((ss.map sumD).map head0).map D.bl by rw [List.map_map (g := D.bl)]; rfl]
            show fAny (.lst (List.map D.bl _)) n _ x
            unfold fAny
            rw [blsI_map]
            (try simp only [Dl.wRet, Dl.wRetN, Dl.wThen, Dl.wIf, Dl.wOr, Dl.wAnd, Dl.wNot, Dl.wNotV, Dl.wAndV, Dl.wOrV, Dl.wB, Dl.wTru, Dl.wOp, Dl.wUn, Dl.wVar, Dl.wC, Dl.wF, Dl.wCons, Dl.wNil, Dl.wTup, Dl.wLst, Dl.wSet, Dl.wAsg, Dl.wNext, Dl.wDrop, Dl.wFz, Dl.wfLst, Dl.wfList, Dl.wfCat, Dl.wSetOwn, Dl.wApp, Dl.wFreeze, Dl.wFreezeD, Dl.wIsi, Dl.wChain, Dl.wIfE, Dl.wSeq, Dl.wRng1, Dl.wRng2, Dl.wLc, Dl.wLcOwn, Dl.wFor, Dl.wPar, Dl.wDPut, Dl.wGet2, Dl.wLend, Dl.wLendT, Dl.wFld, Dl.wProp, Dl.wMeth, Dl.wMethK, Dl.wMakeM, Dl.wMakeMn, Dl.fMakeM, Dl.wStar, Dl.wSl, Dl.wNoP, Dl.wPart, Dl.wItOwn, Dl.wEnT, Dl.wEnL, Dl.wRaise1, Dl.wRaise2, Dl.wFldOwn, Dl.wMaxD, Dl.wDct0, Dl.wYes, Dl.fOwn, Dl.fOwnX, Dl.fOwnNe, Dl.fOwnNeX, Dl.fOwnIn, Dl.fOwnNotIn, Dl.fOwnLen, Dl.fOwnBool, Dl.gt, Dl.isB_bl, Dl.tru_bl, Dl.optI_some, Dl.slV_val, Dl.ownL_own, Dl.ownDI_own, Dl.lendI_own, Dl.lendI_ownD, Dl.seqI_tup, Dl.seqI_lst, Dl.tupI_tup, Dl.lstI_lst, Dl.intI_int, Dl.dctI_dct, Dl.keyI_int, Dl.insI_ins, Dl.ownIi_own, Dl.excI_exc, Dl.fOne_one, Dl.fI0_int, Dl.fI2_int, Dl.fLen_tup, Dl.fLen_lst, Dl.fTuple_tup, Dl.fTuple_lst, Dl.fInt_int, Dl.fInt_bl, Dl.fAdd_int, Dl.fAdd_tup, Dl.fAdd_lst, Dl.fNeg_int, Dl.fSl_tup, Dl.fSl_lst, Dl.gwTup_tup, Dl.gwUnl_lst, Dl.gwCons_cons, Dl.gwNil_nil, Dl.gwName_eq, Dl.lcD_nil, Dl.wipeS, List.set, if_true, if_false, Bool.false_eq_true, Bool.not_true, Bool.not_false, ite_true, ite_false])
            have e4 : ((ss.map sumD).map head0).any id = (ss.map sumD).any head0 := by rw [List.any_map]; rfl
            rw [e4]
            refine iteB (fun cc => ?_) (fun cc => ?_)
            · rw [cc] at q
              exact q
            · rw [cc] at q
              exact fin .un .un q
        · subst cm
          exact fin .un .un q
theorem look_sums {m : Bool} : (tickF ss m).lookup ("sums" : Str) = some (ssD ss) := rfl
theorem look_mute {m : Bool} : (tickF ss m).lookup ("mute" : Str) = some (D.bl m) := rfl
end
end Lz

set_option Elab.async false
set_option linter.all false
set_option maxRecDepth 100000
set_option maxHeartbeats 4000000
namespace Lz
open PySem PySem.Spec PyProof.Rows L2 LamX Dl
section
variable {K : PySem.W.Frag} {d : D} {n : Nat} {k : KD} {x : KX} {ds : List D} {s : List Int} {ss : List (List Int)}
theorem atI_last {s : List Int} (h : s ≠ []) : atI (s.map D.int) (-1) = some (.int (lastS s)) := by
  unfold atI
  have hl : 0 < s.length := List.length_pos_iff.mpr h
  have e : ixN (s.map D.int).length (-1) = some (s.length - 1) := by
    rw [List.length_map]
    unfold ixN
    rw [if_neg (by omega), if_pos (by omega)]
    congr 1
    omega
  rw [e]
  show (s.map D.int)[s.length - 1]? = _
  rw [List.getElem?_map, List.getElem?_eq_getElem (by omega)]
  unfold lastS
  rw [List.getLastD_eq_getLast?, List.getLast?_eq_getElem?, List.getElem?_eq_getElem (by omega)]
  rfl
theorem fIx_last {m : Nat} {kd : KD} (h : s ≠ []) (q : kd (.int (lastS s)) m) : fIx (sumD s) (.int (-1)) m kd x := by
  unfold sumD
  simp only [fIx, atI_last h]
  exact q
/-- a sound tick comes of its sums -/
theorem badAt_ok : ∀ {rs : List (List Int)} {i : Nat} {acc : List (List Int)}, (∀ s ∈ rs, okS s) → (acc ++ rs).Nodup → badAt i acc (rs.map sumD) = none
  | [], _, _, _, _ => rfl
  | s :: rs, i, acc, h, hn => by
    show (match sumOf (sumD s) with
      | none => some i
      | some s => if s ∈ acc then some i else badAt (i + 1) (acc ++ [s]) (rs.map sumD)) = none
    rw [sumOf_sumD (h s List.mem_cons_self)]
    dsimp only
    have c : s ∉ acc := fun z => by
      rw [List.nodup_append] at hn
      exact hn.2.2 s z s List.mem_cons_self rfl
    rw [if_neg c]
    exact badAt_ok (fun t ht => h t (List.mem_cons_of_mem _ ht)) (by rw [List.append_assoc]; exact hn)
theorem pln_sum : pln2 (sumD s) = true ↔ s.length ≤ 1000 := by
  unfold sumD
  simp only [pln2, Bool.and_eq_true, decide_eq_true_eq, List.length_map]
  constructor
  · exact fun h => h.2
  · refine fun h => ⟨?_, h⟩
    rw [List.all_eq_true]
    intro d hd
    obtain ⟨i, _, rfl⟩ := List.mem_map.mp hd
    rfl
theorem pln_ok (h : okS s) : pln2 (sumD s) = true := pln_sum.mpr (by have := okS_len h; omega)
theorem init_ok {m : Bool} {k : List (Str × D) → Nat → Prop} (ok : Ok ss m) (q : k (tickF ss m) n) : c_Tick_init K [.bl m, .tup (ss.map sumD)] n k x := by
  have hl := ok.ln
  refine ⟨?_, by rw [List.length_map]; omega, ?_⟩
  · rw [List.all_eq_true]
    intro d hd
    obtain ⟨s, hs, rfl⟩ := List.mem_map.mp hd
    exact pln_ok (ok.sm s hs)
  · rw [badAt_ok (acc := []) ok.sm ok.nd]
    dsimp only
    rw [if_neg (by rw [List.length_map]; omega), if_neg ?_]
    · exact q
    · intro c
      rw [Bool.and_eq_true] at c
      obtain ⟨d, hd, h0⟩ := List.any_eq_true.mp c.2
      obtain ⟨s, hs, rfl⟩ := List.mem_map.mp hd
      rw [head0_sum (ok.sm s hs)] at h0
      exact ok.mu c.1 s hs (by simpa using h0)
theorem Ok.filter {m : Bool} (ok : Ok ss m) (p : List Int → Bool) : Ok (ss.filter p) m :=
  ⟨fun s hs => ok.sm s (List.mem_filter.mp hs).1, ok.nd.filter p, Nat.le_trans (List.length_filter_le ..) ok.ln, fun e s hs => ok.mu e s (List.mem_filter.mp hs).1⟩
theorem tyC_tick (fs : List (Str × D)) : tyC (ga K "Tick") (Cs K) (.ins (ga K "Tick") fs) = some true := by
  show (if ga K "Tick" = ga K "Tick" then some true else _) = some true
  rw [if_pos rfl]
theorem tyC_pln (h : pln d = true) : tyC (ga K "Tick") (Cs K) d = some false := by
  cases d <;> first | rfl | cases h
theorem dt_Tick_eq (h : c_Tick_eq K ds n k x) : W_Tick_eq K (startD ["self", "other"] ds) n { nx := fun _ n' => k .non n', rt := k } x := by
  obtain ⟨ss, m, d, rfl, h⟩ := h
  show W_Tick_eq K [.val (.ins (ga K "Tick") (tickF ss m)), .val d] n _ x
  unfold W_Tick_eq
  (try simp only [Dl.wRet, Dl.wRetN, Dl.wThen, Dl.wIf, Dl.wOr, Dl.wAnd, Dl.wNot, Dl.wNotV, Dl.wAndV, Dl.wOrV, Dl.wB, Dl.wTru, Dl.wOp, Dl.wUn, Dl.wVar, Dl.wC, Dl.wF, Dl.wCons, Dl.wNil, Dl.wTup, Dl.wLst, Dl.wSet, Dl.wAsg, Dl.wNext, Dl.wDrop, Dl.wFz, Dl.wfLst, Dl.wfList, Dl.wfCat, Dl.wSetOwn, Dl.wApp, Dl.wFreeze, Dl.wFreezeD, Dl.wIsi, Dl.wChain, Dl.wIfE, Dl.wSeq, Dl.wRng1, Dl.wRng2, Dl.wLc, Dl.wLcOwn, Dl.wFor, Dl.wPar, Dl.wDPut, Dl.wGet2, Dl.wLend, Dl.wLendT, Dl.wFld, Dl.wProp, Dl.wMeth, Dl.wMethK, Dl.wMakeM, Dl.wMakeMn, Dl.fMakeM, Dl.wStar, Dl.wSl, Dl.wNoP, Dl.wPart, Dl.wItOwn, Dl.wEnT, Dl.wEnL, Dl.wRaise1, Dl.wRaise2, Dl.wFldOwn, Dl.wMaxD, Dl.wDct0, Dl.wYes, Dl.fOwn, Dl.fOwnX, Dl.fOwnNe, Dl.fOwnNeX, Dl.fOwnIn, Dl.fOwnNotIn, Dl.fOwnLen, Dl.fOwnBool, Dl.gt, Dl.isB_bl, Dl.tru_bl, Dl.optI_some, Dl.slV_val, Dl.ownL_own, Dl.ownDI_own, Dl.lendI_own, Dl.lendI_ownD, Dl.seqI_tup, Dl.seqI_lst, Dl.tupI_tup, Dl.lstI_lst, Dl.intI_int, Dl.dctI_dct, Dl.keyI_int, Dl.insI_ins, Dl.ownIi_own, Dl.excI_exc, Dl.fOne_one, Dl.fI0_int, Dl.fI2_int, Dl.fLen_tup, Dl.fLen_lst, Dl.fTuple_tup, Dl.fTuple_lst, Dl.fInt_int, Dl.fInt_bl, Dl.fAdd_int, Dl.fAdd_tup, Dl.fAdd_lst, Dl.fNeg_int, Dl.fSl_tup, Dl.fSl_lst, Dl.gwTup_tup, Dl.gwUnl_lst, Dl.gwCons_cons, Dl.gwNil_nil, Dl.gwName_eq, Dl.lcD_nil, Dl.wipeS, List.set, if_true, if_false, Bool.false_eq_true, Bool.not_true, Bool.not_false, ite_true, ite_false])
  rcases h with ⟨ss', m', rfl, q⟩ | ⟨hp, q⟩
  · unfold tickD
    rw [tyC_tick]
    (try simp only [Dl.wRet, Dl.wRetN, Dl.wThen, Dl.wIf, Dl.wOr, Dl.wAnd, Dl.wNot, Dl.wNotV, Dl.wAndV, Dl.wOrV, Dl.wB, Dl.wTru, Dl.wOp, Dl.wUn, Dl.wVar, Dl.wC, Dl.wF, Dl.wCons, Dl.wNil, Dl.wTup, Dl.wLst, Dl.wSet, Dl.wAsg, Dl.wNext, Dl.wDrop, Dl.wFz, Dl.wfLst, Dl.wfList, Dl.wfCat, Dl.wSetOwn, Dl.wApp, Dl.wFreeze, Dl.wFreezeD, Dl.wIsi, Dl.wChain, Dl.wIfE, Dl.wSeq, Dl.wRng1, Dl.wRng2, Dl.wLc, Dl.wLcOwn, Dl.wFor, Dl.wPar, Dl.wDPut, Dl.wGet2, Dl.wLend, Dl.wLendT, Dl.wFld, Dl.wProp, Dl.wMeth, Dl.wMethK, Dl.wMakeM, Dl.wMakeMn, Dl.fMakeM, Dl.wStar, Dl.wSl, Dl.wNoP, Dl.wPart, Dl.wItOwn, Dl.wEnT, Dl.wEnL, Dl.wRaise1, Dl.wRaise2, Dl.wFldOwn, Dl.wMaxD, Dl.wDct0, Dl.wYes, Dl.fOwn, Dl.fOwnX, Dl.fOwnNe, Dl.fOwnNeX, Dl.fOwnIn, Dl.fOwnNotIn, Dl.fOwnLen, Dl.fOwnBool, Dl.gt, Dl.isB_bl, Dl.tru_bl, Dl.optI_some, Dl.slV_val, Dl.ownL_own, Dl.ownDI_own, Dl.lendI_own, Dl.lendI_ownD, Dl.seqI_tup, Dl.seqI_lst, Dl.tupI_tup, Dl.lstI_lst, Dl.intI_int, Dl.dctI_dct, Dl.keyI_int, Dl.insI_ins, Dl.ownIi_own, Dl.excI_exc, Dl.fOne_one, Dl.fI0_int, Dl.fI2_int, Dl.fLen_tup, Dl.fLen_lst, Dl.fTuple_tup, Dl.fTuple_lst, Dl.fInt_int, Dl.fInt_bl, Dl.fAdd_int, Dl.fAdd_tup, Dl.fAdd_lst, Dl.fNeg_int, Dl.fSl_tup, Dl.fSl_lst, Dl.gwTup_tup, Dl.gwUnl_lst, Dl.gwCons_cons, Dl.gwNil_nil, Dl.gwName_eq, Dl.lcD_nil, Dl.wipeS, List.set, if_true, if_false, Bool.false_eq_true, Bool.not_true, Bool.not_false, ite_true, ite_false])
    refine ⟨_, look_sums, _, look_sums, fEq_of cmp_ss cmp_ss ?_⟩
    rw [eqD_ss]
    (try simp only [Dl.wRet, Dl.wRetN, Dl.wThen, Dl.wIf, Dl.wOr, Dl.wAnd, Dl.wNot, Dl.wNotV, Dl.wAndV, Dl.wOrV, Dl.wB, Dl.wTru, Dl.wOp, Dl.wUn, Dl.wVar, Dl.wC, Dl.wF, Dl.wCons, Dl.wNil, Dl.wTup, Dl.wLst, Dl.wSet, Dl.wAsg, Dl.wNext, Dl.wDrop, Dl.wFz, Dl.wfLst, Dl.wfList, Dl.wfCat, Dl.wSetOwn, Dl.wApp, Dl.wFreeze, Dl.wFreezeD, Dl.wIsi, Dl.wChain, Dl.wIfE, Dl.wSeq, Dl.wRng1, Dl.wRng2, Dl.wLc, Dl.wLcOwn, Dl.wFor, Dl.wPar, Dl.wDPut, Dl.wGet2, Dl.wLend, Dl.wLendT, Dl.wFld, Dl.wProp, Dl.wMeth, Dl.wMethK, Dl.wMakeM, Dl.wMakeMn, Dl.fMakeM, Dl.wStar, Dl.wSl, Dl.wNoP, Dl.wPart, Dl.wItOwn, Dl.wEnT, Dl.wEnL, Dl.wRaise1, Dl.wRaise2, Dl.wFldOwn, Dl.wMaxD, Dl.wDct0, Dl.wYes, Dl.fOwn, Dl.fOwnX, Dl.fOwnNe, Dl.fOwnNeX, Dl.fOwnIn, Dl.fOwnNotIn, Dl.fOwnLen, Dl.fOwnBool, Dl.gt, Dl.isB_bl, Dl.tru_bl, Dl.optI_some, Dl.slV_val, Dl.ownL_own, Dl.ownDI_own, Dl.lendI_own, Dl.lendI_ownD, Dl.seqI_tup, Dl.seqI_lst, Dl.tupI_tup, Dl.lstI_lst, Dl.intI_int, Dl.dctI_dct, Dl.keyI_int, Dl.insI_ins, Dl.ownIi_own, Dl.excI_exc, Dl.fOne_one, Dl.fI0_int, Dl.fI2_int, Dl.fLen_tup, Dl.fLen_lst, Dl.fTuple_tup, Dl.fTuple_lst, Dl.fInt_int, Dl.fInt_bl, Dl.fAdd_int, Dl.fAdd_tup, Dl.fAdd_lst, Dl.fNeg_int, Dl.fSl_tup, Dl.fSl_lst, Dl.gwTup_tup, Dl.gwUnl_lst, Dl.gwCons_cons, Dl.gwNil_nil, Dl.gwName_eq, Dl.lcD_nil, Dl.wipeS, List.set, if_true, if_false, Bool.false_eq_true, Bool.not_true, Bool.not_false, ite_true, ite_false])
    refine iteB (fun c => ?_) (fun c => ?_)
    · refine ⟨_, look_mute, _, look_mute, fEq_of (cmpD_bl _) (cmpD_bl _) ?_⟩
      rw [eqD_bl]
      rw [c, Bool.true_and] at q
      exact q
    · rw [c, Bool.false_and] at q
      exact q
  · rw [tyC_pln hp]
    exact q
end
end Lz

set_option Elab.async false
set_option linter.all false
set_option maxRecDepth 100000
set_option maxHeartbeats 4000000
namespace Lz
open PySem PySem.Spec PyProof.Rows L2 LamX Dl
section
variable {K : PySem.W.Frag} {d : D} {n : Nat} {k : KD} {x : KX} {ds : List D} {s : List Int} {ss : List (List Int)}
theorem dt_l_pick (h : c_l_pick K ds n k x) : W_l_pick K (startD ["_law_pen_here", "_law_some"] ds) n { nx := fun _ n' => k .non n', rt := k } x := by
  match ds, h with
  | [.pen, .lst es], h =>
    obtain ⟨hn, h0, h1, q⟩ := h
    show W_l_pick K [.val .pen, .val (.lst es)] n _ x
    unfold W_l_pick
    (try simp only [Dl.wRet, Dl.wRetN, Dl.wThen, Dl.wIf, Dl.wOr, Dl.wAnd, Dl.wNot, Dl.wNotV, Dl.wAndV, Dl.wOrV, Dl.wB, Dl.wTru, Dl.wOp, Dl.wUn, Dl.wVar, Dl.wC, Dl.wF, Dl.wCons, Dl.wNil, Dl.wTup, Dl.wLst, Dl.wSet, Dl.wAsg, Dl.wNext, Dl.wDrop, Dl.wFz, Dl.wfLst, Dl.wfList, Dl.wfCat, Dl.wSetOwn, Dl.wApp, Dl.wFreeze, Dl.wFreezeD, Dl.wIsi, Dl.wChain, Dl.wIfE, Dl.wSeq, Dl.wRng1, Dl.wRng2, Dl.wLc, Dl.wLcOwn, Dl.wFor, Dl.wPar, Dl.wDPut, Dl.wGet2, Dl.wLend, Dl.wLendT, Dl.wFld, Dl.wProp, Dl.wMeth, Dl.wMethK, Dl.wMakeM, Dl.wMakeMn, Dl.fMakeM, Dl.wStar, Dl.wSl, Dl.wNoP, Dl.wPart, Dl.wItOwn, Dl.wEnT, Dl.wEnL, Dl.wRaise1, Dl.wRaise2, Dl.wFldOwn, Dl.wMaxD, Dl.wDct0, Dl.wYes, Dl.fOwn, Dl.fOwnX, Dl.fOwnNe, Dl.fOwnNeX, Dl.fOwnIn, Dl.fOwnNotIn, Dl.fOwnLen, Dl.fOwnBool, Dl.gt, Dl.isB_bl, Dl.tru_bl, Dl.optI_some, Dl.slV_val, Dl.ownL_own, Dl.ownDI_own, Dl.lendI_own, Dl.lendI_ownD, Dl.seqI_tup, Dl.seqI_lst, Dl.tupI_tup, Dl.lstI_lst, Dl.intI_int, Dl.dctI_dct, Dl.keyI_int, Dl.insI_ins, Dl.ownIi_own, Dl.excI_exc, Dl.fOne_one, Dl.fI0_int, Dl.fI2_int, Dl.fLen_tup, Dl.fLen_lst, Dl.fTuple_tup, Dl.fTuple_lst, Dl.fInt_int, Dl.fInt_bl, Dl.fAdd_int, Dl.fAdd_tup, Dl.fAdd_lst, Dl.fNeg_int, Dl.fSl_tup, Dl.fSl_lst, Dl.gwTup_tup, Dl.gwUnl_lst, Dl.gwCons_cons, Dl.gwNil_nil, Dl.gwName_eq, Dl.lcD_nil, Dl.wipeS, List.set, if_true, if_false, Bool.false_eq_true, Bool.not_true, Bool.not_false, ite_true, ite_false])
    refine ⟨hn, by omega, by omega, fun d hd => ?_⟩
    have hd' : d < es.length := by omega
    simp only [fIx, atI_nat (List.getElem?_eq_getElem hd')]
    exact q _ (List.getElem_mem hd')
end
end Lz

set_option Elab.async false
set_option linter.all false
set_option maxRecDepth 100000
set_option maxHeartbeats 4000000
namespace Lz
open PySem PySem.Spec PyProof.Rows L2 LamX Dl
theorem eqD_self {d : D} (h : cmpD d = true) : eqD d d = true := by
  obtain ⟨p, h1, h2⟩ := cmpD_get h
  unfold eqD
  rw [h1]
  exact PySem.SeqAt.eqv_refl p (SeqAt.canLay_of_shaped h2)
structure Tx (t : Str) (m : Nat) : Prop where
  ok : ∀ c ∈ t.cps.toList, c < 0x110000
  ln : t.length ≤ m
theorem tx_of (s : String) {m : Nat} (h : s.length ≤ m) : Tx (Str.ofString s) m := by
  have e := signs_ofString s
  refine ⟨fun c hc => ?_, ?_⟩
  · rw [e] at hc
    obtain ⟨ch, _, rfl⟩ := List.mem_map.mp hc
    have h := ch.valid
    rcases h with h | h
    · have : ch.toNat < 0xd800 := h
      omega
    · exact h.2
  · show (Str.ofString s).cps.size ≤ m
    rw [← Array.length_toList, e, List.length_map]
    exact h
structure Dis (K : PySem.W.Frag) : Prop where
  d0 : ga K "BadTick" ≠ ga K "BadCount"
  d1 : ga K "BadTick" ≠ ga K "TooMany"
  d2 : ga K "BadTick" ≠ ga K "BadPlan"
  d3 : ga K "BadTick" ≠ ga K "NoPhase"
  d4 : ga K "BadCount" ≠ ga K "TooMany"
  d5 : ga K "BadCount" ≠ ga K "BadPlan"
  d6 : ga K "BadCount" ≠ ga K "NoPhase"
  d7 : ga K "TooMany" ≠ ga K "BadPlan"
  d8 : ga K "TooMany" ≠ ga K "NoPhase"
  d9 : ga K "BadPlan" ≠ ga K "NoPhase"
section
variable {K : PySem.W.Frag} {d : D} {n : Nat} {k : KD} {x : KX} {ds : List D} {s : List Int} {ss : List (List Int)}
theorem fEq_self (h : cmpD d = true) (q : k (.bl true) n) : fEq d d n k x := fEq_of h h (by rw [eqD_self h]; exact q)
theorem fNe_self (h : cmpD d = true) (q : k (.bl false) n) : fNe d d n k x := fNe_of h h (by rw [eqD_self h]; exact q)
/-! ### what is heard -/
theorem tyX_at {C C0 : Addr} {fs : List (Str × D)} (h : C ∈ Es K) : tyX C0 (Es K) (.exc C fs) = some (decide (C = C0)) := by
  show (if C ∈ Es K then some (decide (C = C0)) else none) = _
  rw [if_pos h]
def W_heard2 (K : PySem.W.Frag) : WS :=
    (wThen (wSetOwn 3 (wfLst wNil))
    (wThen (wIf (wTru (wIsi (tyX (ga K "BadTick") (Es K)) (wVar 1)))
      (wApp 3 (wTup (wCons (wC (.str "tick")) (wCons (wF (fOne fReprK) (wCons (wXk (Es_part K) "part" (wVar 1)) wNil)) wNil))))
      wNext)
    (wThen (wIf (wTru (wIsi (tyX (ga K "BadPlan") (Es K)) (wVar 1)))
      (wApp 3 (wTup (wCons (wC (.str "plan")) (wCons (wF (fOne fReprK) (wCons (wXk (Es_part K) "part" (wVar 1)) wNil)) wNil))))
      wNext)
    (wThen (wIf (wTru (wIsi (tyX (ga K "BadCount") (Es K)) (wVar 1)))
      (wApp 3 (wTup (wCons (wC (.str "count")) (wCons (wF (fOne fReprK) (wCons (wXk (Es_value K) "value" (wVar 1)) wNil)) wNil))))
      wNext)
    (wThen (wIf (wTru (wIsi (tyX (ga K "NoPhase") (Es K)) (wVar 1)))
      (wApp 3 (wTup (wCons (wC (.str "phase")) (wCons (wF (fOne fReprK) (wCons (wXk (Es_at K) "at" (wVar 1)) wNil)) wNil))))
      wNext)
    (wThen (wIf (wTru (wIsi (tyX (ga K "TooMany") (Es K)) (wVar 1)))
      (wApp 3 (wTup (wCons (wXk (Es_what K) "what" (wVar 1)) (wCons (wXk (Es_most K) "most" (wVar 1)) wNil))))
      wNext)
    (wFreeze 3 (wRet (wIfE (wB (wOp fEqI (wF (fOne fLen) (wCons (wVar 3) wNil)) (wC (.int 1)))) (wOp fIx (wVar 3) (wC (.int 0))) (wTup (wCons (wC (.str "odd")) wNil)))))))))))
theorem heard_eq {K : PySem.W.Frag} {f : Addr} {ask : Ask} : W_l_heard K f ask = wThen (wSet 1 (wC .non)) (wThen (wTry 4 1 (hcE K) (wRet (wLst (wCons (wAsk f ask) wNil)))) (W_heard2 K)) := rfl
def heardX (K : PySem.W.Frag) (k : KD) : KX := fun e n => hcE K e.1 = true ∧ W_heard2 K [.un, .val (.exc e.1 e.2), .un, .un] n { nx := fun _ n' => k .non n', rt := k } fun _ _ => False
theorem hear_run {f : Addr} {ask : Ask} (h : ask n (fun d n' => k (.lst [d]) n') (heardX K k)) : W_l_heard K f ask (startD N_l_heard [.obj f]) n { nx := fun _ n' => k .non n', rt := k } fun _ _ => False := by
  rw [heard_eq]
  refine ⟨rfl, ?_⟩
  have e : (fun (d : D) (n' : Nat) => [d].length ≤ 1000 ∧ k (.lst [d]) n') = fun d n' => k (.lst [d]) n' := by
    funext d n'
    simp
  show ask n (fun (d : D) (n' : Nat) => [d].length ≤ 1000 ∧ k (.lst [d]) n') (heardX K k)
  rw [e]
  exact h
theorem repr_int {i : Int} (hi : i.natAbs.log2 < 1920) (q : k (.str (Str.ofString (toString i))) n) : fReprK (.int i) n k x :=
  ⟨.int i, rfl, by simp [PyData.showable, hi], by simp [PyData.depth], by
    have := int_text_length_le (by decide) hi
    have e : (PyData.int i).shown = Str.ofString (toString i) := rfl
    rw [e, sizeLine_eq]
    have t := tx_of (toString i) this
    have := t.ln
    omega, q⟩
theorem heard_tick (D' : Dis K) {i : Int} (hi : i.natAbs.log2 < 1920) (q : k (.tup [.str "tick", .str (Str.ofString (toString i))]) n) : heardX K k (ga K "BadTick", [("part", .int i)]) n := by
  have hm : ga K "BadTick" ∈ Es K := List.mem_cons_self
  refine ⟨decide_eq_true hm, ?_⟩
  unfold W_heard2
  (try simp only [Dl.wRet, Dl.wRetN, Dl.wThen, Dl.wIf, Dl.wOr, Dl.wAnd, Dl.wNot, Dl.wNotV, Dl.wAndV, Dl.wOrV, Dl.wB, Dl.wTru, Dl.wOp, Dl.wUn, Dl.wVar, Dl.wC, Dl.wF, Dl.wCons, Dl.wNil, Dl.wTup, Dl.wLst, Dl.wSet, Dl.wAsg, Dl.wNext, Dl.wDrop, Dl.wFz, Dl.wfLst, Dl.wfList, Dl.wfCat, Dl.wSetOwn, Dl.wApp, Dl.wFreeze, Dl.wFreezeD, Dl.wIsi, Dl.wChain, Dl.wIfE, Dl.wSeq, Dl.wRng1, Dl.wRng2, Dl.wLc, Dl.wLcOwn, Dl.wFor, Dl.wPar, Dl.wDPut, Dl.wGet2, Dl.wLend, Dl.wLendT, Dl.wFld, Dl.wProp, Dl.wMeth, Dl.wMethK, Dl.wMakeM, Dl.wMakeMn, Dl.fMakeM, Dl.wStar, Dl.wSl, Dl.wNoP, Dl.wPart, Dl.wItOwn, Dl.wEnT, Dl.wEnL, Dl.wRaise1, Dl.wRaise2, Dl.wFldOwn, Dl.wMaxD, Dl.wDct0, Dl.wYes, Dl.fOwn, Dl.fOwnX, Dl.fOwnNe, Dl.fOwnNeX, Dl.fOwnIn, Dl.fOwnNotIn, Dl.fOwnLen, Dl.fOwnBool, Dl.gt, Dl.isB_bl, Dl.tru_bl, Dl.optI_some, Dl.slV_val, Dl.ownL_own, Dl.ownDI_own, Dl.lendI_own, Dl.lendI_ownD, Dl.seqI_tup, Dl.seqI_lst, Dl.tupI_tup, Dl.lstI_lst, Dl.intI_int, Dl.dctI_dct, Dl.keyI_int, Dl.insI_ins, Dl.ownIi_own, Dl.excI_exc, Dl.fOne_one, Dl.fI0_int, Dl.fI2_int, Dl.fLen_tup, Dl.fLen_lst, Dl.fTuple_tup, Dl.fTuple_lst, Dl.fInt_int, Dl.fInt_bl, Dl.fAdd_int, Dl.fAdd_tup, Dl.fAdd_lst, Dl.fNeg_int, Dl.fSl_tup, Dl.fSl_lst, Dl.gwTup_tup, Dl.gwUnl_lst, Dl.gwCons_cons, Dl.gwNil_nil, Dl.gwName_eq, Dl.lcD_nil, Dl.wipeS, List.set, if_true, if_false, Bool.false_eq_true, Bool.not_true, Bool.not_false, ite_true, ite_false])
  rw [tyX_at hm, tyX_at hm, tyX_at hm, tyX_at hm, tyX_at hm, decide_eq_true rfl, decide_eq_false D'.d2, decide_eq_false D'.d0, decide_eq_false D'.d3, decide_eq_false D'.d1]
  (try simp only [Dl.wRet, Dl.wRetN, Dl.wThen, Dl.wIf, Dl.wOr, Dl.wAnd, Dl.wNot, Dl.wNotV, Dl.wAndV, Dl.wOrV, Dl.wB, Dl.wTru, Dl.wOp, Dl.wUn, Dl.wVar, Dl.wC, Dl.wF, Dl.wCons, Dl.wNil, Dl.wTup, Dl.wLst, Dl.wSet, Dl.wAsg, Dl.wNext, Dl.wDrop, Dl.wFz, Dl.wfLst, Dl.wfList, Dl.wfCat, Dl.wSetOwn, Dl.wApp, Dl.wFreeze, Dl.wFreezeD, Dl.wIsi, Dl.wChain, Dl.wIfE, Dl.wSeq, Dl.wRng1, Dl.wRng2, Dl.wLc, Dl.wLcOwn, Dl.wFor, Dl.wPar, Dl.wDPut, Dl.wGet2, Dl.wLend, Dl.wLendT, Dl.wFld, Dl.wProp, Dl.wMeth, Dl.wMethK, Dl.wMakeM, Dl.wMakeMn, Dl.fMakeM, Dl.wStar, Dl.wSl, Dl.wNoP, Dl.wPart, Dl.wItOwn, Dl.wEnT, Dl.wEnL, Dl.wRaise1, Dl.wRaise2, Dl.wFldOwn, Dl.wMaxD, Dl.wDct0, Dl.wYes, Dl.fOwn, Dl.fOwnX, Dl.fOwnNe, Dl.fOwnNeX, Dl.fOwnIn, Dl.fOwnNotIn, Dl.fOwnLen, Dl.fOwnBool, Dl.gt, Dl.isB_bl, Dl.tru_bl, Dl.optI_some, Dl.slV_val, Dl.ownL_own, Dl.ownDI_own, Dl.lendI_own, Dl.lendI_ownD, Dl.seqI_tup, Dl.seqI_lst, Dl.tupI_tup, Dl.lstI_lst, Dl.intI_int, Dl.dctI_dct, Dl.keyI_int, Dl.insI_ins, Dl.ownIi_own, Dl.excI_exc, Dl.fOne_one, Dl.fI0_int, Dl.fI2_int, Dl.fLen_tup, Dl.fLen_lst, Dl.fTuple_tup, Dl.fTuple_lst, Dl.fInt_int, Dl.fInt_bl, Dl.fAdd_int, Dl.fAdd_tup, Dl.fAdd_lst, Dl.fNeg_int, Dl.fSl_tup, Dl.fSl_lst, Dl.gwTup_tup, Dl.gwUnl_lst, Dl.gwCons_cons, Dl.gwNil_nil, Dl.gwName_eq, Dl.lcD_nil, Dl.wipeS, List.set, if_true, if_false, Bool.false_eq_true, Bool.not_true, Bool.not_false, ite_true, ite_false])
  refine ⟨by simp, ?_⟩
  refine ⟨List.mem_cons_self, .int i, rfl, ?_⟩
  refine repr_int hi ?_
  refine ⟨by simp, by simp, ?_⟩
  (try simp only [Dl.wRet, Dl.wRetN, Dl.wThen, Dl.wIf, Dl.wOr, Dl.wAnd, Dl.wNot, Dl.wNotV, Dl.wAndV, Dl.wOrV, Dl.wB, Dl.wTru, Dl.wOp, Dl.wUn, Dl.wVar, Dl.wC, Dl.wF, Dl.wCons, Dl.wNil, Dl.wTup, Dl.wLst, Dl.wSet, Dl.wAsg, Dl.wNext, Dl.wDrop, Dl.wFz, Dl.wfLst, Dl.wfList, Dl.wfCat, Dl.wSetOwn, Dl.wApp, Dl.wFreeze, Dl.wFreezeD, Dl.wIsi, Dl.wChain, Dl.wIfE, Dl.wSeq, Dl.wRng1, Dl.wRng2, Dl.wLc, Dl.wLcOwn, Dl.wFor, Dl.wPar, Dl.wDPut, Dl.wGet2, Dl.wLend, Dl.wLendT, Dl.wFld, Dl.wProp, Dl.wMeth, Dl.wMethK, Dl.wMakeM, Dl.wMakeMn, Dl.fMakeM, Dl.wStar, Dl.wSl, Dl.wNoP, Dl.wPart, Dl.wItOwn, Dl.wEnT, Dl.wEnL, Dl.wRaise1, Dl.wRaise2, Dl.wFldOwn, Dl.wMaxD, Dl.wDct0, Dl.wYes, Dl.fOwn, Dl.fOwnX, Dl.fOwnNe, Dl.fOwnNeX, Dl.fOwnIn, Dl.fOwnNotIn, Dl.fOwnLen, Dl.fOwnBool, Dl.gt, Dl.isB_bl, Dl.tru_bl, Dl.optI_some, Dl.slV_val, Dl.ownL_own, Dl.ownDI_own, Dl.lendI_own, Dl.lendI_ownD, Dl.seqI_tup, Dl.seqI_lst, Dl.tupI_tup, Dl.lstI_lst, Dl.intI_int, Dl.dctI_dct, Dl.keyI_int, Dl.insI_ins, Dl.ownIi_own, Dl.excI_exc, Dl.fOne_one, Dl.fI0_int, Dl.fI2_int, Dl.fLen_tup, Dl.fLen_lst, Dl.fTuple_tup, Dl.fTuple_lst, Dl.fInt_int, Dl.fInt_bl, Dl.fAdd_int, Dl.fAdd_tup, Dl.fAdd_lst, Dl.fNeg_int, Dl.fSl_tup, Dl.fSl_lst, Dl.gwTup_tup, Dl.gwUnl_lst, Dl.gwCons_cons, Dl.gwNil_nil, Dl.gwName_eq, Dl.lcD_nil, Dl.wipeS, List.set, if_true, if_false, Bool.false_eq_true, Bool.not_true, Bool.not_false, ite_true, ite_false])
  exact q
theorem heard_count (D' : Dis K) {d : D} {t : Str} (hd : ∀ (m : Nat) (kd : KD) (x : KX), kd (.str t) m → fReprK d m kd x) (q : k (.tup [.str "count", .str t]) n) : heardX K k (ga K "BadCount", [("value", d)]) n := by
  have hm : ga K "BadCount" ∈ Es K := (List.mem_cons_of_mem _ (List.mem_cons_of_mem _ (List.mem_cons_of_mem _ (List.mem_cons_of_mem _ List.mem_cons_self))))
  refine ⟨decide_eq_true hm, ?_⟩
  unfold W_heard2
  (try simp only [Dl.wRet, Dl.wRetN, Dl.wThen, Dl.wIf, Dl.wOr, Dl.wAnd, Dl.wNot, Dl.wNotV, Dl.wAndV, Dl.wOrV, Dl.wB, Dl.wTru, Dl.wOp, Dl.wUn, Dl.wVar, Dl.wC, Dl.wF, Dl.wCons, Dl.wNil, Dl.wTup, Dl.wLst, Dl.wSet, Dl.wAsg, Dl.wNext, Dl.wDrop, Dl.wFz, Dl.wfLst, Dl.wfList, Dl.wfCat, Dl.wSetOwn, Dl.wApp, Dl.wFreeze, Dl.wFreezeD, Dl.wIsi, Dl.wChain, Dl.wIfE, Dl.wSeq, Dl.wRng1, Dl.wRng2, Dl.wLc, Dl.wLcOwn, Dl.wFor, Dl.wPar, Dl.wDPut, Dl.wGet2, Dl.wLend, Dl.wLendT, Dl.wFld, Dl.wProp, Dl.wMeth, Dl.wMethK, Dl.wMakeM, Dl.wMakeMn, Dl.fMakeM, Dl.wStar, Dl.wSl, Dl.wNoP, Dl.wPart, Dl.wItOwn, Dl.wEnT, Dl.wEnL, Dl.wRaise1, Dl.wRaise2, Dl.wFldOwn, Dl.wMaxD, Dl.wDct0, Dl.wYes, Dl.fOwn, Dl.fOwnX, Dl.fOwnNe, Dl.fOwnNeX, Dl.fOwnIn, Dl.fOwnNotIn, Dl.fOwnLen, Dl.fOwnBool, Dl.gt, Dl.isB_bl, Dl.tru_bl, Dl.optI_some, Dl.slV_val, Dl.ownL_own, Dl.ownDI_own, Dl.lendI_own, Dl.lendI_ownD, Dl.seqI_tup, Dl.seqI_lst, Dl.tupI_tup, Dl.lstI_lst, Dl.intI_int, Dl.dctI_dct, Dl.keyI_int, Dl.insI_ins, Dl.ownIi_own, Dl.excI_exc, Dl.fOne_one, Dl.fI0_int, Dl.fI2_int, Dl.fLen_tup, Dl.fLen_lst, Dl.fTuple_tup, Dl.fTuple_lst, Dl.fInt_int, Dl.fInt_bl, Dl.fAdd_int, Dl.fAdd_tup, Dl.fAdd_lst, Dl.fNeg_int, Dl.fSl_tup, Dl.fSl_lst, Dl.gwTup_tup, Dl.gwUnl_lst, Dl.gwCons_cons, Dl.gwNil_nil, Dl.gwName_eq, Dl.lcD_nil, Dl.wipeS, List.set, if_true, if_false, Bool.false_eq_true, Bool.not_true, Bool.not_false, ite_true, ite_false])
  rw [tyX_at hm, tyX_at hm, tyX_at hm, tyX_at hm, tyX_at hm, decide_eq_true rfl, decide_eq_false (Ne.symm D'.d0), decide_eq_false D'.d5, decide_eq_false D'.d6, decide_eq_false D'.d4]
  (try simp only [Dl.wRet, Dl.wRetN, Dl.wThen, Dl.wIf, Dl.wOr, Dl.wAnd, Dl.wNot, Dl.wNotV, Dl.wAndV, Dl.wOrV, Dl.wB, Dl.wTru, Dl.wOp, Dl.wUn, Dl.wVar, Dl.wC, Dl.wF, Dl.wCons, Dl.wNil, Dl.wTup, Dl.wLst, Dl.wSet, Dl.wAsg, Dl.wNext, Dl.wDrop, Dl.wFz, Dl.wfLst, Dl.wfList, Dl.wfCat, Dl.wSetOwn, Dl.wApp, Dl.wFreeze, Dl.wFreezeD, Dl.wIsi, Dl.wChain, Dl.wIfE, Dl.wSeq, Dl.wRng1, Dl.wRng2, Dl.wLc, Dl.wLcOwn, Dl.wFor, Dl.wPar, Dl.wDPut, Dl.wGet2, Dl.wLend, Dl.wLendT, Dl.wFld, Dl.wProp, Dl.wMeth, Dl.wMethK, Dl.wMakeM, Dl.wMakeMn, Dl.fMakeM, Dl.wStar, Dl.wSl, Dl.wNoP, Dl.wPart, Dl.wItOwn, Dl.wEnT, Dl.wEnL, Dl.wRaise1, Dl.wRaise2, Dl.wFldOwn, Dl.wMaxD, Dl.wDct0, Dl.wYes, Dl.fOwn, Dl.fOwnX, Dl.fOwnNe, Dl.fOwnNeX, Dl.fOwnIn, Dl.fOwnNotIn, Dl.fOwnLen, Dl.fOwnBool, Dl.gt, Dl.isB_bl, Dl.tru_bl, Dl.optI_some, Dl.slV_val, Dl.ownL_own, Dl.ownDI_own, Dl.lendI_own, Dl.lendI_ownD, Dl.seqI_tup, Dl.seqI_lst, Dl.tupI_tup, Dl.lstI_lst, Dl.intI_int, Dl.dctI_dct, Dl.keyI_int, Dl.insI_ins, Dl.ownIi_own, Dl.excI_exc, Dl.fOne_one, Dl.fI0_int, Dl.fI2_int, Dl.fLen_tup, Dl.fLen_lst, Dl.fTuple_tup, Dl.fTuple_lst, Dl.fInt_int, Dl.fInt_bl, Dl.fAdd_int, Dl.fAdd_tup, Dl.fAdd_lst, Dl.fNeg_int, Dl.fSl_tup, Dl.fSl_lst, Dl.gwTup_tup, Dl.gwUnl_lst, Dl.gwCons_cons, Dl.gwNil_nil, Dl.gwName_eq, Dl.lcD_nil, Dl.wipeS, List.set, if_true, if_false, Bool.false_eq_true, Bool.not_true, Bool.not_false, ite_true, ite_false])
  refine ⟨by simp, ?_⟩
  refine ⟨List.mem_cons_self, d, rfl, ?_⟩
  refine hd _ _ _ ?_
  refine ⟨by simp, by simp, ?_⟩
  (try simp only [Dl.wRet, Dl.wRetN, Dl.wThen, Dl.wIf, Dl.wOr, Dl.wAnd, Dl.wNot, Dl.wNotV, Dl.wAndV, Dl.wOrV, Dl.wB, Dl.wTru, Dl.wOp, Dl.wUn, Dl.wVar, Dl.wC, Dl.wF, Dl.wCons, Dl.wNil, Dl.wTup, Dl.wLst, Dl.wSet, Dl.wAsg, Dl.wNext, Dl.wDrop, Dl.wFz, Dl.wfLst, Dl.wfList, Dl.wfCat, Dl.wSetOwn, Dl.wApp, Dl.wFreeze, Dl.wFreezeD, Dl.wIsi, Dl.wChain, Dl.wIfE, Dl.wSeq, Dl.wRng1, Dl.wRng2, Dl.wLc, Dl.wLcOwn, Dl.wFor, Dl.wPar, Dl.wDPut, Dl.wGet2, Dl.wLend, Dl.wLendT, Dl.wFld, Dl.wProp, Dl.wMeth, Dl.wMethK, Dl.wMakeM, Dl.wMakeMn, Dl.fMakeM, Dl.wStar, Dl.wSl, Dl.wNoP, Dl.wPart, Dl.wItOwn, Dl.wEnT, Dl.wEnL, Dl.wRaise1, Dl.wRaise2, Dl.wFldOwn, Dl.wMaxD, Dl.wDct0, Dl.wYes, Dl.fOwn, Dl.fOwnX, Dl.fOwnNe, Dl.fOwnNeX, Dl.fOwnIn, Dl.fOwnNotIn, Dl.fOwnLen, Dl.fOwnBool, Dl.gt, Dl.isB_bl, Dl.tru_bl, Dl.optI_some, Dl.slV_val, Dl.ownL_own, Dl.ownDI_own, Dl.lendI_own, Dl.lendI_ownD, Dl.seqI_tup, Dl.seqI_lst, Dl.tupI_tup, Dl.lstI_lst, Dl.intI_int, Dl.dctI_dct, Dl.keyI_int, Dl.insI_ins, Dl.ownIi_own, Dl.excI_exc, Dl.fOne_one, Dl.fI0_int, Dl.fI2_int, Dl.fLen_tup, Dl.fLen_lst, Dl.fTuple_tup, Dl.fTuple_lst, Dl.fInt_int, Dl.fInt_bl, Dl.fAdd_int, Dl.fAdd_tup, Dl.fAdd_lst, Dl.fNeg_int, Dl.fSl_tup, Dl.fSl_lst, Dl.gwTup_tup, Dl.gwUnl_lst, Dl.gwCons_cons, Dl.gwNil_nil, Dl.gwName_eq, Dl.lcD_nil, Dl.wipeS, List.set, if_true, if_false, Bool.false_eq_true, Bool.not_true, Bool.not_false, ite_true, ite_false])
  exact q
theorem heard_many (D' : Dis K) {y z : D} (q : k (.tup [y, z]) n) : heardX K k (ga K "TooMany", [("most", z), ("what", y)]) n := by
  have hm : ga K "TooMany" ∈ Es K := (List.mem_cons_of_mem _ (List.mem_cons_of_mem _ List.mem_cons_self))
  refine ⟨decide_eq_true hm, ?_⟩
  unfold W_heard2
  (try simp only [Dl.wRet, Dl.wRetN, Dl.wThen, Dl.wIf, Dl.wOr, Dl.wAnd, Dl.wNot, Dl.wNotV, Dl.wAndV, Dl.wOrV, Dl.wB, Dl.wTru, Dl.wOp, Dl.wUn, Dl.wVar, Dl.wC, Dl.wF, Dl.wCons, Dl.wNil, Dl.wTup, Dl.wLst, Dl.wSet, Dl.wAsg, Dl.wNext, Dl.wDrop, Dl.wFz, Dl.wfLst, Dl.wfList, Dl.wfCat, Dl.wSetOwn, Dl.wApp, Dl.wFreeze, Dl.wFreezeD, Dl.wIsi, Dl.wChain, Dl.wIfE, Dl.wSeq, Dl.wRng1, Dl.wRng2, Dl.wLc, Dl.wLcOwn, Dl.wFor, Dl.wPar, Dl.wDPut, Dl.wGet2, Dl.wLend, Dl.wLendT, Dl.wFld, Dl.wProp, Dl.wMeth, Dl.wMethK, Dl.wMakeM, Dl.wMakeMn, Dl.fMakeM, Dl.wStar, Dl.wSl, Dl.wNoP, Dl.wPart, Dl.wItOwn, Dl.wEnT, Dl.wEnL, Dl.wRaise1, Dl.wRaise2, Dl.wFldOwn, Dl.wMaxD, Dl.wDct0, Dl.wYes, Dl.fOwn, Dl.fOwnX, Dl.fOwnNe, Dl.fOwnNeX, Dl.fOwnIn, Dl.fOwnNotIn, Dl.fOwnLen, Dl.fOwnBool, Dl.gt, Dl.isB_bl, Dl.tru_bl, Dl.optI_some, Dl.slV_val, Dl.ownL_own, Dl.ownDI_own, Dl.lendI_own, Dl.lendI_ownD, Dl.seqI_tup, Dl.seqI_lst, Dl.tupI_tup, Dl.lstI_lst, Dl.intI_int, Dl.dctI_dct, Dl.keyI_int, Dl.insI_ins, Dl.ownIi_own, Dl.excI_exc, Dl.fOne_one, Dl.fI0_int, Dl.fI2_int, Dl.fLen_tup, Dl.fLen_lst, Dl.fTuple_tup, Dl.fTuple_lst, Dl.fInt_int, Dl.fInt_bl, Dl.fAdd_int, Dl.fAdd_tup, Dl.fAdd_lst, Dl.fNeg_int, Dl.fSl_tup, Dl.fSl_lst, Dl.gwTup_tup, Dl.gwUnl_lst, Dl.gwCons_cons, Dl.gwNil_nil, Dl.gwName_eq, Dl.lcD_nil, Dl.wipeS, List.set, if_true, if_false, Bool.false_eq_true, Bool.not_true, Bool.not_false, ite_true, ite_false])
  rw [tyX_at hm, tyX_at hm, tyX_at hm, tyX_at hm, tyX_at hm, decide_eq_true rfl, decide_eq_false (Ne.symm D'.d1), decide_eq_false D'.d7, decide_eq_false (Ne.symm D'.d4), decide_eq_false D'.d8]
  (try simp only [Dl.wRet, Dl.wRetN, Dl.wThen, Dl.wIf, Dl.wOr, Dl.wAnd, Dl.wNot, Dl.wNotV, Dl.wAndV, Dl.wOrV, Dl.wB, Dl.wTru, Dl.wOp, Dl.wUn, Dl.wVar, Dl.wC, Dl.wF, Dl.wCons, Dl.wNil, Dl.wTup, Dl.wLst, Dl.wSet, Dl.wAsg, Dl.wNext, Dl.wDrop, Dl.wFz, Dl.wfLst, Dl.wfList, Dl.wfCat, Dl.wSetOwn, Dl.wApp, Dl.wFreeze, Dl.wFreezeD, Dl.wIsi, Dl.wChain, Dl.wIfE, Dl.wSeq, Dl.wRng1, Dl.wRng2, Dl.wLc, Dl.wLcOwn, Dl.wFor, Dl.wPar, Dl.wDPut, Dl.wGet2, Dl.wLend, Dl.wLendT, Dl.wFld, Dl.wProp, Dl.wMeth, Dl.wMethK, Dl.wMakeM, Dl.wMakeMn, Dl.fMakeM, Dl.wStar, Dl.wSl, Dl.wNoP, Dl.wPart, Dl.wItOwn, Dl.wEnT, Dl.wEnL, Dl.wRaise1, Dl.wRaise2, Dl.wFldOwn, Dl.wMaxD, Dl.wDct0, Dl.wYes, Dl.fOwn, Dl.fOwnX, Dl.fOwnNe, Dl.fOwnNeX, Dl.fOwnIn, Dl.fOwnNotIn, Dl.fOwnLen, Dl.fOwnBool, Dl.gt, Dl.isB_bl, Dl.tru_bl, Dl.optI_some, Dl.slV_val, Dl.ownL_own, Dl.ownDI_own, Dl.lendI_own, Dl.lendI_ownD, Dl.seqI_tup, Dl.seqI_lst, Dl.tupI_tup, Dl.lstI_lst, Dl.intI_int, Dl.dctI_dct, Dl.keyI_int, Dl.insI_ins, Dl.ownIi_own, Dl.excI_exc, Dl.fOne_one, Dl.fI0_int, Dl.fI2_int, Dl.fLen_tup, Dl.fLen_lst, Dl.fTuple_tup, Dl.fTuple_lst, Dl.fInt_int, Dl.fInt_bl, Dl.fAdd_int, Dl.fAdd_tup, Dl.fAdd_lst, Dl.fNeg_int, Dl.fSl_tup, Dl.fSl_lst, Dl.gwTup_tup, Dl.gwUnl_lst, Dl.gwCons_cons, Dl.gwNil_nil, Dl.gwName_eq, Dl.lcD_nil, Dl.wipeS, List.set, if_true, if_false, Bool.false_eq_true, Bool.not_true, Bool.not_false, ite_true, ite_false])
  refine ⟨by simp, ?_⟩
  refine ⟨List.mem_cons_self, y, rfl, List.mem_cons_self, z, rfl, by simp, by simp, ?_⟩
  (try simp only [Dl.wRet, Dl.wRetN, Dl.wThen, Dl.wIf, Dl.wOr, Dl.wAnd, Dl.wNot, Dl.wNotV, Dl.wAndV, Dl.wOrV, Dl.wB, Dl.wTru, Dl.wOp, Dl.wUn, Dl.wVar, Dl.wC, Dl.wF, Dl.wCons, Dl.wNil, Dl.wTup, Dl.wLst, Dl.wSet, Dl.wAsg, Dl.wNext, Dl.wDrop, Dl.wFz, Dl.wfLst, Dl.wfList, Dl.wfCat, Dl.wSetOwn, Dl.wApp, Dl.wFreeze, Dl.wFreezeD, Dl.wIsi, Dl.wChain, Dl.wIfE, Dl.wSeq, Dl.wRng1, Dl.wRng2, Dl.wLc, Dl.wLcOwn, Dl.wFor, Dl.wPar, Dl.wDPut, Dl.wGet2, Dl.wLend, Dl.wLendT, Dl.wFld, Dl.wProp, Dl.wMeth, Dl.wMethK, Dl.wMakeM, Dl.wMakeMn, Dl.fMakeM, Dl.wStar, Dl.wSl, Dl.wNoP, Dl.wPart, Dl.wItOwn, Dl.wEnT, Dl.wEnL, Dl.wRaise1, Dl.wRaise2, Dl.wFldOwn, Dl.wMaxD, Dl.wDct0, Dl.wYes, Dl.fOwn, Dl.fOwnX, Dl.fOwnNe, Dl.fOwnNeX, Dl.fOwnIn, Dl.fOwnNotIn, Dl.fOwnLen, Dl.fOwnBool, Dl.gt, Dl.isB_bl, Dl.tru_bl, Dl.optI_some, Dl.slV_val, Dl.ownL_own, Dl.ownDI_own, Dl.lendI_own, Dl.lendI_ownD, Dl.seqI_tup, Dl.seqI_lst, Dl.tupI_tup, Dl.lstI_lst, Dl.intI_int, Dl.dctI_dct, Dl.keyI_int, Dl.insI_ins, Dl.ownIi_own, Dl.excI_exc, Dl.fOne_one, Dl.fI0_int, Dl.fI2_int, Dl.fLen_tup, Dl.fLen_lst, Dl.fTuple_tup, Dl.fTuple_lst, Dl.fInt_int, Dl.fInt_bl, Dl.fAdd_int, Dl.fAdd_tup, Dl.fAdd_lst, Dl.fNeg_int, Dl.fSl_tup, Dl.fSl_lst, Dl.gwTup_tup, Dl.gwUnl_lst, Dl.gwCons_cons, Dl.gwNil_nil, Dl.gwName_eq, Dl.lcD_nil, Dl.wipeS, List.set, if_true, if_false, Bool.false_eq_true, Bool.not_true, Bool.not_false, ite_true, ite_false])
  exact q
theorem wheard_of {S : List Sl} {wb : WE} (h : wb (S.map unO) n (fun d n' => k (.lst [d]) n') (heardX K k)) : wHeard N_l_heard (W_l_heard K) wb S n k x := fun f => hear_run (f := f) h
end
end Lz

set_option Elab.async false
set_option linter.all false
set_option maxRecDepth 100000
set_option maxHeartbeats 4000000
namespace Lz
open PySem PySem.Spec PyProof.Rows L2 LamX Dl Xt TL
section
variable {K : PySem.W.Frag} {ds : List D} {n : Nat} {k : KD} {x : KX}
theorem big (h : n ≤ 100000) : n ≤ sizeLine := sl5 h
/-! ### numbers -/
theorem cmp_str {t : Str} (h : PyData.strOk t = true) : cmpD (.str t) = true := by
  show SeqAt.shaped (.str t) = true
  simp [SeqAt.shaped, PyData.canLay0, h, PyData.depth]
theorem eqD_str {a b : Str} : eqD (.str a) (.str b) = decide (a = b) := by
  show PyData.eqv (.str a) (.str b) = _
  show (a == b) = _
  by_cases h : a = b
  · subst h; simp
  · simp [h]
theorem fEq_str {a b : Str} (ha : PyData.strOk a = true) (hb : PyData.strOk b = true) (q : k (.bl (decide (a = b))) n) : fEq (.str a) (.str b) n k x := fEq_of (cmp_str ha) (cmp_str hb) (by rw [eqD_str]; exact q)
theorem fNe_str {a b : Str} (ha : PyData.strOk a = true) (hb : PyData.strOk b = true) (q : k (.bl (!decide (a = b))) n) : fNe (.str a) (.str b) n k x := fNe_of (cmp_str ha) (cmp_str hb) (by rw [eqD_str]; exact q)
end
end Lz

set_option Elab.async false
set_option linter.all false
set_option maxRecDepth 100000
set_option maxHeartbeats 4000000
namespace Lz
open PySem PySem.Spec PyProof.Rows L2 LamX Dl Xt TL
section
variable {K : PySem.W.Frag} {ds : List D} {n : Nat} {k : KD} {x : KX}
theorem lc_on {α : Type} {i : Nat} {te : WE} {S : List Sl} (emb f : α → D) : ∀ {l : List α} {acc : List D} {n : Nat} {k : List D → Nat → Prop}, (∀ a ∈ l, ∀ (m : Nat) (kd : KD), kd (f a) m → te (S.set i (.val (emb a))) m kd (fun _ _ => False)) → k (acc ++ l.map f) n → lcD (gwName i) wYes te S (l.map emb) acc n k
  | [], acc, n, k, _, q => by
    rw [List.map_nil, List.append_nil] at q
    exact q
  | a :: l, acc, n, k, h, q => by
    show te (S.set i (.val (emb a))) n _ _
    refine h a List.mem_cons_self n _ ?_
    refine lc_on emb f (fun e he => h e (List.mem_cons_of_mem _ he)) ?_
    rw [List.append_assoc]
    exact q
theorem asc_pair : ∀ {s : List Int}, s.Pairwise (· < ·) → asc s = true
  | [], _ => rfl
  | [_], _ => rfl
  | a :: b :: r, h => by
    unfold asc
    rw [List.pairwise_cons] at h
    rw [Bool.and_eq_true]
    exact ⟨decide_eq_true (h.1 b List.mem_cons_self), asc_pair h.2⟩
theorem asc_up : ∀ {s : List Int}, asc s = true → s.Pairwise (· < ·)
  | [], _ => .nil
  | [a], _ => List.pairwise_singleton _ _
  | a :: b :: r, h => by
    unfold asc at h
    rw [Bool.and_eq_true] at h
    have ih := asc_up h.2
    have ab := of_decide_eq_true h.1
    rw [List.pairwise_cons]
    refine ⟨fun y hy => ?_, ih⟩
    rcases List.mem_cons.mp hy with rfl | hy
    · exact ab
    · have := (List.pairwise_cons.mp ih).1 y hy
      omega
theorem okS_of {lo : Int} {s : List Int} (l0 : 0 ≤ lo) (h : SumOk lo s) : okS s := ⟨h.ne, fun i hi => ⟨by have := h.lo i hi; omega, h.hi i hi⟩, asc_pair h.up⟩
theorem sok_of {s : List Int} (h : okS s) : SumOk 0 s := ⟨h.1, fun i hi => (h.2.1 i hi).1, fun i hi => (h.2.1 i hi).2, asc_up h.2.2⟩
theorem ok_of {ss : List (List Int)} {m : Bool} (h : TickOk ss m) : Ok ss m := ⟨fun s hs => okS_of (loM_nn m) (h.sm s hs), h.nd, h.ln, fun e s hs hh => by
  subst e
  cases s with
  | nil => cases hh
  | cons a r =>
    cases hh
    have := (h.sm _ hs).lo 0 List.mem_cons_self
    revert this
    decide⟩
theorem tk_of {ss : List (List Int)} {m : Bool} (h : Ok ss m) : TickOk ss m := ⟨fun s hs => by
  have so := sok_of (h.sm s hs)
  cases m with
  | false => exact so
  | true =>
    refine ⟨so.ne, fun i hi => ?_, so.hi, so.up⟩
    have hd := h.mu rfl s hs
    cases s with
    | nil => cases hi
    | cons a r =>
      have a0 := so.lo a List.mem_cons_self
      have an : a ≠ 0 := fun z => hd (by rw [z]; rfl)
      rw [show loM true = 1 from rfl]
      rcases List.mem_cons.mp hi with rfl | hi
      · omega
      · have := (List.pairwise_cons.mp so.up).1 i hi
        omega, h.nd, h.ln⟩
/-! ### the text of a tick -/
theorem log_small {i : Int} (h0 : 0 ≤ i) (h8 : i ≤ 8) : i.natAbs.log2 < 1920 := Nat.lt_of_le_of_lt (Nat.log2_le_self _) (by omega)
theorem sum_text {s : List Int} {a b c d e : Sl} {m : Nat} {kd : KD} (so : SumOk 0 s) (q : kd (.str (sumT s)) m) :
    wJoin (wC (.str " ")) (wLc (wSeq (wVar 4)) [5] (gwName 5) wYes (wF (fOne fStr) (wCons (wVar 5) wNil))) [a, b, c, d, .val (sumD s), e] m kd x := by
  simp only [wJoin]
  (try simp only [Dl.wRet, Dl.wRetN, Dl.wThen, Dl.wIf, Dl.wOr, Dl.wAnd, Dl.wNot, Dl.wNotV, Dl.wAndV, Dl.wOrV, Dl.wB, Dl.wTru, Dl.wOp, Dl.wUn, Dl.wVar, Dl.wC, Dl.wF, Dl.wCons, Dl.wNil, Dl.wTup, Dl.wLst, Dl.wSet, Dl.wAsg, Dl.wNext, Dl.wDrop, Dl.wFz, Dl.wfLst, Dl.wfList, Dl.wfCat, Dl.wSetOwn, Dl.wApp, Dl.wFreeze, Dl.wFreezeD, Dl.wIsi, Dl.wChain, Dl.wIfE, Dl.wSeq, Dl.wRng1, Dl.wRng2, Dl.wLc, Dl.wLcOwn, Dl.wFor, Dl.wPar, Dl.wDPut, Dl.wGet2, Dl.wLend, Dl.wLendT, Dl.wFld, Dl.wProp, Dl.wMeth, Dl.wMethK, Dl.wMakeM, Dl.wMakeMn, Dl.fMakeM, Dl.wStar, Dl.wSl, Dl.wNoP, Dl.wPart, Dl.wItOwn, Dl.wEnT, Dl.wEnL, Dl.wRaise1, Dl.wRaise2, Dl.wFldOwn, Dl.wMaxD, Dl.wDct0, Dl.wYes, Dl.fOwn, Dl.fOwnX, Dl.fOwnNe, Dl.fOwnNeX, Dl.fOwnIn, Dl.fOwnNotIn, Dl.fOwnLen, Dl.fOwnBool, Dl.gt, Dl.isB_bl, Dl.tru_bl, Dl.optI_some, Dl.slV_val, Dl.ownL_own, Dl.ownDI_own, Dl.lendI_own, Dl.lendI_ownD, Dl.seqI_tup, Dl.seqI_lst, Dl.tupI_tup, Dl.lstI_lst, Dl.intI_int, Dl.dctI_dct, Dl.keyI_int, Dl.insI_ins, Dl.ownIi_own, Dl.excI_exc, Dl.fOne_one, Dl.fI0_int, Dl.fI2_int, Dl.fLen_tup, Dl.fLen_lst, Dl.fTuple_tup, Dl.fTuple_lst, Dl.fInt_int, Dl.fInt_bl, Dl.fAdd_int, Dl.fAdd_tup, Dl.fAdd_lst, Dl.fNeg_int, Dl.fSl_tup, Dl.fSl_lst, Dl.gwTup_tup, Dl.gwUnl_lst, Dl.gwCons_cons, Dl.gwNil_nil, Dl.gwName_eq, Dl.lcD_nil, Dl.wipeS, List.set, if_true, if_false, Bool.false_eq_true, Bool.not_true, Bool.not_false, ite_true, ite_false])
  rw [strI_str]
  unfold sumD
  (try simp only [Dl.wRet, Dl.wRetN, Dl.wThen, Dl.wIf, Dl.wOr, Dl.wAnd, Dl.wNot, Dl.wNotV, Dl.wAndV, Dl.wOrV, Dl.wB, Dl.wTru, Dl.wOp, Dl.wUn, Dl.wVar, Dl.wC, Dl.wF, Dl.wCons, Dl.wNil, Dl.wTup, Dl.wLst, Dl.wSet, Dl.wAsg, Dl.wNext, Dl.wDrop, Dl.wFz, Dl.wfLst, Dl.wfList, Dl.wfCat, Dl.wSetOwn, Dl.wApp, Dl.wFreeze, Dl.wFreezeD, Dl.wIsi, Dl.wChain, Dl.wIfE, Dl.wSeq, Dl.wRng1, Dl.wRng2, Dl.wLc, Dl.wLcOwn, Dl.wFor, Dl.wPar, Dl.wDPut, Dl.wGet2, Dl.wLend, Dl.wLendT, Dl.wFld, Dl.wProp, Dl.wMeth, Dl.wMethK, Dl.wMakeM, Dl.wMakeMn, Dl.fMakeM, Dl.wStar, Dl.wSl, Dl.wNoP, Dl.wPart, Dl.wItOwn, Dl.wEnT, Dl.wEnL, Dl.wRaise1, Dl.wRaise2, Dl.wFldOwn, Dl.wMaxD, Dl.wDct0, Dl.wYes, Dl.fOwn, Dl.fOwnX, Dl.fOwnNe, Dl.fOwnNeX, Dl.fOwnIn, Dl.fOwnNotIn, Dl.fOwnLen, Dl.fOwnBool, Dl.gt, Dl.isB_bl, Dl.tru_bl, Dl.optI_some, Dl.slV_val, Dl.ownL_own, Dl.ownDI_own, Dl.lendI_own, Dl.lendI_ownD, Dl.seqI_tup, Dl.seqI_lst, Dl.tupI_tup, Dl.lstI_lst, Dl.intI_int, Dl.dctI_dct, Dl.keyI_int, Dl.insI_ins, Dl.ownIi_own, Dl.excI_exc, Dl.fOne_one, Dl.fI0_int, Dl.fI2_int, Dl.fLen_tup, Dl.fLen_lst, Dl.fTuple_tup, Dl.fTuple_lst, Dl.fInt_int, Dl.fInt_bl, Dl.fAdd_int, Dl.fAdd_tup, Dl.fAdd_lst, Dl.fNeg_int, Dl.fSl_tup, Dl.fSl_lst, Dl.gwTup_tup, Dl.gwUnl_lst, Dl.gwCons_cons, Dl.gwNil_nil, Dl.gwName_eq, Dl.lcD_nil, Dl.wipeS, List.set, if_true, if_false, Bool.false_eq_true, Bool.not_true, Bool.not_false, ite_true, ite_false])
  have l9 := so.len
  refine ⟨by rw [List.length_map]; omega, ?_⟩
  refine lc_on D.int (fun i => .str (numI i)) (fun i hi m kd q => ?_) ?_
  · (try simp only [Dl.wRet, Dl.wRetN, Dl.wThen, Dl.wIf, Dl.wOr, Dl.wAnd, Dl.wNot, Dl.wNotV, Dl.wAndV, Dl.wOrV, Dl.wB, Dl.wTru, Dl.wOp, Dl.wUn, Dl.wVar, Dl.wC, Dl.wF, Dl.wCons, Dl.wNil, Dl.wTup, Dl.wLst, Dl.wSet, Dl.wAsg, Dl.wNext, Dl.wDrop, Dl.wFz, Dl.wfLst, Dl.wfList, Dl.wfCat, Dl.wSetOwn, Dl.wApp, Dl.wFreeze, Dl.wFreezeD, Dl.wIsi, Dl.wChain, Dl.wIfE, Dl.wSeq, Dl.wRng1, Dl.wRng2, Dl.wLc, Dl.wLcOwn, Dl.wFor, Dl.wPar, Dl.wDPut, Dl.wGet2, Dl.wLend, Dl.wLendT, Dl.wFld, Dl.wProp, Dl.wMeth, Dl.wMethK, Dl.wMakeM, Dl.wMakeMn, Dl.fMakeM, Dl.wStar, Dl.wSl, Dl.wNoP, Dl.wPart, Dl.wItOwn, Dl.wEnT, Dl.wEnL, Dl.wRaise1, Dl.wRaise2, Dl.wFldOwn, Dl.wMaxD, Dl.wDct0, Dl.wYes, Dl.fOwn, Dl.fOwnX, Dl.fOwnNe, Dl.fOwnNeX, Dl.fOwnIn, Dl.fOwnNotIn, Dl.fOwnLen, Dl.fOwnBool, Dl.gt, Dl.isB_bl, Dl.tru_bl, Dl.optI_some, Dl.slV_val, Dl.ownL_own, Dl.ownDI_own, Dl.lendI_own, Dl.lendI_ownD, Dl.seqI_tup, Dl.seqI_lst, Dl.tupI_tup, Dl.lstI_lst, Dl.intI_int, Dl.dctI_dct, Dl.keyI_int, Dl.insI_ins, Dl.ownIi_own, Dl.excI_exc, Dl.fOne_one, Dl.fI0_int, Dl.fI2_int, Dl.fLen_tup, Dl.fLen_lst, Dl.fTuple_tup, Dl.fTuple_lst, Dl.fInt_int, Dl.fInt_bl, Dl.fAdd_int, Dl.fAdd_tup, Dl.fAdd_lst, Dl.fNeg_int, Dl.fSl_tup, Dl.fSl_lst, Dl.gwTup_tup, Dl.gwUnl_lst, Dl.gwCons_cons, Dl.gwNil_nil, Dl.gwName_eq, Dl.lcD_nil, Dl.wipeS, List.set, if_true, if_false, Bool.false_eq_true, Bool.not_true, Bool.not_false, ite_true, ite_false])
    exact ⟨log_small (so.lo i hi) (so.hi i hi), q⟩
  · rw [List.nil_append, show (s.map fun i => D.str (numI i)) = (s.map numI).map D.str by rw [List.map_map]; rfl, strsI_lst]
    refine ⟨?_, q⟩
    have := (sumT_len so).1
    rw [List.map_map, List.length_map]
    have e : (s.map ((fun x : Str => x.length) ∘ numI)).sum = (s.map fun a => (numI a).length).sum := rfl
    rw [e, show (Str.ofString " ").length = 1 from by decide +kernel]
    omega
theorem sums_len {ss : List (List Int)} (hs : ∀ s ∈ ss, SumOk 0 s) (hl : ss.length ≤ 6) : ((ss.map sumT).map (fun x : Str => x.length)).sum + (ss.map sumT).length * (Str.ofString " , ").length ≤ 16777216 := by
  have h1 := sum_le (fun s => (sumT s).length) 18 ss fun s h => (sumT_len (hs s h)).2
  rw [List.map_map, List.length_map]
  have e : (ss.map ((fun x : Str => x.length) ∘ sumT)).sum = (ss.map fun a => (sumT a).length).sum := rfl
  rw [e, show (Str.ofString " , ").length = 3 from by decide +kernel]
  omega
theorem sumsT_len {ss : List (List Int)} {m : Bool} (hs : ∀ s ∈ ss, SumOk 0 s) (hl : ss.length ≤ 6) : (sumsT ss).length ≤ 305 := by
  have := tickT_len (m := false) hs hl
  have e : tickT ss false = sumsT ss := ext_tl (by
    show tl (("" : Str) ++ _) = _
    rw [tl_append]
    rfl)
  rwa [e] at this
theorem dt_Tick_str (h : c_Tick_str K ds n k x) : W_Tick_str K (startD ["self", "texts", "first", "words", "ages", "age"] ds) n { nx := fun _ n' => k .non n', rt := k } x := by
  obtain ⟨ss, m, rfl, ok, q⟩ := h
  have tk := tk_of ok
  have hs : ∀ s ∈ ss, SumOk 0 s := fun s h => (tk.sm s h).zero
  show W_Tick_str K [.val (.ins (ga K "Tick") (tickF ss m)), .un, .un, .un, .un, .un] n _ x
  unfold W_Tick_str
  (try simp only [Dl.wRet, Dl.wRetN, Dl.wThen, Dl.wIf, Dl.wOr, Dl.wAnd, Dl.wNot, Dl.wNotV, Dl.wAndV, Dl.wOrV, Dl.wB, Dl.wTru, Dl.wOp, Dl.wUn, Dl.wVar, Dl.wC, Dl.wF, Dl.wCons, Dl.wNil, Dl.wTup, Dl.wLst, Dl.wSet, Dl.wAsg, Dl.wNext, Dl.wDrop, Dl.wFz, Dl.wfLst, Dl.wfList, Dl.wfCat, Dl.wSetOwn, Dl.wApp, Dl.wFreeze, Dl.wFreezeD, Dl.wIsi, Dl.wChain, Dl.wIfE, Dl.wSeq, Dl.wRng1, Dl.wRng2, Dl.wLc, Dl.wLcOwn, Dl.wFor, Dl.wPar, Dl.wDPut, Dl.wGet2, Dl.wLend, Dl.wLendT, Dl.wFld, Dl.wProp, Dl.wMeth, Dl.wMethK, Dl.wMakeM, Dl.wMakeMn, Dl.fMakeM, Dl.wStar, Dl.wSl, Dl.wNoP, Dl.wPart, Dl.wItOwn, Dl.wEnT, Dl.wEnL, Dl.wRaise1, Dl.wRaise2, Dl.wFldOwn, Dl.wMaxD, Dl.wDct0, Dl.wYes, Dl.fOwn, Dl.fOwnX, Dl.fOwnNe, Dl.fOwnNeX, Dl.fOwnIn, Dl.fOwnNotIn, Dl.fOwnLen, Dl.fOwnBool, Dl.gt, Dl.isB_bl, Dl.tru_bl, Dl.optI_some, Dl.slV_val, Dl.ownL_own, Dl.ownDI_own, Dl.lendI_own, Dl.lendI_ownD, Dl.seqI_tup, Dl.seqI_lst, Dl.tupI_tup, Dl.lstI_lst, Dl.intI_int, Dl.dctI_dct, Dl.keyI_int, Dl.insI_ins, Dl.ownIi_own, Dl.excI_exc, Dl.fOne_one, Dl.fI0_int, Dl.fI2_int, Dl.fLen_tup, Dl.fLen_lst, Dl.fTuple_tup, Dl.fTuple_lst, Dl.fInt_int, Dl.fInt_bl, Dl.fAdd_int, Dl.fAdd_tup, Dl.fAdd_lst, Dl.fNeg_int, Dl.fSl_tup, Dl.fSl_lst, Dl.gwTup_tup, Dl.gwUnl_lst, Dl.gwCons_cons, Dl.gwNil_nil, Dl.gwName_eq, Dl.lcD_nil, Dl.wipeS, List.set, if_true, if_false, Bool.false_eq_true, Bool.not_true, Bool.not_false, ite_true, ite_false])
  refine ⟨_, look_sums, ?_⟩
  unfold ssD
  (try simp only [Dl.wRet, Dl.wRetN, Dl.wThen, Dl.wIf, Dl.wOr, Dl.wAnd, Dl.wNot, Dl.wNotV, Dl.wAndV, Dl.wOrV, Dl.wB, Dl.wTru, Dl.wOp, Dl.wUn, Dl.wVar, Dl.wC, Dl.wF, Dl.wCons, Dl.wNil, Dl.wTup, Dl.wLst, Dl.wSet, Dl.wAsg, Dl.wNext, Dl.wDrop, Dl.wFz, Dl.wfLst, Dl.wfList, Dl.wfCat, Dl.wSetOwn, Dl.wApp, Dl.wFreeze, Dl.wFreezeD, Dl.wIsi, Dl.wChain, Dl.wIfE, Dl.wSeq, Dl.wRng1, Dl.wRng2, Dl.wLc, Dl.wLcOwn, Dl.wFor, Dl.wPar, Dl.wDPut, Dl.wGet2, Dl.wLend, Dl.wLendT, Dl.wFld, Dl.wProp, Dl.wMeth, Dl.wMethK, Dl.wMakeM, Dl.wMakeMn, Dl.fMakeM, Dl.wStar, Dl.wSl, Dl.wNoP, Dl.wPart, Dl.wItOwn, Dl.wEnT, Dl.wEnL, Dl.wRaise1, Dl.wRaise2, Dl.wFldOwn, Dl.wMaxD, Dl.wDct0, Dl.wYes, Dl.fOwn, Dl.fOwnX, Dl.fOwnNe, Dl.fOwnNeX, Dl.fOwnIn, Dl.fOwnNotIn, Dl.fOwnLen, Dl.fOwnBool, Dl.gt, Dl.isB_bl, Dl.tru_bl, Dl.optI_some, Dl.slV_val, Dl.ownL_own, Dl.ownDI_own, Dl.lendI_own, Dl.lendI_ownD, Dl.seqI_tup, Dl.seqI_lst, Dl.tupI_tup, Dl.lstI_lst, Dl.intI_int, Dl.dctI_dct, Dl.keyI_int, Dl.insI_ins, Dl.ownIi_own, Dl.excI_exc, Dl.fOne_one, Dl.fI0_int, Dl.fI2_int, Dl.fLen_tup, Dl.fLen_lst, Dl.fTuple_tup, Dl.fTuple_lst, Dl.fInt_int, Dl.fInt_bl, Dl.fAdd_int, Dl.fAdd_tup, Dl.fAdd_lst, Dl.fNeg_int, Dl.fSl_tup, Dl.fSl_lst, Dl.gwTup_tup, Dl.gwUnl_lst, Dl.gwCons_cons, Dl.gwNil_nil, Dl.gwName_eq, Dl.lcD_nil, Dl.wipeS, List.set, if_true, if_false, Bool.false_eq_true, Bool.not_true, Bool.not_false, ite_true, ite_false])
  refine ⟨by rw [List.length_map]; have := ok.ln; omega, ?_⟩
  refine lc_on sumD (fun s => .str (sumT s)) (fun s hi m kd q => sum_text (hs s hi) q) ?_
  rw [List.nil_append, show (ss.map fun i => D.str (sumT i)) = (ss.map sumT).map D.str by rw [List.map_map]; rfl]
  (try simp only [Dl.wRet, Dl.wRetN, Dl.wThen, Dl.wIf, Dl.wOr, Dl.wAnd, Dl.wNot, Dl.wNotV, Dl.wAndV, Dl.wOrV, Dl.wB, Dl.wTru, Dl.wOp, Dl.wUn, Dl.wVar, Dl.wC, Dl.wF, Dl.wCons, Dl.wNil, Dl.wTup, Dl.wLst, Dl.wSet, Dl.wAsg, Dl.wNext, Dl.wDrop, Dl.wFz, Dl.wfLst, Dl.wfList, Dl.wfCat, Dl.wSetOwn, Dl.wApp, Dl.wFreeze, Dl.wFreezeD, Dl.wIsi, Dl.wChain, Dl.wIfE, Dl.wSeq, Dl.wRng1, Dl.wRng2, Dl.wLc, Dl.wLcOwn, Dl.wFor, Dl.wPar, Dl.wDPut, Dl.wGet2, Dl.wLend, Dl.wLendT, Dl.wFld, Dl.wProp, Dl.wMeth, Dl.wMethK, Dl.wMakeM, Dl.wMakeMn, Dl.fMakeM, Dl.wStar, Dl.wSl, Dl.wNoP, Dl.wPart, Dl.wItOwn, Dl.wEnT, Dl.wEnL, Dl.wRaise1, Dl.wRaise2, Dl.wFldOwn, Dl.wMaxD, Dl.wDct0, Dl.wYes, Dl.fOwn, Dl.fOwnX, Dl.fOwnNe, Dl.fOwnNeX, Dl.fOwnIn, Dl.fOwnNotIn, Dl.fOwnLen, Dl.fOwnBool, Dl.gt, Dl.isB_bl, Dl.tru_bl, Dl.optI_some, Dl.slV_val, Dl.ownL_own, Dl.ownDI_own, Dl.lendI_own, Dl.lendI_ownD, Dl.seqI_tup, Dl.seqI_lst, Dl.tupI_tup, Dl.lstI_lst, Dl.intI_int, Dl.dctI_dct, Dl.keyI_int, Dl.insI_ins, Dl.ownIi_own, Dl.excI_exc, Dl.fOne_one, Dl.fI0_int, Dl.fI2_int, Dl.fLen_tup, Dl.fLen_lst, Dl.fTuple_tup, Dl.fTuple_lst, Dl.fInt_int, Dl.fInt_bl, Dl.fAdd_int, Dl.fAdd_tup, Dl.fAdd_lst, Dl.fNeg_int, Dl.fSl_tup, Dl.fSl_lst, Dl.gwTup_tup, Dl.gwUnl_lst, Dl.gwCons_cons, Dl.gwNil_nil, Dl.gwName_eq, Dl.lcD_nil, Dl.wipeS, List.set, if_true, if_false, Bool.false_eq_true, Bool.not_true, Bool.not_false, ite_true, ite_false])
  refine ⟨_, look_mute, ?_⟩
  have fin : ∀ f w : Str, f ++ w = tickT ss m → f.length ≤ 305 → w.length ≤ 305 → wRet (wJs [wFmt (wVar 2), wFmt (wVar 3)]) [.val (.ins (ga K "Tick") (tickF ss m)), .val (.lst ((ss.map sumT).map D.str)), .val (.str f), .val (.str w), .un, .un] n { nx := fun _ n' => k .non n', rt := k } x := fun f w e lf lw => by
    (try simp only [Dl.wRet, Dl.wRetN, Dl.wThen, Dl.wIf, Dl.wOr, Dl.wAnd, Dl.wNot, Dl.wNotV, Dl.wAndV, Dl.wOrV, Dl.wB, Dl.wTru, Dl.wOp, Dl.wUn, Dl.wVar, Dl.wC, Dl.wF, Dl.wCons, Dl.wNil, Dl.wTup, Dl.wLst, Dl.wSet, Dl.wAsg, Dl.wNext, Dl.wDrop, Dl.wFz, Dl.wfLst, Dl.wfList, Dl.wfCat, Dl.wSetOwn, Dl.wApp, Dl.wFreeze, Dl.wFreezeD, Dl.wIsi, Dl.wChain, Dl.wIfE, Dl.wSeq, Dl.wRng1, Dl.wRng2, Dl.wLc, Dl.wLcOwn, Dl.wFor, Dl.wPar, Dl.wDPut, Dl.wGet2, Dl.wLend, Dl.wLendT, Dl.wFld, Dl.wProp, Dl.wMeth, Dl.wMethK, Dl.wMakeM, Dl.wMakeMn, Dl.fMakeM, Dl.wStar, Dl.wSl, Dl.wNoP, Dl.wPart, Dl.wItOwn, Dl.wEnT, Dl.wEnL, Dl.wRaise1, Dl.wRaise2, Dl.wFldOwn, Dl.wMaxD, Dl.wDct0, Dl.wYes, Dl.fOwn, Dl.fOwnX, Dl.fOwnNe, Dl.fOwnNeX, Dl.fOwnIn, Dl.fOwnNotIn, Dl.fOwnLen, Dl.fOwnBool, Dl.gt, Dl.isB_bl, Dl.tru_bl, Dl.optI_some, Dl.slV_val, Dl.ownL_own, Dl.ownDI_own, Dl.lendI_own, Dl.lendI_ownD, Dl.seqI_tup, Dl.seqI_lst, Dl.tupI_tup, Dl.lstI_lst, Dl.intI_int, Dl.dctI_dct, Dl.keyI_int, Dl.insI_ins, Dl.ownIi_own, Dl.excI_exc, Dl.fOne_one, Dl.fI0_int, Dl.fI2_int, Dl.fLen_tup, Dl.fLen_lst, Dl.fTuple_tup, Dl.fTuple_lst, Dl.fInt_int, Dl.fInt_bl, Dl.fAdd_int, Dl.fAdd_tup, Dl.fAdd_lst, Dl.fNeg_int, Dl.fSl_tup, Dl.fSl_lst, Dl.gwTup_tup, Dl.gwUnl_lst, Dl.gwCons_cons, Dl.gwNil_nil, Dl.gwName_eq, Dl.lcD_nil, Dl.wipeS, List.set, if_true, if_false, Bool.false_eq_true, Bool.not_true, Bool.not_false, ite_true, ite_false])
    simp only [wJs, jsW, wFmt]
    (try simp only [Dl.wRet, Dl.wRetN, Dl.wThen, Dl.wIf, Dl.wOr, Dl.wAnd, Dl.wNot, Dl.wNotV, Dl.wAndV, Dl.wOrV, Dl.wB, Dl.wTru, Dl.wOp, Dl.wUn, Dl.wVar, Dl.wC, Dl.wF, Dl.wCons, Dl.wNil, Dl.wTup, Dl.wLst, Dl.wSet, Dl.wAsg, Dl.wNext, Dl.wDrop, Dl.wFz, Dl.wfLst, Dl.wfList, Dl.wfCat, Dl.wSetOwn, Dl.wApp, Dl.wFreeze, Dl.wFreezeD, Dl.wIsi, Dl.wChain, Dl.wIfE, Dl.wSeq, Dl.wRng1, Dl.wRng2, Dl.wLc, Dl.wLcOwn, Dl.wFor, Dl.wPar, Dl.wDPut, Dl.wGet2, Dl.wLend, Dl.wLendT, Dl.wFld, Dl.wProp, Dl.wMeth, Dl.wMethK, Dl.wMakeM, Dl.wMakeMn, Dl.fMakeM, Dl.wStar, Dl.wSl, Dl.wNoP, Dl.wPart, Dl.wItOwn, Dl.wEnT, Dl.wEnL, Dl.wRaise1, Dl.wRaise2, Dl.wFldOwn, Dl.wMaxD, Dl.wDct0, Dl.wYes, Dl.fOwn, Dl.fOwnX, Dl.fOwnNe, Dl.fOwnNeX, Dl.fOwnIn, Dl.fOwnNotIn, Dl.fOwnLen, Dl.fOwnBool, Dl.gt, Dl.isB_bl, Dl.tru_bl, Dl.optI_some, Dl.slV_val, Dl.ownL_own, Dl.ownDI_own, Dl.lendI_own, Dl.lendI_ownD, Dl.seqI_tup, Dl.seqI_lst, Dl.tupI_tup, Dl.lstI_lst, Dl.intI_int, Dl.dctI_dct, Dl.keyI_int, Dl.insI_ins, Dl.ownIi_own, Dl.excI_exc, Dl.fOne_one, Dl.fI0_int, Dl.fI2_int, Dl.fLen_tup, Dl.fLen_lst, Dl.fTuple_tup, Dl.fTuple_lst, Dl.fInt_int, Dl.fInt_bl, Dl.fAdd_int, Dl.fAdd_tup, Dl.fAdd_lst, Dl.fNeg_int, Dl.fSl_tup, Dl.fSl_lst, Dl.gwTup_tup, Dl.gwUnl_lst, Dl.gwCons_cons, Dl.gwNil_nil, Dl.gwName_eq, Dl.lcD_nil, Dl.wipeS, List.set, if_true, if_false, Bool.false_eq_true, Bool.not_true, Bool.not_false, ite_true, ite_false])
    have e0 : Str.empty ++ f = f := ext_tl (by rw [tl_append]; rfl)
    simp only [strI_str]
    rw [e0, e]
    have := tickT_len (m := m) hs ok.ln
    exact ⟨big (by omega), big (by omega), big (by omega), big (by omega), q⟩
  have go : ∀ f : Str, f = (if m = true then Str.ofString "mute " else Str.ofString "") → wFreeze 1 (wThen (wSet 3 (wIfE (wTru (wVar 1)) (wJoin (wC (.str " , ")) (wVar 1)) (wC (.str "-"))))
    (wRet (wJs [wFmt (wVar 2), wFmt (wVar 3)]))) [.val (.ins (ga K "Tick") (tickF ss m)), .own ((ss.map sumT).map D.str), .val (.str f), .un, .un, .un] n { nx := fun _ n' => k .non n', rt := k } x := fun f ef => by
    have lf : f.length ≤ 305 := by rw [ef]; cases m <;> decide +kernel
    have sl := sumsT_len (m := m) hs ok.ln
    have fin2 : ∀ w : Str, w = sumsT ss → _ := fun w ew => fin f w (by rw [ew, ef]; cases m <;> rfl) lf (by rw [ew]; exact sl)
    (try simp only [Dl.wRet, Dl.wRetN, Dl.wThen, Dl.wIf, Dl.wOr, Dl.wAnd, Dl.wNot, Dl.wNotV, Dl.wAndV, Dl.wOrV, Dl.wB, Dl.wTru, Dl.wOp, Dl.wUn, Dl.wVar, Dl.wC, Dl.wF, Dl.wCons, Dl.wNil, Dl.wTup, Dl.wLst, Dl.wSet, Dl.wAsg, Dl.wNext, Dl.wDrop, Dl.wFz, Dl.wfLst, Dl.wfList, Dl.wfCat, Dl.wSetOwn, Dl.wApp, Dl.wFreeze, Dl.wFreezeD, Dl.wIsi, Dl.wChain, Dl.wIfE, Dl.wSeq, Dl.wRng1, Dl.wRng2, Dl.wLc, Dl.wLcOwn, Dl.wFor, Dl.wPar, Dl.wDPut, Dl.wGet2, Dl.wLend, Dl.wLendT, Dl.wFld, Dl.wProp, Dl.wMeth, Dl.wMethK, Dl.wMakeM, Dl.wMakeMn, Dl.fMakeM, Dl.wStar, Dl.wSl, Dl.wNoP, Dl.wPart, Dl.wItOwn, Dl.wEnT, Dl.wEnL, Dl.wRaise1, Dl.wRaise2, Dl.wFldOwn, Dl.wMaxD, Dl.wDct0, Dl.wYes, Dl.fOwn, Dl.fOwnX, Dl.fOwnNe, Dl.fOwnNeX, Dl.fOwnIn, Dl.fOwnNotIn, Dl.fOwnLen, Dl.fOwnBool, Dl.gt, Dl.isB_bl, Dl.tru_bl, Dl.optI_some, Dl.slV_val, Dl.ownL_own, Dl.ownDI_own, Dl.lendI_own, Dl.lendI_ownD, Dl.seqI_tup, Dl.seqI_lst, Dl.tupI_tup, Dl.lstI_lst, Dl.intI_int, Dl.dctI_dct, Dl.keyI_int, Dl.insI_ins, Dl.ownIi_own, Dl.excI_exc, Dl.fOne_one, Dl.fI0_int, Dl.fI2_int, Dl.fLen_tup, Dl.fLen_lst, Dl.fTuple_tup, Dl.fTuple_lst, Dl.fInt_int, Dl.fInt_bl, Dl.fAdd_int, Dl.fAdd_tup, Dl.fAdd_lst, Dl.fNeg_int, Dl.fSl_tup, Dl.fSl_lst, Dl.gwTup_tup, Dl.gwUnl_lst, Dl.gwCons_cons, Dl.gwNil_nil, Dl.gwName_eq, Dl.lcD_nil, Dl.wipeS, List.set, if_true, if_false, Bool.false_eq_true, Bool.not_true, Bool.not_false, ite_true, ite_false])
    show (if (!((ss.map sumT).map D.str).isEmpty) = true then _ else _)
    refine iteB (fun c => ?_) (fun c => ?_)
    · have ne : ss ≠ [] := fun z => by subst z; cases c
      simp only [wJoin]
      (try simp only [Dl.wRet, Dl.wRetN, Dl.wThen, Dl.wIf, Dl.wOr, Dl.wAnd, Dl.wNot, Dl.wNotV, Dl.wAndV, Dl.wOrV, Dl.wB, Dl.wTru, Dl.wOp, Dl.wUn, Dl.wVar, Dl.wC, Dl.wF, Dl.wCons, Dl.wNil, Dl.wTup, Dl.wLst, Dl.wSet, Dl.wAsg, Dl.wNext, Dl.wDrop, Dl.wFz, Dl.wfLst, Dl.wfList, Dl.wfCat, Dl.wSetOwn, Dl.wApp, Dl.wFreeze, Dl.wFreezeD, Dl.wIsi, Dl.wChain, Dl.wIfE, Dl.wSeq, Dl.wRng1, Dl.wRng2, Dl.wLc, Dl.wLcOwn, Dl.wFor, Dl.wPar, Dl.wDPut, Dl.wGet2, Dl.wLend, Dl.wLendT, Dl.wFld, Dl.wProp, Dl.wMeth, Dl.wMethK, Dl.wMakeM, Dl.wMakeMn, Dl.fMakeM, Dl.wStar, Dl.wSl, Dl.wNoP, Dl.wPart, Dl.wItOwn, Dl.wEnT, Dl.wEnL, Dl.wRaise1, Dl.wRaise2, Dl.wFldOwn, Dl.wMaxD, Dl.wDct0, Dl.wYes, Dl.fOwn, Dl.fOwnX, Dl.fOwnNe, Dl.fOwnNeX, Dl.fOwnIn, Dl.fOwnNotIn, Dl.fOwnLen, Dl.fOwnBool, Dl.gt, Dl.isB_bl, Dl.tru_bl, Dl.optI_some, Dl.slV_val, Dl.ownL_own, Dl.ownDI_own, Dl.lendI_own, Dl.lendI_ownD, Dl.seqI_tup, Dl.seqI_lst, Dl.tupI_tup, Dl.lstI_lst, Dl.intI_int, Dl.dctI_dct, Dl.keyI_int, Dl.insI_ins, Dl.ownIi_own, Dl.excI_exc, Dl.fOne_one, Dl.fI0_int, Dl.fI2_int, Dl.fLen_tup, Dl.fLen_lst, Dl.fTuple_tup, Dl.fTuple_lst, Dl.fInt_int, Dl.fInt_bl, Dl.fAdd_int, Dl.fAdd_tup, Dl.fAdd_lst, Dl.fNeg_int, Dl.fSl_tup, Dl.fSl_lst, Dl.gwTup_tup, Dl.gwUnl_lst, Dl.gwCons_cons, Dl.gwNil_nil, Dl.gwName_eq, Dl.lcD_nil, Dl.wipeS, List.set, if_true, if_false, Bool.false_eq_true, Bool.not_true, Bool.not_false, ite_true, ite_false])
      rw [strI_str, strsI_lst]
      refine ⟨sums_len hs ok.ln, fin2 _ ?_⟩
      unfold sumsT
      rw [if_neg ne]
    · have e0 : ss = [] := by
        cases ss with
        | nil => rfl
        | cons s r => simp at c
      refine fin2 _ ?_
      unfold sumsT
      rw [if_pos e0]
      rfl
  show (if m = true then _ else _)
  refine iteB (fun c => ?_) (fun c => ?_)
  · exact go _ (by rw [if_pos c])
  · exact go _ (by rw [if_neg (by rw [c]; decide)])
end
end Lz

set_option Elab.async false
set_option linter.all false
set_option maxRecDepth 100000
set_option maxHeartbeats 4000000
namespace Lz
open PySem PySem.Spec PyProof.Rows L2 LamX Dl Xt TL
section
variable {K : PySem.W.Frag} {ds : List D} {n : Nat} {k : KD} {x : KX} {kb : Bool → Nat → Prop} {vs : List Str}
theorem joinL_mem {S : List Nat} {c : Nat} : ∀ (ps : List (List Nat)) (p : List Nat), p ∈ ps → c ∈ p → c ∈ joinL S ps
  | [q], p, hp, hc => by
    rw [List.mem_singleton.mp hp] at hc
    exact hc
  | q :: r :: ps, p, hp, hc => by
    show c ∈ q ++ (S ++ joinL S (r :: ps))
    rcases List.mem_cons.mp hp with h | h
    · rw [h] at hc
      exact List.mem_append_left _ hc
    · exact List.mem_append_right _ (List.mem_append_right _ (joinL_mem (r :: ps) p h hc))
theorem joinL_sub {S : List Nat} {c : Nat} : ∀ (ps : List (List Nat)), c ∈ joinL S ps → c ∈ S ∨ ∃ p ∈ ps, c ∈ p
  | [], h => by cases h
  | [q], h => .inr ⟨q, List.mem_singleton.mpr rfl, h⟩
  | q :: r :: ps, h => by
    have h : c ∈ q ++ (S ++ joinL S (r :: ps)) := h
    rcases List.mem_append.mp h with h | h
    · exact .inr ⟨q, List.mem_cons_self, h⟩
    · rcases List.mem_append.mp h with h | h
      · exact .inl h
      · rcases joinL_sub (r :: ps) h with h | ⟨p, hp, hc⟩
        · exact .inl h
        · exact .inr ⟨p, List.mem_cons_of_mem _ hp, hc⟩
theorem strOk_iff {z : Str} : PyData.strOk z = true ↔ ∀ c ∈ tl z, c < 0x110000 := by
  unfold PyData.strOk
  rw [← Array.all_toList, List.all_eq_true]
  simp
theorem strOk_split {z : Str} (h : PyData.strOk z = true) : ∀ w ∈ Txt.split z sp1, PyData.strOk w = true := fun w hw => by
  rw [strOk_iff] at h ⊢
  intro c hc
  refine h c ?_
  rw [← join_words z, tl_joinT]
  exact joinL_mem _ _ (List.mem_map.mpr ⟨w, hw, rfl⟩) hc
theorem strOk_join {ys : List Str} (h : ∀ w ∈ ys, PyData.strOk w = true) : PyData.strOk (Txt.join sp1 ys) = true := by
  rw [strOk_iff]
  intro c hc
  rw [tl_joinT] at hc
  rcases joinL_sub _ hc with hc | ⟨p, hp, hc⟩
  · rw [show tl sp1 = [32] from by decide +kernel] at hc
    rw [List.mem_singleton.mp hc]
    decide
  · obtain ⟨w, hw, rfl⟩ := List.mem_map.mp hp
    exact strOk_iff.mp (h w hw) c hc
theorem strOk_app {a b : Str} (ha : PyData.strOk a = true) (hb : PyData.strOk b = true) : PyData.strOk (a ++ b) = true := by
  rw [strOk_iff] at *
  intro c hc
  rw [tl_append] at hc
  rcases List.mem_append.mp hc with h | h
  · exact ha c h
  · exact hb c h
/-! ### Tick.read -/
end
end Lz

set_option Elab.async false
set_option linter.all false
set_option maxRecDepth 100000
set_option maxHeartbeats 4000000
namespace Lz
open PySem PySem.Spec PyProof.Rows L2 LamX Dl Xt TL
section
variable {K : PySem.W.Frag} {ds : List D} {n : Nat} {k : KD} {x : KX} {vs : List Str}
theorem lc_onG {α : Type} {gw : WG} {te : WE} {S : List Sl} (emb f : α → D) (S' : α → List Sl) : ∀ {l : List α} {acc : List D} {n : Nat} {k : List D → Nat → Prop}, (∀ a ∈ l, ∀ kk : List Sl → Prop, kk (S' a) → gw (emb a) S kk) → (∀ a ∈ l, ∀ (m : Nat) (kd : KD), kd (f a) m → te (S' a) m kd (fun _ _ => False)) → k (acc ++ l.map f) n → lcD gw wYes te S (l.map emb) acc n k
  | [], acc, n, k, _, _, q => by
    rw [List.map_nil, List.append_nil] at q
    exact q
  | a :: l, acc, n, k, hg, h, q => by
    refine hg a List.mem_cons_self _ ?_
    show te (S' a) n _ _
    refine h a List.mem_cons_self n _ ?_
    refine lc_onG emb f S' (fun e he => hg e (List.mem_cons_of_mem _ he)) (fun e he => h e (List.mem_cons_of_mem _ he)) ?_
    rw [List.append_assoc]
    exact q
theorem lc_drawn {α : Type} {i : Nat} {te : WE} {S : List Sl} (f : α → D) (P : α → Prop) (c B : Nat) : ∀ {l acc : List D} {n : Nat} {k : List D → Nat → Prop}, n + c * l.length ≤ B → (∀ d ∈ l, ∀ (m : Nat) (kd : KD), m + c ≤ B → (∀ (a : α) m', P a → m' ≤ m + c → kd (f a) m') → te (S.set i (.val d)) m kd (fun _ _ => False)) →
    (∀ (r : List α) n', r.length = l.length → (∀ a ∈ r, P a) → n' ≤ n + c * l.length → k (acc ++ r.map f) n') → lcD (gwName i) wYes te S l acc n k
  | [], acc, n, k, _, _, q => by
    have := q [] n rfl (fun a h => absurd h List.not_mem_nil) (by simp)
    rwa [List.map_nil, List.append_nil] at this
  | d :: l, acc, n, k, hB, h, q => by
    have e1 : c * (d :: l).length = c * l.length + c := by rw [List.length_cons, Nat.mul_succ]
    show te (S.set i (.val d)) n _ _
    refine h d List.mem_cons_self n _ (by omega) fun a m' pa hm => ?_
    refine lc_drawn f P c B (by omega) (fun e he => h e (List.mem_cons_of_mem _ he)) fun r n' hl hr hn => ?_
    have := q (a :: r) n' (by simp [hl]) (fun b hb => by
      rcases List.mem_cons.mp hb with rfl | hb
      · exact pa
      · exact hr b hb) (by omega)
    rw [List.append_assoc]
    exact this
theorem plan_loop {x0 : Addr} {E : DEnds} {td : D} : ∀ (r : List D) (i : Nat) (s2 s3 : Sl), (∀ d ∈ r, tkn K d) → (match badTk K i r with
      | some j => x (ga K "BadPlan", [("part", .int (j : Int))]) n
      | none => ∀ s2 s3, E.nx [.ownI x0 (ga K "Plan") [], .val td, s2, s3] n) →
    forD (gwTup (gwCons (gwName 2) (gwCons (gwName 3) gwNil))) (wIf (wNot (wTru (wIsi (tyC (ga K "Tick") (Cs K)) (wVar 3)))) (wRaise1 (ga K "BadPlan") "part" (wVar 2)) wNext) E x (enumD i r) [.ownI x0 (ga K "Plan") [], .val td, s2, s3] n
  | [], i, s2, s3, _, q => q s2 s3
  | d :: r, i, s2, s3, hd, q => by
    simp only [enumD, forD]
    (try simp only [Dl.wRet, Dl.wRetN, Dl.wThen, Dl.wIf, Dl.wOr, Dl.wAnd, Dl.wNot, Dl.wNotV, Dl.wAndV, Dl.wOrV, Dl.wB, Dl.wTru, Dl.wOp, Dl.wUn, Dl.wVar, Dl.wC, Dl.wF, Dl.wCons, Dl.wNil, Dl.wTup, Dl.wLst, Dl.wSet, Dl.wAsg, Dl.wNext, Dl.wDrop, Dl.wFz, Dl.wfLst, Dl.wfList, Dl.wfCat, Dl.wSetOwn, Dl.wApp, Dl.wFreeze, Dl.wFreezeD, Dl.wIsi, Dl.wChain, Dl.wIfE, Dl.wSeq, Dl.wRng1, Dl.wRng2, Dl.wLc, Dl.wLcOwn, Dl.wFor, Dl.wPar, Dl.wDPut, Dl.wGet2, Dl.wLend, Dl.wLendT, Dl.wFld, Dl.wProp, Dl.wMeth, Dl.wMethK, Dl.wMakeM, Dl.wMakeMn, Dl.fMakeM, Dl.wStar, Dl.wSl, Dl.wNoP, Dl.wPart, Dl.wItOwn, Dl.wEnT, Dl.wEnL, Dl.wRaise1, Dl.wRaise2, Dl.wFldOwn, Dl.wMaxD, Dl.wDct0, Dl.wYes, Dl.fOwn, Dl.fOwnX, Dl.fOwnNe, Dl.fOwnNeX, Dl.fOwnIn, Dl.fOwnNotIn, Dl.fOwnLen, Dl.fOwnBool, Dl.gt, Dl.isB_bl, Dl.tru_bl, Dl.optI_some, Dl.slV_val, Dl.ownL_own, Dl.ownDI_own, Dl.lendI_own, Dl.lendI_ownD, Dl.seqI_tup, Dl.seqI_lst, Dl.tupI_tup, Dl.lstI_lst, Dl.intI_int, Dl.dctI_dct, Dl.keyI_int, Dl.insI_ins, Dl.ownIi_own, Dl.excI_exc, Dl.fOne_one, Dl.fI0_int, Dl.fI2_int, Dl.fLen_tup, Dl.fLen_lst, Dl.fTuple_tup, Dl.fTuple_lst, Dl.fInt_int, Dl.fInt_bl, Dl.fAdd_int, Dl.fAdd_tup, Dl.fAdd_lst, Dl.fNeg_int, Dl.fSl_tup, Dl.fSl_lst, Dl.gwTup_tup, Dl.gwUnl_lst, Dl.gwCons_cons, Dl.gwNil_nil, Dl.gwName_eq, Dl.lcD_nil, Dl.wipeS, List.set, if_true, if_false, Bool.false_eq_true, Bool.not_true, Bool.not_false, ite_true, ite_false])
    rw [show tyC (ga K "Tick") (Cs K) d = some (isTk K d) from hd d List.mem_cons_self]
    (try simp only [Dl.wRet, Dl.wRetN, Dl.wThen, Dl.wIf, Dl.wOr, Dl.wAnd, Dl.wNot, Dl.wNotV, Dl.wAndV, Dl.wOrV, Dl.wB, Dl.wTru, Dl.wOp, Dl.wUn, Dl.wVar, Dl.wC, Dl.wF, Dl.wCons, Dl.wNil, Dl.wTup, Dl.wLst, Dl.wSet, Dl.wAsg, Dl.wNext, Dl.wDrop, Dl.wFz, Dl.wfLst, Dl.wfList, Dl.wfCat, Dl.wSetOwn, Dl.wApp, Dl.wFreeze, Dl.wFreezeD, Dl.wIsi, Dl.wChain, Dl.wIfE, Dl.wSeq, Dl.wRng1, Dl.wRng2, Dl.wLc, Dl.wLcOwn, Dl.wFor, Dl.wPar, Dl.wDPut, Dl.wGet2, Dl.wLend, Dl.wLendT, Dl.wFld, Dl.wProp, Dl.wMeth, Dl.wMethK, Dl.wMakeM, Dl.wMakeMn, Dl.fMakeM, Dl.wStar, Dl.wSl, Dl.wNoP, Dl.wPart, Dl.wItOwn, Dl.wEnT, Dl.wEnL, Dl.wRaise1, Dl.wRaise2, Dl.wFldOwn, Dl.wMaxD, Dl.wDct0, Dl.wYes, Dl.fOwn, Dl.fOwnX, Dl.fOwnNe, Dl.fOwnNeX, Dl.fOwnIn, Dl.fOwnNotIn, Dl.fOwnLen, Dl.fOwnBool, Dl.gt, Dl.isB_bl, Dl.tru_bl, Dl.optI_some, Dl.slV_val, Dl.ownL_own, Dl.ownDI_own, Dl.lendI_own, Dl.lendI_ownD, Dl.seqI_tup, Dl.seqI_lst, Dl.tupI_tup, Dl.lstI_lst, Dl.intI_int, Dl.dctI_dct, Dl.keyI_int, Dl.insI_ins, Dl.ownIi_own, Dl.excI_exc, Dl.fOne_one, Dl.fI0_int, Dl.fI2_int, Dl.fLen_tup, Dl.fLen_lst, Dl.fTuple_tup, Dl.fTuple_lst, Dl.fInt_int, Dl.fInt_bl, Dl.fAdd_int, Dl.fAdd_tup, Dl.fAdd_lst, Dl.fNeg_int, Dl.fSl_tup, Dl.fSl_lst, Dl.gwTup_tup, Dl.gwUnl_lst, Dl.gwCons_cons, Dl.gwNil_nil, Dl.gwName_eq, Dl.lcD_nil, Dl.wipeS, List.set, if_true, if_false, Bool.false_eq_true, Bool.not_true, Bool.not_false, ite_true, ite_false])
    rw [badTk] at q
    by_cases c : isTk K d = true
    · rw [if_pos c] at q
      rw [c]
      (try simp only [Dl.wRet, Dl.wRetN, Dl.wThen, Dl.wIf, Dl.wOr, Dl.wAnd, Dl.wNot, Dl.wNotV, Dl.wAndV, Dl.wOrV, Dl.wB, Dl.wTru, Dl.wOp, Dl.wUn, Dl.wVar, Dl.wC, Dl.wF, Dl.wCons, Dl.wNil, Dl.wTup, Dl.wLst, Dl.wSet, Dl.wAsg, Dl.wNext, Dl.wDrop, Dl.wFz, Dl.wfLst, Dl.wfList, Dl.wfCat, Dl.wSetOwn, Dl.wApp, Dl.wFreeze, Dl.wFreezeD, Dl.wIsi, Dl.wChain, Dl.wIfE, Dl.wSeq, Dl.wRng1, Dl.wRng2, Dl.wLc, Dl.wLcOwn, Dl.wFor, Dl.wPar, Dl.wDPut, Dl.wGet2, Dl.wLend, Dl.wLendT, Dl.wFld, Dl.wProp, Dl.wMeth, Dl.wMethK, Dl.wMakeM, Dl.wMakeMn, Dl.fMakeM, Dl.wStar, Dl.wSl, Dl.wNoP, Dl.wPart, Dl.wItOwn, Dl.wEnT, Dl.wEnL, Dl.wRaise1, Dl.wRaise2, Dl.wFldOwn, Dl.wMaxD, Dl.wDct0, Dl.wYes, Dl.fOwn, Dl.fOwnX, Dl.fOwnNe, Dl.fOwnNeX, Dl.fOwnIn, Dl.fOwnNotIn, Dl.fOwnLen, Dl.fOwnBool, Dl.gt, Dl.isB_bl, Dl.tru_bl, Dl.optI_some, Dl.slV_val, Dl.ownL_own, Dl.ownDI_own, Dl.lendI_own, Dl.lendI_ownD, Dl.seqI_tup, Dl.seqI_lst, Dl.tupI_tup, Dl.lstI_lst, Dl.intI_int, Dl.dctI_dct, Dl.keyI_int, Dl.insI_ins, Dl.ownIi_own, Dl.excI_exc, Dl.fOne_one, Dl.fI0_int, Dl.fI2_int, Dl.fLen_tup, Dl.fLen_lst, Dl.fTuple_tup, Dl.fTuple_lst, Dl.fInt_int, Dl.fInt_bl, Dl.fAdd_int, Dl.fAdd_tup, Dl.fAdd_lst, Dl.fNeg_int, Dl.fSl_tup, Dl.fSl_lst, Dl.gwTup_tup, Dl.gwUnl_lst, Dl.gwCons_cons, Dl.gwNil_nil, Dl.gwName_eq, Dl.lcD_nil, Dl.wipeS, List.set, if_true, if_false, Bool.false_eq_true, Bool.not_true, Bool.not_false, ite_true, ite_false])
      exact plan_loop r (i + 1) _ _ (fun e he => hd e (List.mem_cons_of_mem _ he)) q
    · rw [if_neg c] at q
      rw [show isTk K d = false from by simpa using c]
      (try simp only [Dl.wRet, Dl.wRetN, Dl.wThen, Dl.wIf, Dl.wOr, Dl.wAnd, Dl.wNot, Dl.wNotV, Dl.wAndV, Dl.wOrV, Dl.wB, Dl.wTru, Dl.wOp, Dl.wUn, Dl.wVar, Dl.wC, Dl.wF, Dl.wCons, Dl.wNil, Dl.wTup, Dl.wLst, Dl.wSet, Dl.wAsg, Dl.wNext, Dl.wDrop, Dl.wFz, Dl.wfLst, Dl.wfList, Dl.wfCat, Dl.wSetOwn, Dl.wApp, Dl.wFreeze, Dl.wFreezeD, Dl.wIsi, Dl.wChain, Dl.wIfE, Dl.wSeq, Dl.wRng1, Dl.wRng2, Dl.wLc, Dl.wLcOwn, Dl.wFor, Dl.wPar, Dl.wDPut, Dl.wGet2, Dl.wLend, Dl.wLendT, Dl.wFld, Dl.wProp, Dl.wMeth, Dl.wMethK, Dl.wMakeM, Dl.wMakeMn, Dl.fMakeM, Dl.wStar, Dl.wSl, Dl.wNoP, Dl.wPart, Dl.wItOwn, Dl.wEnT, Dl.wEnL, Dl.wRaise1, Dl.wRaise2, Dl.wFldOwn, Dl.wMaxD, Dl.wDct0, Dl.wYes, Dl.fOwn, Dl.fOwnX, Dl.fOwnNe, Dl.fOwnNeX, Dl.fOwnIn, Dl.fOwnNotIn, Dl.fOwnLen, Dl.fOwnBool, Dl.gt, Dl.isB_bl, Dl.tru_bl, Dl.optI_some, Dl.slV_val, Dl.ownL_own, Dl.ownDI_own, Dl.lendI_own, Dl.lendI_ownD, Dl.seqI_tup, Dl.seqI_lst, Dl.tupI_tup, Dl.lstI_lst, Dl.intI_int, Dl.dctI_dct, Dl.keyI_int, Dl.insI_ins, Dl.ownIi_own, Dl.excI_exc, Dl.fOne_one, Dl.fI0_int, Dl.fI2_int, Dl.fLen_tup, Dl.fLen_lst, Dl.fTuple_tup, Dl.fTuple_lst, Dl.fInt_int, Dl.fInt_bl, Dl.fAdd_int, Dl.fAdd_tup, Dl.fAdd_lst, Dl.fNeg_int, Dl.fSl_tup, Dl.fSl_lst, Dl.gwTup_tup, Dl.gwUnl_lst, Dl.gwCons_cons, Dl.gwNil_nil, Dl.gwName_eq, Dl.lcD_nil, Dl.wipeS, List.set, if_true, if_false, Bool.false_eq_true, Bool.not_true, Bool.not_false, ite_true, ite_false])
      exact q
theorem dt_Plan_init {x0 : Addr} {k : List (Str × D) → Nat → Prop} (h : c_Plan_init K ds n k x) :
    W_Plan_init K (startI ["self", "ticks", "at", "tick"] x0 (ga K "Plan") ds) n { nx := fun S' n' => ownIi (ga K "Plan") (gt S' 0) fun a fs => a = x0 ∧ k fs n', rt := fun _ _ => False } x := by
  match ds, h with
  | [.tup ds], h =>
    obtain ⟨hp, hl, q⟩ := h
    show W_Plan_init K [.ownI x0 (ga K "Plan") [], .val (.tup ds), .un, .un] n _ x
    unfold W_Plan_init
    (try simp only [Dl.wRet, Dl.wRetN, Dl.wThen, Dl.wIf, Dl.wOr, Dl.wAnd, Dl.wNot, Dl.wNotV, Dl.wAndV, Dl.wOrV, Dl.wB, Dl.wTru, Dl.wOp, Dl.wUn, Dl.wVar, Dl.wC, Dl.wF, Dl.wCons, Dl.wNil, Dl.wTup, Dl.wLst, Dl.wSet, Dl.wAsg, Dl.wNext, Dl.wDrop, Dl.wFz, Dl.wfLst, Dl.wfList, Dl.wfCat, Dl.wSetOwn, Dl.wApp, Dl.wFreeze, Dl.wFreezeD, Dl.wIsi, Dl.wChain, Dl.wIfE, Dl.wSeq, Dl.wRng1, Dl.wRng2, Dl.wLc, Dl.wLcOwn, Dl.wFor, Dl.wPar, Dl.wDPut, Dl.wGet2, Dl.wLend, Dl.wLendT, Dl.wFld, Dl.wProp, Dl.wMeth, Dl.wMethK, Dl.wMakeM, Dl.wMakeMn, Dl.fMakeM, Dl.wStar, Dl.wSl, Dl.wNoP, Dl.wPart, Dl.wItOwn, Dl.wEnT, Dl.wEnL, Dl.wRaise1, Dl.wRaise2, Dl.wFldOwn, Dl.wMaxD, Dl.wDct0, Dl.wYes, Dl.fOwn, Dl.fOwnX, Dl.fOwnNe, Dl.fOwnNeX, Dl.fOwnIn, Dl.fOwnNotIn, Dl.fOwnLen, Dl.fOwnBool, Dl.gt, Dl.isB_bl, Dl.tru_bl, Dl.optI_some, Dl.slV_val, Dl.ownL_own, Dl.ownDI_own, Dl.lendI_own, Dl.lendI_ownD, Dl.seqI_tup, Dl.seqI_lst, Dl.tupI_tup, Dl.lstI_lst, Dl.intI_int, Dl.dctI_dct, Dl.keyI_int, Dl.insI_ins, Dl.ownIi_own, Dl.excI_exc, Dl.fOne_one, Dl.fI0_int, Dl.fI2_int, Dl.fLen_tup, Dl.fLen_lst, Dl.fTuple_tup, Dl.fTuple_lst, Dl.fInt_int, Dl.fInt_bl, Dl.fAdd_int, Dl.fAdd_tup, Dl.fAdd_lst, Dl.fNeg_int, Dl.fSl_tup, Dl.fSl_lst, Dl.gwTup_tup, Dl.gwUnl_lst, Dl.gwCons_cons, Dl.gwNil_nil, Dl.gwName_eq, Dl.lcD_nil, Dl.wipeS, List.set, if_true, if_false, Bool.false_eq_true, Bool.not_true, Bool.not_false, ite_true, ite_false])
    refine plan_loop ds 0 .un .un hp ?_
    have q : (match badTk K 0 ds with
      | some i => x (ga K "BadPlan", [("part", .int (i : Int))]) n
      | none => if ds = [] then x (ga K "BadPlan", [("part", .str "ticks")]) n else if 6 < ds.length then x (ga K "TooMany", [("most", .int 6), ("what", .str "phases")]) n else k [("_ticks", .tup ds)] n) := q
    cases e : badTk K 0 ds with
    | some i => rw [e] at q; exact q
    | none =>
      rw [e] at q
      dsimp only at q
      intro s2 s3
      (try simp only [Dl.wRet, Dl.wRetN, Dl.wThen, Dl.wIf, Dl.wOr, Dl.wAnd, Dl.wNot, Dl.wNotV, Dl.wAndV, Dl.wOrV, Dl.wB, Dl.wTru, Dl.wOp, Dl.wUn, Dl.wVar, Dl.wC, Dl.wF, Dl.wCons, Dl.wNil, Dl.wTup, Dl.wLst, Dl.wSet, Dl.wAsg, Dl.wNext, Dl.wDrop, Dl.wFz, Dl.wfLst, Dl.wfList, Dl.wfCat, Dl.wSetOwn, Dl.wApp, Dl.wFreeze, Dl.wFreezeD, Dl.wIsi, Dl.wChain, Dl.wIfE, Dl.wSeq, Dl.wRng1, Dl.wRng2, Dl.wLc, Dl.wLcOwn, Dl.wFor, Dl.wPar, Dl.wDPut, Dl.wGet2, Dl.wLend, Dl.wLendT, Dl.wFld, Dl.wProp, Dl.wMeth, Dl.wMethK, Dl.wMakeM, Dl.wMakeMn, Dl.fMakeM, Dl.wStar, Dl.wSl, Dl.wNoP, Dl.wPart, Dl.wItOwn, Dl.wEnT, Dl.wEnL, Dl.wRaise1, Dl.wRaise2, Dl.wFldOwn, Dl.wMaxD, Dl.wDct0, Dl.wYes, Dl.fOwn, Dl.fOwnX, Dl.fOwnNe, Dl.fOwnNeX, Dl.fOwnIn, Dl.fOwnNotIn, Dl.fOwnLen, Dl.fOwnBool, Dl.gt, Dl.isB_bl, Dl.tru_bl, Dl.optI_some, Dl.slV_val, Dl.ownL_own, Dl.ownDI_own, Dl.lendI_own, Dl.lendI_ownD, Dl.seqI_tup, Dl.seqI_lst, Dl.tupI_tup, Dl.lstI_lst, Dl.intI_int, Dl.dctI_dct, Dl.keyI_int, Dl.insI_ins, Dl.ownIi_own, Dl.excI_exc, Dl.fOne_one, Dl.fI0_int, Dl.fI2_int, Dl.fLen_tup, Dl.fLen_lst, Dl.fTuple_tup, Dl.fTuple_lst, Dl.fInt_int, Dl.fInt_bl, Dl.fAdd_int, Dl.fAdd_tup, Dl.fAdd_lst, Dl.fNeg_int, Dl.fSl_tup, Dl.fSl_lst, Dl.gwTup_tup, Dl.gwUnl_lst, Dl.gwCons_cons, Dl.gwNil_nil, Dl.gwName_eq, Dl.lcD_nil, Dl.wipeS, List.set, if_true, if_false, Bool.false_eq_true, Bool.not_true, Bool.not_false, ite_true, ite_false])
      refine fEq_int ?_
      (try simp only [Dl.wRet, Dl.wRetN, Dl.wThen, Dl.wIf, Dl.wOr, Dl.wAnd, Dl.wNot, Dl.wNotV, Dl.wAndV, Dl.wOrV, Dl.wB, Dl.wTru, Dl.wOp, Dl.wUn, Dl.wVar, Dl.wC, Dl.wF, Dl.wCons, Dl.wNil, Dl.wTup, Dl.wLst, Dl.wSet, Dl.wAsg, Dl.wNext, Dl.wDrop, Dl.wFz, Dl.wfLst, Dl.wfList, Dl.wfCat, Dl.wSetOwn, Dl.wApp, Dl.wFreeze, Dl.wFreezeD, Dl.wIsi, Dl.wChain, Dl.wIfE, Dl.wSeq, Dl.wRng1, Dl.wRng2, Dl.wLc, Dl.wLcOwn, Dl.wFor, Dl.wPar, Dl.wDPut, Dl.wGet2, Dl.wLend, Dl.wLendT, Dl.wFld, Dl.wProp, Dl.wMeth, Dl.wMethK, Dl.wMakeM, Dl.wMakeMn, Dl.fMakeM, Dl.wStar, Dl.wSl, Dl.wNoP, Dl.wPart, Dl.wItOwn, Dl.wEnT, Dl.wEnL, Dl.wRaise1, Dl.wRaise2, Dl.wFldOwn, Dl.wMaxD, Dl.wDct0, Dl.wYes, Dl.fOwn, Dl.fOwnX, Dl.fOwnNe, Dl.fOwnNeX, Dl.fOwnIn, Dl.fOwnNotIn, Dl.fOwnLen, Dl.fOwnBool, Dl.gt, Dl.isB_bl, Dl.tru_bl, Dl.optI_some, Dl.slV_val, Dl.ownL_own, Dl.ownDI_own, Dl.lendI_own, Dl.lendI_ownD, Dl.seqI_tup, Dl.seqI_lst, Dl.tupI_tup, Dl.lstI_lst, Dl.intI_int, Dl.dctI_dct, Dl.keyI_int, Dl.insI_ins, Dl.ownIi_own, Dl.excI_exc, Dl.fOne_one, Dl.fI0_int, Dl.fI2_int, Dl.fLen_tup, Dl.fLen_lst, Dl.fTuple_tup, Dl.fTuple_lst, Dl.fInt_int, Dl.fInt_bl, Dl.fAdd_int, Dl.fAdd_tup, Dl.fAdd_lst, Dl.fNeg_int, Dl.fSl_tup, Dl.fSl_lst, Dl.gwTup_tup, Dl.gwUnl_lst, Dl.gwCons_cons, Dl.gwNil_nil, Dl.gwName_eq, Dl.lcD_nil, Dl.wipeS, List.set, if_true, if_false, Bool.false_eq_true, Bool.not_true, Bool.not_false, ite_true, ite_false])
      refine iteB (fun c => ?_) (fun c => ?_)
      · have c := of_decide_eq_true c
        have e0 : ds = [] := List.length_eq_zero_iff.mp (by omega)
        rw [if_pos e0] at q
        exact q
      · have c := of_decide_eq_false c
        have e0 : ds ≠ [] := fun z => c (by rw [z]; rfl)
        rw [if_neg e0] at q
        (try simp only [Dl.wRet, Dl.wRetN, Dl.wThen, Dl.wIf, Dl.wOr, Dl.wAnd, Dl.wNot, Dl.wNotV, Dl.wAndV, Dl.wOrV, Dl.wB, Dl.wTru, Dl.wOp, Dl.wUn, Dl.wVar, Dl.wC, Dl.wF, Dl.wCons, Dl.wNil, Dl.wTup, Dl.wLst, Dl.wSet, Dl.wAsg, Dl.wNext, Dl.wDrop, Dl.wFz, Dl.wfLst, Dl.wfList, Dl.wfCat, Dl.wSetOwn, Dl.wApp, Dl.wFreeze, Dl.wFreezeD, Dl.wIsi, Dl.wChain, Dl.wIfE, Dl.wSeq, Dl.wRng1, Dl.wRng2, Dl.wLc, Dl.wLcOwn, Dl.wFor, Dl.wPar, Dl.wDPut, Dl.wGet2, Dl.wLend, Dl.wLendT, Dl.wFld, Dl.wProp, Dl.wMeth, Dl.wMethK, Dl.wMakeM, Dl.wMakeMn, Dl.fMakeM, Dl.wStar, Dl.wSl, Dl.wNoP, Dl.wPart, Dl.wItOwn, Dl.wEnT, Dl.wEnL, Dl.wRaise1, Dl.wRaise2, Dl.wFldOwn, Dl.wMaxD, Dl.wDct0, Dl.wYes, Dl.fOwn, Dl.fOwnX, Dl.fOwnNe, Dl.fOwnNeX, Dl.fOwnIn, Dl.fOwnNotIn, Dl.fOwnLen, Dl.fOwnBool, Dl.gt, Dl.isB_bl, Dl.tru_bl, Dl.optI_some, Dl.slV_val, Dl.ownL_own, Dl.ownDI_own, Dl.lendI_own, Dl.lendI_ownD, Dl.seqI_tup, Dl.seqI_lst, Dl.tupI_tup, Dl.lstI_lst, Dl.intI_int, Dl.dctI_dct, Dl.keyI_int, Dl.insI_ins, Dl.ownIi_own, Dl.excI_exc, Dl.fOne_one, Dl.fI0_int, Dl.fI2_int, Dl.fLen_tup, Dl.fLen_lst, Dl.fTuple_tup, Dl.fTuple_lst, Dl.fInt_int, Dl.fInt_bl, Dl.fAdd_int, Dl.fAdd_tup, Dl.fAdd_lst, Dl.fNeg_int, Dl.fSl_tup, Dl.fSl_lst, Dl.gwTup_tup, Dl.gwUnl_lst, Dl.gwCons_cons, Dl.gwNil_nil, Dl.gwName_eq, Dl.lcD_nil, Dl.wipeS, List.set, if_true, if_false, Bool.false_eq_true, Bool.not_true, Bool.not_false, ite_true, ite_false])
        refine iteB (fun c => ?_) (fun c => ?_)
        · have c := of_decide_eq_true c
          rw [if_pos (by omega)] at q
          exact q
        · have c := of_decide_eq_false c
          rw [if_neg (by omega)] at q
          exact ⟨by decide, trivial, q⟩
theorem look_ticks {ps : List Tk} : (planF K ps).lookup ("_ticks" : Str) = some (.tup (ps.map (tickP' K))) := rfl
theorem own_str {p : Tk} {kd : KD} (h : TickOk p.1 p.2) (q : kd (.str (tickT p.1 p.2)) n) : fOwnStr (ga K "Tick") (c_Tick_str K) [tickP' K p] n kd x := by
  show insI (ga K "Tick") (tickD K p.1 p.2) fun _ => c_Tick_str K [tickD K p.1 p.2] n _ _
  unfold tickD
  rw [insI_ins]
  exact ⟨p.1, p.2, rfl, ok_of h, q⟩
theorem plans_len {ps : List Tk} (ok : PlanOk ps) : ((ps.map fun p => tickT p.1 p.2).map (fun x : Str => x.length)).sum + (ps.map fun p => tickT p.1 p.2).length * (Str.ofString " / ").length ≤ 16777216 := by
  have h1 := (planT_len ok).2
  have h2 := ok.ln
  rw [List.length_map, show (Str.ofString " / ").length = 3 from by decide +kernel]
  omega
theorem dt_Plan_str (h : c_Plan_str K ds n k x) : W_Plan_str K (startD ["self", "tick"] ds) n { nx := fun _ n' => k .non n', rt := k } x := by
  obtain ⟨ps, rfl, ok, q⟩ := h
  show W_Plan_str K [.val (.ins (ga K "Plan") (planF K ps)), .un] n _ x
  unfold W_Plan_str
  (try simp only [Dl.wRet, Dl.wRetN, Dl.wThen, Dl.wIf, Dl.wOr, Dl.wAnd, Dl.wNot, Dl.wNotV, Dl.wAndV, Dl.wOrV, Dl.wB, Dl.wTru, Dl.wOp, Dl.wUn, Dl.wVar, Dl.wC, Dl.wF, Dl.wCons, Dl.wNil, Dl.wTup, Dl.wLst, Dl.wSet, Dl.wAsg, Dl.wNext, Dl.wDrop, Dl.wFz, Dl.wfLst, Dl.wfList, Dl.wfCat, Dl.wSetOwn, Dl.wApp, Dl.wFreeze, Dl.wFreezeD, Dl.wIsi, Dl.wChain, Dl.wIfE, Dl.wSeq, Dl.wRng1, Dl.wRng2, Dl.wLc, Dl.wLcOwn, Dl.wFor, Dl.wPar, Dl.wDPut, Dl.wGet2, Dl.wLend, Dl.wLendT, Dl.wFld, Dl.wProp, Dl.wMeth, Dl.wMethK, Dl.wMakeM, Dl.wMakeMn, Dl.fMakeM, Dl.wStar, Dl.wSl, Dl.wNoP, Dl.wPart, Dl.wItOwn, Dl.wEnT, Dl.wEnL, Dl.wRaise1, Dl.wRaise2, Dl.wFldOwn, Dl.wMaxD, Dl.wDct0, Dl.wYes, Dl.fOwn, Dl.fOwnX, Dl.fOwnNe, Dl.fOwnNeX, Dl.fOwnIn, Dl.fOwnNotIn, Dl.fOwnLen, Dl.fOwnBool, Dl.gt, Dl.isB_bl, Dl.tru_bl, Dl.optI_some, Dl.slV_val, Dl.ownL_own, Dl.ownDI_own, Dl.lendI_own, Dl.lendI_ownD, Dl.seqI_tup, Dl.seqI_lst, Dl.tupI_tup, Dl.lstI_lst, Dl.intI_int, Dl.dctI_dct, Dl.keyI_int, Dl.insI_ins, Dl.ownIi_own, Dl.excI_exc, Dl.fOne_one, Dl.fI0_int, Dl.fI2_int, Dl.fLen_tup, Dl.fLen_lst, Dl.fTuple_tup, Dl.fTuple_lst, Dl.fInt_int, Dl.fInt_bl, Dl.fAdd_int, Dl.fAdd_tup, Dl.fAdd_lst, Dl.fNeg_int, Dl.fSl_tup, Dl.fSl_lst, Dl.gwTup_tup, Dl.gwUnl_lst, Dl.gwCons_cons, Dl.gwNil_nil, Dl.gwName_eq, Dl.lcD_nil, Dl.wipeS, List.set, if_true, if_false, Bool.false_eq_true, Bool.not_true, Bool.not_false, ite_true, ite_false])
  simp only [wJoin]
  (try simp only [Dl.wRet, Dl.wRetN, Dl.wThen, Dl.wIf, Dl.wOr, Dl.wAnd, Dl.wNot, Dl.wNotV, Dl.wAndV, Dl.wOrV, Dl.wB, Dl.wTru, Dl.wOp, Dl.wUn, Dl.wVar, Dl.wC, Dl.wF, Dl.wCons, Dl.wNil, Dl.wTup, Dl.wLst, Dl.wSet, Dl.wAsg, Dl.wNext, Dl.wDrop, Dl.wFz, Dl.wfLst, Dl.wfList, Dl.wfCat, Dl.wSetOwn, Dl.wApp, Dl.wFreeze, Dl.wFreezeD, Dl.wIsi, Dl.wChain, Dl.wIfE, Dl.wSeq, Dl.wRng1, Dl.wRng2, Dl.wLc, Dl.wLcOwn, Dl.wFor, Dl.wPar, Dl.wDPut, Dl.wGet2, Dl.wLend, Dl.wLendT, Dl.wFld, Dl.wProp, Dl.wMeth, Dl.wMethK, Dl.wMakeM, Dl.wMakeMn, Dl.fMakeM, Dl.wStar, Dl.wSl, Dl.wNoP, Dl.wPart, Dl.wItOwn, Dl.wEnT, Dl.wEnL, Dl.wRaise1, Dl.wRaise2, Dl.wFldOwn, Dl.wMaxD, Dl.wDct0, Dl.wYes, Dl.fOwn, Dl.fOwnX, Dl.fOwnNe, Dl.fOwnNeX, Dl.fOwnIn, Dl.fOwnNotIn, Dl.fOwnLen, Dl.fOwnBool, Dl.gt, Dl.isB_bl, Dl.tru_bl, Dl.optI_some, Dl.slV_val, Dl.ownL_own, Dl.ownDI_own, Dl.lendI_own, Dl.lendI_ownD, Dl.seqI_tup, Dl.seqI_lst, Dl.tupI_tup, Dl.lstI_lst, Dl.intI_int, Dl.dctI_dct, Dl.keyI_int, Dl.insI_ins, Dl.ownIi_own, Dl.excI_exc, Dl.fOne_one, Dl.fI0_int, Dl.fI2_int, Dl.fLen_tup, Dl.fLen_lst, Dl.fTuple_tup, Dl.fTuple_lst, Dl.fInt_int, Dl.fInt_bl, Dl.fAdd_int, Dl.fAdd_tup, Dl.fAdd_lst, Dl.fNeg_int, Dl.fSl_tup, Dl.fSl_lst, Dl.gwTup_tup, Dl.gwUnl_lst, Dl.gwCons_cons, Dl.gwNil_nil, Dl.gwName_eq, Dl.lcD_nil, Dl.wipeS, List.set, if_true, if_false, Bool.false_eq_true, Bool.not_true, Bool.not_false, ite_true, ite_false])
  rw [strI_str]
  refine ⟨_, look_ticks, ?_⟩
  (try simp only [Dl.wRet, Dl.wRetN, Dl.wThen, Dl.wIf, Dl.wOr, Dl.wAnd, Dl.wNot, Dl.wNotV, Dl.wAndV, Dl.wOrV, Dl.wB, Dl.wTru, Dl.wOp, Dl.wUn, Dl.wVar, Dl.wC, Dl.wF, Dl.wCons, Dl.wNil, Dl.wTup, Dl.wLst, Dl.wSet, Dl.wAsg, Dl.wNext, Dl.wDrop, Dl.wFz, Dl.wfLst, Dl.wfList, Dl.wfCat, Dl.wSetOwn, Dl.wApp, Dl.wFreeze, Dl.wFreezeD, Dl.wIsi, Dl.wChain, Dl.wIfE, Dl.wSeq, Dl.wRng1, Dl.wRng2, Dl.wLc, Dl.wLcOwn, Dl.wFor, Dl.wPar, Dl.wDPut, Dl.wGet2, Dl.wLend, Dl.wLendT, Dl.wFld, Dl.wProp, Dl.wMeth, Dl.wMethK, Dl.wMakeM, Dl.wMakeMn, Dl.fMakeM, Dl.wStar, Dl.wSl, Dl.wNoP, Dl.wPart, Dl.wItOwn, Dl.wEnT, Dl.wEnL, Dl.wRaise1, Dl.wRaise2, Dl.wFldOwn, Dl.wMaxD, Dl.wDct0, Dl.wYes, Dl.fOwn, Dl.fOwnX, Dl.fOwnNe, Dl.fOwnNeX, Dl.fOwnIn, Dl.fOwnNotIn, Dl.fOwnLen, Dl.fOwnBool, Dl.gt, Dl.isB_bl, Dl.tru_bl, Dl.optI_some, Dl.slV_val, Dl.ownL_own, Dl.ownDI_own, Dl.lendI_own, Dl.lendI_ownD, Dl.seqI_tup, Dl.seqI_lst, Dl.tupI_tup, Dl.lstI_lst, Dl.intI_int, Dl.dctI_dct, Dl.keyI_int, Dl.insI_ins, Dl.ownIi_own, Dl.excI_exc, Dl.fOne_one, Dl.fI0_int, Dl.fI2_int, Dl.fLen_tup, Dl.fLen_lst, Dl.fTuple_tup, Dl.fTuple_lst, Dl.fInt_int, Dl.fInt_bl, Dl.fAdd_int, Dl.fAdd_tup, Dl.fAdd_lst, Dl.fNeg_int, Dl.fSl_tup, Dl.fSl_lst, Dl.gwTup_tup, Dl.gwUnl_lst, Dl.gwCons_cons, Dl.gwNil_nil, Dl.gwName_eq, Dl.lcD_nil, Dl.wipeS, List.set, if_true, if_false, Bool.false_eq_true, Bool.not_true, Bool.not_false, ite_true, ite_false])
  refine ⟨by rw [List.length_map]; have := ok.ln; omega, ?_⟩
  refine lc_on (tickP' K) (fun p => .str (tickT p.1 p.2)) (fun p hp m kd qk => ?_) ?_
  · (try simp only [Dl.wRet, Dl.wRetN, Dl.wThen, Dl.wIf, Dl.wOr, Dl.wAnd, Dl.wNot, Dl.wNotV, Dl.wAndV, Dl.wOrV, Dl.wB, Dl.wTru, Dl.wOp, Dl.wUn, Dl.wVar, Dl.wC, Dl.wF, Dl.wCons, Dl.wNil, Dl.wTup, Dl.wLst, Dl.wSet, Dl.wAsg, Dl.wNext, Dl.wDrop, Dl.wFz, Dl.wfLst, Dl.wfList, Dl.wfCat, Dl.wSetOwn, Dl.wApp, Dl.wFreeze, Dl.wFreezeD, Dl.wIsi, Dl.wChain, Dl.wIfE, Dl.wSeq, Dl.wRng1, Dl.wRng2, Dl.wLc, Dl.wLcOwn, Dl.wFor, Dl.wPar, Dl.wDPut, Dl.wGet2, Dl.wLend, Dl.wLendT, Dl.wFld, Dl.wProp, Dl.wMeth, Dl.wMethK, Dl.wMakeM, Dl.wMakeMn, Dl.fMakeM, Dl.wStar, Dl.wSl, Dl.wNoP, Dl.wPart, Dl.wItOwn, Dl.wEnT, Dl.wEnL, Dl.wRaise1, Dl.wRaise2, Dl.wFldOwn, Dl.wMaxD, Dl.wDct0, Dl.wYes, Dl.fOwn, Dl.fOwnX, Dl.fOwnNe, Dl.fOwnNeX, Dl.fOwnIn, Dl.fOwnNotIn, Dl.fOwnLen, Dl.fOwnBool, Dl.gt, Dl.isB_bl, Dl.tru_bl, Dl.optI_some, Dl.slV_val, Dl.ownL_own, Dl.ownDI_own, Dl.lendI_own, Dl.lendI_ownD, Dl.seqI_tup, Dl.seqI_lst, Dl.tupI_tup, Dl.lstI_lst, Dl.intI_int, Dl.dctI_dct, Dl.keyI_int, Dl.insI_ins, Dl.ownIi_own, Dl.excI_exc, Dl.fOne_one, Dl.fI0_int, Dl.fI2_int, Dl.fLen_tup, Dl.fLen_lst, Dl.fTuple_tup, Dl.fTuple_lst, Dl.fInt_int, Dl.fInt_bl, Dl.fAdd_int, Dl.fAdd_tup, Dl.fAdd_lst, Dl.fNeg_int, Dl.fSl_tup, Dl.fSl_lst, Dl.gwTup_tup, Dl.gwUnl_lst, Dl.gwCons_cons, Dl.gwNil_nil, Dl.gwName_eq, Dl.lcD_nil, Dl.wipeS, List.set, if_true, if_false, Bool.false_eq_true, Bool.not_true, Bool.not_false, ite_true, ite_false])
    exact own_str (ok.tk p hp) qk
  · rw [List.nil_append]
    have e : (ps.map fun p => D.str (tickT p.1 p.2)) = (ps.map fun p => tickT p.1 p.2).map D.str := by rw [List.map_map]; rfl
    rw [e, strsI_lst]
    exact ⟨plans_len ok, q⟩
theorem isTk_tick {p : Tk} : isTk K (tickP' K p) = true := by
  show decide (ga K "Tick" = ga K "Tick") = true
  simp
theorem tkn_tick {p : Tk} : tkn K (tickP' K p) := by
  unfold tkn
  rw [isTk_tick]
  exact tyC_tick _
theorem badTk_none : ∀ {ps : List Tk} {i : Nat}, badTk K i (ps.map (tickP' K)) = none
  | [], _ => rfl
  | p :: ps, i => by
    rw [List.map_cons, badTk, if_pos isTk_tick]
    exact badTk_none
theorem plan_init {ps : List Tk} {kf : List (Str × D) → Nat → Prop} (h : PlanOk ps) (q : kf (planF K ps) n) : c_Plan_init K [.tup (ps.map (tickP' K))] n kf x := by
  refine ⟨fun d hd => ?_, by rw [List.length_map]; have := h.ln; omega, ?_⟩
  · obtain ⟨p, _, rfl⟩ := List.mem_map.mp hd
    exact tkn_tick
  · rw [badTk_none]
    dsimp only
    rw [if_neg (by simpa using h.ne), if_neg (by rw [List.length_map]; have := h.ln; omega)]
    exact q
end
end Lz

set_option Elab.async false
set_option linter.all false
set_option maxRecDepth 100000
set_option maxHeartbeats 4000000
namespace Lz
open PySem PySem.Spec PyProof.Rows L2 LamX Dl Xt TL
section
variable {K : PySem.W.Frag} {ds : List D} {n : Nat} {k : KD} {x : KX} {kb : Bool → Nat → Prop} {vs : List Str}
theorem then_ {a b : WS} {S : List Sl} {E : DEnds} (q : a S n { E with nx := fun S' n' => b S' n' E x } x) : wThen a b S n E x := q
/-! ### == of rows of ticks -/
theorem det_ints : ∀ s : List Int, detL (s.map D.int) = true
  | [] => rfl
  | a :: s => by rw [List.map_cons, detL, det, det_ints s]; rfl
theorem det_sums : ∀ ss : List (List Int), detL (ss.map sumD) = true
  | [] => rfl
  | s :: ss => by rw [List.map_cons, detL, det_sums ss]; unfold sumD; rw [det, det_ints]; rfl
theorem det_tick (p : Tk) : det (tickP' K p) = true := by
  unfold tickP' tickD tickF ssD
  rw [det, detF, det, det_sums, detF, det, detF]
  rfl
theorem ins_ticks (ps : List Tk) : insAll (ga K "Tick") (ps.map (tickP' K)) := fun d hd => by
  obtain ⟨p, _, rfl⟩ := List.mem_map.mp hd
  exact ⟨det_tick p, _, rfl⟩
theorem eqs_ticks : ∀ {ps qs : List Tk} {n : Nat}, kb (decide (ps = qs)) n → eqsD (ga K "Tick") (c_Tick_eq K) (ps.map (tickP' K)) (qs.map (tickP' K)) n kb x
  | [], [], n, q => q
  | [], _ :: _, n, q => q
  | _ :: _, [], n, q => q
  | p :: ps, r :: qs, n, q => by
    have step : p = r → eqsD (ga K "Tick") (c_Tick_eq K) (ps.map (tickP' K)) (qs.map (tickP' K)) n kb x := fun e => eqs_ticks (by
      have e2 : decide (p :: ps = r :: qs) = decide (ps = qs) := by subst e; simp
      rwa [e2] at q)
    refine ⟨fun e => ?_, ⟨⟨_, rfl⟩, ⟨_, rfl⟩⟩, p.1, p.2, _, rfl, .inl ⟨r.1, r.2, rfl, ?_⟩⟩
    · refine step ?_
      have e : tickD K p.1 p.2 = tickD K r.1 r.2 := e
      unfold tickD tickF ssD at e
      injection e with _ e
      injection e with e1 e2
      injection e2 with e2 _
      injection e1 with _ e1
      injection e2 with _ e2
      injection e1 with e1
      injection e2 with e2
      have inj : ∀ {a b : List (List Int)}, a.map sumD = b.map sumD → a = b := fun {a} => by
        induction a with
        | nil =>
          intro b h
          cases b with
          | nil => rfl
          | cons => cases h
        | cons x a ih =>
          intro b h
          cases b with
          | nil => cases h
          | cons y b =>
            rw [List.map_cons, List.map_cons] at h
            injection h with h1 h2
            unfold sumD at h1
            injection h1 with h1
            have ii : ∀ {a b : List Int}, a.map D.int = b.map D.int → a = b := fun {a} => by
              induction a with
              | nil =>
                intro b h
                cases b with
                | nil => rfl
                | cons => cases h
              | cons x a ih =>
                intro b h
                cases b with
                | nil => cases h
                | cons y b =>
                  rw [List.map_cons, List.map_cons] at h
                  injection h with h1 h2
                  injection h1 with h1
                  rw [h1, ih h2]
            rw [ii h1, ih h2]
      exact Prod.ext (inj e1) e2
    · have e : (decide (p.1 = r.1) && decide (p.2 = r.2)) = decide (p = r) := by
        by_cases h : p = r
        · subst h; simp
        · rw [decide_eq_false h]
          rw [Bool.and_eq_false_iff]
          by_cases h1 : p.1 = r.1
          · exact .inr (decide_eq_false fun h2 => h (Prod.ext h1 h2))
          · exact .inl (decide_eq_false h1)
      rw [e]
      show (if decide (p = r) = true then _ else _)
      refine iteB (fun c => step (of_decide_eq_true c)) (fun c => ?_)
      have e2 : decide (p :: ps = r :: qs) = false := decide_eq_false fun z => of_decide_eq_false c (by injection z)
      rw [e2] at q
      exact q
/-! ### the first word that cannot stand -/
/-! ### what is heard -/
theorem comma_ok : PyData.strOk comma = true := by decide +kernel
theorem mute_ok : PyData.strOk muteW = true := by decide +kernel
theorem dash_ok : PyData.strOk dashW = true := by decide +kernel
theorem slash_ok : PyData.strOk slash = true := by decide +kernel
theorem strOk_low {z : Str} (h : ∀ c ∈ tl z, c < 128) : PyData.strOk z = true := strOk_iff.mpr fun c hc => by have := h c hc; omega
theorem strOk_words : ∀ {ss : List (List Int)}, (∀ s ∈ ss, SumOk 0 s) → ∀ w ∈ wordsOf ss, PyData.strOk w = true
  | [], _, w, h => by cases h
  | [s], hs, w, h => by
    have so := hs s List.mem_cons_self
    obtain ⟨a, ha, rfl⟩ := List.mem_map.mp h
    refine strOk_low fun c hc => ?_
    rw [tl_numI (so.lo a ha) (so.hi a ha)] at hc
    have := so.hi a ha
    rw [List.mem_singleton.mp hc]
    omega
  | s :: t :: r, hs, w, h => by
    rw [wordsOf_cons (by simp)] at h
    rcases List.mem_append.mp h with h | h
    · have so := hs s List.mem_cons_self
      obtain ⟨a, ha, rfl⟩ := List.mem_map.mp h
      refine strOk_low fun c hc => ?_
      rw [tl_numI (so.lo a ha) (so.hi a ha)] at hc
      have := so.hi a ha
      rw [List.mem_singleton.mp hc]
      omega
    · rcases List.mem_cons.mp h with rfl | h
      · exact comma_ok
      · exact strOk_words (fun x hx => hs x (List.mem_cons_of_mem _ hx)) w h
theorem strOk_tickW {ss : List (List Int)} {m : Bool} (hs : ∀ s ∈ ss, SumOk 0 s) : ∀ w ∈ tickW ss m, PyData.strOk w = true := fun w h => by
  unfold tickW at h
  rcases List.mem_append.mp h with h | h
  · cases m with
    | false => cases h
    | true => rw [List.mem_singleton.mp h]; exact mute_ok
  · by_cases c : ss = []
    · rw [if_pos c] at h
      rw [List.mem_singleton.mp h]; exact dash_ok
    · rw [if_neg c] at h
      exact strOk_words hs w h
theorem strOk_planW : ∀ {ps : List Tk}, (∀ p ∈ ps, TickOk p.1 p.2) → ∀ w ∈ planW ps, PyData.strOk w = true
  | [], _, w, h => by cases h
  | [p], hs, w, h => strOk_tickW (m := p.2) (fun s hh => ((hs p List.mem_cons_self).sm s hh).zero) w h
  | p :: q :: r, hs, w, h => by
    rw [planW_cons (by simp)] at h
    rcases List.mem_append.mp h with h | h
    · exact strOk_tickW (m := p.2) (fun s hh => ((hs p List.mem_cons_self).sm s hh).zero) w h
    · rcases List.mem_cons.mp h with rfl | h
      · exact slash_ok
      · exact strOk_planW (fun x hx => hs x (List.mem_cons_of_mem _ hx)) w h
theorem strOk_plan {ps : List Tk} (h : PlanOk ps) : PyData.strOk (planT ps) = true := by
  rw [← plan_words h.ne fun p hp s hs => ((h.tk p hp).sm s hs).ne]
  exact strOk_join (strOk_planW h.tk)
end
end Lz

set_option Elab.async false
set_option linter.all false
set_option maxRecDepth 100000
set_option maxHeartbeats 4000000
namespace Lz
open PySem PySem.Spec PyProof.Rows L2 LamX Dl Xt TL
theorem cutD_drop {ds : List D} {i : Nat} : Dl.cutD ds (some (i : Int)) none = ds.drop i := by
  unfold Dl.cutD
  rw [HT.sIx_nat, HT.sIx_none]
  by_cases c : i ≤ ds.length
  · rw [Nat.min_eq_left c, List.take_of_length_le (by rw [List.length_drop]; omega)]
  · rw [Nat.min_eq_right (by omega), List.drop_length, List.drop_eq_nil_of_le (by omega), List.take_nil]
section
variable {K : PySem.W.Frag} {ds : List D} {n : Nat} {k : KD} {x : KX} {kb : Bool → Nat → Prop}
theorem lc_filG {α : Type} {i : Nat} {tt : WT} {te : WE} {S : List Sl} (emb f : α → D) (p : α → Bool) : ∀ {l : List α} {acc : List D} {n : Nat} {k : List D → Nat → Prop}, (∀ a ∈ l, ∀ (m : Nat) (kb : Bool → Nat → Prop), kb (p a) m → tt (S.set i (.val (emb a))) m kb (fun _ _ => False)) →
    (∀ a ∈ l, p a = true → ∀ (m : Nat) (kd : KD), kd (f a) m → te (S.set i (.val (emb a))) m kd (fun _ _ => False)) → k (acc ++ (l.filter p).map f) n → lcD (gwName i) tt te S (l.map emb) acc n k
  | [], acc, n, k, _, _, q => by
    rw [List.filter_nil, List.map_nil, List.append_nil] at q
    exact q
  | a :: l, acc, n, k, h, g, q => by
    show tt (S.set i (.val (emb a))) n _ _
    refine h a List.mem_cons_self n _ ?_
    have h' := fun b hb => h b (List.mem_cons_of_mem _ hb)
    have g' := fun b hb => g b (List.mem_cons_of_mem _ hb)
    cases c : p a with
    | true =>
      rw [List.filter_cons_of_pos c, List.map_cons] at q
      rw [if_pos rfl]
      refine g a List.mem_cons_self c n _ ?_
      refine lc_filG emb f p h' g' ?_
      rw [List.append_assoc]
      exact q
    | false =>
      rw [List.filter_cons_of_neg (by rw [c]; decide)] at q
      rw [if_neg (by decide)]
      exact lc_filG emb f p h' g' q
theorem rng1 (n : Nat) : rngD 1 n = (List.range' 1 n).map fun i : Nat => D.int (i : Int) := by
  unfold rngD
  rw [List.range'_eq_map_range, List.map_map]
  refine List.map_congr_left fun i _ => ?_
  show D.int (1 + (i : Int)) = D.int ((1 + i : Nat) : Int)
  rw [Int.natCast_add]
  rfl
theorem mod0 {a b : Nat} : decide (((a : Nat) : Int) % ((b : Nat) : Int) = 0) = decide (a % b = 0) := by
  rw [← Int.natCast_emod]
  by_cases c : a % b = 0
  · rw [c]; rfl
  · rw [decide_eq_false c]; exact decide_eq_false (by omega)
theorem dt_Plan_len (h : c_Plan_len K ds n k x) : W_Plan_len K (startD ["self"] ds) n { nx := fun _ n' => k .non n', rt := k } x := by
  obtain ⟨ps, rfl, q⟩ := h
  show W_Plan_len K [.val (.ins (ga K "Plan") (planF K ps))] n _ x
  unfold W_Plan_len
  (try simp only [Dl.wRet, Dl.wRetN, Dl.wThen, Dl.wIf, Dl.wOr, Dl.wAnd, Dl.wNot, Dl.wNotV, Dl.wAndV, Dl.wOrV, Dl.wB, Dl.wTru, Dl.wOp, Dl.wUn, Dl.wVar, Dl.wC, Dl.wF, Dl.wCons, Dl.wNil, Dl.wTup, Dl.wLst, Dl.wSet, Dl.wAsg, Dl.wNext, Dl.wDrop, Dl.wFz, Dl.wfLst, Dl.wfList, Dl.wfCat, Dl.wSetOwn, Dl.wApp, Dl.wFreeze, Dl.wFreezeD, Dl.wIsi, Dl.wChain, Dl.wIfE, Dl.wSeq, Dl.wRng1, Dl.wRng2, Dl.wLc, Dl.wLcOwn, Dl.wFor, Dl.wPar, Dl.wDPut, Dl.wGet2, Dl.wLend, Dl.wLendT, Dl.wFld, Dl.wProp, Dl.wMeth, Dl.wMethK, Dl.wMakeM, Dl.wMakeMn, Dl.fMakeM, Dl.wStar, Dl.wSl, Dl.wNoP, Dl.wPart, Dl.wItOwn, Dl.wEnT, Dl.wEnL, Dl.wRaise1, Dl.wRaise2, Dl.wFldOwn, Dl.wMaxD, Dl.wDct0, Dl.wYes, Dl.fOwn, Dl.fOwnX, Dl.fOwnNe, Dl.fOwnNeX, Dl.fOwnIn, Dl.fOwnNotIn, Dl.fOwnLen, Dl.fOwnBool, Dl.gt, Dl.isB_bl, Dl.tru_bl, Dl.optI_some, Dl.slV_val, Dl.ownL_own, Dl.ownDI_own, Dl.lendI_own, Dl.lendI_ownD, Dl.seqI_tup, Dl.seqI_lst, Dl.tupI_tup, Dl.lstI_lst, Dl.intI_int, Dl.dctI_dct, Dl.keyI_int, Dl.insI_ins, Dl.ownIi_own, Dl.excI_exc, Dl.fOne_one, Dl.fI0_int, Dl.fI2_int, Dl.fLen_tup, Dl.fLen_lst, Dl.fTuple_tup, Dl.fTuple_lst, Dl.fInt_int, Dl.fInt_bl, Dl.fAdd_int, Dl.fAdd_tup, Dl.fAdd_lst, Dl.fNeg_int, Dl.fSl_tup, Dl.fSl_lst, Dl.gwTup_tup, Dl.gwUnl_lst, Dl.gwCons_cons, Dl.gwNil_nil, Dl.gwName_eq, Dl.lcD_nil, Dl.wipeS, List.set, if_true, if_false, Bool.false_eq_true, Bool.not_true, Bool.not_false, ite_true, ite_false])
  refine ⟨_, look_ticks, ?_⟩
  (try simp only [Dl.wRet, Dl.wRetN, Dl.wThen, Dl.wIf, Dl.wOr, Dl.wAnd, Dl.wNot, Dl.wNotV, Dl.wAndV, Dl.wOrV, Dl.wB, Dl.wTru, Dl.wOp, Dl.wUn, Dl.wVar, Dl.wC, Dl.wF, Dl.wCons, Dl.wNil, Dl.wTup, Dl.wLst, Dl.wSet, Dl.wAsg, Dl.wNext, Dl.wDrop, Dl.wFz, Dl.wfLst, Dl.wfList, Dl.wfCat, Dl.wSetOwn, Dl.wApp, Dl.wFreeze, Dl.wFreezeD, Dl.wIsi, Dl.wChain, Dl.wIfE, Dl.wSeq, Dl.wRng1, Dl.wRng2, Dl.wLc, Dl.wLcOwn, Dl.wFor, Dl.wPar, Dl.wDPut, Dl.wGet2, Dl.wLend, Dl.wLendT, Dl.wFld, Dl.wProp, Dl.wMeth, Dl.wMethK, Dl.wMakeM, Dl.wMakeMn, Dl.fMakeM, Dl.wStar, Dl.wSl, Dl.wNoP, Dl.wPart, Dl.wItOwn, Dl.wEnT, Dl.wEnL, Dl.wRaise1, Dl.wRaise2, Dl.wFldOwn, Dl.wMaxD, Dl.wDct0, Dl.wYes, Dl.fOwn, Dl.fOwnX, Dl.fOwnNe, Dl.fOwnNeX, Dl.fOwnIn, Dl.fOwnNotIn, Dl.fOwnLen, Dl.fOwnBool, Dl.gt, Dl.isB_bl, Dl.tru_bl, Dl.optI_some, Dl.slV_val, Dl.ownL_own, Dl.ownDI_own, Dl.lendI_own, Dl.lendI_ownD, Dl.seqI_tup, Dl.seqI_lst, Dl.tupI_tup, Dl.lstI_lst, Dl.intI_int, Dl.dctI_dct, Dl.keyI_int, Dl.insI_ins, Dl.ownIi_own, Dl.excI_exc, Dl.fOne_one, Dl.fI0_int, Dl.fI2_int, Dl.fLen_tup, Dl.fLen_lst, Dl.fTuple_tup, Dl.fTuple_lst, Dl.fInt_int, Dl.fInt_bl, Dl.fAdd_int, Dl.fAdd_tup, Dl.fAdd_lst, Dl.fNeg_int, Dl.fSl_tup, Dl.fSl_lst, Dl.gwTup_tup, Dl.gwUnl_lst, Dl.gwCons_cons, Dl.gwNil_nil, Dl.gwName_eq, Dl.lcD_nil, Dl.wipeS, List.set, if_true, if_false, Bool.false_eq_true, Bool.not_true, Bool.not_false, ite_true, ite_false])
  rw [List.length_map]
  exact q
theorem wi_in {lo hi i : Int} (h1 : lo ≤ i) (h2 : i ≤ hi) : wi lo hi (.int i) = true := by
  show (decide (lo ≤ i) && decide (i ≤ hi)) = true
  rw [decide_eq_true h1, decide_eq_true h2]; rfl
theorem dt_Plan_getitem (h : c_Plan_getitem K ds n k x) : W_Plan_getitem K (startD ["self", "at"] ds) n { nx := fun _ n' => k .non n', rt := k } x := by
  obtain ⟨ps, i, p, rfl, hp, q⟩ := h
  show W_Plan_getitem K [.val (.ins (ga K "Plan") (planF K ps)), .val (.int (i : Int))] n _ x
  have lt : i < ps.length := (List.getElem?_eq_some_iff.mp hp).1
  unfold W_Plan_getitem
  (try simp only [Dl.wRet, Dl.wRetN, Dl.wThen, Dl.wIf, Dl.wOr, Dl.wAnd, Dl.wNot, Dl.wNotV, Dl.wAndV, Dl.wOrV, Dl.wB, Dl.wTru, Dl.wOp, Dl.wUn, Dl.wVar, Dl.wC, Dl.wF, Dl.wCons, Dl.wNil, Dl.wTup, Dl.wLst, Dl.wSet, Dl.wAsg, Dl.wNext, Dl.wDrop, Dl.wFz, Dl.wfLst, Dl.wfList, Dl.wfCat, Dl.wSetOwn, Dl.wApp, Dl.wFreeze, Dl.wFreezeD, Dl.wIsi, Dl.wChain, Dl.wIfE, Dl.wSeq, Dl.wRng1, Dl.wRng2, Dl.wLc, Dl.wLcOwn, Dl.wFor, Dl.wPar, Dl.wDPut, Dl.wGet2, Dl.wLend, Dl.wLendT, Dl.wFld, Dl.wProp, Dl.wMeth, Dl.wMethK, Dl.wMakeM, Dl.wMakeMn, Dl.fMakeM, Dl.wStar, Dl.wSl, Dl.wNoP, Dl.wPart, Dl.wItOwn, Dl.wEnT, Dl.wEnL, Dl.wRaise1, Dl.wRaise2, Dl.wFldOwn, Dl.wMaxD, Dl.wDct0, Dl.wYes, Dl.fOwn, Dl.fOwnX, Dl.fOwnNe, Dl.fOwnNeX, Dl.fOwnIn, Dl.fOwnNotIn, Dl.fOwnLen, Dl.fOwnBool, Dl.gt, Dl.isB_bl, Dl.tru_bl, Dl.optI_some, Dl.slV_val, Dl.ownL_own, Dl.ownDI_own, Dl.lendI_own, Dl.lendI_ownD, Dl.seqI_tup, Dl.seqI_lst, Dl.tupI_tup, Dl.lstI_lst, Dl.intI_int, Dl.dctI_dct, Dl.keyI_int, Dl.insI_ins, Dl.ownIi_own, Dl.excI_exc, Dl.fOne_one, Dl.fI0_int, Dl.fI2_int, Dl.fLen_tup, Dl.fLen_lst, Dl.fTuple_tup, Dl.fTuple_lst, Dl.fInt_int, Dl.fInt_bl, Dl.fAdd_int, Dl.fAdd_tup, Dl.fAdd_lst, Dl.fNeg_int, Dl.fSl_tup, Dl.fSl_lst, Dl.gwTup_tup, Dl.gwUnl_lst, Dl.gwCons_cons, Dl.gwNil_nil, Dl.gwName_eq, Dl.lcD_nil, Dl.wipeS, List.set, if_true, if_false, Bool.false_eq_true, Bool.not_true, Bool.not_false, ite_true, ite_false])
  refine ⟨_, look_ticks, ?_⟩
  (try simp only [Dl.wRet, Dl.wRetN, Dl.wThen, Dl.wIf, Dl.wOr, Dl.wAnd, Dl.wNot, Dl.wNotV, Dl.wAndV, Dl.wOrV, Dl.wB, Dl.wTru, Dl.wOp, Dl.wUn, Dl.wVar, Dl.wC, Dl.wF, Dl.wCons, Dl.wNil, Dl.wTup, Dl.wLst, Dl.wSet, Dl.wAsg, Dl.wNext, Dl.wDrop, Dl.wFz, Dl.wfLst, Dl.wfList, Dl.wfCat, Dl.wSetOwn, Dl.wApp, Dl.wFreeze, Dl.wFreezeD, Dl.wIsi, Dl.wChain, Dl.wIfE, Dl.wSeq, Dl.wRng1, Dl.wRng2, Dl.wLc, Dl.wLcOwn, Dl.wFor, Dl.wPar, Dl.wDPut, Dl.wGet2, Dl.wLend, Dl.wLendT, Dl.wFld, Dl.wProp, Dl.wMeth, Dl.wMethK, Dl.wMakeM, Dl.wMakeMn, Dl.fMakeM, Dl.wStar, Dl.wSl, Dl.wNoP, Dl.wPart, Dl.wItOwn, Dl.wEnT, Dl.wEnL, Dl.wRaise1, Dl.wRaise2, Dl.wFldOwn, Dl.wMaxD, Dl.wDct0, Dl.wYes, Dl.fOwn, Dl.fOwnX, Dl.fOwnNe, Dl.fOwnNeX, Dl.fOwnIn, Dl.fOwnNotIn, Dl.fOwnLen, Dl.fOwnBool, Dl.gt, Dl.isB_bl, Dl.tru_bl, Dl.optI_some, Dl.slV_val, Dl.ownL_own, Dl.ownDI_own, Dl.lendI_own, Dl.lendI_ownD, Dl.seqI_tup, Dl.seqI_lst, Dl.tupI_tup, Dl.lstI_lst, Dl.intI_int, Dl.dctI_dct, Dl.keyI_int, Dl.insI_ins, Dl.ownIi_own, Dl.excI_exc, Dl.fOne_one, Dl.fI0_int, Dl.fI2_int, Dl.fLen_tup, Dl.fLen_lst, Dl.fTuple_tup, Dl.fTuple_lst, Dl.fInt_int, Dl.fInt_bl, Dl.fAdd_int, Dl.fAdd_tup, Dl.fAdd_lst, Dl.fNeg_int, Dl.fSl_tup, Dl.fSl_lst, Dl.gwTup_tup, Dl.gwUnl_lst, Dl.gwCons_cons, Dl.gwNil_nil, Dl.gwName_eq, Dl.lcD_nil, Dl.wipeS, List.set, if_true, if_false, Bool.false_eq_true, Bool.not_true, Bool.not_false, ite_true, ite_false])
  refine ⟨rfl, ?_⟩
  rw [List.length_map, wi_in (by omega) (by omega)]
  (try simp only [Dl.wRet, Dl.wRetN, Dl.wThen, Dl.wIf, Dl.wOr, Dl.wAnd, Dl.wNot, Dl.wNotV, Dl.wAndV, Dl.wOrV, Dl.wB, Dl.wTru, Dl.wOp, Dl.wUn, Dl.wVar, Dl.wC, Dl.wF, Dl.wCons, Dl.wNil, Dl.wTup, Dl.wLst, Dl.wSet, Dl.wAsg, Dl.wNext, Dl.wDrop, Dl.wFz, Dl.wfLst, Dl.wfList, Dl.wfCat, Dl.wSetOwn, Dl.wApp, Dl.wFreeze, Dl.wFreezeD, Dl.wIsi, Dl.wChain, Dl.wIfE, Dl.wSeq, Dl.wRng1, Dl.wRng2, Dl.wLc, Dl.wLcOwn, Dl.wFor, Dl.wPar, Dl.wDPut, Dl.wGet2, Dl.wLend, Dl.wLendT, Dl.wFld, Dl.wProp, Dl.wMeth, Dl.wMethK, Dl.wMakeM, Dl.wMakeMn, Dl.fMakeM, Dl.wStar, Dl.wSl, Dl.wNoP, Dl.wPart, Dl.wItOwn, Dl.wEnT, Dl.wEnL, Dl.wRaise1, Dl.wRaise2, Dl.wFldOwn, Dl.wMaxD, Dl.wDct0, Dl.wYes, Dl.fOwn, Dl.fOwnX, Dl.fOwnNe, Dl.fOwnNeX, Dl.fOwnIn, Dl.fOwnNotIn, Dl.fOwnLen, Dl.fOwnBool, Dl.gt, Dl.isB_bl, Dl.tru_bl, Dl.optI_some, Dl.slV_val, Dl.ownL_own, Dl.ownDI_own, Dl.lendI_own, Dl.lendI_ownD, Dl.seqI_tup, Dl.seqI_lst, Dl.tupI_tup, Dl.lstI_lst, Dl.intI_int, Dl.dctI_dct, Dl.keyI_int, Dl.insI_ins, Dl.ownIi_own, Dl.excI_exc, Dl.fOne_one, Dl.fI0_int, Dl.fI2_int, Dl.fLen_tup, Dl.fLen_lst, Dl.fTuple_tup, Dl.fTuple_lst, Dl.fInt_int, Dl.fInt_bl, Dl.fAdd_int, Dl.fAdd_tup, Dl.fAdd_lst, Dl.fNeg_int, Dl.fSl_tup, Dl.fSl_lst, Dl.gwTup_tup, Dl.gwUnl_lst, Dl.gwCons_cons, Dl.gwNil_nil, Dl.gwName_eq, Dl.lcD_nil, Dl.wipeS, List.set, if_true, if_false, Bool.false_eq_true, Bool.not_true, Bool.not_false, ite_true, ite_false])
  refine ⟨_, look_ticks, ?_⟩
  show (match L2.atI (ps.map (tickP' K)) (i : Int) with
    | some y => k y n
    | none => False)
  rw [L2.atI_nat (v := tickP' K p) (by rw [List.getElem?_map, hp]; rfl)]
  exact q
end
end Lz

set_option Elab.async false
set_option linter.all false
set_option maxRecDepth 100000
set_option maxHeartbeats 4000000
namespace Lz
open PySem PySem.Spec PyProof.Rows L2 LamX Dl Xt TL
section
variable {K : PySem.W.Frag} {ds : List D} {n : Nat} {k : KD} {x : KX} {kb : Bool → Nat → Prop}
theorem one_okS {a : Int} (h : 0 ≤ a ∧ a ≤ 8) : okS [a] := ⟨by simp, fun i hi => by rw [List.mem_singleton.mp hi]; exact h, rfl⟩
/-! ### Plan.rate -/
theorem sumN : ∀ l : List Nat, ((l.map fun a : Nat => (a : Int)).sum) = ((l.sum : Nat) : Int)
  | [] => rfl
  | a :: l => by rw [List.map_cons, List.sum_cons, List.sum_cons, sumN l, Int.natCast_add]
theorem dt_Plan_rate (h : c_Plan_rate K ds n k x) : W_Plan_rate K (startD ["self", "many", "speaking", "tick"] ds) n { nx := fun _ n' => k .non n', rt := k } x := by
  obtain ⟨ps, rfl, hl, hs, q⟩ := h
  show W_Plan_rate K [.val (.ins (ga K "Plan") (planF K ps)), .un, .un, .un] n _ x
  unfold W_Plan_rate
  (try simp only [Dl.wRet, Dl.wRetN, Dl.wThen, Dl.wIf, Dl.wOr, Dl.wAnd, Dl.wNot, Dl.wNotV, Dl.wAndV, Dl.wOrV, Dl.wB, Dl.wTru, Dl.wOp, Dl.wUn, Dl.wVar, Dl.wC, Dl.wF, Dl.wCons, Dl.wNil, Dl.wTup, Dl.wLst, Dl.wSet, Dl.wAsg, Dl.wNext, Dl.wDrop, Dl.wFz, Dl.wfLst, Dl.wfList, Dl.wfCat, Dl.wSetOwn, Dl.wApp, Dl.wFreeze, Dl.wFreezeD, Dl.wIsi, Dl.wChain, Dl.wIfE, Dl.wSeq, Dl.wRng1, Dl.wRng2, Dl.wLc, Dl.wLcOwn, Dl.wFor, Dl.wPar, Dl.wDPut, Dl.wGet2, Dl.wLend, Dl.wLendT, Dl.wFld, Dl.wProp, Dl.wMeth, Dl.wMethK, Dl.wMakeM, Dl.wMakeMn, Dl.fMakeM, Dl.wStar, Dl.wSl, Dl.wNoP, Dl.wPart, Dl.wItOwn, Dl.wEnT, Dl.wEnL, Dl.wRaise1, Dl.wRaise2, Dl.wFldOwn, Dl.wMaxD, Dl.wDct0, Dl.wYes, Dl.fOwn, Dl.fOwnX, Dl.fOwnNe, Dl.fOwnNeX, Dl.fOwnIn, Dl.fOwnNotIn, Dl.fOwnLen, Dl.fOwnBool, Dl.gt, Dl.isB_bl, Dl.tru_bl, Dl.optI_some, Dl.slV_val, Dl.ownL_own, Dl.ownDI_own, Dl.lendI_own, Dl.lendI_ownD, Dl.seqI_tup, Dl.seqI_lst, Dl.tupI_tup, Dl.lstI_lst, Dl.intI_int, Dl.dctI_dct, Dl.keyI_int, Dl.insI_ins, Dl.ownIi_own, Dl.excI_exc, Dl.fOne_one, Dl.fI0_int, Dl.fI2_int, Dl.fLen_tup, Dl.fLen_lst, Dl.fTuple_tup, Dl.fTuple_lst, Dl.fInt_int, Dl.fInt_bl, Dl.fAdd_int, Dl.fAdd_tup, Dl.fAdd_lst, Dl.fNeg_int, Dl.fSl_tup, Dl.fSl_lst, Dl.gwTup_tup, Dl.gwUnl_lst, Dl.gwCons_cons, Dl.gwNil_nil, Dl.gwName_eq, Dl.lcD_nil, Dl.wipeS, List.set, if_true, if_false, Bool.false_eq_true, Bool.not_true, Bool.not_false, ite_true, ite_false])
  refine ⟨_, look_ticks, ?_⟩
  (try simp only [Dl.wRet, Dl.wRetN, Dl.wThen, Dl.wIf, Dl.wOr, Dl.wAnd, Dl.wNot, Dl.wNotV, Dl.wAndV, Dl.wOrV, Dl.wB, Dl.wTru, Dl.wOp, Dl.wUn, Dl.wVar, Dl.wC, Dl.wF, Dl.wCons, Dl.wNil, Dl.wTup, Dl.wLst, Dl.wSet, Dl.wAsg, Dl.wNext, Dl.wDrop, Dl.wFz, Dl.wfLst, Dl.wfList, Dl.wfCat, Dl.wSetOwn, Dl.wApp, Dl.wFreeze, Dl.wFreezeD, Dl.wIsi, Dl.wChain, Dl.wIfE, Dl.wSeq, Dl.wRng1, Dl.wRng2, Dl.wLc, Dl.wLcOwn, Dl.wFor, Dl.wPar, Dl.wDPut, Dl.wGet2, Dl.wLend, Dl.wLendT, Dl.wFld, Dl.wProp, Dl.wMeth, Dl.wMethK, Dl.wMakeM, Dl.wMakeMn, Dl.fMakeM, Dl.wStar, Dl.wSl, Dl.wNoP, Dl.wPart, Dl.wItOwn, Dl.wEnT, Dl.wEnL, Dl.wRaise1, Dl.wRaise2, Dl.wFldOwn, Dl.wMaxD, Dl.wDct0, Dl.wYes, Dl.fOwn, Dl.fOwnX, Dl.fOwnNe, Dl.fOwnNeX, Dl.fOwnIn, Dl.fOwnNotIn, Dl.fOwnLen, Dl.fOwnBool, Dl.gt, Dl.isB_bl, Dl.tru_bl, Dl.optI_some, Dl.slV_val, Dl.ownL_own, Dl.ownDI_own, Dl.lendI_own, Dl.lendI_ownD, Dl.seqI_tup, Dl.seqI_lst, Dl.tupI_tup, Dl.lstI_lst, Dl.intI_int, Dl.dctI_dct, Dl.keyI_int, Dl.insI_ins, Dl.ownIi_own, Dl.excI_exc, Dl.fOne_one, Dl.fI0_int, Dl.fI2_int, Dl.fLen_tup, Dl.fLen_lst, Dl.fTuple_tup, Dl.fTuple_lst, Dl.fInt_int, Dl.fInt_bl, Dl.fAdd_int, Dl.fAdd_tup, Dl.fAdd_lst, Dl.fNeg_int, Dl.fSl_tup, Dl.fSl_lst, Dl.gwTup_tup, Dl.gwUnl_lst, Dl.gwCons_cons, Dl.gwNil_nil, Dl.gwName_eq, Dl.lcD_nil, Dl.wipeS, List.set, if_true, if_false, Bool.false_eq_true, Bool.not_true, Bool.not_false, ite_true, ite_false])
  refine ⟨by rw [List.length_map]; omega, ?_⟩
  refine lc_on (tickP' K) (fun p => .int ((p.1.length : Nat) : Int)) (fun p hp m kd qk => ?_) ?_
  · (try simp only [Dl.wRet, Dl.wRetN, Dl.wThen, Dl.wIf, Dl.wOr, Dl.wAnd, Dl.wNot, Dl.wNotV, Dl.wAndV, Dl.wOrV, Dl.wB, Dl.wTru, Dl.wOp, Dl.wUn, Dl.wVar, Dl.wC, Dl.wF, Dl.wCons, Dl.wNil, Dl.wTup, Dl.wLst, Dl.wSet, Dl.wAsg, Dl.wNext, Dl.wDrop, Dl.wFz, Dl.wfLst, Dl.wfList, Dl.wfCat, Dl.wSetOwn, Dl.wApp, Dl.wFreeze, Dl.wFreezeD, Dl.wIsi, Dl.wChain, Dl.wIfE, Dl.wSeq, Dl.wRng1, Dl.wRng2, Dl.wLc, Dl.wLcOwn, Dl.wFor, Dl.wPar, Dl.wDPut, Dl.wGet2, Dl.wLend, Dl.wLendT, Dl.wFld, Dl.wProp, Dl.wMeth, Dl.wMethK, Dl.wMakeM, Dl.wMakeMn, Dl.fMakeM, Dl.wStar, Dl.wSl, Dl.wNoP, Dl.wPart, Dl.wItOwn, Dl.wEnT, Dl.wEnL, Dl.wRaise1, Dl.wRaise2, Dl.wFldOwn, Dl.wMaxD, Dl.wDct0, Dl.wYes, Dl.fOwn, Dl.fOwnX, Dl.fOwnNe, Dl.fOwnNeX, Dl.fOwnIn, Dl.fOwnNotIn, Dl.fOwnLen, Dl.fOwnBool, Dl.gt, Dl.isB_bl, Dl.tru_bl, Dl.optI_some, Dl.slV_val, Dl.ownL_own, Dl.ownDI_own, Dl.lendI_own, Dl.lendI_ownD, Dl.seqI_tup, Dl.seqI_lst, Dl.tupI_tup, Dl.lstI_lst, Dl.intI_int, Dl.dctI_dct, Dl.keyI_int, Dl.insI_ins, Dl.ownIi_own, Dl.excI_exc, Dl.fOne_one, Dl.fI0_int, Dl.fI2_int, Dl.fLen_tup, Dl.fLen_lst, Dl.fTuple_tup, Dl.fTuple_lst, Dl.fInt_int, Dl.fInt_bl, Dl.fAdd_int, Dl.fAdd_tup, Dl.fAdd_lst, Dl.fNeg_int, Dl.fSl_tup, Dl.fSl_lst, Dl.gwTup_tup, Dl.gwUnl_lst, Dl.gwCons_cons, Dl.gwNil_nil, Dl.gwName_eq, Dl.lcD_nil, Dl.wipeS, List.set, if_true, if_false, Bool.false_eq_true, Bool.not_true, Bool.not_false, ite_true, ite_false])
    show insI (ga K "Tick") (.ins (ga K "Tick") (tickF p.1 p.2)) _
    rw [insI_ins]
    refine ⟨_, look_sums, ?_⟩
    show kd (.int (((p.1.map sumD).length : Nat) : Int)) m
    rw [List.length_map]
    exact qk
  · rw [List.nil_append]
    show intsI _ _
    rw [show (ps.map fun p => D.int ((p.1.length : Nat) : Int)) = (ps.map fun p => ((p.1.length : Nat) : Int)).map D.int by rw [List.map_map]; rfl, intsI_map]
    rw [show (ps.map fun p => ((p.1.length : Nat) : Int)).sum = (((ps.map fun p => p.1.length).sum : Nat) : Int) by rw [← sumN, List.map_map]; rfl]
    refine ⟨_, look_ticks, ?_⟩
    show (ps.map (tickP' K)).length ≤ 100000 ∧ _
    refine ⟨by rw [List.length_map]; omega, ?_⟩
    refine lc_filG (tickP' K) (tickP' K) (fun p => !p.2) (fun p hp m kb qk => ?_) (fun p hp e m kd qk => ?_) ?_
    · (try simp only [Dl.wRet, Dl.wRetN, Dl.wThen, Dl.wIf, Dl.wOr, Dl.wAnd, Dl.wNot, Dl.wNotV, Dl.wAndV, Dl.wOrV, Dl.wB, Dl.wTru, Dl.wOp, Dl.wUn, Dl.wVar, Dl.wC, Dl.wF, Dl.wCons, Dl.wNil, Dl.wTup, Dl.wLst, Dl.wSet, Dl.wAsg, Dl.wNext, Dl.wDrop, Dl.wFz, Dl.wfLst, Dl.wfList, Dl.wfCat, Dl.wSetOwn, Dl.wApp, Dl.wFreeze, Dl.wFreezeD, Dl.wIsi, Dl.wChain, Dl.wIfE, Dl.wSeq, Dl.wRng1, Dl.wRng2, Dl.wLc, Dl.wLcOwn, Dl.wFor, Dl.wPar, Dl.wDPut, Dl.wGet2, Dl.wLend, Dl.wLendT, Dl.wFld, Dl.wProp, Dl.wMeth, Dl.wMethK, Dl.wMakeM, Dl.wMakeMn, Dl.fMakeM, Dl.wStar, Dl.wSl, Dl.wNoP, Dl.wPart, Dl.wItOwn, Dl.wEnT, Dl.wEnL, Dl.wRaise1, Dl.wRaise2, Dl.wFldOwn, Dl.wMaxD, Dl.wDct0, Dl.wYes, Dl.fOwn, Dl.fOwnX, Dl.fOwnNe, Dl.fOwnNeX, Dl.fOwnIn, Dl.fOwnNotIn, Dl.fOwnLen, Dl.fOwnBool, Dl.gt, Dl.isB_bl, Dl.tru_bl, Dl.optI_some, Dl.slV_val, Dl.ownL_own, Dl.ownDI_own, Dl.lendI_own, Dl.lendI_ownD, Dl.seqI_tup, Dl.seqI_lst, Dl.tupI_tup, Dl.lstI_lst, Dl.intI_int, Dl.dctI_dct, Dl.keyI_int, Dl.insI_ins, Dl.ownIi_own, Dl.excI_exc, Dl.fOne_one, Dl.fI0_int, Dl.fI2_int, Dl.fLen_tup, Dl.fLen_lst, Dl.fTuple_tup, Dl.fTuple_lst, Dl.fInt_int, Dl.fInt_bl, Dl.fAdd_int, Dl.fAdd_tup, Dl.fAdd_lst, Dl.fNeg_int, Dl.fSl_tup, Dl.fSl_lst, Dl.gwTup_tup, Dl.gwUnl_lst, Dl.gwCons_cons, Dl.gwNil_nil, Dl.gwName_eq, Dl.lcD_nil, Dl.wipeS, List.set, if_true, if_false, Bool.false_eq_true, Bool.not_true, Bool.not_false, ite_true, ite_false])
      show insI (ga K "Tick") (.ins (ga K "Tick") (tickF p.1 p.2)) _
      rw [insI_ins]
      refine ⟨_, look_mute, ?_⟩
      exact qk
    · (try simp only [Dl.wRet, Dl.wRetN, Dl.wThen, Dl.wIf, Dl.wOr, Dl.wAnd, Dl.wNot, Dl.wNotV, Dl.wAndV, Dl.wOrV, Dl.wB, Dl.wTru, Dl.wOp, Dl.wUn, Dl.wVar, Dl.wC, Dl.wF, Dl.wCons, Dl.wNil, Dl.wTup, Dl.wLst, Dl.wSet, Dl.wAsg, Dl.wNext, Dl.wDrop, Dl.wFz, Dl.wfLst, Dl.wfList, Dl.wfCat, Dl.wSetOwn, Dl.wApp, Dl.wFreeze, Dl.wFreezeD, Dl.wIsi, Dl.wChain, Dl.wIfE, Dl.wSeq, Dl.wRng1, Dl.wRng2, Dl.wLc, Dl.wLcOwn, Dl.wFor, Dl.wPar, Dl.wDPut, Dl.wGet2, Dl.wLend, Dl.wLendT, Dl.wFld, Dl.wProp, Dl.wMeth, Dl.wMethK, Dl.wMakeM, Dl.wMakeMn, Dl.fMakeM, Dl.wStar, Dl.wSl, Dl.wNoP, Dl.wPart, Dl.wItOwn, Dl.wEnT, Dl.wEnL, Dl.wRaise1, Dl.wRaise2, Dl.wFldOwn, Dl.wMaxD, Dl.wDct0, Dl.wYes, Dl.fOwn, Dl.fOwnX, Dl.fOwnNe, Dl.fOwnNeX, Dl.fOwnIn, Dl.fOwnNotIn, Dl.fOwnLen, Dl.fOwnBool, Dl.gt, Dl.isB_bl, Dl.tru_bl, Dl.optI_some, Dl.slV_val, Dl.ownL_own, Dl.ownDI_own, Dl.lendI_own, Dl.lendI_ownD, Dl.seqI_tup, Dl.seqI_lst, Dl.tupI_tup, Dl.lstI_lst, Dl.intI_int, Dl.dctI_dct, Dl.keyI_int, Dl.insI_ins, Dl.ownIi_own, Dl.excI_exc, Dl.fOne_one, Dl.fI0_int, Dl.fI2_int, Dl.fLen_tup, Dl.fLen_lst, Dl.fTuple_tup, Dl.fTuple_lst, Dl.fInt_int, Dl.fInt_bl, Dl.fAdd_int, Dl.fAdd_tup, Dl.fAdd_lst, Dl.fNeg_int, Dl.fSl_tup, Dl.fSl_lst, Dl.gwTup_tup, Dl.gwUnl_lst, Dl.gwCons_cons, Dl.gwNil_nil, Dl.gwName_eq, Dl.lcD_nil, Dl.wipeS, List.set, if_true, if_false, Bool.false_eq_true, Bool.not_true, Bool.not_false, ite_true, ite_false])
      exact qk
    · rw [List.nil_append, List.length_map]
      exact ⟨by show 2 ≤ 1000; decide, q⟩
/-! ### copies -/
theorem pln_isI {d : D} (h : pln d = true) : pln d = true := h
theorem badAge_none : ∀ {as : List D} {i : Nat} {acc : List Int}, badAge i acc as = none → ∃ ages : List Int, as = ages.map .int ∧ (∀ a ∈ ages, 1 ≤ a ∧ a ≤ 8) ∧ (acc.Nodup → (acc ++ ages).Nodup)
  | [], i, acc, _ => ⟨[], rfl, fun _ h => (by cases h), fun h => by rwa [List.append_nil]⟩
  | d :: r, i, acc, h => by
    cases d with
    | int a =>
      rw [badAge] at h
      by_cases c : 1 ≤ a ∧ a ≤ 8
      · rw [if_pos c] at h
        by_cases c2 : a ∈ acc
        · rw [if_pos c2] at h; cases h
        · rw [if_neg c2] at h
          obtain ⟨ages, e, h1, h2⟩ := badAge_none h
          refine ⟨a :: ages, by rw [e]; rfl, fun b hb => ?_, fun hn => ?_⟩
          · rcases List.mem_cons.mp hb with rfl | hb
            · exact c
            · exact h1 b hb
          · have := h2 (by
              rw [List.nodup_append]
              refine ⟨hn, by simp, fun b hb e he => ?_⟩
              rw [List.mem_singleton.mp he]
              intro z
              exact c2 (z ▸ hb))
            rw [List.append_assoc] at this
            exact this
      · rw [if_neg c] at h; cases h
    | _ => cases h
theorem wi_false {a b : Int} {d : D} (h : wi a b d = true) : ∃ i : Int, d = .int i ∧ a ≤ i ∧ i ≤ b := by
  cases d with
  | int i =>
    have h : (decide (a ≤ i) && decide (i ≤ b)) = true := h
    rw [Bool.and_eq_true] at h
    exact ⟨i, rfl, of_decide_eq_true h.1, of_decide_eq_true h.2⟩
  | _ => cases h
theorem in_ints {a : Int} {as : List Int} (q : k (.bl (decide (a ∈ as))) n) : fInS false (.int a) (.tup (as.map D.int)) n k x := by
  have e : anyEq (as.map PyData.int) (.int a) = decide (a ∈ as) := by
    clear q
    unfold anyEq
    induction as with
    | nil => rfl
    | cons b as ih =>
      rw [List.map_cons, List.any_cons]
      by_cases h : b = a
      · subst h; simp [PyData.eqv]
      · have h' : a ≠ b := fun z => h z.symm
        rw [ih, show PyData.eqv (.int b) (.int a) = false by show (b == a) = false; simpa using h]
        simp [h']
  refine pyv_of (p := .int a) rfl rfl (pyv_of (p := .tuple (as.map PyData.int)) (by simp only [toPy, toPys_ints]) (by
    have := depth_ints as
    simp [SeqAt.shaped, PyData.canLay0, canlay_ints as, PyData.depth]
    omega) ?_)
  show k (.bl (if false = true then !anyEq (as.map PyData.int) (.int a) else anyEq (as.map PyData.int) (.int a))) n
  rw [e]
  exact q
theorem cp_loop {E : DEnds} {td : List D} : ∀ (r : List D) (pre : List Int) (s1 s2 s3 : Sl), td = pre.map D.int ++ r → (∀ d ∈ r, pln d = true) → (match badAge pre.length pre r with
      | some j => x (ga K "BadTick", [("part", .int (j : Int))]) n
      | none => ∀ s1 s2, E.nx [.val (.tup td), s1, s2, s3] n) →
    forD (gwTup (gwCons (gwName 1) (gwCons (gwName 2) gwNil))) (wIf (wOr (wNot (wTru (wF (c_is_within K) (wCons (wVar 2) (wCons (wC (.int 1)) (wCons (wC (.int 8)) wNil)))))) (wB (wOp (fInS false) (wVar 2) (wSl (wVar 0) wNoP (wPart (wVar 1))))))
      (wRaise1 (ga K "BadTick") "part" (wVar 1))
      wNext) E x (enumD pre.length r) [.val (.tup td), s1, s2, s3] n
  | [], pre, s1, s2, s3, _, _, q => q s1 s2
  | d :: r, pre, s1, s2, s3, e, hd, q => by
    simp only [enumD, forD]
    (try simp only [Dl.wRet, Dl.wRetN, Dl.wThen, Dl.wIf, Dl.wOr, Dl.wAnd, Dl.wNot, Dl.wNotV, Dl.wAndV, Dl.wOrV, Dl.wB, Dl.wTru, Dl.wOp, Dl.wUn, Dl.wVar, Dl.wC, Dl.wF, Dl.wCons, Dl.wNil, Dl.wTup, Dl.wLst, Dl.wSet, Dl.wAsg, Dl.wNext, Dl.wDrop, Dl.wFz, Dl.wfLst, Dl.wfList, Dl.wfCat, Dl.wSetOwn, Dl.wApp, Dl.wFreeze, Dl.wFreezeD, Dl.wIsi, Dl.wChain, Dl.wIfE, Dl.wSeq, Dl.wRng1, Dl.wRng2, Dl.wLc, Dl.wLcOwn, Dl.wFor, Dl.wPar, Dl.wDPut, Dl.wGet2, Dl.wLend, Dl.wLendT, Dl.wFld, Dl.wProp, Dl.wMeth, Dl.wMethK, Dl.wMakeM, Dl.wMakeMn, Dl.fMakeM, Dl.wStar, Dl.wSl, Dl.wNoP, Dl.wPart, Dl.wItOwn, Dl.wEnT, Dl.wEnL, Dl.wRaise1, Dl.wRaise2, Dl.wFldOwn, Dl.wMaxD, Dl.wDct0, Dl.wYes, Dl.fOwn, Dl.fOwnX, Dl.fOwnNe, Dl.fOwnNeX, Dl.fOwnIn, Dl.fOwnNotIn, Dl.fOwnLen, Dl.fOwnBool, Dl.gt, Dl.isB_bl, Dl.tru_bl, Dl.optI_some, Dl.slV_val, Dl.ownL_own, Dl.ownDI_own, Dl.lendI_own, Dl.lendI_ownD, Dl.seqI_tup, Dl.seqI_lst, Dl.tupI_tup, Dl.lstI_lst, Dl.intI_int, Dl.dctI_dct, Dl.keyI_int, Dl.insI_ins, Dl.ownIi_own, Dl.excI_exc, Dl.fOne_one, Dl.fI0_int, Dl.fI2_int, Dl.fLen_tup, Dl.fLen_lst, Dl.fTuple_tup, Dl.fTuple_lst, Dl.fInt_int, Dl.fInt_bl, Dl.fAdd_int, Dl.fAdd_tup, Dl.fAdd_lst, Dl.fNeg_int, Dl.fSl_tup, Dl.fSl_lst, Dl.gwTup_tup, Dl.gwUnl_lst, Dl.gwCons_cons, Dl.gwNil_nil, Dl.gwName_eq, Dl.lcD_nil, Dl.wipeS, List.set, if_true, if_false, Bool.false_eq_true, Bool.not_true, Bool.not_false, ite_true, ite_false])
    refine ⟨hd d List.mem_cons_self, ?_⟩
    by_cases c : wi 1 8 d = true
    · obtain ⟨a, rfl, a1, a8⟩ := wi_false c
      rw [c]
      rw [badAge, if_pos ⟨a1, a8⟩] at q
      (try simp only [Dl.wRet, Dl.wRetN, Dl.wThen, Dl.wIf, Dl.wOr, Dl.wAnd, Dl.wNot, Dl.wNotV, Dl.wAndV, Dl.wOrV, Dl.wB, Dl.wTru, Dl.wOp, Dl.wUn, Dl.wVar, Dl.wC, Dl.wF, Dl.wCons, Dl.wNil, Dl.wTup, Dl.wLst, Dl.wSet, Dl.wAsg, Dl.wNext, Dl.wDrop, Dl.wFz, Dl.wfLst, Dl.wfList, Dl.wfCat, Dl.wSetOwn, Dl.wApp, Dl.wFreeze, Dl.wFreezeD, Dl.wIsi, Dl.wChain, Dl.wIfE, Dl.wSeq, Dl.wRng1, Dl.wRng2, Dl.wLc, Dl.wLcOwn, Dl.wFor, Dl.wPar, Dl.wDPut, Dl.wGet2, Dl.wLend, Dl.wLendT, Dl.wFld, Dl.wProp, Dl.wMeth, Dl.wMethK, Dl.wMakeM, Dl.wMakeMn, Dl.fMakeM, Dl.wStar, Dl.wSl, Dl.wNoP, Dl.wPart, Dl.wItOwn, Dl.wEnT, Dl.wEnL, Dl.wRaise1, Dl.wRaise2, Dl.wFldOwn, Dl.wMaxD, Dl.wDct0, Dl.wYes, Dl.fOwn, Dl.fOwnX, Dl.fOwnNe, Dl.fOwnNeX, Dl.fOwnIn, Dl.fOwnNotIn, Dl.fOwnLen, Dl.fOwnBool, Dl.gt, Dl.isB_bl, Dl.tru_bl, Dl.optI_some, Dl.slV_val, Dl.ownL_own, Dl.ownDI_own, Dl.lendI_own, Dl.lendI_ownD, Dl.seqI_tup, Dl.seqI_lst, Dl.tupI_tup, Dl.lstI_lst, Dl.intI_int, Dl.dctI_dct, Dl.keyI_int, Dl.insI_ins, Dl.ownIi_own, Dl.excI_exc, Dl.fOne_one, Dl.fI0_int, Dl.fI2_int, Dl.fLen_tup, Dl.fLen_lst, Dl.fTuple_tup, Dl.fTuple_lst, Dl.fInt_int, Dl.fInt_bl, Dl.fAdd_int, Dl.fAdd_tup, Dl.fAdd_lst, Dl.fNeg_int, Dl.fSl_tup, Dl.fSl_lst, Dl.gwTup_tup, Dl.gwUnl_lst, Dl.gwCons_cons, Dl.gwNil_nil, Dl.gwName_eq, Dl.lcD_nil, Dl.wipeS, List.set, if_true, if_false, Bool.false_eq_true, Bool.not_true, Bool.not_false, ite_true, ite_false])
      rw [cutD_take, e, List.take_append_of_le_length (by rw [List.length_map]; exact Nat.le_refl _), List.take_of_length_le (by rw [List.length_map]; exact Nat.le_refl _)]
      refine in_ints ?_
      (try simp only [Dl.wRet, Dl.wRetN, Dl.wThen, Dl.wIf, Dl.wOr, Dl.wAnd, Dl.wNot, Dl.wNotV, Dl.wAndV, Dl.wOrV, Dl.wB, Dl.wTru, Dl.wOp, Dl.wUn, Dl.wVar, Dl.wC, Dl.wF, Dl.wCons, Dl.wNil, Dl.wTup, Dl.wLst, Dl.wSet, Dl.wAsg, Dl.wNext, Dl.wDrop, Dl.wFz, Dl.wfLst, Dl.wfList, Dl.wfCat, Dl.wSetOwn, Dl.wApp, Dl.wFreeze, Dl.wFreezeD, Dl.wIsi, Dl.wChain, Dl.wIfE, Dl.wSeq, Dl.wRng1, Dl.wRng2, Dl.wLc, Dl.wLcOwn, Dl.wFor, Dl.wPar, Dl.wDPut, Dl.wGet2, Dl.wLend, Dl.wLendT, Dl.wFld, Dl.wProp, Dl.wMeth, Dl.wMethK, Dl.wMakeM, Dl.wMakeMn, Dl.fMakeM, Dl.wStar, Dl.wSl, Dl.wNoP, Dl.wPart, Dl.wItOwn, Dl.wEnT, Dl.wEnL, Dl.wRaise1, Dl.wRaise2, Dl.wFldOwn, Dl.wMaxD, Dl.wDct0, Dl.wYes, Dl.fOwn, Dl.fOwnX, Dl.fOwnNe, Dl.fOwnNeX, Dl.fOwnIn, Dl.fOwnNotIn, Dl.fOwnLen, Dl.fOwnBool, Dl.gt, Dl.isB_bl, Dl.tru_bl, Dl.optI_some, Dl.slV_val, Dl.ownL_own, Dl.ownDI_own, Dl.lendI_own, Dl.lendI_ownD, Dl.seqI_tup, Dl.seqI_lst, Dl.tupI_tup, Dl.lstI_lst, Dl.intI_int, Dl.dctI_dct, Dl.keyI_int, Dl.insI_ins, Dl.ownIi_own, Dl.excI_exc, Dl.fOne_one, Dl.fI0_int, Dl.fI2_int, Dl.fLen_tup, Dl.fLen_lst, Dl.fTuple_tup, Dl.fTuple_lst, Dl.fInt_int, Dl.fInt_bl, Dl.fAdd_int, Dl.fAdd_tup, Dl.fAdd_lst, Dl.fNeg_int, Dl.fSl_tup, Dl.fSl_lst, Dl.gwTup_tup, Dl.gwUnl_lst, Dl.gwCons_cons, Dl.gwNil_nil, Dl.gwName_eq, Dl.lcD_nil, Dl.wipeS, List.set, if_true, if_false, Bool.false_eq_true, Bool.not_true, Bool.not_false, ite_true, ite_false])
      by_cases c2 : a ∈ pre
      · rw [if_pos c2] at q
        rw [decide_eq_true c2]
        (try simp only [Dl.wRet, Dl.wRetN, Dl.wThen, Dl.wIf, Dl.wOr, Dl.wAnd, Dl.wNot, Dl.wNotV, Dl.wAndV, Dl.wOrV, Dl.wB, Dl.wTru, Dl.wOp, Dl.wUn, Dl.wVar, Dl.wC, Dl.wF, Dl.wCons, Dl.wNil, Dl.wTup, Dl.wLst, Dl.wSet, Dl.wAsg, Dl.wNext, Dl.wDrop, Dl.wFz, Dl.wfLst, Dl.wfList, Dl.wfCat, Dl.wSetOwn, Dl.wApp, Dl.wFreeze, Dl.wFreezeD, Dl.wIsi, Dl.wChain, Dl.wIfE, Dl.wSeq, Dl.wRng1, Dl.wRng2, Dl.wLc, Dl.wLcOwn, Dl.wFor, Dl.wPar, Dl.wDPut, Dl.wGet2, Dl.wLend, Dl.wLendT, Dl.wFld, Dl.wProp, Dl.wMeth, Dl.wMethK, Dl.wMakeM, Dl.wMakeMn, Dl.fMakeM, Dl.wStar, Dl.wSl, Dl.wNoP, Dl.wPart, Dl.wItOwn, Dl.wEnT, Dl.wEnL, Dl.wRaise1, Dl.wRaise2, Dl.wFldOwn, Dl.wMaxD, Dl.wDct0, Dl.wYes, Dl.fOwn, Dl.fOwnX, Dl.fOwnNe, Dl.fOwnNeX, Dl.fOwnIn, Dl.fOwnNotIn, Dl.fOwnLen, Dl.fOwnBool, Dl.gt, Dl.isB_bl, Dl.tru_bl, Dl.optI_some, Dl.slV_val, Dl.ownL_own, Dl.ownDI_own, Dl.lendI_own, Dl.lendI_ownD, Dl.seqI_tup, Dl.seqI_lst, Dl.tupI_tup, Dl.lstI_lst, Dl.intI_int, Dl.dctI_dct, Dl.keyI_int, Dl.insI_ins, Dl.ownIi_own, Dl.excI_exc, Dl.fOne_one, Dl.fI0_int, Dl.fI2_int, Dl.fLen_tup, Dl.fLen_lst, Dl.fTuple_tup, Dl.fTuple_lst, Dl.fInt_int, Dl.fInt_bl, Dl.fAdd_int, Dl.fAdd_tup, Dl.fAdd_lst, Dl.fNeg_int, Dl.fSl_tup, Dl.fSl_lst, Dl.gwTup_tup, Dl.gwUnl_lst, Dl.gwCons_cons, Dl.gwNil_nil, Dl.gwName_eq, Dl.lcD_nil, Dl.wipeS, List.set, if_true, if_false, Bool.false_eq_true, Bool.not_true, Bool.not_false, ite_true, ite_false])
        exact q
      · rw [if_neg c2] at q
        rw [decide_eq_false c2]
        (try simp only [Dl.wRet, Dl.wRetN, Dl.wThen, Dl.wIf, Dl.wOr, Dl.wAnd, Dl.wNot, Dl.wNotV, Dl.wAndV, Dl.wOrV, Dl.wB, Dl.wTru, Dl.wOp, Dl.wUn, Dl.wVar, Dl.wC, Dl.wF, Dl.wCons, Dl.wNil, Dl.wTup, Dl.wLst, Dl.wSet, Dl.wAsg, Dl.wNext, Dl.wDrop, Dl.wFz, Dl.wfLst, Dl.wfList, Dl.wfCat, Dl.wSetOwn, Dl.wApp, Dl.wFreeze, Dl.wFreezeD, Dl.wIsi, Dl.wChain, Dl.wIfE, Dl.wSeq, Dl.wRng1, Dl.wRng2, Dl.wLc, Dl.wLcOwn, Dl.wFor, Dl.wPar, Dl.wDPut, Dl.wGet2, Dl.wLend, Dl.wLendT, Dl.wFld, Dl.wProp, Dl.wMeth, Dl.wMethK, Dl.wMakeM, Dl.wMakeMn, Dl.fMakeM, Dl.wStar, Dl.wSl, Dl.wNoP, Dl.wPart, Dl.wItOwn, Dl.wEnT, Dl.wEnL, Dl.wRaise1, Dl.wRaise2, Dl.wFldOwn, Dl.wMaxD, Dl.wDct0, Dl.wYes, Dl.fOwn, Dl.fOwnX, Dl.fOwnNe, Dl.fOwnNeX, Dl.fOwnIn, Dl.fOwnNotIn, Dl.fOwnLen, Dl.fOwnBool, Dl.gt, Dl.isB_bl, Dl.tru_bl, Dl.optI_some, Dl.slV_val, Dl.ownL_own, Dl.ownDI_own, Dl.lendI_own, Dl.lendI_ownD, Dl.seqI_tup, Dl.seqI_lst, Dl.tupI_tup, Dl.lstI_lst, Dl.intI_int, Dl.dctI_dct, Dl.keyI_int, Dl.insI_ins, Dl.ownIi_own, Dl.excI_exc, Dl.fOne_one, Dl.fI0_int, Dl.fI2_int, Dl.fLen_tup, Dl.fLen_lst, Dl.fTuple_tup, Dl.fTuple_lst, Dl.fInt_int, Dl.fInt_bl, Dl.fAdd_int, Dl.fAdd_tup, Dl.fAdd_lst, Dl.fNeg_int, Dl.fSl_tup, Dl.fSl_lst, Dl.gwTup_tup, Dl.gwUnl_lst, Dl.gwCons_cons, Dl.gwNil_nil, Dl.gwName_eq, Dl.lcD_nil, Dl.wipeS, List.set, if_true, if_false, Bool.false_eq_true, Bool.not_true, Bool.not_false, ite_true, ite_false])
        rw [← e]
        have := cp_loop (td := td) (E := E) r (pre ++ [a]) (.val (.int ((pre.length : Nat) : Int))) (.val (.int a)) s3 (by rw [e, List.map_append, List.append_assoc]; rfl) (fun b hb => hd b (List.mem_cons_of_mem _ hb)) (by rw [List.length_append]; exact q)
        rw [List.length_append] at this
        exact this
    · have c : wi 1 8 d = false := by simpa using c
      have eb : badAge pre.length pre (d :: r) = some pre.length := by
        cases d with
        | int a =>
          rw [badAge, if_neg]
          intro z
          have : wi 1 8 (.int a) = true := wi_in z.1 z.2
          rw [c] at this
          cases this
        | _ => rfl
      rw [eb] at q
      rw [c]
      (try simp only [Dl.wRet, Dl.wRetN, Dl.wThen, Dl.wIf, Dl.wOr, Dl.wAnd, Dl.wNot, Dl.wNotV, Dl.wAndV, Dl.wOrV, Dl.wB, Dl.wTru, Dl.wOp, Dl.wUn, Dl.wVar, Dl.wC, Dl.wF, Dl.wCons, Dl.wNil, Dl.wTup, Dl.wLst, Dl.wSet, Dl.wAsg, Dl.wNext, Dl.wDrop, Dl.wFz, Dl.wfLst, Dl.wfList, Dl.wfCat, Dl.wSetOwn, Dl.wApp, Dl.wFreeze, Dl.wFreezeD, Dl.wIsi, Dl.wChain, Dl.wIfE, Dl.wSeq, Dl.wRng1, Dl.wRng2, Dl.wLc, Dl.wLcOwn, Dl.wFor, Dl.wPar, Dl.wDPut, Dl.wGet2, Dl.wLend, Dl.wLendT, Dl.wFld, Dl.wProp, Dl.wMeth, Dl.wMethK, Dl.wMakeM, Dl.wMakeMn, Dl.fMakeM, Dl.wStar, Dl.wSl, Dl.wNoP, Dl.wPart, Dl.wItOwn, Dl.wEnT, Dl.wEnL, Dl.wRaise1, Dl.wRaise2, Dl.wFldOwn, Dl.wMaxD, Dl.wDct0, Dl.wYes, Dl.fOwn, Dl.fOwnX, Dl.fOwnNe, Dl.fOwnNeX, Dl.fOwnIn, Dl.fOwnNotIn, Dl.fOwnLen, Dl.fOwnBool, Dl.gt, Dl.isB_bl, Dl.tru_bl, Dl.optI_some, Dl.slV_val, Dl.ownL_own, Dl.ownDI_own, Dl.lendI_own, Dl.lendI_ownD, Dl.seqI_tup, Dl.seqI_lst, Dl.tupI_tup, Dl.lstI_lst, Dl.intI_int, Dl.dctI_dct, Dl.keyI_int, Dl.insI_ins, Dl.ownIi_own, Dl.excI_exc, Dl.fOne_one, Dl.fI0_int, Dl.fI2_int, Dl.fLen_tup, Dl.fLen_lst, Dl.fTuple_tup, Dl.fTuple_lst, Dl.fInt_int, Dl.fInt_bl, Dl.fAdd_int, Dl.fAdd_tup, Dl.fAdd_lst, Dl.fNeg_int, Dl.fSl_tup, Dl.fSl_lst, Dl.gwTup_tup, Dl.gwUnl_lst, Dl.gwCons_cons, Dl.gwNil_nil, Dl.gwName_eq, Dl.lcD_nil, Dl.wipeS, List.set, if_true, if_false, Bool.false_eq_true, Bool.not_true, Bool.not_false, ite_true, ite_false])
      exact q
theorem copy_sm {ages : List Int} (h1 : ∀ a ∈ ages, 1 ≤ a ∧ a ≤ 8) : ∀ s ∈ copySs ages, okS s := fun s hs => by
  rcases List.mem_cons.mp hs with rfl | hs
  · exact one_okS (by omega)
  · obtain ⟨a, ha, rfl⟩ := List.mem_map.mp hs
    have := h1 a ha
    exact one_okS (by omega)
theorem copy_nd {ages : List Int} (h1 : ∀ a ∈ ages, 1 ≤ a ∧ a ≤ 8) (h2 : ages.Nodup) : (copySs ages).Nodup := by
  unfold copySs
  rw [List.nodup_cons]
  refine ⟨fun z => ?_, ?_⟩
  · obtain ⟨a, ha, e⟩ := List.mem_map.mp z
    have := h1 a ha
    injection e with e
    omega
  · refine List.Pairwise.map _ (fun a b hab => ?_) h2
    intro z
    injection z with z
    exact hab z
theorem init_many {ss : List (List Int)} {kf : List (Str × D) → Nat → Prop} (sm : ∀ s ∈ ss, okS s) (nd : ss.Nodup) (l : 6 < ss.length) (l2 : ss.length ≤ 100) (q : x (ga K "TooMany", [("most", .int 6), ("what", .str "sums")]) n) : c_Tick_init K [.bl false, .tup (ss.map sumD)] n kf x := by
  refine ⟨?_, by rw [List.length_map]; omega, ?_⟩
  · rw [List.all_eq_true]
    intro d hd
    obtain ⟨s, hs, rfl⟩ := List.mem_map.mp hd
    exact pln_ok (sm s hs)
  · rw [badAt_ok (acc := []) sm nd]
    dsimp only
    rw [if_pos (by rw [List.length_map]; exact l)]
    exact q
theorem copy_ok {ages : List Int} (h1 : ∀ a ∈ ages, 1 ≤ a ∧ a ≤ 8) (h2 : ages.Nodup) (h3 : ages.length ≤ 5) : Ok (copySs ages) false := by
  refine ⟨fun s hs => ?_, ?_, by unfold copySs; rw [List.length_cons, List.length_map]; omega, fun h => by cases h⟩
  · rcases List.mem_cons.mp hs with rfl | hs
    · exact one_okS (by omega)
    · obtain ⟨a, ha, rfl⟩ := List.mem_map.mp hs
      have := h1 a ha
      exact one_okS (by omega)
  · unfold copySs
    rw [List.nodup_cons]
    refine ⟨fun z => ?_, ?_⟩
    · obtain ⟨a, ha, e⟩ := List.mem_map.mp z
      have := h1 a ha
      injection e with e
      omega
    · refine List.Pairwise.map _ (fun a b hab => ?_) h2
      intro z
      injection z with z
      exact hab z
theorem dt_copies (h : c_copies K ds n k x) : W_copies K (startD ["ages", "at", "age", "sums"] ds) n { nx := fun _ n' => k .non n', rt := k } x := by
  obtain ⟨as, rfl, hp, hl, q⟩ := h
  show W_copies K [.val (.tup as), .un, .un, .un] n _ x
  unfold W_copies
  (try simp only [Dl.wRet, Dl.wRetN, Dl.wThen, Dl.wIf, Dl.wOr, Dl.wAnd, Dl.wNot, Dl.wNotV, Dl.wAndV, Dl.wOrV, Dl.wB, Dl.wTru, Dl.wOp, Dl.wUn, Dl.wVar, Dl.wC, Dl.wF, Dl.wCons, Dl.wNil, Dl.wTup, Dl.wLst, Dl.wSet, Dl.wAsg, Dl.wNext, Dl.wDrop, Dl.wFz, Dl.wfLst, Dl.wfList, Dl.wfCat, Dl.wSetOwn, Dl.wApp, Dl.wFreeze, Dl.wFreezeD, Dl.wIsi, Dl.wChain, Dl.wIfE, Dl.wSeq, Dl.wRng1, Dl.wRng2, Dl.wLc, Dl.wLcOwn, Dl.wFor, Dl.wPar, Dl.wDPut, Dl.wGet2, Dl.wLend, Dl.wLendT, Dl.wFld, Dl.wProp, Dl.wMeth, Dl.wMethK, Dl.wMakeM, Dl.wMakeMn, Dl.fMakeM, Dl.wStar, Dl.wSl, Dl.wNoP, Dl.wPart, Dl.wItOwn, Dl.wEnT, Dl.wEnL, Dl.wRaise1, Dl.wRaise2, Dl.wFldOwn, Dl.wMaxD, Dl.wDct0, Dl.wYes, Dl.fOwn, Dl.fOwnX, Dl.fOwnNe, Dl.fOwnNeX, Dl.fOwnIn, Dl.fOwnNotIn, Dl.fOwnLen, Dl.fOwnBool, Dl.gt, Dl.isB_bl, Dl.tru_bl, Dl.optI_some, Dl.slV_val, Dl.ownL_own, Dl.ownDI_own, Dl.lendI_own, Dl.lendI_ownD, Dl.seqI_tup, Dl.seqI_lst, Dl.tupI_tup, Dl.lstI_lst, Dl.intI_int, Dl.dctI_dct, Dl.keyI_int, Dl.insI_ins, Dl.ownIi_own, Dl.excI_exc, Dl.fOne_one, Dl.fI0_int, Dl.fI2_int, Dl.fLen_tup, Dl.fLen_lst, Dl.fTuple_tup, Dl.fTuple_lst, Dl.fInt_int, Dl.fInt_bl, Dl.fAdd_int, Dl.fAdd_tup, Dl.fAdd_lst, Dl.fNeg_int, Dl.fSl_tup, Dl.fSl_lst, Dl.gwTup_tup, Dl.gwUnl_lst, Dl.gwCons_cons, Dl.gwNil_nil, Dl.gwName_eq, Dl.lcD_nil, Dl.wipeS, List.set, if_true, if_false, Bool.false_eq_true, Bool.not_true, Bool.not_false, ite_true, ite_false])
  refine cp_loop as [] _ _ _ rfl hp ?_
  show (match badAge 0 [] as with
      | some j => _
      | none => _)
  cases e : badAge 0 [] as with
  | some i => rw [e] at q; exact q
  | none =>
    rw [e] at q
    obtain ⟨ages, rfl, h1, h2⟩ := badAge_none e
    have h2 := h2 List.nodup_nil
    rw [List.nil_append] at h2
    have q := q ages rfl
    intro s1 s2
    (try simp only [Dl.wRet, Dl.wRetN, Dl.wThen, Dl.wIf, Dl.wOr, Dl.wAnd, Dl.wNot, Dl.wNotV, Dl.wAndV, Dl.wOrV, Dl.wB, Dl.wTru, Dl.wOp, Dl.wUn, Dl.wVar, Dl.wC, Dl.wF, Dl.wCons, Dl.wNil, Dl.wTup, Dl.wLst, Dl.wSet, Dl.wAsg, Dl.wNext, Dl.wDrop, Dl.wFz, Dl.wfLst, Dl.wfList, Dl.wfCat, Dl.wSetOwn, Dl.wApp, Dl.wFreeze, Dl.wFreezeD, Dl.wIsi, Dl.wChain, Dl.wIfE, Dl.wSeq, Dl.wRng1, Dl.wRng2, Dl.wLc, Dl.wLcOwn, Dl.wFor, Dl.wPar, Dl.wDPut, Dl.wGet2, Dl.wLend, Dl.wLendT, Dl.wFld, Dl.wProp, Dl.wMeth, Dl.wMethK, Dl.wMakeM, Dl.wMakeMn, Dl.fMakeM, Dl.wStar, Dl.wSl, Dl.wNoP, Dl.wPart, Dl.wItOwn, Dl.wEnT, Dl.wEnL, Dl.wRaise1, Dl.wRaise2, Dl.wFldOwn, Dl.wMaxD, Dl.wDct0, Dl.wYes, Dl.fOwn, Dl.fOwnX, Dl.fOwnNe, Dl.fOwnNeX, Dl.fOwnIn, Dl.fOwnNotIn, Dl.fOwnLen, Dl.fOwnBool, Dl.gt, Dl.isB_bl, Dl.tru_bl, Dl.optI_some, Dl.slV_val, Dl.ownL_own, Dl.ownDI_own, Dl.lendI_own, Dl.lendI_ownD, Dl.seqI_tup, Dl.seqI_lst, Dl.tupI_tup, Dl.lstI_lst, Dl.intI_int, Dl.dctI_dct, Dl.keyI_int, Dl.insI_ins, Dl.ownIi_own, Dl.excI_exc, Dl.fOne_one, Dl.fI0_int, Dl.fI2_int, Dl.fLen_tup, Dl.fLen_lst, Dl.fTuple_tup, Dl.fTuple_lst, Dl.fInt_int, Dl.fInt_bl, Dl.fAdd_int, Dl.fAdd_tup, Dl.fAdd_lst, Dl.fNeg_int, Dl.fSl_tup, Dl.fSl_lst, Dl.gwTup_tup, Dl.gwUnl_lst, Dl.gwCons_cons, Dl.gwNil_nil, Dl.gwName_eq, Dl.lcD_nil, Dl.wipeS, List.set, if_true, if_false, Bool.false_eq_true, Bool.not_true, Bool.not_false, ite_true, ite_false])
    refine ⟨by rw [List.length_map] at hl ⊢; omega, ?_⟩
    refine lc_on D.int (fun a => sumD [a]) (fun a ha m kd qk => ?_) ?_
    · (try simp only [Dl.wRet, Dl.wRetN, Dl.wThen, Dl.wIf, Dl.wOr, Dl.wAnd, Dl.wNot, Dl.wNotV, Dl.wAndV, Dl.wOrV, Dl.wB, Dl.wTru, Dl.wOp, Dl.wUn, Dl.wVar, Dl.wC, Dl.wF, Dl.wCons, Dl.wNil, Dl.wTup, Dl.wLst, Dl.wSet, Dl.wAsg, Dl.wNext, Dl.wDrop, Dl.wFz, Dl.wfLst, Dl.wfList, Dl.wfCat, Dl.wSetOwn, Dl.wApp, Dl.wFreeze, Dl.wFreezeD, Dl.wIsi, Dl.wChain, Dl.wIfE, Dl.wSeq, Dl.wRng1, Dl.wRng2, Dl.wLc, Dl.wLcOwn, Dl.wFor, Dl.wPar, Dl.wDPut, Dl.wGet2, Dl.wLend, Dl.wLendT, Dl.wFld, Dl.wProp, Dl.wMeth, Dl.wMethK, Dl.wMakeM, Dl.wMakeMn, Dl.fMakeM, Dl.wStar, Dl.wSl, Dl.wNoP, Dl.wPart, Dl.wItOwn, Dl.wEnT, Dl.wEnL, Dl.wRaise1, Dl.wRaise2, Dl.wFldOwn, Dl.wMaxD, Dl.wDct0, Dl.wYes, Dl.fOwn, Dl.fOwnX, Dl.fOwnNe, Dl.fOwnNeX, Dl.fOwnIn, Dl.fOwnNotIn, Dl.fOwnLen, Dl.fOwnBool, Dl.gt, Dl.isB_bl, Dl.tru_bl, Dl.optI_some, Dl.slV_val, Dl.ownL_own, Dl.ownDI_own, Dl.lendI_own, Dl.lendI_ownD, Dl.seqI_tup, Dl.seqI_lst, Dl.tupI_tup, Dl.lstI_lst, Dl.intI_int, Dl.dctI_dct, Dl.keyI_int, Dl.insI_ins, Dl.ownIi_own, Dl.excI_exc, Dl.fOne_one, Dl.fI0_int, Dl.fI2_int, Dl.fLen_tup, Dl.fLen_lst, Dl.fTuple_tup, Dl.fTuple_lst, Dl.fInt_int, Dl.fInt_bl, Dl.fAdd_int, Dl.fAdd_tup, Dl.fAdd_lst, Dl.fNeg_int, Dl.fSl_tup, Dl.fSl_lst, Dl.gwTup_tup, Dl.gwUnl_lst, Dl.gwCons_cons, Dl.gwNil_nil, Dl.gwName_eq, Dl.lcD_nil, Dl.wipeS, List.set, if_true, if_false, Bool.false_eq_true, Bool.not_true, Bool.not_false, ite_true, ite_false])
      exact ⟨by show 1 ≤ 1000; decide, qk⟩
    · rw [List.nil_append]
      rw [List.length_map] at hl
      have el : (copySs ages).length = ages.length + 1 := by unfold copySs; rw [List.length_cons, List.length_map]
      have em : (D.tup [D.int 0] :: ((ages.map fun a => sumD [a]) ++ [])) = (copySs ages).map sumD := by
        unfold copySs
        rw [List.append_nil, List.map_cons, List.map_map]
        rfl
      simp only [wMakeV]
      (try simp only [Dl.wRet, Dl.wRetN, Dl.wThen, Dl.wIf, Dl.wOr, Dl.wAnd, Dl.wNot, Dl.wNotV, Dl.wAndV, Dl.wOrV, Dl.wB, Dl.wTru, Dl.wOp, Dl.wUn, Dl.wVar, Dl.wC, Dl.wF, Dl.wCons, Dl.wNil, Dl.wTup, Dl.wLst, Dl.wSet, Dl.wAsg, Dl.wNext, Dl.wDrop, Dl.wFz, Dl.wfLst, Dl.wfList, Dl.wfCat, Dl.wSetOwn, Dl.wApp, Dl.wFreeze, Dl.wFreezeD, Dl.wIsi, Dl.wChain, Dl.wIfE, Dl.wSeq, Dl.wRng1, Dl.wRng2, Dl.wLc, Dl.wLcOwn, Dl.wFor, Dl.wPar, Dl.wDPut, Dl.wGet2, Dl.wLend, Dl.wLendT, Dl.wFld, Dl.wProp, Dl.wMeth, Dl.wMethK, Dl.wMakeM, Dl.wMakeMn, Dl.fMakeM, Dl.wStar, Dl.wSl, Dl.wNoP, Dl.wPart, Dl.wItOwn, Dl.wEnT, Dl.wEnL, Dl.wRaise1, Dl.wRaise2, Dl.wFldOwn, Dl.wMaxD, Dl.wDct0, Dl.wYes, Dl.fOwn, Dl.fOwnX, Dl.fOwnNe, Dl.fOwnNeX, Dl.fOwnIn, Dl.fOwnNotIn, Dl.fOwnLen, Dl.fOwnBool, Dl.gt, Dl.isB_bl, Dl.tru_bl, Dl.optI_some, Dl.slV_val, Dl.ownL_own, Dl.ownDI_own, Dl.lendI_own, Dl.lendI_ownD, Dl.seqI_tup, Dl.seqI_lst, Dl.tupI_tup, Dl.lstI_lst, Dl.intI_int, Dl.dctI_dct, Dl.keyI_int, Dl.insI_ins, Dl.ownIi_own, Dl.excI_exc, Dl.fOne_one, Dl.fI0_int, Dl.fI2_int, Dl.fLen_tup, Dl.fLen_lst, Dl.fTuple_tup, Dl.fTuple_lst, Dl.fInt_int, Dl.fInt_bl, Dl.fAdd_int, Dl.fAdd_tup, Dl.fAdd_lst, Dl.fNeg_int, Dl.fSl_tup, Dl.fSl_lst, Dl.gwTup_tup, Dl.gwUnl_lst, Dl.gwCons_cons, Dl.gwNil_nil, Dl.gwName_eq, Dl.lcD_nil, Dl.wipeS, List.set, if_true, if_false, Bool.false_eq_true, Bool.not_true, Bool.not_false, ite_true, ite_false])
      rw [em]
      refine ⟨by show 1 ≤ 1000; decide, by rw [List.length_map]; omega, ?_⟩
      by_cases c : 6 < ages.length + 1
      · rw [if_pos c] at q
        exact init_many (copy_sm h1) (copy_nd h1 h2) (by omega) (by omega) q
      · rw [if_neg c] at q
        have ok := copy_ok h1 h2 (by omega)
        refine init_ok ok ?_
        (try simp only [Dl.wRet, Dl.wRetN, Dl.wThen, Dl.wIf, Dl.wOr, Dl.wAnd, Dl.wNot, Dl.wNotV, Dl.wAndV, Dl.wOrV, Dl.wB, Dl.wTru, Dl.wOp, Dl.wUn, Dl.wVar, Dl.wC, Dl.wF, Dl.wCons, Dl.wNil, Dl.wTup, Dl.wLst, Dl.wSet, Dl.wAsg, Dl.wNext, Dl.wDrop, Dl.wFz, Dl.wfLst, Dl.wfList, Dl.wfCat, Dl.wSetOwn, Dl.wApp, Dl.wFreeze, Dl.wFreezeD, Dl.wIsi, Dl.wChain, Dl.wIfE, Dl.wSeq, Dl.wRng1, Dl.wRng2, Dl.wLc, Dl.wLcOwn, Dl.wFor, Dl.wPar, Dl.wDPut, Dl.wGet2, Dl.wLend, Dl.wLendT, Dl.wFld, Dl.wProp, Dl.wMeth, Dl.wMethK, Dl.wMakeM, Dl.wMakeMn, Dl.fMakeM, Dl.wStar, Dl.wSl, Dl.wNoP, Dl.wPart, Dl.wItOwn, Dl.wEnT, Dl.wEnL, Dl.wRaise1, Dl.wRaise2, Dl.wFldOwn, Dl.wMaxD, Dl.wDct0, Dl.wYes, Dl.fOwn, Dl.fOwnX, Dl.fOwnNe, Dl.fOwnNeX, Dl.fOwnIn, Dl.fOwnNotIn, Dl.fOwnLen, Dl.fOwnBool, Dl.gt, Dl.isB_bl, Dl.tru_bl, Dl.optI_some, Dl.slV_val, Dl.ownL_own, Dl.ownDI_own, Dl.lendI_own, Dl.lendI_ownD, Dl.seqI_tup, Dl.seqI_lst, Dl.tupI_tup, Dl.lstI_lst, Dl.intI_int, Dl.dctI_dct, Dl.keyI_int, Dl.insI_ins, Dl.ownIi_own, Dl.excI_exc, Dl.fOne_one, Dl.fI0_int, Dl.fI2_int, Dl.fLen_tup, Dl.fLen_lst, Dl.fTuple_tup, Dl.fTuple_lst, Dl.fInt_int, Dl.fInt_bl, Dl.fAdd_int, Dl.fAdd_tup, Dl.fAdd_lst, Dl.fNeg_int, Dl.fSl_tup, Dl.fSl_lst, Dl.gwTup_tup, Dl.gwUnl_lst, Dl.gwCons_cons, Dl.gwNil_nil, Dl.gwName_eq, Dl.lcD_nil, Dl.wipeS, List.set, if_true, if_false, Bool.false_eq_true, Bool.not_true, Bool.not_false, ite_true, ite_false])
        refine ⟨by show 1 ≤ 1000; decide, ?_⟩
        exact plan_init (ps := [(copySs ages, false)]) ⟨fun p hp => by rw [List.mem_singleton.mp hp]; exact tk_of ok, by simp, by simp⟩ q
/-! ### parity -/
theorem ask_rng (m : Nat) : rngD 1 m = ((List.range' 1 m).map fun i : Nat => (i : Int)).map D.int := by
  rw [rng1, List.map_map]
  rfl
def parS (m : Nat) : List Int := (List.range' 1 m).map fun i : Nat => (i : Int)
theorem parS_ok {m : Nat} (h1 : 1 ≤ m) (h5 : m ≤ 5) : Ok [parS m] true ∧ Ok [[0]] false := by
  refine ⟨⟨fun s hs => ?_, by simp, by simp, fun _ s hs => ?_⟩, ⟨fun s hs => by rw [List.mem_singleton.mp hs]; exact one_okS (by omega), by simp, by simp, fun h => by cases h⟩⟩
  · rw [List.mem_singleton.mp hs]
    have : m = 1 ∨ m = 2 ∨ m = 3 ∨ m = 4 ∨ m = 5 := by omega
    rcases this with rfl | rfl | rfl | rfl | rfl <;> exact ⟨by decide, by decide, rfl⟩
  · rw [List.mem_singleton.mp hs]
    have : m = 1 ∨ m = 2 ∨ m = 3 ∨ m = 4 ∨ m = 5 := by omega
    rcases this with rfl | rfl | rfl | rfl | rfl <;> decide
theorem par_ok {m : Nat} (h1 : 1 ≤ m) (h5 : m ≤ 5) : PlanOk (parTs m) := by
  obtain ⟨o1, o0⟩ := parS_ok h1 h5
  refine ⟨fun p hp => ?_, by simp [parTs], by unfold parTs; rw [List.length_append, List.length_replicate]; show m + 1 ≤ 6; omega⟩
  rcases List.mem_append.mp hp with hp | hp
  · rw [List.eq_of_mem_replicate hp]
    exact tk_of o0
  · rw [List.mem_singleton.mp hp]
    exact tk_of o1
theorem lc_rep {i : Nat} {te : WE} {S : List Sl} {f : D} {l acc : List D} {n : Nat} {k : List D → Nat → Prop} (h : ∀ d ∈ l, ∀ (m : Nat) (kd : KD), kd f m → te (S.set i (.val d)) m kd (fun _ _ => False)) (q : k (acc ++ List.replicate l.length f) n) : lcD (gwName i) wYes te S l acc n k := by
  refine lc_map (fun _ => f) h ?_
  rw [List.map_const']
  exact q
theorem dt_parity (h : c_parity K ds n k x) : W_parity K (startD ["size", "single", "closing", "_"] ds) n { nx := fun _ n' => k .non n', rt := k } x := by
  obtain ⟨d, rfl, hp, h⟩ := h
  show W_parity K [.val d, .un, .un, .un] n _ x
  unfold W_parity
  (try simp only [Dl.wRet, Dl.wRetN, Dl.wThen, Dl.wIf, Dl.wOr, Dl.wAnd, Dl.wNot, Dl.wNotV, Dl.wAndV, Dl.wOrV, Dl.wB, Dl.wTru, Dl.wOp, Dl.wUn, Dl.wVar, Dl.wC, Dl.wF, Dl.wCons, Dl.wNil, Dl.wTup, Dl.wLst, Dl.wSet, Dl.wAsg, Dl.wNext, Dl.wDrop, Dl.wFz, Dl.wfLst, Dl.wfList, Dl.wfCat, Dl.wSetOwn, Dl.wApp, Dl.wFreeze, Dl.wFreezeD, Dl.wIsi, Dl.wChain, Dl.wIfE, Dl.wSeq, Dl.wRng1, Dl.wRng2, Dl.wLc, Dl.wLcOwn, Dl.wFor, Dl.wPar, Dl.wDPut, Dl.wGet2, Dl.wLend, Dl.wLendT, Dl.wFld, Dl.wProp, Dl.wMeth, Dl.wMethK, Dl.wMakeM, Dl.wMakeMn, Dl.fMakeM, Dl.wStar, Dl.wSl, Dl.wNoP, Dl.wPart, Dl.wItOwn, Dl.wEnT, Dl.wEnL, Dl.wRaise1, Dl.wRaise2, Dl.wFldOwn, Dl.wMaxD, Dl.wDct0, Dl.wYes, Dl.fOwn, Dl.fOwnX, Dl.fOwnNe, Dl.fOwnNeX, Dl.fOwnIn, Dl.fOwnNotIn, Dl.fOwnLen, Dl.fOwnBool, Dl.gt, Dl.isB_bl, Dl.tru_bl, Dl.optI_some, Dl.slV_val, Dl.ownL_own, Dl.ownDI_own, Dl.lendI_own, Dl.lendI_ownD, Dl.seqI_tup, Dl.seqI_lst, Dl.tupI_tup, Dl.lstI_lst, Dl.intI_int, Dl.dctI_dct, Dl.keyI_int, Dl.insI_ins, Dl.ownIi_own, Dl.excI_exc, Dl.fOne_one, Dl.fI0_int, Dl.fI2_int, Dl.fLen_tup, Dl.fLen_lst, Dl.fTuple_tup, Dl.fTuple_lst, Dl.fInt_int, Dl.fInt_bl, Dl.fAdd_int, Dl.fAdd_tup, Dl.fAdd_lst, Dl.fNeg_int, Dl.fSl_tup, Dl.fSl_lst, Dl.gwTup_tup, Dl.gwUnl_lst, Dl.gwCons_cons, Dl.gwNil_nil, Dl.gwName_eq, Dl.lcD_nil, Dl.wipeS, List.set, if_true, if_false, Bool.false_eq_true, Bool.not_true, Bool.not_false, ite_true, ite_false])
  refine ⟨hp, ?_⟩
  rcases h with ⟨m, rfl, m1, m5, q⟩ | ⟨hw, q⟩
  · obtain ⟨o1, o0⟩ := parS_ok m1 m5
    rw [show wi 1 (6 - 1) (.int ((m : Nat) : Int)) = true from wi_in (by omega) (by omega)]
    (try simp only [Dl.wRet, Dl.wRetN, Dl.wThen, Dl.wIf, Dl.wOr, Dl.wAnd, Dl.wNot, Dl.wNotV, Dl.wAndV, Dl.wOrV, Dl.wB, Dl.wTru, Dl.wOp, Dl.wUn, Dl.wVar, Dl.wC, Dl.wF, Dl.wCons, Dl.wNil, Dl.wTup, Dl.wLst, Dl.wSet, Dl.wAsg, Dl.wNext, Dl.wDrop, Dl.wFz, Dl.wfLst, Dl.wfList, Dl.wfCat, Dl.wSetOwn, Dl.wApp, Dl.wFreeze, Dl.wFreezeD, Dl.wIsi, Dl.wChain, Dl.wIfE, Dl.wSeq, Dl.wRng1, Dl.wRng2, Dl.wLc, Dl.wLcOwn, Dl.wFor, Dl.wPar, Dl.wDPut, Dl.wGet2, Dl.wLend, Dl.wLendT, Dl.wFld, Dl.wProp, Dl.wMeth, Dl.wMethK, Dl.wMakeM, Dl.wMakeMn, Dl.fMakeM, Dl.wStar, Dl.wSl, Dl.wNoP, Dl.wPart, Dl.wItOwn, Dl.wEnT, Dl.wEnL, Dl.wRaise1, Dl.wRaise2, Dl.wFldOwn, Dl.wMaxD, Dl.wDct0, Dl.wYes, Dl.fOwn, Dl.fOwnX, Dl.fOwnNe, Dl.fOwnNeX, Dl.fOwnIn, Dl.fOwnNotIn, Dl.fOwnLen, Dl.fOwnBool, Dl.gt, Dl.isB_bl, Dl.tru_bl, Dl.optI_some, Dl.slV_val, Dl.ownL_own, Dl.ownDI_own, Dl.lendI_own, Dl.lendI_ownD, Dl.seqI_tup, Dl.seqI_lst, Dl.tupI_tup, Dl.lstI_lst, Dl.intI_int, Dl.dctI_dct, Dl.keyI_int, Dl.insI_ins, Dl.ownIi_own, Dl.excI_exc, Dl.fOne_one, Dl.fI0_int, Dl.fI2_int, Dl.fLen_tup, Dl.fLen_lst, Dl.fTuple_tup, Dl.fTuple_lst, Dl.fInt_int, Dl.fInt_bl, Dl.fAdd_int, Dl.fAdd_tup, Dl.fAdd_lst, Dl.fNeg_int, Dl.fSl_tup, Dl.fSl_lst, Dl.gwTup_tup, Dl.gwUnl_lst, Dl.gwCons_cons, Dl.gwNil_nil, Dl.gwName_eq, Dl.lcD_nil, Dl.wipeS, List.set, if_true, if_false, Bool.false_eq_true, Bool.not_true, Bool.not_false, ite_true, ite_false])
    refine ⟨by omega, by rw [rngD_len]; omega, ?_⟩
    refine lc_rep (f := tickD K [[0]] false) (fun d hd mm kd qk => ?_) ?_
    · (try simp only [Dl.wRet, Dl.wRetN, Dl.wThen, Dl.wIf, Dl.wOr, Dl.wAnd, Dl.wNot, Dl.wNotV, Dl.wAndV, Dl.wOrV, Dl.wB, Dl.wTru, Dl.wOp, Dl.wUn, Dl.wVar, Dl.wC, Dl.wF, Dl.wCons, Dl.wNil, Dl.wTup, Dl.wLst, Dl.wSet, Dl.wAsg, Dl.wNext, Dl.wDrop, Dl.wFz, Dl.wfLst, Dl.wfList, Dl.wfCat, Dl.wSetOwn, Dl.wApp, Dl.wFreeze, Dl.wFreezeD, Dl.wIsi, Dl.wChain, Dl.wIfE, Dl.wSeq, Dl.wRng1, Dl.wRng2, Dl.wLc, Dl.wLcOwn, Dl.wFor, Dl.wPar, Dl.wDPut, Dl.wGet2, Dl.wLend, Dl.wLendT, Dl.wFld, Dl.wProp, Dl.wMeth, Dl.wMethK, Dl.wMakeM, Dl.wMakeMn, Dl.fMakeM, Dl.wStar, Dl.wSl, Dl.wNoP, Dl.wPart, Dl.wItOwn, Dl.wEnT, Dl.wEnL, Dl.wRaise1, Dl.wRaise2, Dl.wFldOwn, Dl.wMaxD, Dl.wDct0, Dl.wYes, Dl.fOwn, Dl.fOwnX, Dl.fOwnNe, Dl.fOwnNeX, Dl.fOwnIn, Dl.fOwnNotIn, Dl.fOwnLen, Dl.fOwnBool, Dl.gt, Dl.isB_bl, Dl.tru_bl, Dl.optI_some, Dl.slV_val, Dl.ownL_own, Dl.ownDI_own, Dl.lendI_own, Dl.lendI_ownD, Dl.seqI_tup, Dl.seqI_lst, Dl.tupI_tup, Dl.lstI_lst, Dl.intI_int, Dl.dctI_dct, Dl.keyI_int, Dl.insI_ins, Dl.ownIi_own, Dl.excI_exc, Dl.fOne_one, Dl.fI0_int, Dl.fI2_int, Dl.fLen_tup, Dl.fLen_lst, Dl.fTuple_tup, Dl.fTuple_lst, Dl.fInt_int, Dl.fInt_bl, Dl.fAdd_int, Dl.fAdd_tup, Dl.fAdd_lst, Dl.fNeg_int, Dl.fSl_tup, Dl.fSl_lst, Dl.gwTup_tup, Dl.gwUnl_lst, Dl.gwCons_cons, Dl.gwNil_nil, Dl.gwName_eq, Dl.lcD_nil, Dl.wipeS, List.set, if_true, if_false, Bool.false_eq_true, Bool.not_true, Bool.not_false, ite_true, ite_false])
      refine ⟨by show 1 ≤ 1000; decide, by show 1 ≤ 1000; decide, ?_⟩
      exact init_ok (ss := [[0]]) o0 qk
    · rw [List.nil_append, rngD_len]
      simp only [wTupRg]
      (try simp only [Dl.wRet, Dl.wRetN, Dl.wThen, Dl.wIf, Dl.wOr, Dl.wAnd, Dl.wNot, Dl.wNotV, Dl.wAndV, Dl.wOrV, Dl.wB, Dl.wTru, Dl.wOp, Dl.wUn, Dl.wVar, Dl.wC, Dl.wF, Dl.wCons, Dl.wNil, Dl.wTup, Dl.wLst, Dl.wSet, Dl.wAsg, Dl.wNext, Dl.wDrop, Dl.wFz, Dl.wfLst, Dl.wfList, Dl.wfCat, Dl.wSetOwn, Dl.wApp, Dl.wFreeze, Dl.wFreezeD, Dl.wIsi, Dl.wChain, Dl.wIfE, Dl.wSeq, Dl.wRng1, Dl.wRng2, Dl.wLc, Dl.wLcOwn, Dl.wFor, Dl.wPar, Dl.wDPut, Dl.wGet2, Dl.wLend, Dl.wLendT, Dl.wFld, Dl.wProp, Dl.wMeth, Dl.wMethK, Dl.wMakeM, Dl.wMakeMn, Dl.fMakeM, Dl.wStar, Dl.wSl, Dl.wNoP, Dl.wPart, Dl.wItOwn, Dl.wEnT, Dl.wEnL, Dl.wRaise1, Dl.wRaise2, Dl.wFldOwn, Dl.wMaxD, Dl.wDct0, Dl.wYes, Dl.fOwn, Dl.fOwnX, Dl.fOwnNe, Dl.fOwnNeX, Dl.fOwnIn, Dl.fOwnNotIn, Dl.fOwnLen, Dl.fOwnBool, Dl.gt, Dl.isB_bl, Dl.tru_bl, Dl.optI_some, Dl.slV_val, Dl.ownL_own, Dl.ownDI_own, Dl.lendI_own, Dl.lendI_ownD, Dl.seqI_tup, Dl.seqI_lst, Dl.tupI_tup, Dl.lstI_lst, Dl.intI_int, Dl.dctI_dct, Dl.keyI_int, Dl.insI_ins, Dl.ownIi_own, Dl.excI_exc, Dl.fOne_one, Dl.fI0_int, Dl.fI2_int, Dl.fLen_tup, Dl.fLen_lst, Dl.fTuple_tup, Dl.fTuple_lst, Dl.fInt_int, Dl.fInt_bl, Dl.fAdd_int, Dl.fAdd_tup, Dl.fAdd_lst, Dl.fNeg_int, Dl.fSl_tup, Dl.fSl_lst, Dl.gwTup_tup, Dl.gwUnl_lst, Dl.gwCons_cons, Dl.gwNil_nil, Dl.gwName_eq, Dl.lcD_nil, Dl.wipeS, List.set, if_true, if_false, Bool.false_eq_true, Bool.not_true, Bool.not_false, ite_true, ite_false])
      rw [show ((m : Int) + 1 - 1).toNat = m by omega, ask_rng, Int.toNat_natCast]
      refine ⟨⟨by omega, by omega, by omega, by omega⟩, by show 1 ≤ 1000; decide, ?_⟩
      refine init_ok (ss := [parS m]) o1 ?_
      simp only [wMakeV]
      (try simp only [Dl.wRet, Dl.wRetN, Dl.wThen, Dl.wIf, Dl.wOr, Dl.wAnd, Dl.wNot, Dl.wNotV, Dl.wAndV, Dl.wOrV, Dl.wB, Dl.wTru, Dl.wOp, Dl.wUn, Dl.wVar, Dl.wC, Dl.wF, Dl.wCons, Dl.wNil, Dl.wTup, Dl.wLst, Dl.wSet, Dl.wAsg, Dl.wNext, Dl.wDrop, Dl.wFz, Dl.wfLst, Dl.wfList, Dl.wfCat, Dl.wSetOwn, Dl.wApp, Dl.wFreeze, Dl.wFreezeD, Dl.wIsi, Dl.wChain, Dl.wIfE, Dl.wSeq, Dl.wRng1, Dl.wRng2, Dl.wLc, Dl.wLcOwn, Dl.wFor, Dl.wPar, Dl.wDPut, Dl.wGet2, Dl.wLend, Dl.wLendT, Dl.wFld, Dl.wProp, Dl.wMeth, Dl.wMethK, Dl.wMakeM, Dl.wMakeMn, Dl.fMakeM, Dl.wStar, Dl.wSl, Dl.wNoP, Dl.wPart, Dl.wItOwn, Dl.wEnT, Dl.wEnL, Dl.wRaise1, Dl.wRaise2, Dl.wFldOwn, Dl.wMaxD, Dl.wDct0, Dl.wYes, Dl.fOwn, Dl.fOwnX, Dl.fOwnNe, Dl.fOwnNeX, Dl.fOwnIn, Dl.fOwnNotIn, Dl.fOwnLen, Dl.fOwnBool, Dl.gt, Dl.isB_bl, Dl.tru_bl, Dl.optI_some, Dl.slV_val, Dl.ownL_own, Dl.ownDI_own, Dl.lendI_own, Dl.lendI_ownD, Dl.seqI_tup, Dl.seqI_lst, Dl.tupI_tup, Dl.lstI_lst, Dl.intI_int, Dl.dctI_dct, Dl.keyI_int, Dl.insI_ins, Dl.ownIi_own, Dl.excI_exc, Dl.fOne_one, Dl.fI0_int, Dl.fI2_int, Dl.fLen_tup, Dl.fLen_lst, Dl.fTuple_tup, Dl.fTuple_lst, Dl.fInt_int, Dl.fInt_bl, Dl.fAdd_int, Dl.fAdd_tup, Dl.fAdd_lst, Dl.fNeg_int, Dl.fSl_tup, Dl.fSl_lst, Dl.gwTup_tup, Dl.gwUnl_lst, Dl.gwCons_cons, Dl.gwNil_nil, Dl.gwName_eq, Dl.lcD_nil, Dl.wipeS, List.set, if_true, if_false, Bool.false_eq_true, Bool.not_true, Bool.not_false, ite_true, ite_false])
      have em : List.replicate m (tickD K [[0]] false) ++ [D.ins (ga K "Tick") (tickF [parS m] true)] = (parTs m).map (tickP' K) := by
        unfold parTs
        rw [List.map_append, List.map_replicate]
        rfl
      rw [em]
      exact ⟨by rw [List.length_map]; have := (par_ok m1 m5).ln; omega, plan_init (par_ok m1 m5) q⟩
  · rw [show wi 1 (6 - 1) d = false from hw]
    (try simp only [Dl.wRet, Dl.wRetN, Dl.wThen, Dl.wIf, Dl.wOr, Dl.wAnd, Dl.wNot, Dl.wNotV, Dl.wAndV, Dl.wOrV, Dl.wB, Dl.wTru, Dl.wOp, Dl.wUn, Dl.wVar, Dl.wC, Dl.wF, Dl.wCons, Dl.wNil, Dl.wTup, Dl.wLst, Dl.wSet, Dl.wAsg, Dl.wNext, Dl.wDrop, Dl.wFz, Dl.wfLst, Dl.wfList, Dl.wfCat, Dl.wSetOwn, Dl.wApp, Dl.wFreeze, Dl.wFreezeD, Dl.wIsi, Dl.wChain, Dl.wIfE, Dl.wSeq, Dl.wRng1, Dl.wRng2, Dl.wLc, Dl.wLcOwn, Dl.wFor, Dl.wPar, Dl.wDPut, Dl.wGet2, Dl.wLend, Dl.wLendT, Dl.wFld, Dl.wProp, Dl.wMeth, Dl.wMethK, Dl.wMakeM, Dl.wMakeMn, Dl.fMakeM, Dl.wStar, Dl.wSl, Dl.wNoP, Dl.wPart, Dl.wItOwn, Dl.wEnT, Dl.wEnL, Dl.wRaise1, Dl.wRaise2, Dl.wFldOwn, Dl.wMaxD, Dl.wDct0, Dl.wYes, Dl.fOwn, Dl.fOwnX, Dl.fOwnNe, Dl.fOwnNeX, Dl.fOwnIn, Dl.fOwnNotIn, Dl.fOwnLen, Dl.fOwnBool, Dl.gt, Dl.isB_bl, Dl.tru_bl, Dl.optI_some, Dl.slV_val, Dl.ownL_own, Dl.ownDI_own, Dl.lendI_own, Dl.lendI_ownD, Dl.seqI_tup, Dl.seqI_lst, Dl.tupI_tup, Dl.lstI_lst, Dl.intI_int, Dl.dctI_dct, Dl.keyI_int, Dl.insI_ins, Dl.ownIi_own, Dl.excI_exc, Dl.fOne_one, Dl.fI0_int, Dl.fI2_int, Dl.fLen_tup, Dl.fLen_lst, Dl.fTuple_tup, Dl.fTuple_lst, Dl.fInt_int, Dl.fInt_bl, Dl.fAdd_int, Dl.fAdd_tup, Dl.fAdd_lst, Dl.fNeg_int, Dl.fSl_tup, Dl.fSl_lst, Dl.gwTup_tup, Dl.gwUnl_lst, Dl.gwCons_cons, Dl.gwNil_nil, Dl.gwName_eq, Dl.lcD_nil, Dl.wipeS, List.set, if_true, if_false, Bool.false_eq_true, Bool.not_true, Bool.not_false, ite_true, ite_false])
    exact q
/-! ### _law_copies -/
def W_cp_tail (K : PySem.W.Frag) : WS :=
  (wThen (wIf (wB (wOp (fI0 fun i j => .bl (decide (j < i))) (wF (fOne fLen) (wCons (wVar 0) wNil)) (wC (.int 3))))
      (wThen (wIf (wB (wOp fEq (wF (fOne fLen) (wCons (wVar 0) wNil)) (wC (.int 4))))
      (wRet (wFV (c_copies K) (wCons (wVar 1) (wCons (wVar 2) (wCons (wVar 3) (wCons (wVar 4) wNil))))))
      wNext)
    (wThen (wIf (wB (wOp fEq (wF (fOne fLen) (wCons (wVar 0) wNil)) (wC (.int 5))))
      (wRet (wFV (c_copies K) (wCons (wVar 1) (wCons (wVar 2) (wCons (wVar 3) (wCons (wVar 4) (wCons (wVar 5) wNil)))))))
      wNext)
    (wRet (wIfE (wB (wOp fEq (wF (fOne fLen) (wCons (wVar 0) wNil)) (wC (.int 6)))) (wFV (c_copies K) (wCons (wVar 1) (wCons (wVar 2) (wCons (wVar 3) (wCons (wVar 4) (wCons (wVar 5) (wCons (wVar 6) wNil))))))) (wFV (c_copies K) (wCons (wVar 1) (wCons (wVar 2) (wCons (wVar 3) (wCons (wVar 4) (wCons (wVar 5) (wCons (wVar 6) (wCons (wVar 7) wNil))))))))))))
      wNext)
    (wThen (wIf (wB (wOp fEq (wF (fOne fLen) (wCons (wVar 0) wNil)) (wC (.int 3))))
      (wRet (wFV (c_copies K) (wCons (wVar 1) (wCons (wVar 2) (wCons (wVar 3) wNil)))))
      wNext)
    (wThen (wIf (wB (wOp fEq (wF (fOne fLen) (wCons (wVar 0) wNil)) (wC (.int 0))))
      (wRet (wFV (c_copies K) wNil))
      wNext)
    (wRet (wIfE (wB (wOp fEq (wF (fOne fLen) (wCons (wVar 0) wNil)) (wC (.int 1)))) (wFV (c_copies K) (wCons (wVar 1) wNil)) (wFV (c_copies K) (wCons (wVar 1) (wCons (wVar 2) wNil))))))))
theorem cp_tail {ls : List D} {A B C D' E F G : D} (hl : ls.length ≤ 7) (hq : ∀ l : List D, l = [A, B, C, D', E, F, G].take ls.length → l.length ≤ 1000 ∧ c_copies K [.tup l] n k x) :
    W_cp_tail K [.val (.lst ls), .val A, .val B, .val C, .val D', .val E, .val F, .val G] n { nx := fun _ n' => k .non n', rt := k } x := by
  unfold W_cp_tail
  (try simp only [Dl.wRet, Dl.wRetN, Dl.wThen, Dl.wIf, Dl.wOr, Dl.wAnd, Dl.wNot, Dl.wNotV, Dl.wAndV, Dl.wOrV, Dl.wB, Dl.wTru, Dl.wOp, Dl.wUn, Dl.wVar, Dl.wC, Dl.wF, Dl.wCons, Dl.wNil, Dl.wTup, Dl.wLst, Dl.wSet, Dl.wAsg, Dl.wNext, Dl.wDrop, Dl.wFz, Dl.wfLst, Dl.wfList, Dl.wfCat, Dl.wSetOwn, Dl.wApp, Dl.wFreeze, Dl.wFreezeD, Dl.wIsi, Dl.wChain, Dl.wIfE, Dl.wSeq, Dl.wRng1, Dl.wRng2, Dl.wLc, Dl.wLcOwn, Dl.wFor, Dl.wPar, Dl.wDPut, Dl.wGet2, Dl.wLend, Dl.wLendT, Dl.wFld, Dl.wProp, Dl.wMeth, Dl.wMethK, Dl.wMakeM, Dl.wMakeMn, Dl.fMakeM, Dl.wStar, Dl.wSl, Dl.wNoP, Dl.wPart, Dl.wItOwn, Dl.wEnT, Dl.wEnL, Dl.wRaise1, Dl.wRaise2, Dl.wFldOwn, Dl.wMaxD, Dl.wDct0, Dl.wYes, Dl.fOwn, Dl.fOwnX, Dl.fOwnNe, Dl.fOwnNeX, Dl.fOwnIn, Dl.fOwnNotIn, Dl.fOwnLen, Dl.fOwnBool, Dl.gt, Dl.isB_bl, Dl.tru_bl, Dl.optI_some, Dl.slV_val, Dl.ownL_own, Dl.ownDI_own, Dl.lendI_own, Dl.lendI_ownD, Dl.seqI_tup, Dl.seqI_lst, Dl.tupI_tup, Dl.lstI_lst, Dl.intI_int, Dl.dctI_dct, Dl.keyI_int, Dl.insI_ins, Dl.ownIi_own, Dl.excI_exc, Dl.fOne_one, Dl.fI0_int, Dl.fI2_int, Dl.fLen_tup, Dl.fLen_lst, Dl.fTuple_tup, Dl.fTuple_lst, Dl.fInt_int, Dl.fInt_bl, Dl.fAdd_int, Dl.fAdd_tup, Dl.fAdd_lst, Dl.fNeg_int, Dl.fSl_tup, Dl.fSl_lst, Dl.gwTup_tup, Dl.gwUnl_lst, Dl.gwCons_cons, Dl.gwNil_nil, Dl.gwName_eq, Dl.lcD_nil, Dl.wipeS, List.set, if_true, if_false, Bool.false_eq_true, Bool.not_true, Bool.not_false, ite_true, ite_false])
  refine iteB (fun c => ?_) (fun c => ?_)
  · have c := of_decide_eq_true c
    refine fEq_int ?_
    (try simp only [Dl.wRet, Dl.wRetN, Dl.wThen, Dl.wIf, Dl.wOr, Dl.wAnd, Dl.wNot, Dl.wNotV, Dl.wAndV, Dl.wOrV, Dl.wB, Dl.wTru, Dl.wOp, Dl.wUn, Dl.wVar, Dl.wC, Dl.wF, Dl.wCons, Dl.wNil, Dl.wTup, Dl.wLst, Dl.wSet, Dl.wAsg, Dl.wNext, Dl.wDrop, Dl.wFz, Dl.wfLst, Dl.wfList, Dl.wfCat, Dl.wSetOwn, Dl.wApp, Dl.wFreeze, Dl.wFreezeD, Dl.wIsi, Dl.wChain, Dl.wIfE, Dl.wSeq, Dl.wRng1, Dl.wRng2, Dl.wLc, Dl.wLcOwn, Dl.wFor, Dl.wPar, Dl.wDPut, Dl.wGet2, Dl.wLend, Dl.wLendT, Dl.wFld, Dl.wProp, Dl.wMeth, Dl.wMethK, Dl.wMakeM, Dl.wMakeMn, Dl.fMakeM, Dl.wStar, Dl.wSl, Dl.wNoP, Dl.wPart, Dl.wItOwn, Dl.wEnT, Dl.wEnL, Dl.wRaise1, Dl.wRaise2, Dl.wFldOwn, Dl.wMaxD, Dl.wDct0, Dl.wYes, Dl.fOwn, Dl.fOwnX, Dl.fOwnNe, Dl.fOwnNeX, Dl.fOwnIn, Dl.fOwnNotIn, Dl.fOwnLen, Dl.fOwnBool, Dl.gt, Dl.isB_bl, Dl.tru_bl, Dl.optI_some, Dl.slV_val, Dl.ownL_own, Dl.ownDI_own, Dl.lendI_own, Dl.lendI_ownD, Dl.seqI_tup, Dl.seqI_lst, Dl.tupI_tup, Dl.lstI_lst, Dl.intI_int, Dl.dctI_dct, Dl.keyI_int, Dl.insI_ins, Dl.ownIi_own, Dl.excI_exc, Dl.fOne_one, Dl.fI0_int, Dl.fI2_int, Dl.fLen_tup, Dl.fLen_lst, Dl.fTuple_tup, Dl.fTuple_lst, Dl.fInt_int, Dl.fInt_bl, Dl.fAdd_int, Dl.fAdd_tup, Dl.fAdd_lst, Dl.fNeg_int, Dl.fSl_tup, Dl.fSl_lst, Dl.gwTup_tup, Dl.gwUnl_lst, Dl.gwCons_cons, Dl.gwNil_nil, Dl.gwName_eq, Dl.lcD_nil, Dl.wipeS, List.set, if_true, if_false, Bool.false_eq_true, Bool.not_true, Bool.not_false, ite_true, ite_false])
    refine iteB (fun c2 => ?_) (fun c2 => ?_)
    · have c2 := of_decide_eq_true c2
      exact hq _ (by rw [show ls.length = 4 by omega]; rfl)
    · have c2 := of_decide_eq_false c2
      refine fEq_int ?_
      (try simp only [Dl.wRet, Dl.wRetN, Dl.wThen, Dl.wIf, Dl.wOr, Dl.wAnd, Dl.wNot, Dl.wNotV, Dl.wAndV, Dl.wOrV, Dl.wB, Dl.wTru, Dl.wOp, Dl.wUn, Dl.wVar, Dl.wC, Dl.wF, Dl.wCons, Dl.wNil, Dl.wTup, Dl.wLst, Dl.wSet, Dl.wAsg, Dl.wNext, Dl.wDrop, Dl.wFz, Dl.wfLst, Dl.wfList, Dl.wfCat, Dl.wSetOwn, Dl.wApp, Dl.wFreeze, Dl.wFreezeD, Dl.wIsi, Dl.wChain, Dl.wIfE, Dl.wSeq, Dl.wRng1, Dl.wRng2, Dl.wLc, Dl.wLcOwn, Dl.wFor, Dl.wPar, Dl.wDPut, Dl.wGet2, Dl.wLend, Dl.wLendT, Dl.wFld, Dl.wProp, Dl.wMeth, Dl.wMethK, Dl.wMakeM, Dl.wMakeMn, Dl.fMakeM, Dl.wStar, Dl.wSl, Dl.wNoP, Dl.wPart, Dl.wItOwn, Dl.wEnT, Dl.wEnL, Dl.wRaise1, Dl.wRaise2, Dl.wFldOwn, Dl.wMaxD, Dl.wDct0, Dl.wYes, Dl.fOwn, Dl.fOwnX, Dl.fOwnNe, Dl.fOwnNeX, Dl.fOwnIn, Dl.fOwnNotIn, Dl.fOwnLen, Dl.fOwnBool, Dl.gt, Dl.isB_bl, Dl.tru_bl, Dl.optI_some, Dl.slV_val, Dl.ownL_own, Dl.ownDI_own, Dl.lendI_own, Dl.lendI_ownD, Dl.seqI_tup, Dl.seqI_lst, Dl.tupI_tup, Dl.lstI_lst, Dl.intI_int, Dl.dctI_dct, Dl.keyI_int, Dl.insI_ins, Dl.ownIi_own, Dl.excI_exc, Dl.fOne_one, Dl.fI0_int, Dl.fI2_int, Dl.fLen_tup, Dl.fLen_lst, Dl.fTuple_tup, Dl.fTuple_lst, Dl.fInt_int, Dl.fInt_bl, Dl.fAdd_int, Dl.fAdd_tup, Dl.fAdd_lst, Dl.fNeg_int, Dl.fSl_tup, Dl.fSl_lst, Dl.gwTup_tup, Dl.gwUnl_lst, Dl.gwCons_cons, Dl.gwNil_nil, Dl.gwName_eq, Dl.lcD_nil, Dl.wipeS, List.set, if_true, if_false, Bool.false_eq_true, Bool.not_true, Bool.not_false, ite_true, ite_false])
      refine iteB (fun c3 => ?_) (fun c3 => ?_)
      · have c3 := of_decide_eq_true c3
        exact hq _ (by rw [show ls.length = 5 by omega]; rfl)
      · have c3 := of_decide_eq_false c3
        refine fEq_int ?_
        (try simp only [Dl.wRet, Dl.wRetN, Dl.wThen, Dl.wIf, Dl.wOr, Dl.wAnd, Dl.wNot, Dl.wNotV, Dl.wAndV, Dl.wOrV, Dl.wB, Dl.wTru, Dl.wOp, Dl.wUn, Dl.wVar, Dl.wC, Dl.wF, Dl.wCons, Dl.wNil, Dl.wTup, Dl.wLst, Dl.wSet, Dl.wAsg, Dl.wNext, Dl.wDrop, Dl.wFz, Dl.wfLst, Dl.wfList, Dl.wfCat, Dl.wSetOwn, Dl.wApp, Dl.wFreeze, Dl.wFreezeD, Dl.wIsi, Dl.wChain, Dl.wIfE, Dl.wSeq, Dl.wRng1, Dl.wRng2, Dl.wLc, Dl.wLcOwn, Dl.wFor, Dl.wPar, Dl.wDPut, Dl.wGet2, Dl.wLend, Dl.wLendT, Dl.wFld, Dl.wProp, Dl.wMeth, Dl.wMethK, Dl.wMakeM, Dl.wMakeMn, Dl.fMakeM, Dl.wStar, Dl.wSl, Dl.wNoP, Dl.wPart, Dl.wItOwn, Dl.wEnT, Dl.wEnL, Dl.wRaise1, Dl.wRaise2, Dl.wFldOwn, Dl.wMaxD, Dl.wDct0, Dl.wYes, Dl.fOwn, Dl.fOwnX, Dl.fOwnNe, Dl.fOwnNeX, Dl.fOwnIn, Dl.fOwnNotIn, Dl.fOwnLen, Dl.fOwnBool, Dl.gt, Dl.isB_bl, Dl.tru_bl, Dl.optI_some, Dl.slV_val, Dl.ownL_own, Dl.ownDI_own, Dl.lendI_own, Dl.lendI_ownD, Dl.seqI_tup, Dl.seqI_lst, Dl.tupI_tup, Dl.lstI_lst, Dl.intI_int, Dl.dctI_dct, Dl.keyI_int, Dl.insI_ins, Dl.ownIi_own, Dl.excI_exc, Dl.fOne_one, Dl.fI0_int, Dl.fI2_int, Dl.fLen_tup, Dl.fLen_lst, Dl.fTuple_tup, Dl.fTuple_lst, Dl.fInt_int, Dl.fInt_bl, Dl.fAdd_int, Dl.fAdd_tup, Dl.fAdd_lst, Dl.fNeg_int, Dl.fSl_tup, Dl.fSl_lst, Dl.gwTup_tup, Dl.gwUnl_lst, Dl.gwCons_cons, Dl.gwNil_nil, Dl.gwName_eq, Dl.lcD_nil, Dl.wipeS, List.set, if_true, if_false, Bool.false_eq_true, Bool.not_true, Bool.not_false, ite_true, ite_false])
        refine iteB (fun c4 => ?_) (fun c4 => ?_)
        · have c4 := of_decide_eq_true c4
          exact hq _ (by rw [show ls.length = 6 by omega]; rfl)
        · have c4 := of_decide_eq_false c4
          exact hq _ (by rw [show ls.length = 7 by omega]; rfl)
  · have c := of_decide_eq_false c
    refine fEq_int ?_
    (try simp only [Dl.wRet, Dl.wRetN, Dl.wThen, Dl.wIf, Dl.wOr, Dl.wAnd, Dl.wNot, Dl.wNotV, Dl.wAndV, Dl.wOrV, Dl.wB, Dl.wTru, Dl.wOp, Dl.wUn, Dl.wVar, Dl.wC, Dl.wF, Dl.wCons, Dl.wNil, Dl.wTup, Dl.wLst, Dl.wSet, Dl.wAsg, Dl.wNext, Dl.wDrop, Dl.wFz, Dl.wfLst, Dl.wfList, Dl.wfCat, Dl.wSetOwn, Dl.wApp, Dl.wFreeze, Dl.wFreezeD, Dl.wIsi, Dl.wChain, Dl.wIfE, Dl.wSeq, Dl.wRng1, Dl.wRng2, Dl.wLc, Dl.wLcOwn, Dl.wFor, Dl.wPar, Dl.wDPut, Dl.wGet2, Dl.wLend, Dl.wLendT, Dl.wFld, Dl.wProp, Dl.wMeth, Dl.wMethK, Dl.wMakeM, Dl.wMakeMn, Dl.fMakeM, Dl.wStar, Dl.wSl, Dl.wNoP, Dl.wPart, Dl.wItOwn, Dl.wEnT, Dl.wEnL, Dl.wRaise1, Dl.wRaise2, Dl.wFldOwn, Dl.wMaxD, Dl.wDct0, Dl.wYes, Dl.fOwn, Dl.fOwnX, Dl.fOwnNe, Dl.fOwnNeX, Dl.fOwnIn, Dl.fOwnNotIn, Dl.fOwnLen, Dl.fOwnBool, Dl.gt, Dl.isB_bl, Dl.tru_bl, Dl.optI_some, Dl.slV_val, Dl.ownL_own, Dl.ownDI_own, Dl.lendI_own, Dl.lendI_ownD, Dl.seqI_tup, Dl.seqI_lst, Dl.tupI_tup, Dl.lstI_lst, Dl.intI_int, Dl.dctI_dct, Dl.keyI_int, Dl.insI_ins, Dl.ownIi_own, Dl.excI_exc, Dl.fOne_one, Dl.fI0_int, Dl.fI2_int, Dl.fLen_tup, Dl.fLen_lst, Dl.fTuple_tup, Dl.fTuple_lst, Dl.fInt_int, Dl.fInt_bl, Dl.fAdd_int, Dl.fAdd_tup, Dl.fAdd_lst, Dl.fNeg_int, Dl.fSl_tup, Dl.fSl_lst, Dl.gwTup_tup, Dl.gwUnl_lst, Dl.gwCons_cons, Dl.gwNil_nil, Dl.gwName_eq, Dl.lcD_nil, Dl.wipeS, List.set, if_true, if_false, Bool.false_eq_true, Bool.not_true, Bool.not_false, ite_true, ite_false])
    refine iteB (fun c2 => ?_) (fun c2 => ?_)
    · have c2 := of_decide_eq_true c2
      exact hq _ (by rw [show ls.length = 3 by omega]; rfl)
    · have c2 := of_decide_eq_false c2
      refine fEq_int ?_
      (try simp only [Dl.wRet, Dl.wRetN, Dl.wThen, Dl.wIf, Dl.wOr, Dl.wAnd, Dl.wNot, Dl.wNotV, Dl.wAndV, Dl.wOrV, Dl.wB, Dl.wTru, Dl.wOp, Dl.wUn, Dl.wVar, Dl.wC, Dl.wF, Dl.wCons, Dl.wNil, Dl.wTup, Dl.wLst, Dl.wSet, Dl.wAsg, Dl.wNext, Dl.wDrop, Dl.wFz, Dl.wfLst, Dl.wfList, Dl.wfCat, Dl.wSetOwn, Dl.wApp, Dl.wFreeze, Dl.wFreezeD, Dl.wIsi, Dl.wChain, Dl.wIfE, Dl.wSeq, Dl.wRng1, Dl.wRng2, Dl.wLc, Dl.wLcOwn, Dl.wFor, Dl.wPar, Dl.wDPut, Dl.wGet2, Dl.wLend, Dl.wLendT, Dl.wFld, Dl.wProp, Dl.wMeth, Dl.wMethK, Dl.wMakeM, Dl.wMakeMn, Dl.fMakeM, Dl.wStar, Dl.wSl, Dl.wNoP, Dl.wPart, Dl.wItOwn, Dl.wEnT, Dl.wEnL, Dl.wRaise1, Dl.wRaise2, Dl.wFldOwn, Dl.wMaxD, Dl.wDct0, Dl.wYes, Dl.fOwn, Dl.fOwnX, Dl.fOwnNe, Dl.fOwnNeX, Dl.fOwnIn, Dl.fOwnNotIn, Dl.fOwnLen, Dl.fOwnBool, Dl.gt, Dl.isB_bl, Dl.tru_bl, Dl.optI_some, Dl.slV_val, Dl.ownL_own, Dl.ownDI_own, Dl.lendI_own, Dl.lendI_ownD, Dl.seqI_tup, Dl.seqI_lst, Dl.tupI_tup, Dl.lstI_lst, Dl.intI_int, Dl.dctI_dct, Dl.keyI_int, Dl.insI_ins, Dl.ownIi_own, Dl.excI_exc, Dl.fOne_one, Dl.fI0_int, Dl.fI2_int, Dl.fLen_tup, Dl.fLen_lst, Dl.fTuple_tup, Dl.fTuple_lst, Dl.fInt_int, Dl.fInt_bl, Dl.fAdd_int, Dl.fAdd_tup, Dl.fAdd_lst, Dl.fNeg_int, Dl.fSl_tup, Dl.fSl_lst, Dl.gwTup_tup, Dl.gwUnl_lst, Dl.gwCons_cons, Dl.gwNil_nil, Dl.gwName_eq, Dl.lcD_nil, Dl.wipeS, List.set, if_true, if_false, Bool.false_eq_true, Bool.not_true, Bool.not_false, ite_true, ite_false])
      refine iteB (fun c3 => ?_) (fun c3 => ?_)
      · have c3 := of_decide_eq_true c3
        exact hq _ (by rw [show ls.length = 0 by omega]; rfl)
      · have c3 := of_decide_eq_false c3
        refine fEq_int ?_
        (try simp only [Dl.wRet, Dl.wRetN, Dl.wThen, Dl.wIf, Dl.wOr, Dl.wAnd, Dl.wNot, Dl.wNotV, Dl.wAndV, Dl.wOrV, Dl.wB, Dl.wTru, Dl.wOp, Dl.wUn, Dl.wVar, Dl.wC, Dl.wF, Dl.wCons, Dl.wNil, Dl.wTup, Dl.wLst, Dl.wSet, Dl.wAsg, Dl.wNext, Dl.wDrop, Dl.wFz, Dl.wfLst, Dl.wfList, Dl.wfCat, Dl.wSetOwn, Dl.wApp, Dl.wFreeze, Dl.wFreezeD, Dl.wIsi, Dl.wChain, Dl.wIfE, Dl.wSeq, Dl.wRng1, Dl.wRng2, Dl.wLc, Dl.wLcOwn, Dl.wFor, Dl.wPar, Dl.wDPut, Dl.wGet2, Dl.wLend, Dl.wLendT, Dl.wFld, Dl.wProp, Dl.wMeth, Dl.wMethK, Dl.wMakeM, Dl.wMakeMn, Dl.fMakeM, Dl.wStar, Dl.wSl, Dl.wNoP, Dl.wPart, Dl.wItOwn, Dl.wEnT, Dl.wEnL, Dl.wRaise1, Dl.wRaise2, Dl.wFldOwn, Dl.wMaxD, Dl.wDct0, Dl.wYes, Dl.fOwn, Dl.fOwnX, Dl.fOwnNe, Dl.fOwnNeX, Dl.fOwnIn, Dl.fOwnNotIn, Dl.fOwnLen, Dl.fOwnBool, Dl.gt, Dl.isB_bl, Dl.tru_bl, Dl.optI_some, Dl.slV_val, Dl.ownL_own, Dl.ownDI_own, Dl.lendI_own, Dl.lendI_ownD, Dl.seqI_tup, Dl.seqI_lst, Dl.tupI_tup, Dl.lstI_lst, Dl.intI_int, Dl.dctI_dct, Dl.keyI_int, Dl.insI_ins, Dl.ownIi_own, Dl.excI_exc, Dl.fOne_one, Dl.fI0_int, Dl.fI2_int, Dl.fLen_tup, Dl.fLen_lst, Dl.fTuple_tup, Dl.fTuple_lst, Dl.fInt_int, Dl.fInt_bl, Dl.fAdd_int, Dl.fAdd_tup, Dl.fAdd_lst, Dl.fNeg_int, Dl.fSl_tup, Dl.fSl_lst, Dl.gwTup_tup, Dl.gwUnl_lst, Dl.gwCons_cons, Dl.gwNil_nil, Dl.gwName_eq, Dl.lcD_nil, Dl.wipeS, List.set, if_true, if_false, Bool.false_eq_true, Bool.not_true, Bool.not_false, ite_true, ite_false])
        refine iteB (fun c4 => ?_) (fun c4 => ?_)
        · have c4 := of_decide_eq_true c4
          exact hq _ (by rw [show ls.length = 1 by omega]; rfl)
        · have c4 := of_decide_eq_false c4
          exact hq _ (by rw [show ls.length = 2 by omega]; rfl)
theorem seven {l : List D} (h : l.length ≤ 7) : ∃ A B C D' E F G, (l ++ List.replicate 7 D.non).take 7 = [A, B, C, D', E, F, G] ∧ l = [A, B, C, D', E, F, G].take l.length := by
  match l, h with
  | [], _ => exact ⟨_, _, _, _, _, _, _, rfl, rfl⟩
  | [_], _ => exact ⟨_, _, _, _, _, _, _, rfl, rfl⟩
  | [_, _], _ => exact ⟨_, _, _, _, _, _, _, rfl, rfl⟩
  | [_, _, _], _ => exact ⟨_, _, _, _, _, _, _, rfl, rfl⟩
  | [_, _, _, _], _ => exact ⟨_, _, _, _, _, _, _, rfl, rfl⟩
  | [_, _, _, _, _], _ => exact ⟨_, _, _, _, _, _, _, rfl, rfl⟩
  | [_, _, _, _, _, _], _ => exact ⟨_, _, _, _, _, _, _, rfl, rfl⟩
  | [_, _, _, _, _, _, _], _ => exact ⟨_, _, _, _, _, _, _, rfl, rfl⟩
  | _ :: _ :: _ :: _ :: _ :: _ :: _ :: _ :: _, h =>
    simp only [List.length_cons] at h
    omega
theorem rep7 : repD (7 : Int).toNat [D.non] = List.replicate 7 D.non := rfl
theorem cut7 {l : List D} : Dl.cutD (l ++ List.replicate 7 D.non) none (some 7) = (l ++ List.replicate 7 D.non).take 7 := cutD_take (i := 7)
theorem cp_eq {K : PySem.W.Frag} : W_l_copies K = (wThen (wAsg (wSl (wOp fAdd (wVar 0) (wOp fMul (wLst (wCons (wC .non) wNil)) (wC (.int 7)))) wNoP (wPart (wC (.int 7)))) (gwUnl (gwCons (gwName 1) (gwCons (gwName 2) (gwCons (gwName 3) (gwCons (gwName 4) (gwCons (gwName 5) (gwCons (gwName 6) (gwCons (gwName 7) gwNil))))))))) (W_cp_tail K)) := rfl
theorem unl7 {A B C D' E F G : D} {s0 t3 t4 t5 t6 t7 t8 t9 : Sl} {kk : List Sl → Prop} (h : kk [s0, .val A, .val B, .val C, .val D', .val E, .val F, .val G]) :
    gwCons (gwName 1) (gwCons (gwName 2) (gwCons (gwName 3) (gwCons (gwName 4) (gwCons (gwName 5) (gwCons (gwName 6) (gwCons (gwName 7) gwNil)))))) [A, B, C, D', E, F, G] [s0, t3, t4, t5, t6, t7, t8, t9] kk := ⟨rfl, h⟩
theorem fMul_lst {a : List D} {j : Int} : fMul (.lst a) (.int j) n k x = ((a.length ≤ 1000 ∧ -1000 ≤ j ∧ j ≤ 1000) ∧ k (.lst (repD j.toNat a)) n) := rfl
theorem dt_l_copies (h : c_l_copies K ds n k x) : W_l_copies K (startD ["_law_ages", "_law_a", "_law_b", "_law_c", "_law_d", "_law_e", "_law_f", "_law_g"] ds) n { nx := fun _ n' => k .non n', rt := k } x := by
  obtain ⟨es, rfl, hl, q⟩ := h
  obtain ⟨A, B, C, D', E, F, G, e6, e7⟩ := seven hl
  have tail := cp_tail (K := K) (n := n) (k := k) (x := x) (ls := es) (A := A) (B := B) (C := C) (D' := D') (E := E) (F := F) (G := G) hl fun l e => by
    rw [← e7] at e
    rw [e]
    exact ⟨by omega, q⟩
  rw [cp_eq]
  show (wThen _ (W_cp_tail K)) [.val (.lst es), .un, .un, .un, .un, .un, .un, .un] n _ x
  generalize W_cp_tail K = wt at tail
  (try simp only [Dl.wRet, Dl.wRetN, Dl.wThen, Dl.wIf, Dl.wOr, Dl.wAnd, Dl.wNot, Dl.wNotV, Dl.wAndV, Dl.wOrV, Dl.wB, Dl.wTru, Dl.wOp, Dl.wUn, Dl.wVar, Dl.wC, Dl.wF, Dl.wCons, Dl.wNil, Dl.wTup, Dl.wLst, Dl.wSet, Dl.wAsg, Dl.wNext, Dl.wDrop, Dl.wFz, Dl.wfLst, Dl.wfList, Dl.wfCat, Dl.wSetOwn, Dl.wApp, Dl.wFreeze, Dl.wFreezeD, Dl.wIsi, Dl.wChain, Dl.wIfE, Dl.wSeq, Dl.wRng1, Dl.wRng2, Dl.wLc, Dl.wLcOwn, Dl.wFor, Dl.wPar, Dl.wDPut, Dl.wGet2, Dl.wLend, Dl.wLendT, Dl.wFld, Dl.wProp, Dl.wMeth, Dl.wMethK, Dl.wMakeM, Dl.wMakeMn, Dl.fMakeM, Dl.wStar, Dl.wSl, Dl.wNoP, Dl.wPart, Dl.wItOwn, Dl.wEnT, Dl.wEnL, Dl.wRaise1, Dl.wRaise2, Dl.wFldOwn, Dl.wMaxD, Dl.wDct0, Dl.wYes, Dl.fOwn, Dl.fOwnX, Dl.fOwnNe, Dl.fOwnNeX, Dl.fOwnIn, Dl.fOwnNotIn, Dl.fOwnLen, Dl.fOwnBool, Dl.gt, Dl.isB_bl, Dl.tru_bl, Dl.optI_some, Dl.slV_val, Dl.ownL_own, Dl.ownDI_own, Dl.lendI_own, Dl.lendI_ownD, Dl.seqI_tup, Dl.seqI_lst, Dl.tupI_tup, Dl.lstI_lst, Dl.intI_int, Dl.dctI_dct, Dl.keyI_int, Dl.insI_ins, Dl.ownIi_own, Dl.excI_exc, Dl.fOne_one, Dl.fI0_int, Dl.fI2_int, Dl.fLen_tup, Dl.fLen_lst, Dl.fTuple_tup, Dl.fTuple_lst, Dl.fInt_int, Dl.fInt_bl, Dl.fAdd_int, Dl.fAdd_tup, Dl.fAdd_lst, Dl.fNeg_int, Dl.fSl_tup, Dl.fSl_lst, Dl.gwTup_tup, Dl.gwUnl_lst, Dl.gwCons_cons, Dl.gwNil_nil, Dl.gwName_eq, Dl.lcD_nil, Dl.wipeS, List.set, if_true, if_false, Bool.false_eq_true, Bool.not_true, Bool.not_false, ite_true, ite_false])
  rw [fMul_lst]
  refine ⟨by simp, ⟨by simp, by omega, by omega⟩, ?_⟩
  rw [rep7, fAdd_lst]
  refine ⟨by rw [List.length_replicate]; omega, ?_⟩
  (try simp only [Dl.wRet, Dl.wRetN, Dl.wThen, Dl.wIf, Dl.wOr, Dl.wAnd, Dl.wNot, Dl.wNotV, Dl.wAndV, Dl.wOrV, Dl.wB, Dl.wTru, Dl.wOp, Dl.wUn, Dl.wVar, Dl.wC, Dl.wF, Dl.wCons, Dl.wNil, Dl.wTup, Dl.wLst, Dl.wSet, Dl.wAsg, Dl.wNext, Dl.wDrop, Dl.wFz, Dl.wfLst, Dl.wfList, Dl.wfCat, Dl.wSetOwn, Dl.wApp, Dl.wFreeze, Dl.wFreezeD, Dl.wIsi, Dl.wChain, Dl.wIfE, Dl.wSeq, Dl.wRng1, Dl.wRng2, Dl.wLc, Dl.wLcOwn, Dl.wFor, Dl.wPar, Dl.wDPut, Dl.wGet2, Dl.wLend, Dl.wLendT, Dl.wFld, Dl.wProp, Dl.wMeth, Dl.wMethK, Dl.wMakeM, Dl.wMakeMn, Dl.fMakeM, Dl.wStar, Dl.wSl, Dl.wNoP, Dl.wPart, Dl.wItOwn, Dl.wEnT, Dl.wEnL, Dl.wRaise1, Dl.wRaise2, Dl.wFldOwn, Dl.wMaxD, Dl.wDct0, Dl.wYes, Dl.fOwn, Dl.fOwnX, Dl.fOwnNe, Dl.fOwnNeX, Dl.fOwnIn, Dl.fOwnNotIn, Dl.fOwnLen, Dl.fOwnBool, Dl.gt, Dl.isB_bl, Dl.tru_bl, Dl.optI_some, Dl.slV_val, Dl.ownL_own, Dl.ownDI_own, Dl.lendI_own, Dl.lendI_ownD, Dl.seqI_tup, Dl.seqI_lst, Dl.tupI_tup, Dl.lstI_lst, Dl.intI_int, Dl.dctI_dct, Dl.keyI_int, Dl.insI_ins, Dl.ownIi_own, Dl.excI_exc, Dl.fOne_one, Dl.fI0_int, Dl.fI2_int, Dl.fLen_tup, Dl.fLen_lst, Dl.fTuple_tup, Dl.fTuple_lst, Dl.fInt_int, Dl.fInt_bl, Dl.fAdd_int, Dl.fAdd_tup, Dl.fAdd_lst, Dl.fNeg_int, Dl.fSl_tup, Dl.fSl_lst, Dl.gwTup_tup, Dl.gwUnl_lst, Dl.gwCons_cons, Dl.gwNil_nil, Dl.gwName_eq, Dl.lcD_nil, Dl.wipeS, List.set, if_true, if_false, Bool.false_eq_true, Bool.not_true, Bool.not_false, ite_true, ite_false])
  rw [cut7, e6]
  exact unl7 tail
end
end Lz

set_option Elab.async false
set_option linter.all false
set_option maxRecDepth 100000
set_option maxHeartbeats 4000000
namespace Lz
open PySem PySem.Spec PyProof.Rows L2 LamX Dl Xt TL
def U0 (K : PySem.W.Frag) : WS :=
  (wPar2 1 5 (wfLst (wCons (wC (.int 1)) (wCons (wC (.int 2)) (wCons (wC (.int 3)) (wCons (wC (.int 4)) (wCons (wC (.int 5)) (wCons (wC (.int 6)) (wCons (wC (.int 7)) (wCons (wC (.int 8)) wNil))))))))))
def U1 (K : PySem.W.Frag) : WS :=
  (wFor (wRng1 (wF (c_l_draw K) (wCons (wVar 0) (wCons (wC (.int 6)) wNil)))) (gwName 2)
      (wAppPop 5 1 (wF (c_l_draw K) (wCons (wVar 0) (wCons (wLend 1 (wF (fOne fLen) (wCons (wVar 1) wNil))) wNil)))))
def U2 (K : PySem.W.Frag) : WS :=
  (wSet 3 (wF (c_l_copies K) (wCons (wVar 5) wNil)))
def U3 (K : PySem.W.Frag) : WS :=
  (wIf (wOr (wNot (wTru (wIsi (tyC (ga K "Plan") (Cs K)) (wVar 3)))) (wOr (wB (wOp fNe (wF (fOwnStr (ga K "Plan") (c_Plan_str K)) (wCons (wVar 3) wNil)) (wJoin (wC (.str " , ")) (wOp fAdd (wLst (wCons (wC (.str "0")) wNil)) (wLc (wSeq (wVar 5)) [8] (gwName 8) wYes (wF (fOne fStr) (wCons (wVar 8) wNil))))))) (wOr (wB (wOp fNe (wF (fOwnLen (ga K "Plan") (c_Plan_len K)) (wCons (wVar 3) wNil)) (wC (.int 1)))) (wTru (wFld (ga K "Tick") "mute" (wOp (fOwnA (ga K "Plan") (c_Plan_getitem K)) (wVar 3) (wC (.int 0))))))))
      (wRet (wC (.bl false)))
      wNext)
def U4 (K : PySem.W.Frag) : WS :=
  (wSet 7 (wF (c_l_draw K) (wCons (wVar 0) (wCons (wOp fAdd (wF (fOne fLen) (wCons (wVar 5) wNil)) (wC (.int 1))) wNil))))
def U5 (K : PySem.W.Frag) : WS :=
  (wSet 6 (wF (c_l_pick K) (wCons (wVar 0) (wCons (wOp fAdd (wLst (wCons (wC .non) (wCons (wC (.int 0)) (wCons (wC (.int 9)) (wCons (wUn fNeg (wC (.int 1))) (wCons (wC (.bl true)) (wCons (wC (.str "1")) (wCons (wTup (wCons (wC (.int 1)) wNil)) (wCons (wLst wNil) (wCons (wOp (fI2 CPow fun i j => .int (i ^ j.toNat)) (wC (.int 10)) (wC (.int 30))) wNil)))))))))) (wSl (wVar 5) wNoP (wPart (wVar 7)))) wNil))))
def U6 (K : PySem.W.Frag) : WS :=
  (wSetOwn 4 (wfLst (wCons (wHeard N_l_heard (W_l_heard K) (wF (c_l_copies K) (wCons (wOp fAdd (wOp fAdd (wSl (wVar 5) wNoP (wPart (wVar 7))) (wLst (wCons (wVar 6) wNil))) (wSl (wVar 5) (wPart (wVar 7)) wNoP)) wNil))) wNil)))
def U7 (K : PySem.W.Frag) : WS :=
  (wApp 4 (wHeard N_l_heard (W_l_heard K) (wF (c_parity K) (wCons (wF (c_l_pick K) (wCons (wVar 0) (wCons (wLst (wCons (wC .non) (wCons (wC (.int 0)) (wCons (wC (.int 6)) (wCons (wUn fNeg (wC (.int 1))) (wCons (wC (.bl true)) (wCons (wC (.str "2")) (wCons (wTup (wCons (wC (.int 2)) wNil)) (wCons (wLst wNil) wNil))))))))) wNil))) wNil))))
def U8 (K : PySem.W.Frag) : WS :=
  (wFreeze 4 (wRet (wAndV (wOp fEq (wOp fIx (wVar 4) (wC (.int 0))) (wTup (wCons (wC (.str "tick")) (wCons (wF (fOne fReprK) (wCons (wVar 7) wNil)) wNil)))) (wOp fEq (wOp fIx (wOp fIx (wVar 4) (wC (.int 1))) (wC (.int 0))) (wC (.str "count"))))))
theorem U_eq {K : PySem.W.Frag} : W_l_turn_right K = wThen (U0 K) (wThen (U1 K) (wFreeze 5 (wThen (U2 K) (wThen (U3 K) (wThen (U4 K) (wThen (U5 K) (wThen (U6 K) (wThen (U7 K) (U8 K))))))))) := rfl
section
variable {K : PySem.W.Frag} {ds : List D} {n : Nat} {k : KD} {x : KX} {kb : Bool → Nat → Prop} {E : DEnds} {as : List Int}
abbrev IL (l : List Int) : List D := l.map D.int
def In8 (l : List Int) : Prop := l.Nodup ∧ ∀ a ∈ l, 1 ≤ a ∧ a ≤ 8
theorem in8_perm {a b : List Int} (p : a.Perm b) (h : In8 b) : In8 a := ⟨p.nodup_iff.mpr h.1, fun x hx => h.2 x (p.mem_iff.mp hx)⟩
theorem erase_perm : ∀ {l : List Int} {c : Nat} {y : Int}, l[c]? = some y → (y :: l.eraseIdx c).Perm l
  | [], _, _, h => by simp at h
  | a :: l, 0, y, h => by
    simp at h
    subst h
    exact .refl _
  | a :: l, c + 1, y, h => (List.Perm.swap a y _).trans ((erase_perm (c := c) (by simpa using h)).cons a)
theorem pop_perm {ls as : List Int} {c : Nat} {y : Int} (h : ls[c]? = some y) : (ls.eraseIdx c ++ (as ++ [y])).Perm (ls ++ as) := by
  have p1 : (ls.eraseIdx c ++ (as ++ [y])).Perm ((as ++ [y]) ++ ls.eraseIdx c) := List.perm_append_comm
  have p2 : ((as ++ [y]) ++ ls.eraseIdx c).Perm (as ++ ls) := by
    rw [List.append_assoc]
    exact List.Perm.append_left as (erase_perm h)
  exact (p1.trans p2).trans List.perm_append_comm
theorem erase_map : ∀ (l : List Int) (c : Nat), (IL l).eraseIdx c = IL (l.eraseIdx c)
  | [], _ => rfl
  | _ :: _, 0 => rfl
  | a :: l, c + 1 => congrArg (D.int a :: ·) (erase_map l c)
theorem u01 (hn : n ≤ 9980) (q : ∀ (ls as : List Int) (t2 : Sl) n', In8 as → as.length ≤ 5 → n' ≤ n + 6 → E.nx [.val .pen, .own (IL ls), t2, .un, .un, .own (IL as), .un, .un, .un] n') : wThen (U0 K) (U1 K) [.val .pen, .un, .un, .un, .un, .un, .un, .un, .un] n E x := by
  refine then_ ?_
  unfold U0
  simp only [wPar2]
  (try simp only [Dl.wRet, Dl.wRetN, Dl.wThen, Dl.wIf, Dl.wOr, Dl.wAnd, Dl.wNot, Dl.wNotV, Dl.wAndV, Dl.wOrV, Dl.wB, Dl.wTru, Dl.wOp, Dl.wUn, Dl.wVar, Dl.wC, Dl.wF, Dl.wCons, Dl.wNil, Dl.wTup, Dl.wLst, Dl.wSet, Dl.wAsg, Dl.wNext, Dl.wDrop, Dl.wFz, Dl.wfLst, Dl.wfList, Dl.wfCat, Dl.wSetOwn, Dl.wApp, Dl.wFreeze, Dl.wFreezeD, Dl.wIsi, Dl.wChain, Dl.wIfE, Dl.wSeq, Dl.wRng1, Dl.wRng2, Dl.wLc, Dl.wLcOwn, Dl.wFor, Dl.wPar, Dl.wDPut, Dl.wGet2, Dl.wLend, Dl.wLendT, Dl.wFld, Dl.wProp, Dl.wMeth, Dl.wMethK, Dl.wMakeM, Dl.wMakeMn, Dl.fMakeM, Dl.wStar, Dl.wSl, Dl.wNoP, Dl.wPart, Dl.wItOwn, Dl.wEnT, Dl.wEnL, Dl.wRaise1, Dl.wRaise2, Dl.wFldOwn, Dl.wMaxD, Dl.wDct0, Dl.wYes, Dl.fOwn, Dl.fOwnX, Dl.fOwnNe, Dl.fOwnNeX, Dl.fOwnIn, Dl.fOwnNotIn, Dl.fOwnLen, Dl.fOwnBool, Dl.gt, Dl.isB_bl, Dl.tru_bl, Dl.optI_some, Dl.slV_val, Dl.ownL_own, Dl.ownDI_own, Dl.lendI_own, Dl.lendI_ownD, Dl.seqI_tup, Dl.seqI_lst, Dl.tupI_tup, Dl.lstI_lst, Dl.intI_int, Dl.dctI_dct, Dl.keyI_int, Dl.insI_ins, Dl.ownIi_own, Dl.excI_exc, Dl.fOne_one, Dl.fI0_int, Dl.fI2_int, Dl.fLen_tup, Dl.fLen_lst, Dl.fTuple_tup, Dl.fTuple_lst, Dl.fInt_int, Dl.fInt_bl, Dl.fAdd_int, Dl.fAdd_tup, Dl.fAdd_lst, Dl.fNeg_int, Dl.fSl_tup, Dl.fSl_lst, Dl.gwTup_tup, Dl.gwUnl_lst, Dl.gwCons_cons, Dl.gwNil_nil, Dl.gwName_eq, Dl.lcD_nil, Dl.wipeS, List.set, if_true, if_false, Bool.false_eq_true, Bool.not_true, Bool.not_false, ite_true, ite_false])
  refine ⟨by show 8 ≤ 1000; decide, ?_⟩
  unfold U1
  (try simp only [Dl.wRet, Dl.wRetN, Dl.wThen, Dl.wIf, Dl.wOr, Dl.wAnd, Dl.wNot, Dl.wNotV, Dl.wAndV, Dl.wOrV, Dl.wB, Dl.wTru, Dl.wOp, Dl.wUn, Dl.wVar, Dl.wC, Dl.wF, Dl.wCons, Dl.wNil, Dl.wTup, Dl.wLst, Dl.wSet, Dl.wAsg, Dl.wNext, Dl.wDrop, Dl.wFz, Dl.wfLst, Dl.wfList, Dl.wfCat, Dl.wSetOwn, Dl.wApp, Dl.wFreeze, Dl.wFreezeD, Dl.wIsi, Dl.wChain, Dl.wIfE, Dl.wSeq, Dl.wRng1, Dl.wRng2, Dl.wLc, Dl.wLcOwn, Dl.wFor, Dl.wPar, Dl.wDPut, Dl.wGet2, Dl.wLend, Dl.wLendT, Dl.wFld, Dl.wProp, Dl.wMeth, Dl.wMethK, Dl.wMakeM, Dl.wMakeMn, Dl.fMakeM, Dl.wStar, Dl.wSl, Dl.wNoP, Dl.wPart, Dl.wItOwn, Dl.wEnT, Dl.wEnL, Dl.wRaise1, Dl.wRaise2, Dl.wFldOwn, Dl.wMaxD, Dl.wDct0, Dl.wYes, Dl.fOwn, Dl.fOwnX, Dl.fOwnNe, Dl.fOwnNeX, Dl.fOwnIn, Dl.fOwnNotIn, Dl.fOwnLen, Dl.fOwnBool, Dl.gt, Dl.isB_bl, Dl.tru_bl, Dl.optI_some, Dl.slV_val, Dl.ownL_own, Dl.ownDI_own, Dl.lendI_own, Dl.lendI_ownD, Dl.seqI_tup, Dl.seqI_lst, Dl.tupI_tup, Dl.lstI_lst, Dl.intI_int, Dl.dctI_dct, Dl.keyI_int, Dl.insI_ins, Dl.ownIi_own, Dl.excI_exc, Dl.fOne_one, Dl.fI0_int, Dl.fI2_int, Dl.fLen_tup, Dl.fLen_lst, Dl.fTuple_tup, Dl.fTuple_lst, Dl.fInt_int, Dl.fInt_bl, Dl.fAdd_int, Dl.fAdd_tup, Dl.fAdd_lst, Dl.fNeg_int, Dl.fSl_tup, Dl.fSl_lst, Dl.gwTup_tup, Dl.gwUnl_lst, Dl.gwCons_cons, Dl.gwNil_nil, Dl.gwName_eq, Dl.lcD_nil, Dl.wipeS, List.set, if_true, if_false, Bool.false_eq_true, Bool.not_true, Bool.not_false, ite_true, ite_false])
  refine ⟨by omega, by omega, by omega, fun d0 hd0 => ?_⟩
  refine ⟨by omega, ?_⟩
  refine for_inv (fun r S m => ∃ ls as t2, S = [.val .pen, .own (IL ls), t2, .un, .un, .own (IL as), .un, .un, .un] ∧ In8 (ls ++ as) ∧ ls.length + as.length = 8 ∧ as.length + r.length ≤ 5 ∧ m + r.length ≤ n + 6) (fun d r S m R hI hR => ?_) (fun S m hI => ?_) _ _ _ ⟨[1, 2, 3, 4, 5, 6, 7, 8], [], .un, rfl, ⟨by decide, by decide⟩, rfl, by rw [rngD_len]; simp; omega, by rw [rngD_len]; omega⟩
  · obtain ⟨ls, as, t2, rfl, h8, hl, hr, hm⟩ := hI
    rw [List.length_cons] at hr hm
    simp only [wAppPop]
    (try simp only [Dl.wRet, Dl.wRetN, Dl.wThen, Dl.wIf, Dl.wOr, Dl.wAnd, Dl.wNot, Dl.wNotV, Dl.wAndV, Dl.wOrV, Dl.wB, Dl.wTru, Dl.wOp, Dl.wUn, Dl.wVar, Dl.wC, Dl.wF, Dl.wCons, Dl.wNil, Dl.wTup, Dl.wLst, Dl.wSet, Dl.wAsg, Dl.wNext, Dl.wDrop, Dl.wFz, Dl.wfLst, Dl.wfList, Dl.wfCat, Dl.wSetOwn, Dl.wApp, Dl.wFreeze, Dl.wFreezeD, Dl.wIsi, Dl.wChain, Dl.wIfE, Dl.wSeq, Dl.wRng1, Dl.wRng2, Dl.wLc, Dl.wLcOwn, Dl.wFor, Dl.wPar, Dl.wDPut, Dl.wGet2, Dl.wLend, Dl.wLendT, Dl.wFld, Dl.wProp, Dl.wMeth, Dl.wMethK, Dl.wMakeM, Dl.wMakeMn, Dl.fMakeM, Dl.wStar, Dl.wSl, Dl.wNoP, Dl.wPart, Dl.wItOwn, Dl.wEnT, Dl.wEnL, Dl.wRaise1, Dl.wRaise2, Dl.wFldOwn, Dl.wMaxD, Dl.wDct0, Dl.wYes, Dl.fOwn, Dl.fOwnX, Dl.fOwnNe, Dl.fOwnNeX, Dl.fOwnIn, Dl.fOwnNotIn, Dl.fOwnLen, Dl.fOwnBool, Dl.gt, Dl.isB_bl, Dl.tru_bl, Dl.optI_some, Dl.slV_val, Dl.ownL_own, Dl.ownDI_own, Dl.lendI_own, Dl.lendI_ownD, Dl.seqI_tup, Dl.seqI_lst, Dl.tupI_tup, Dl.lstI_lst, Dl.intI_int, Dl.dctI_dct, Dl.keyI_int, Dl.insI_ins, Dl.ownIi_own, Dl.excI_exc, Dl.fOne_one, Dl.fI0_int, Dl.fI2_int, Dl.fLen_tup, Dl.fLen_lst, Dl.fTuple_tup, Dl.fTuple_lst, Dl.fInt_int, Dl.fInt_bl, Dl.fAdd_int, Dl.fAdd_tup, Dl.fAdd_lst, Dl.fNeg_int, Dl.fSl_tup, Dl.fSl_lst, Dl.gwTup_tup, Dl.gwUnl_lst, Dl.gwCons_cons, Dl.gwNil_nil, Dl.gwName_eq, Dl.lcD_nil, Dl.wipeS, List.set, if_true, if_false, Bool.false_eq_true, Bool.not_true, Bool.not_false, ite_true, ite_false])
    rw [List.length_map]
    refine ⟨rfl, by omega, by omega, by omega, fun c hc => ?_⟩
    have hc' : c < ls.length := by omega
    have g := List.getElem?_eq_getElem hc'
    (try simp only [Dl.wRet, Dl.wRetN, Dl.wThen, Dl.wIf, Dl.wOr, Dl.wAnd, Dl.wNot, Dl.wNotV, Dl.wAndV, Dl.wOrV, Dl.wB, Dl.wTru, Dl.wOp, Dl.wUn, Dl.wVar, Dl.wC, Dl.wF, Dl.wCons, Dl.wNil, Dl.wTup, Dl.wLst, Dl.wSet, Dl.wAsg, Dl.wNext, Dl.wDrop, Dl.wFz, Dl.wfLst, Dl.wfList, Dl.wfCat, Dl.wSetOwn, Dl.wApp, Dl.wFreeze, Dl.wFreezeD, Dl.wIsi, Dl.wChain, Dl.wIfE, Dl.wSeq, Dl.wRng1, Dl.wRng2, Dl.wLc, Dl.wLcOwn, Dl.wFor, Dl.wPar, Dl.wDPut, Dl.wGet2, Dl.wLend, Dl.wLendT, Dl.wFld, Dl.wProp, Dl.wMeth, Dl.wMethK, Dl.wMakeM, Dl.wMakeMn, Dl.fMakeM, Dl.wStar, Dl.wSl, Dl.wNoP, Dl.wPart, Dl.wItOwn, Dl.wEnT, Dl.wEnL, Dl.wRaise1, Dl.wRaise2, Dl.wFldOwn, Dl.wMaxD, Dl.wDct0, Dl.wYes, Dl.fOwn, Dl.fOwnX, Dl.fOwnNe, Dl.fOwnNeX, Dl.fOwnIn, Dl.fOwnNotIn, Dl.fOwnLen, Dl.fOwnBool, Dl.gt, Dl.isB_bl, Dl.tru_bl, Dl.optI_some, Dl.slV_val, Dl.ownL_own, Dl.ownDI_own, Dl.lendI_own, Dl.lendI_ownD, Dl.seqI_tup, Dl.seqI_lst, Dl.tupI_tup, Dl.lstI_lst, Dl.intI_int, Dl.dctI_dct, Dl.keyI_int, Dl.insI_ins, Dl.ownIi_own, Dl.excI_exc, Dl.fOne_one, Dl.fI0_int, Dl.fI2_int, Dl.fLen_tup, Dl.fLen_lst, Dl.fTuple_tup, Dl.fTuple_lst, Dl.fInt_int, Dl.fInt_bl, Dl.fAdd_int, Dl.fAdd_tup, Dl.fAdd_lst, Dl.fNeg_int, Dl.fSl_tup, Dl.fSl_lst, Dl.gwTup_tup, Dl.gwUnl_lst, Dl.gwCons_cons, Dl.gwNil_nil, Dl.gwName_eq, Dl.lcD_nil, Dl.wipeS, List.set, if_true, if_false, Bool.false_eq_true, Bool.not_true, Bool.not_false, ite_true, ite_false])
    refine ⟨c, .int ls[c], by decide, rfl, by rw [List.getElem?_map, g]; rfl, by rw [List.length_map]; omega, by omega, ?_⟩
    rw [erase_map]
    have p := pop_perm (as := as) g
    refine hR _ _ ⟨ls.eraseIdx c, as ++ [ls[c]], .val d, ?_, in8_perm p h8, by have := p.length_eq; rw [List.length_append, List.length_append] at this; rw [List.length_append] at this ⊢; omega, by rw [List.length_append]; simp; omega, by omega⟩
    unfold IL
    rw [List.map_append]
    rfl
  · obtain ⟨ls, as, t2, rfl, h8, hl, hr, hm⟩ := hI
    refine q ls as t2 m ⟨(List.nodup_append.mp h8.1).2.1, fun a ha => h8.2 a (List.mem_append_right _ ha)⟩ (by simpa using hr) (by simpa using hm)
theorem join_one {s z : Str} : Txt.join s [z] = z := ext_tl (by rw [tl_joinT]; rfl)
theorem sumT_one (a : Int) : sumT [a] = numI a := join_one
theorem zero_text : numI 0 = Str.ofString "0" := by decide +kernel
theorem map_sumT (as : List Int) : (copySs as).map sumT = Str.ofString "0" :: as.map numI := by
  unfold copySs
  rw [List.map_cons, List.map_map, sumT_one, zero_text]
  congr 1
theorem copy_text (as : List Int) : planT [(copySs as, false)] = Txt.join (Str.ofString " , ") (Str.ofString "0" :: as.map numI) := by
  rw [← map_sumT]
  unfold planT
  rw [List.map_cons, List.map_nil, join_one]
  unfold tickT sumsT
  rw [if_neg (show ¬ false = true by decide), if_neg (show copySs as ≠ [] by unfold copySs; simp)]
  refine ext_tl ?_
  show tl (("" : Str) ++ _) = _
  rw [tl_append]
  rfl
theorem copy_plan (h : In8 as) (hl : as.length ≤ 5) : PlanOk [(copySs as, false)] := ⟨fun p hp => by rw [List.mem_singleton.mp hp]; exact tk_of (copy_ok h.2 h.1 hl), by simp, by simp⟩
theorem badAge_in : ∀ {pre : List Int} {i : Nat} {acc : List Int} {r : List D}, (acc ++ pre).Nodup → (∀ a ∈ pre, 1 ≤ a ∧ a ≤ 8) → badAge i acc (IL pre ++ r) = badAge (i + pre.length) (acc ++ pre) r
  | [], i, acc, r, _, _ => by rw [List.append_nil]; rfl
  | a :: pre, i, acc, r, hn, h => by
    show badAge i acc (.int a :: (IL pre ++ r)) = _
    have c : a ∉ acc := fun z => by
      rw [List.nodup_append] at hn
      exact hn.2.2 a z a List.mem_cons_self rfl
    rw [badAge, if_pos (h a List.mem_cons_self), if_neg c, badAge_in (by rw [List.append_assoc]; exact hn) (fun b hb => h b (List.mem_cons_of_mem _ hb)), List.append_assoc, List.length_cons, show i + 1 + pre.length = i + (pre.length + 1) by omega]
    rfl
theorem pln_IL (l : List Int) : ∀ d ∈ IL l, pln d = true := fun d hd => by
  obtain ⟨a, _, rfl⟩ := List.mem_map.mp hd
  rfl
theorem inj_int : ∀ {a b : List Int}, a.map D.int = b.map D.int → a = b
  | [], [], _ => rfl
  | [], _ :: _, h => by cases h
  | _ :: _, [], h => by cases h
  | x :: a, y :: b, h => by
    rw [List.map_cons, List.map_cons] at h
    injection h with h1 h2
    injection h1 with h1
    rw [h1, inj_int h2]
theorem copies_run (h : In8 as) (hl : as.length ≤ 5) (q : k (planD K [(copySs as, false)]) n) : c_copies K [.tup (IL as)] n k x := by
  refine ⟨IL as, rfl, pln_IL as, by rw [List.length_map]; omega, ?_⟩
  have e : badAge 0 [] (IL as) = none := by
    have := badAge_in (pre := as) (i := 0) (acc := []) (r := []) (by rw [List.nil_append]; exact h.1) h.2
    rw [List.append_nil] at this
    rw [this]
    rfl
  rw [e]
  intro ages ha
  rw [← inj_int ha, if_neg (by omega)]
  exact q
abbrev US (K : PySem.W.Frag) (s1 s2 s4 s6 s7 : Sl) (as : List Int) : List Sl := [.val .pen, s1, s2, .val (planD K [(copySs as, false)]), s4, .val (.lst (IL as)), s6, s7, .un]
theorem u2 {s1 s2 : Sl} (h : In8 as) (hl : as.length ≤ 5) (q : E.nx (US K s1 s2 .un .un .un as) n) : U2 K [.val .pen, s1, s2, .un, .un, .val (.lst (IL as)), .un, .un, .un] n E x := by
  unfold U2
  (try simp only [Dl.wRet, Dl.wRetN, Dl.wThen, Dl.wIf, Dl.wOr, Dl.wAnd, Dl.wNot, Dl.wNotV, Dl.wAndV, Dl.wOrV, Dl.wB, Dl.wTru, Dl.wOp, Dl.wUn, Dl.wVar, Dl.wC, Dl.wF, Dl.wCons, Dl.wNil, Dl.wTup, Dl.wLst, Dl.wSet, Dl.wAsg, Dl.wNext, Dl.wDrop, Dl.wFz, Dl.wfLst, Dl.wfList, Dl.wfCat, Dl.wSetOwn, Dl.wApp, Dl.wFreeze, Dl.wFreezeD, Dl.wIsi, Dl.wChain, Dl.wIfE, Dl.wSeq, Dl.wRng1, Dl.wRng2, Dl.wLc, Dl.wLcOwn, Dl.wFor, Dl.wPar, Dl.wDPut, Dl.wGet2, Dl.wLend, Dl.wLendT, Dl.wFld, Dl.wProp, Dl.wMeth, Dl.wMethK, Dl.wMakeM, Dl.wMakeMn, Dl.fMakeM, Dl.wStar, Dl.wSl, Dl.wNoP, Dl.wPart, Dl.wItOwn, Dl.wEnT, Dl.wEnL, Dl.wRaise1, Dl.wRaise2, Dl.wFldOwn, Dl.wMaxD, Dl.wDct0, Dl.wYes, Dl.fOwn, Dl.fOwnX, Dl.fOwnNe, Dl.fOwnNeX, Dl.fOwnIn, Dl.fOwnNotIn, Dl.fOwnLen, Dl.fOwnBool, Dl.gt, Dl.isB_bl, Dl.tru_bl, Dl.optI_some, Dl.slV_val, Dl.ownL_own, Dl.ownDI_own, Dl.lendI_own, Dl.lendI_ownD, Dl.seqI_tup, Dl.seqI_lst, Dl.tupI_tup, Dl.lstI_lst, Dl.intI_int, Dl.dctI_dct, Dl.keyI_int, Dl.insI_ins, Dl.ownIi_own, Dl.excI_exc, Dl.fOne_one, Dl.fI0_int, Dl.fI2_int, Dl.fLen_tup, Dl.fLen_lst, Dl.fTuple_tup, Dl.fTuple_lst, Dl.fInt_int, Dl.fInt_bl, Dl.fAdd_int, Dl.fAdd_tup, Dl.fAdd_lst, Dl.fNeg_int, Dl.fSl_tup, Dl.fSl_lst, Dl.gwTup_tup, Dl.gwUnl_lst, Dl.gwCons_cons, Dl.gwNil_nil, Dl.gwName_eq, Dl.lcD_nil, Dl.wipeS, List.set, if_true, if_false, Bool.false_eq_true, Bool.not_true, Bool.not_false, ite_true, ite_false])
  refine ⟨IL as, rfl, by rw [List.length_map]; omega, ?_⟩
  exact copies_run h hl q
theorem str_x {kk : D → Nat → Prop} {ps : List Tk} (h : PlanOk ps) (q : kk (.str (planT ps)) n) : insI (ga K "Plan") (planD K ps) fun _ => c_Plan_str K [planD K ps] n kk x := by
  unfold planD
  rw [insI_ins]
  exact ⟨ps, rfl, h, q⟩
theorem len_x {kk : D → Nat → Prop} {ps : List Tk} (q : kk (.int ((ps.length : Nat) : Int)) n) : insI (ga K "Plan") (planD K ps) fun _ => c_Plan_len K [planD K ps] n kk x := by
  unfold planD
  rw [insI_ins]
  exact ⟨ps, rfl, q⟩
theorem item_x {kk : D → Nat → Prop} {ps : List Tk} {i : Nat} {p : Tk} (h : ps[i]? = some p) (q : kk (tickP' K p) n) : insI (ga K "Plan") (planD K ps) fun _ => c_Plan_getitem K [planD K ps, .int (i : Int)] n kk x := by
  unfold planD
  rw [insI_ins]
  exact ⟨ps, i, p, rfl, h, q⟩
theorem own_plan {ps : List Tk} (h : PlanOk ps) (q : k (.str (planT ps)) n) : fOwnStr (ga K "Plan") (c_Plan_str K) [planD K ps] n k x := by
  show insI (ga K "Plan") (planD K ps) fun _ => c_Plan_str K [planD K ps] n _ _
  unfold planD
  rw [insI_ins]
  exact ⟨ps, rfl, h, q⟩
theorem u3 {s1 s2 : Sl} (h : In8 as) (hl : as.length ≤ 5) (q : E.nx (US K s1 s2 .un .un .un as) n) : U3 K (US K s1 s2 .un .un .un as) n E x := by
  have ok := copy_plan h hl
  unfold U3
  (try simp only [Dl.wRet, Dl.wRetN, Dl.wThen, Dl.wIf, Dl.wOr, Dl.wAnd, Dl.wNot, Dl.wNotV, Dl.wAndV, Dl.wOrV, Dl.wB, Dl.wTru, Dl.wOp, Dl.wUn, Dl.wVar, Dl.wC, Dl.wF, Dl.wCons, Dl.wNil, Dl.wTup, Dl.wLst, Dl.wSet, Dl.wAsg, Dl.wNext, Dl.wDrop, Dl.wFz, Dl.wfLst, Dl.wfList, Dl.wfCat, Dl.wSetOwn, Dl.wApp, Dl.wFreeze, Dl.wFreezeD, Dl.wIsi, Dl.wChain, Dl.wIfE, Dl.wSeq, Dl.wRng1, Dl.wRng2, Dl.wLc, Dl.wLcOwn, Dl.wFor, Dl.wPar, Dl.wDPut, Dl.wGet2, Dl.wLend, Dl.wLendT, Dl.wFld, Dl.wProp, Dl.wMeth, Dl.wMethK, Dl.wMakeM, Dl.wMakeMn, Dl.fMakeM, Dl.wStar, Dl.wSl, Dl.wNoP, Dl.wPart, Dl.wItOwn, Dl.wEnT, Dl.wEnL, Dl.wRaise1, Dl.wRaise2, Dl.wFldOwn, Dl.wMaxD, Dl.wDct0, Dl.wYes, Dl.fOwn, Dl.fOwnX, Dl.fOwnNe, Dl.fOwnNeX, Dl.fOwnIn, Dl.fOwnNotIn, Dl.fOwnLen, Dl.fOwnBool, Dl.gt, Dl.isB_bl, Dl.tru_bl, Dl.optI_some, Dl.slV_val, Dl.ownL_own, Dl.ownDI_own, Dl.lendI_own, Dl.lendI_ownD, Dl.seqI_tup, Dl.seqI_lst, Dl.tupI_tup, Dl.lstI_lst, Dl.intI_int, Dl.dctI_dct, Dl.keyI_int, Dl.insI_ins, Dl.ownIi_own, Dl.excI_exc, Dl.fOne_one, Dl.fI0_int, Dl.fI2_int, Dl.fLen_tup, Dl.fLen_lst, Dl.fTuple_tup, Dl.fTuple_lst, Dl.fInt_int, Dl.fInt_bl, Dl.fAdd_int, Dl.fAdd_tup, Dl.fAdd_lst, Dl.fNeg_int, Dl.fSl_tup, Dl.fSl_lst, Dl.gwTup_tup, Dl.gwUnl_lst, Dl.gwCons_cons, Dl.gwNil_nil, Dl.gwName_eq, Dl.lcD_nil, Dl.wipeS, List.set, if_true, if_false, Bool.false_eq_true, Bool.not_true, Bool.not_false, ite_true, ite_false])
  rw [show tyC (ga K "Plan") (Cs K) (planD K [(copySs as, false)]) = some true by show (if ga K "Plan" = ga K "Plan" then some true else _) = some true; rw [if_pos rfl]]
  (try simp only [Dl.wRet, Dl.wRetN, Dl.wThen, Dl.wIf, Dl.wOr, Dl.wAnd, Dl.wNot, Dl.wNotV, Dl.wAndV, Dl.wOrV, Dl.wB, Dl.wTru, Dl.wOp, Dl.wUn, Dl.wVar, Dl.wC, Dl.wF, Dl.wCons, Dl.wNil, Dl.wTup, Dl.wLst, Dl.wSet, Dl.wAsg, Dl.wNext, Dl.wDrop, Dl.wFz, Dl.wfLst, Dl.wfList, Dl.wfCat, Dl.wSetOwn, Dl.wApp, Dl.wFreeze, Dl.wFreezeD, Dl.wIsi, Dl.wChain, Dl.wIfE, Dl.wSeq, Dl.wRng1, Dl.wRng2, Dl.wLc, Dl.wLcOwn, Dl.wFor, Dl.wPar, Dl.wDPut, Dl.wGet2, Dl.wLend, Dl.wLendT, Dl.wFld, Dl.wProp, Dl.wMeth, Dl.wMethK, Dl.wMakeM, Dl.wMakeMn, Dl.fMakeM, Dl.wStar, Dl.wSl, Dl.wNoP, Dl.wPart, Dl.wItOwn, Dl.wEnT, Dl.wEnL, Dl.wRaise1, Dl.wRaise2, Dl.wFldOwn, Dl.wMaxD, Dl.wDct0, Dl.wYes, Dl.fOwn, Dl.fOwnX, Dl.fOwnNe, Dl.fOwnNeX, Dl.fOwnIn, Dl.fOwnNotIn, Dl.fOwnLen, Dl.fOwnBool, Dl.gt, Dl.isB_bl, Dl.tru_bl, Dl.optI_some, Dl.slV_val, Dl.ownL_own, Dl.ownDI_own, Dl.lendI_own, Dl.lendI_ownD, Dl.seqI_tup, Dl.seqI_lst, Dl.tupI_tup, Dl.lstI_lst, Dl.intI_int, Dl.dctI_dct, Dl.keyI_int, Dl.insI_ins, Dl.ownIi_own, Dl.excI_exc, Dl.fOne_one, Dl.fI0_int, Dl.fI2_int, Dl.fLen_tup, Dl.fLen_lst, Dl.fTuple_tup, Dl.fTuple_lst, Dl.fInt_int, Dl.fInt_bl, Dl.fAdd_int, Dl.fAdd_tup, Dl.fAdd_lst, Dl.fNeg_int, Dl.fSl_tup, Dl.fSl_lst, Dl.gwTup_tup, Dl.gwUnl_lst, Dl.gwCons_cons, Dl.gwNil_nil, Dl.gwName_eq, Dl.lcD_nil, Dl.wipeS, List.set, if_true, if_false, Bool.false_eq_true, Bool.not_true, Bool.not_false, ite_true, ite_false])
  refine own_plan ok ?_
  simp only [wJoin]
  (try simp only [Dl.wRet, Dl.wRetN, Dl.wThen, Dl.wIf, Dl.wOr, Dl.wAnd, Dl.wNot, Dl.wNotV, Dl.wAndV, Dl.wOrV, Dl.wB, Dl.wTru, Dl.wOp, Dl.wUn, Dl.wVar, Dl.wC, Dl.wF, Dl.wCons, Dl.wNil, Dl.wTup, Dl.wLst, Dl.wSet, Dl.wAsg, Dl.wNext, Dl.wDrop, Dl.wFz, Dl.wfLst, Dl.wfList, Dl.wfCat, Dl.wSetOwn, Dl.wApp, Dl.wFreeze, Dl.wFreezeD, Dl.wIsi, Dl.wChain, Dl.wIfE, Dl.wSeq, Dl.wRng1, Dl.wRng2, Dl.wLc, Dl.wLcOwn, Dl.wFor, Dl.wPar, Dl.wDPut, Dl.wGet2, Dl.wLend, Dl.wLendT, Dl.wFld, Dl.wProp, Dl.wMeth, Dl.wMethK, Dl.wMakeM, Dl.wMakeMn, Dl.fMakeM, Dl.wStar, Dl.wSl, Dl.wNoP, Dl.wPart, Dl.wItOwn, Dl.wEnT, Dl.wEnL, Dl.wRaise1, Dl.wRaise2, Dl.wFldOwn, Dl.wMaxD, Dl.wDct0, Dl.wYes, Dl.fOwn, Dl.fOwnX, Dl.fOwnNe, Dl.fOwnNeX, Dl.fOwnIn, Dl.fOwnNotIn, Dl.fOwnLen, Dl.fOwnBool, Dl.gt, Dl.isB_bl, Dl.tru_bl, Dl.optI_some, Dl.slV_val, Dl.ownL_own, Dl.ownDI_own, Dl.lendI_own, Dl.lendI_ownD, Dl.seqI_tup, Dl.seqI_lst, Dl.tupI_tup, Dl.lstI_lst, Dl.intI_int, Dl.dctI_dct, Dl.keyI_int, Dl.insI_ins, Dl.ownIi_own, Dl.excI_exc, Dl.fOne_one, Dl.fI0_int, Dl.fI2_int, Dl.fLen_tup, Dl.fLen_lst, Dl.fTuple_tup, Dl.fTuple_lst, Dl.fInt_int, Dl.fInt_bl, Dl.fAdd_int, Dl.fAdd_tup, Dl.fAdd_lst, Dl.fNeg_int, Dl.fSl_tup, Dl.fSl_lst, Dl.gwTup_tup, Dl.gwUnl_lst, Dl.gwCons_cons, Dl.gwNil_nil, Dl.gwName_eq, Dl.lcD_nil, Dl.wipeS, List.set, if_true, if_false, Bool.false_eq_true, Bool.not_true, Bool.not_false, ite_true, ite_false])
  rw [strI_str]
  refine ⟨by show 1 ≤ 1000; decide, ?_⟩
  rw [List.length_map]
  refine ⟨by omega, ?_⟩
  refine lc_on D.int (fun a => .str (numI a)) (fun a ha m kd qk => ?_) ?_
  · have := h.2 a ha
    (try simp only [Dl.wRet, Dl.wRetN, Dl.wThen, Dl.wIf, Dl.wOr, Dl.wAnd, Dl.wNot, Dl.wNotV, Dl.wAndV, Dl.wOrV, Dl.wB, Dl.wTru, Dl.wOp, Dl.wUn, Dl.wVar, Dl.wC, Dl.wF, Dl.wCons, Dl.wNil, Dl.wTup, Dl.wLst, Dl.wSet, Dl.wAsg, Dl.wNext, Dl.wDrop, Dl.wFz, Dl.wfLst, Dl.wfList, Dl.wfCat, Dl.wSetOwn, Dl.wApp, Dl.wFreeze, Dl.wFreezeD, Dl.wIsi, Dl.wChain, Dl.wIfE, Dl.wSeq, Dl.wRng1, Dl.wRng2, Dl.wLc, Dl.wLcOwn, Dl.wFor, Dl.wPar, Dl.wDPut, Dl.wGet2, Dl.wLend, Dl.wLendT, Dl.wFld, Dl.wProp, Dl.wMeth, Dl.wMethK, Dl.wMakeM, Dl.wMakeMn, Dl.fMakeM, Dl.wStar, Dl.wSl, Dl.wNoP, Dl.wPart, Dl.wItOwn, Dl.wEnT, Dl.wEnL, Dl.wRaise1, Dl.wRaise2, Dl.wFldOwn, Dl.wMaxD, Dl.wDct0, Dl.wYes, Dl.fOwn, Dl.fOwnX, Dl.fOwnNe, Dl.fOwnNeX, Dl.fOwnIn, Dl.fOwnNotIn, Dl.fOwnLen, Dl.fOwnBool, Dl.gt, Dl.isB_bl, Dl.tru_bl, Dl.optI_some, Dl.slV_val, Dl.ownL_own, Dl.ownDI_own, Dl.lendI_own, Dl.lendI_ownD, Dl.seqI_tup, Dl.seqI_lst, Dl.tupI_tup, Dl.lstI_lst, Dl.intI_int, Dl.dctI_dct, Dl.keyI_int, Dl.insI_ins, Dl.ownIi_own, Dl.excI_exc, Dl.fOne_one, Dl.fI0_int, Dl.fI2_int, Dl.fLen_tup, Dl.fLen_lst, Dl.fTuple_tup, Dl.fTuple_lst, Dl.fInt_int, Dl.fInt_bl, Dl.fAdd_int, Dl.fAdd_tup, Dl.fAdd_lst, Dl.fNeg_int, Dl.fSl_tup, Dl.fSl_lst, Dl.gwTup_tup, Dl.gwUnl_lst, Dl.gwCons_cons, Dl.gwNil_nil, Dl.gwName_eq, Dl.lcD_nil, Dl.wipeS, List.set, if_true, if_false, Bool.false_eq_true, Bool.not_true, Bool.not_false, ite_true, ite_false])
    exact ⟨log_small (by omega) (by omega), qk⟩
  rw [List.nil_append]
  refine ⟨by rw [List.length_map]; show 1 + as.length ≤ 100000; omega, ?_⟩
  rw [show ([D.str (Str.ofString "0")] ++ as.map fun a => D.str (numI a)) = (Str.ofString "0" :: as.map numI).map D.str by rw [List.map_cons, List.map_map]; rfl, strsI_lst]
  have sl := sums_len (ss := copySs as) (fun s hs => sok_of (copy_sm h.2 s hs)) (by unfold copySs; rw [List.length_cons, List.length_map]; omega)
  rw [map_sumT] at sl
  refine ⟨sl, ?_⟩
  rw [copy_text]
  have so := strOk_plan ok
  rw [copy_text] at so
  refine fNe_self (cmp_str so) ?_
  (try simp only [Dl.wRet, Dl.wRetN, Dl.wThen, Dl.wIf, Dl.wOr, Dl.wAnd, Dl.wNot, Dl.wNotV, Dl.wAndV, Dl.wOrV, Dl.wB, Dl.wTru, Dl.wOp, Dl.wUn, Dl.wVar, Dl.wC, Dl.wF, Dl.wCons, Dl.wNil, Dl.wTup, Dl.wLst, Dl.wSet, Dl.wAsg, Dl.wNext, Dl.wDrop, Dl.wFz, Dl.wfLst, Dl.wfList, Dl.wfCat, Dl.wSetOwn, Dl.wApp, Dl.wFreeze, Dl.wFreezeD, Dl.wIsi, Dl.wChain, Dl.wIfE, Dl.wSeq, Dl.wRng1, Dl.wRng2, Dl.wLc, Dl.wLcOwn, Dl.wFor, Dl.wPar, Dl.wDPut, Dl.wGet2, Dl.wLend, Dl.wLendT, Dl.wFld, Dl.wProp, Dl.wMeth, Dl.wMethK, Dl.wMakeM, Dl.wMakeMn, Dl.fMakeM, Dl.wStar, Dl.wSl, Dl.wNoP, Dl.wPart, Dl.wItOwn, Dl.wEnT, Dl.wEnL, Dl.wRaise1, Dl.wRaise2, Dl.wFldOwn, Dl.wMaxD, Dl.wDct0, Dl.wYes, Dl.fOwn, Dl.fOwnX, Dl.fOwnNe, Dl.fOwnNeX, Dl.fOwnIn, Dl.fOwnNotIn, Dl.fOwnLen, Dl.fOwnBool, Dl.gt, Dl.isB_bl, Dl.tru_bl, Dl.optI_some, Dl.slV_val, Dl.ownL_own, Dl.ownDI_own, Dl.lendI_own, Dl.lendI_ownD, Dl.seqI_tup, Dl.seqI_lst, Dl.tupI_tup, Dl.lstI_lst, Dl.intI_int, Dl.dctI_dct, Dl.keyI_int, Dl.insI_ins, Dl.ownIi_own, Dl.excI_exc, Dl.fOne_one, Dl.fI0_int, Dl.fI2_int, Dl.fLen_tup, Dl.fLen_lst, Dl.fTuple_tup, Dl.fTuple_lst, Dl.fInt_int, Dl.fInt_bl, Dl.fAdd_int, Dl.fAdd_tup, Dl.fAdd_lst, Dl.fNeg_int, Dl.fSl_tup, Dl.fSl_lst, Dl.gwTup_tup, Dl.gwUnl_lst, Dl.gwCons_cons, Dl.gwNil_nil, Dl.gwName_eq, Dl.lcD_nil, Dl.wipeS, List.set, if_true, if_false, Bool.false_eq_true, Bool.not_true, Bool.not_false, ite_true, ite_false])
  refine len_x ?_
  refine ⟨by show (0 : Int) ≤ 1; decide, by show (1 : Int) < 1000000; decide, ?_⟩
  refine fNe_int ?_
  rw [decide_eq_true (show (((([(copySs as, false)] : List Tk).length : Nat) : Int).toNat : Int) = 1 from rfl)]
  (try simp only [Dl.wRet, Dl.wRetN, Dl.wThen, Dl.wIf, Dl.wOr, Dl.wAnd, Dl.wNot, Dl.wNotV, Dl.wAndV, Dl.wOrV, Dl.wB, Dl.wTru, Dl.wOp, Dl.wUn, Dl.wVar, Dl.wC, Dl.wF, Dl.wCons, Dl.wNil, Dl.wTup, Dl.wLst, Dl.wSet, Dl.wAsg, Dl.wNext, Dl.wDrop, Dl.wFz, Dl.wfLst, Dl.wfList, Dl.wfCat, Dl.wSetOwn, Dl.wApp, Dl.wFreeze, Dl.wFreezeD, Dl.wIsi, Dl.wChain, Dl.wIfE, Dl.wSeq, Dl.wRng1, Dl.wRng2, Dl.wLc, Dl.wLcOwn, Dl.wFor, Dl.wPar, Dl.wDPut, Dl.wGet2, Dl.wLend, Dl.wLendT, Dl.wFld, Dl.wProp, Dl.wMeth, Dl.wMethK, Dl.wMakeM, Dl.wMakeMn, Dl.fMakeM, Dl.wStar, Dl.wSl, Dl.wNoP, Dl.wPart, Dl.wItOwn, Dl.wEnT, Dl.wEnL, Dl.wRaise1, Dl.wRaise2, Dl.wFldOwn, Dl.wMaxD, Dl.wDct0, Dl.wYes, Dl.fOwn, Dl.fOwnX, Dl.fOwnNe, Dl.fOwnNeX, Dl.fOwnIn, Dl.fOwnNotIn, Dl.fOwnLen, Dl.fOwnBool, Dl.gt, Dl.isB_bl, Dl.tru_bl, Dl.optI_some, Dl.slV_val, Dl.ownL_own, Dl.ownDI_own, Dl.lendI_own, Dl.lendI_ownD, Dl.seqI_tup, Dl.seqI_lst, Dl.tupI_tup, Dl.lstI_lst, Dl.intI_int, Dl.dctI_dct, Dl.keyI_int, Dl.insI_ins, Dl.ownIi_own, Dl.excI_exc, Dl.fOne_one, Dl.fI0_int, Dl.fI2_int, Dl.fLen_tup, Dl.fLen_lst, Dl.fTuple_tup, Dl.fTuple_lst, Dl.fInt_int, Dl.fInt_bl, Dl.fAdd_int, Dl.fAdd_tup, Dl.fAdd_lst, Dl.fNeg_int, Dl.fSl_tup, Dl.fSl_lst, Dl.gwTup_tup, Dl.gwUnl_lst, Dl.gwCons_cons, Dl.gwNil_nil, Dl.gwName_eq, Dl.lcD_nil, Dl.wipeS, List.set, if_true, if_false, Bool.false_eq_true, Bool.not_true, Bool.not_false, ite_true, ite_false])
  refine item_x (i := 0) (p := (copySs as, false)) rfl ?_
  show insI (ga K "Tick") (.ins (ga K "Tick") (tickF (copySs as) false)) _
  rw [insI_ins]
  refine ⟨_, look_mute, ?_⟩
  exact q
theorem u4 {s1 s2 : Sl} (hl : as.length ≤ 5) (hn : n ≤ 9980) (q : ∀ d : Nat, d ≤ as.length → E.nx (US K s1 s2 .un .un (.val (.int (d : Int))) as) (n + 1)) : U4 K (US K s1 s2 .un .un .un as) n E x := by
  unfold U4
  (try simp only [Dl.wRet, Dl.wRetN, Dl.wThen, Dl.wIf, Dl.wOr, Dl.wAnd, Dl.wNot, Dl.wNotV, Dl.wAndV, Dl.wOrV, Dl.wB, Dl.wTru, Dl.wOp, Dl.wUn, Dl.wVar, Dl.wC, Dl.wF, Dl.wCons, Dl.wNil, Dl.wTup, Dl.wLst, Dl.wSet, Dl.wAsg, Dl.wNext, Dl.wDrop, Dl.wFz, Dl.wfLst, Dl.wfList, Dl.wfCat, Dl.wSetOwn, Dl.wApp, Dl.wFreeze, Dl.wFreezeD, Dl.wIsi, Dl.wChain, Dl.wIfE, Dl.wSeq, Dl.wRng1, Dl.wRng2, Dl.wLc, Dl.wLcOwn, Dl.wFor, Dl.wPar, Dl.wDPut, Dl.wGet2, Dl.wLend, Dl.wLendT, Dl.wFld, Dl.wProp, Dl.wMeth, Dl.wMethK, Dl.wMakeM, Dl.wMakeMn, Dl.fMakeM, Dl.wStar, Dl.wSl, Dl.wNoP, Dl.wPart, Dl.wItOwn, Dl.wEnT, Dl.wEnL, Dl.wRaise1, Dl.wRaise2, Dl.wFldOwn, Dl.wMaxD, Dl.wDct0, Dl.wYes, Dl.fOwn, Dl.fOwnX, Dl.fOwnNe, Dl.fOwnNeX, Dl.fOwnIn, Dl.fOwnNotIn, Dl.fOwnLen, Dl.fOwnBool, Dl.gt, Dl.isB_bl, Dl.tru_bl, Dl.optI_some, Dl.slV_val, Dl.ownL_own, Dl.ownDI_own, Dl.lendI_own, Dl.lendI_ownD, Dl.seqI_tup, Dl.seqI_lst, Dl.tupI_tup, Dl.lstI_lst, Dl.intI_int, Dl.dctI_dct, Dl.keyI_int, Dl.insI_ins, Dl.ownIi_own, Dl.excI_exc, Dl.fOne_one, Dl.fI0_int, Dl.fI2_int, Dl.fLen_tup, Dl.fLen_lst, Dl.fTuple_tup, Dl.fTuple_lst, Dl.fInt_int, Dl.fInt_bl, Dl.fAdd_int, Dl.fAdd_tup, Dl.fAdd_lst, Dl.fNeg_int, Dl.fSl_tup, Dl.fSl_lst, Dl.gwTup_tup, Dl.gwUnl_lst, Dl.gwCons_cons, Dl.gwNil_nil, Dl.gwName_eq, Dl.lcD_nil, Dl.wipeS, List.set, if_true, if_false, Bool.false_eq_true, Bool.not_true, Bool.not_false, ite_true, ite_false])
  rw [List.length_map]
  refine ⟨by omega, by omega, by omega, fun d hd => ?_⟩
  exact q d (by omega)
/-- what is no age, or one that stands already -/
def Odd (pre : List Int) (y : D) : Prop := pln y = true ∧ ∀ i r, badAge i pre (y :: r) = some i
theorem odd_p {pre : List Int} {y : D} (hp : pln y = true) (h : ∀ a, y = .int a → ¬ (1 ≤ a ∧ a ≤ 8) ∨ a ∈ pre) : Odd pre y := ⟨hp, fun i r => by
  cases y with
  | int a =>
    rw [badAge]
    rcases h a rfl with h | h
    · rw [if_neg h]
    · by_cases c : 1 ≤ a ∧ a ≤ 8
      · rw [if_pos c, if_pos h]
      · rw [if_neg c]
  | _ => rfl⟩
theorem u5 {s1 s2 : Sl} {d : Nat} (hl : as.length ≤ 5) (hd : d ≤ as.length) (hn : n ≤ 9980) (q : ∀ y, Odd (as.take d) y → E.nx (US K s1 s2 .un (.val y) (.val (.int (d : Int))) as) (n + 1)) : U5 K (US K s1 s2 .un .un (.val (.int (d : Int))) as) n E x := by
  unfold U5
  (try simp only [Dl.wRet, Dl.wRetN, Dl.wThen, Dl.wIf, Dl.wOr, Dl.wAnd, Dl.wNot, Dl.wNotV, Dl.wAndV, Dl.wOrV, Dl.wB, Dl.wTru, Dl.wOp, Dl.wUn, Dl.wVar, Dl.wC, Dl.wF, Dl.wCons, Dl.wNil, Dl.wTup, Dl.wLst, Dl.wSet, Dl.wAsg, Dl.wNext, Dl.wDrop, Dl.wFz, Dl.wfLst, Dl.wfList, Dl.wfCat, Dl.wSetOwn, Dl.wApp, Dl.wFreeze, Dl.wFreezeD, Dl.wIsi, Dl.wChain, Dl.wIfE, Dl.wSeq, Dl.wRng1, Dl.wRng2, Dl.wLc, Dl.wLcOwn, Dl.wFor, Dl.wPar, Dl.wDPut, Dl.wGet2, Dl.wLend, Dl.wLendT, Dl.wFld, Dl.wProp, Dl.wMeth, Dl.wMethK, Dl.wMakeM, Dl.wMakeMn, Dl.fMakeM, Dl.wStar, Dl.wSl, Dl.wNoP, Dl.wPart, Dl.wItOwn, Dl.wEnT, Dl.wEnL, Dl.wRaise1, Dl.wRaise2, Dl.wFldOwn, Dl.wMaxD, Dl.wDct0, Dl.wYes, Dl.fOwn, Dl.fOwnX, Dl.fOwnNe, Dl.fOwnNeX, Dl.fOwnIn, Dl.fOwnNotIn, Dl.fOwnLen, Dl.fOwnBool, Dl.gt, Dl.isB_bl, Dl.tru_bl, Dl.optI_some, Dl.slV_val, Dl.ownL_own, Dl.ownDI_own, Dl.lendI_own, Dl.lendI_ownD, Dl.seqI_tup, Dl.seqI_lst, Dl.tupI_tup, Dl.lstI_lst, Dl.intI_int, Dl.dctI_dct, Dl.keyI_int, Dl.insI_ins, Dl.ownIi_own, Dl.excI_exc, Dl.fOne_one, Dl.fI0_int, Dl.fI2_int, Dl.fLen_tup, Dl.fLen_lst, Dl.fTuple_tup, Dl.fTuple_lst, Dl.fInt_int, Dl.fInt_bl, Dl.fAdd_int, Dl.fAdd_tup, Dl.fAdd_lst, Dl.fNeg_int, Dl.fSl_tup, Dl.fSl_lst, Dl.gwTup_tup, Dl.gwUnl_lst, Dl.gwCons_cons, Dl.gwNil_nil, Dl.gwName_eq, Dl.lcD_nil, Dl.wipeS, List.set, if_true, if_false, Bool.false_eq_true, Bool.not_true, Bool.not_false, ite_true, ite_false])
  rw [cutD_take, ← List.map_take]
  have hpB : Odd (as.take d) (.int (10 ^ 30)) := odd_p rfl fun a e => .inl (by injection e with e; rw [← e]; decide)
  refine ⟨by show 1 ≤ 1000; decide, by show 0 ≤ 1000; decide, ⟨by decide, by decide, by decide⟩, by show 9 ≤ 1000; decide, by rw [List.length_map, List.length_take]; show 9 + _ ≤ 100000; omega, ?_⟩
  refine ⟨by omega, by rw [List.length_append]; show 0 < 9 + _; omega, by rw [List.length_append, List.length_map, List.length_take]; show 9 + _ ≤ 1000; omega, fun y hy => q y ?_⟩
  rcases List.mem_append.mp hy with hy | hy
  · simp only [List.mem_cons, List.not_mem_nil, or_false] at hy
    rcases hy with rfl | rfl | rfl | rfl | rfl | rfl | rfl | rfl | rfl
    · exact odd_p rfl fun a e => by cases e
    · exact odd_p rfl fun a e => .inl (by injection e with e; omega)
    · exact odd_p rfl fun a e => .inl (by injection e with e; omega)
    · exact odd_p rfl fun a e => .inl (by injection e with e; omega)
    · exact odd_p rfl fun a e => by cases e
    · exact odd_p rfl fun a e => by cases e
    · exact odd_p rfl fun a e => by cases e
    · exact odd_p rfl fun a e => by cases e
    · exact hpB
  · obtain ⟨a, ha, rfl⟩ := List.mem_map.mp hy
    exact odd_p rfl fun b e => .inr (by injection e with e; rw [← e]; exact ha)
theorem num_ok {d : Nat} (h : d ≤ 6) : PyData.strOk (Str.ofString (toString ((d : Nat) : Int))) = true := by
  have : d = 0 ∨ d = 1 ∨ d = 2 ∨ d = 3 ∨ d = 4 ∨ d = 5 ∨ d = 6 := by omega
  rcases this with rfl | rfl | rfl | rfl | rfl | rfl | rfl <;> decide +kernel
abbrev tkD (d : Nat) : D := .tup [.str "tick", .str (Str.ofString (toString ((d : Nat) : Int)))]
theorem u6 {s1 s2 : Sl} {d : Nat} {y : D} (D' : Dis K) (h : In8 as) (hl : as.length ≤ 5) (hd : d ≤ as.length) (ho : Odd (as.take d) y) (q : E.nx (US K s1 s2 (.own [tkD d]) (.val y) (.val (.int (d : Int))) as) n) : U6 K (US K s1 s2 .un (.val y) (.val (.int (d : Int))) as) n E x := by
  unfold U6
  (try simp only [Dl.wRet, Dl.wRetN, Dl.wThen, Dl.wIf, Dl.wOr, Dl.wAnd, Dl.wNot, Dl.wNotV, Dl.wAndV, Dl.wOrV, Dl.wB, Dl.wTru, Dl.wOp, Dl.wUn, Dl.wVar, Dl.wC, Dl.wF, Dl.wCons, Dl.wNil, Dl.wTup, Dl.wLst, Dl.wSet, Dl.wAsg, Dl.wNext, Dl.wDrop, Dl.wFz, Dl.wfLst, Dl.wfList, Dl.wfCat, Dl.wSetOwn, Dl.wApp, Dl.wFreeze, Dl.wFreezeD, Dl.wIsi, Dl.wChain, Dl.wIfE, Dl.wSeq, Dl.wRng1, Dl.wRng2, Dl.wLc, Dl.wLcOwn, Dl.wFor, Dl.wPar, Dl.wDPut, Dl.wGet2, Dl.wLend, Dl.wLendT, Dl.wFld, Dl.wProp, Dl.wMeth, Dl.wMethK, Dl.wMakeM, Dl.wMakeMn, Dl.fMakeM, Dl.wStar, Dl.wSl, Dl.wNoP, Dl.wPart, Dl.wItOwn, Dl.wEnT, Dl.wEnL, Dl.wRaise1, Dl.wRaise2, Dl.wFldOwn, Dl.wMaxD, Dl.wDct0, Dl.wYes, Dl.fOwn, Dl.fOwnX, Dl.fOwnNe, Dl.fOwnNeX, Dl.fOwnIn, Dl.fOwnNotIn, Dl.fOwnLen, Dl.fOwnBool, Dl.gt, Dl.isB_bl, Dl.tru_bl, Dl.optI_some, Dl.slV_val, Dl.ownL_own, Dl.ownDI_own, Dl.lendI_own, Dl.lendI_ownD, Dl.seqI_tup, Dl.seqI_lst, Dl.tupI_tup, Dl.lstI_lst, Dl.intI_int, Dl.dctI_dct, Dl.keyI_int, Dl.insI_ins, Dl.ownIi_own, Dl.excI_exc, Dl.fOne_one, Dl.fI0_int, Dl.fI2_int, Dl.fLen_tup, Dl.fLen_lst, Dl.fTuple_tup, Dl.fTuple_lst, Dl.fInt_int, Dl.fInt_bl, Dl.fAdd_int, Dl.fAdd_tup, Dl.fAdd_lst, Dl.fNeg_int, Dl.fSl_tup, Dl.fSl_lst, Dl.gwTup_tup, Dl.gwUnl_lst, Dl.gwCons_cons, Dl.gwNil_nil, Dl.gwName_eq, Dl.lcD_nil, Dl.wipeS, List.set, if_true, if_false, Bool.false_eq_true, Bool.not_true, Bool.not_false, ite_true, ite_false])
  refine wheard_of ?_
  simp only [List.map_cons, List.map_nil, unO]
  (try simp only [Dl.wRet, Dl.wRetN, Dl.wThen, Dl.wIf, Dl.wOr, Dl.wAnd, Dl.wNot, Dl.wNotV, Dl.wAndV, Dl.wOrV, Dl.wB, Dl.wTru, Dl.wOp, Dl.wUn, Dl.wVar, Dl.wC, Dl.wF, Dl.wCons, Dl.wNil, Dl.wTup, Dl.wLst, Dl.wSet, Dl.wAsg, Dl.wNext, Dl.wDrop, Dl.wFz, Dl.wfLst, Dl.wfList, Dl.wfCat, Dl.wSetOwn, Dl.wApp, Dl.wFreeze, Dl.wFreezeD, Dl.wIsi, Dl.wChain, Dl.wIfE, Dl.wSeq, Dl.wRng1, Dl.wRng2, Dl.wLc, Dl.wLcOwn, Dl.wFor, Dl.wPar, Dl.wDPut, Dl.wGet2, Dl.wLend, Dl.wLendT, Dl.wFld, Dl.wProp, Dl.wMeth, Dl.wMethK, Dl.wMakeM, Dl.wMakeMn, Dl.fMakeM, Dl.wStar, Dl.wSl, Dl.wNoP, Dl.wPart, Dl.wItOwn, Dl.wEnT, Dl.wEnL, Dl.wRaise1, Dl.wRaise2, Dl.wFldOwn, Dl.wMaxD, Dl.wDct0, Dl.wYes, Dl.fOwn, Dl.fOwnX, Dl.fOwnNe, Dl.fOwnNeX, Dl.fOwnIn, Dl.fOwnNotIn, Dl.fOwnLen, Dl.fOwnBool, Dl.gt, Dl.isB_bl, Dl.tru_bl, Dl.optI_some, Dl.slV_val, Dl.ownL_own, Dl.ownDI_own, Dl.lendI_own, Dl.lendI_ownD, Dl.seqI_tup, Dl.seqI_lst, Dl.tupI_tup, Dl.lstI_lst, Dl.intI_int, Dl.dctI_dct, Dl.keyI_int, Dl.insI_ins, Dl.ownIi_own, Dl.excI_exc, Dl.fOne_one, Dl.fI0_int, Dl.fI2_int, Dl.fLen_tup, Dl.fLen_lst, Dl.fTuple_tup, Dl.fTuple_lst, Dl.fInt_int, Dl.fInt_bl, Dl.fAdd_int, Dl.fAdd_tup, Dl.fAdd_lst, Dl.fNeg_int, Dl.fSl_tup, Dl.fSl_lst, Dl.gwTup_tup, Dl.gwUnl_lst, Dl.gwCons_cons, Dl.gwNil_nil, Dl.gwName_eq, Dl.lcD_nil, Dl.wipeS, List.set, if_true, if_false, Bool.false_eq_true, Bool.not_true, Bool.not_false, ite_true, ite_false])
  rw [cutD_take, cutD_drop, ← List.map_take, ← List.map_drop]
  refine ⟨by show 1 ≤ 1000; decide, by rw [List.length_map, List.length_take]; show _ + 1 ≤ 100000; omega, ?_⟩
  refine ⟨by rw [List.length_append, List.length_map, List.length_map, List.length_take, List.length_drop]; show _ + 1 + _ ≤ 100000; omega, ?_⟩
  refine ⟨_, rfl, by rw [List.length_append, List.length_append, List.length_map, List.length_map, List.length_take, List.length_drop]; show _ + 1 + _ ≤ 7; omega, ?_⟩
  refine ⟨_, rfl, fun z hz => ?_, by rw [List.length_append, List.length_append, List.length_map, List.length_map, List.length_take, List.length_drop]; show _ + 1 + _ ≤ 7; omega, ?_⟩
  · rcases List.mem_append.mp hz with hz | hz
    · rcases List.mem_append.mp hz with hz | hz
      · exact pln_IL _ z hz
      · rw [List.mem_singleton.mp hz]
        exact ho.1
    · exact pln_IL _ z hz
  · have e := badAge_in (pre := as.take d) (i := 0) (acc := []) (r := [y] ++ IL (as.drop d)) (by rw [List.nil_append]; exact h.1.sublist (List.take_sublist _ _)) (fun a ha => h.2 a (List.mem_of_mem_take ha))
    rw [List.append_assoc, e, List.nil_append]
    show (match badAge _ _ (y :: IL (as.drop d)) with
      | some i => _
      | none => _)
    rw [ho.2]
    have ed : 0 + (as.take d).length = d := by rw [List.length_take]; omega
    rw [ed]
    dsimp only
    refine heard_tick D' ?_ ?_
    · have : d = 0 ∨ d = 1 ∨ d = 2 ∨ d = 3 ∨ d = 4 ∨ d = 5 := by omega
      rcases this with rfl | rfl | rfl | rfl | rfl | rfl <;> decide
    · refine ⟨by show 1 ≤ 1000; decide, ?_⟩
      exact q
theorem sizes_repr {y : D} (h : y ∈ [D.non, .int 0, .int 6, .int (-1), .bl true, .str "2", .tup [.int 2], .lst []]) : pln y = true ∧ wi 1 5 y = false ∧ ∃ t : Str, ∀ (m : Nat) (kd : KD) (x : KX), kd (.str t) m → fReprK y m kd x := by
  simp only [List.mem_cons, List.not_mem_nil, or_false] at h
  rcases h with rfl | rfl | rfl | rfl | rfl | rfl | rfl | rfl
  · exact ⟨rfl, rfl, _, fun m kd x q => ⟨.none, rfl, rfl, by decide, by decide +kernel, q⟩⟩
  · exact ⟨rfl, rfl, _, fun m kd x q => ⟨.int 0, rfl, rfl, by decide, by decide +kernel, q⟩⟩
  · exact ⟨rfl, rfl, _, fun m kd x q => ⟨.int 6, rfl, rfl, by decide, by decide +kernel, q⟩⟩
  · exact ⟨rfl, rfl, _, fun m kd x q => ⟨.int (-1), rfl, rfl, by decide, by decide +kernel, q⟩⟩
  · exact ⟨rfl, rfl, _, fun m kd x q => ⟨.bool true, rfl, rfl, by decide, by decide +kernel, q⟩⟩
  · exact ⟨rfl, rfl, _, fun m kd x q => ⟨.str "2", rfl, rfl, by decide, by decide +kernel, q⟩⟩
  · exact ⟨rfl, rfl, _, fun m kd x q => ⟨.tuple [.int 2], rfl, rfl, by decide, by decide +kernel, q⟩⟩
  · exact ⟨rfl, rfl, _, fun m kd x q => ⟨.list [], rfl, rfl, by decide, by decide +kernel, q⟩⟩
theorem u7 {s1 s2 : Sl} {d : Nat} {y : D} (D' : Dis K) (hn : n ≤ 9980) (q : ∀ t : Str, E.nx (US K s1 s2 (.own [tkD d, .tup [.str "count", .str t]]) (.val y) (.val (.int (d : Int))) as) (n + 1)) : U7 K (US K s1 s2 (.own [tkD d]) (.val y) (.val (.int (d : Int))) as) n E x := by
  unfold U7
  (try simp only [Dl.wRet, Dl.wRetN, Dl.wThen, Dl.wIf, Dl.wOr, Dl.wAnd, Dl.wNot, Dl.wNotV, Dl.wAndV, Dl.wOrV, Dl.wB, Dl.wTru, Dl.wOp, Dl.wUn, Dl.wVar, Dl.wC, Dl.wF, Dl.wCons, Dl.wNil, Dl.wTup, Dl.wLst, Dl.wSet, Dl.wAsg, Dl.wNext, Dl.wDrop, Dl.wFz, Dl.wfLst, Dl.wfList, Dl.wfCat, Dl.wSetOwn, Dl.wApp, Dl.wFreeze, Dl.wFreezeD, Dl.wIsi, Dl.wChain, Dl.wIfE, Dl.wSeq, Dl.wRng1, Dl.wRng2, Dl.wLc, Dl.wLcOwn, Dl.wFor, Dl.wPar, Dl.wDPut, Dl.wGet2, Dl.wLend, Dl.wLendT, Dl.wFld, Dl.wProp, Dl.wMeth, Dl.wMethK, Dl.wMakeM, Dl.wMakeMn, Dl.fMakeM, Dl.wStar, Dl.wSl, Dl.wNoP, Dl.wPart, Dl.wItOwn, Dl.wEnT, Dl.wEnL, Dl.wRaise1, Dl.wRaise2, Dl.wFldOwn, Dl.wMaxD, Dl.wDct0, Dl.wYes, Dl.fOwn, Dl.fOwnX, Dl.fOwnNe, Dl.fOwnNeX, Dl.fOwnIn, Dl.fOwnNotIn, Dl.fOwnLen, Dl.fOwnBool, Dl.gt, Dl.isB_bl, Dl.tru_bl, Dl.optI_some, Dl.slV_val, Dl.ownL_own, Dl.ownDI_own, Dl.lendI_own, Dl.lendI_ownD, Dl.seqI_tup, Dl.seqI_lst, Dl.tupI_tup, Dl.lstI_lst, Dl.intI_int, Dl.dctI_dct, Dl.keyI_int, Dl.insI_ins, Dl.ownIi_own, Dl.excI_exc, Dl.fOne_one, Dl.fI0_int, Dl.fI2_int, Dl.fLen_tup, Dl.fLen_lst, Dl.fTuple_tup, Dl.fTuple_lst, Dl.fInt_int, Dl.fInt_bl, Dl.fAdd_int, Dl.fAdd_tup, Dl.fAdd_lst, Dl.fNeg_int, Dl.fSl_tup, Dl.fSl_lst, Dl.gwTup_tup, Dl.gwUnl_lst, Dl.gwCons_cons, Dl.gwNil_nil, Dl.gwName_eq, Dl.lcD_nil, Dl.wipeS, List.set, if_true, if_false, Bool.false_eq_true, Bool.not_true, Bool.not_false, ite_true, ite_false])
  refine wheard_of ?_
  simp only [List.map_cons, List.map_nil, unO]
  (try simp only [Dl.wRet, Dl.wRetN, Dl.wThen, Dl.wIf, Dl.wOr, Dl.wAnd, Dl.wNot, Dl.wNotV, Dl.wAndV, Dl.wOrV, Dl.wB, Dl.wTru, Dl.wOp, Dl.wUn, Dl.wVar, Dl.wC, Dl.wF, Dl.wCons, Dl.wNil, Dl.wTup, Dl.wLst, Dl.wSet, Dl.wAsg, Dl.wNext, Dl.wDrop, Dl.wFz, Dl.wfLst, Dl.wfList, Dl.wfCat, Dl.wSetOwn, Dl.wApp, Dl.wFreeze, Dl.wFreezeD, Dl.wIsi, Dl.wChain, Dl.wIfE, Dl.wSeq, Dl.wRng1, Dl.wRng2, Dl.wLc, Dl.wLcOwn, Dl.wFor, Dl.wPar, Dl.wDPut, Dl.wGet2, Dl.wLend, Dl.wLendT, Dl.wFld, Dl.wProp, Dl.wMeth, Dl.wMethK, Dl.wMakeM, Dl.wMakeMn, Dl.fMakeM, Dl.wStar, Dl.wSl, Dl.wNoP, Dl.wPart, Dl.wItOwn, Dl.wEnT, Dl.wEnL, Dl.wRaise1, Dl.wRaise2, Dl.wFldOwn, Dl.wMaxD, Dl.wDct0, Dl.wYes, Dl.fOwn, Dl.fOwnX, Dl.fOwnNe, Dl.fOwnNeX, Dl.fOwnIn, Dl.fOwnNotIn, Dl.fOwnLen, Dl.fOwnBool, Dl.gt, Dl.isB_bl, Dl.tru_bl, Dl.optI_some, Dl.slV_val, Dl.ownL_own, Dl.ownDI_own, Dl.lendI_own, Dl.lendI_ownD, Dl.seqI_tup, Dl.seqI_lst, Dl.tupI_tup, Dl.lstI_lst, Dl.intI_int, Dl.dctI_dct, Dl.keyI_int, Dl.insI_ins, Dl.ownIi_own, Dl.excI_exc, Dl.fOne_one, Dl.fI0_int, Dl.fI2_int, Dl.fLen_tup, Dl.fLen_lst, Dl.fTuple_tup, Dl.fTuple_lst, Dl.fInt_int, Dl.fInt_bl, Dl.fAdd_int, Dl.fAdd_tup, Dl.fAdd_lst, Dl.fNeg_int, Dl.fSl_tup, Dl.fSl_lst, Dl.gwTup_tup, Dl.gwUnl_lst, Dl.gwCons_cons, Dl.gwNil_nil, Dl.gwName_eq, Dl.lcD_nil, Dl.wipeS, List.set, if_true, if_false, Bool.false_eq_true, Bool.not_true, Bool.not_false, ite_true, ite_false])
  refine ⟨by show 1 ≤ 1000; decide, by show 0 ≤ 1000; decide, by show 8 ≤ 1000; decide, by omega, by show 0 < 8; decide, by show 8 ≤ 1000; decide, fun z hz => ?_⟩
  obtain ⟨h1, h2, t, h3⟩ := sizes_repr hz
  refine ⟨z, rfl, h1, .inr ⟨h2, ?_⟩⟩
  refine heard_count D' h3 ?_
  refine ⟨by show 1 ≤ 100000; decide, ?_⟩
  exact q t
theorem ok_tick : PyData.strOk ("tick" : Str) = true := by decide +kernel
theorem ok_count : PyData.strOk ("count" : Str) = true := by decide +kernel
theorem log_d {d : Nat} (h : d ≤ 6) : ((d : Nat) : Int).natAbs.log2 < 1920 := by
  have : d = 0 ∨ d = 1 ∨ d = 2 ∨ d = 3 ∨ d = 4 ∨ d = 5 ∨ d = 6 := by omega
  rcases this with rfl | rfl | rfl | rfl | rfl | rfl | rfl <;> decide
theorem cmp_two {a b : Str} (ha : PyData.strOk a = true) (hb : PyData.strOk b = true) : cmpD (.tup [.str a, .str b]) = true := by
  show SeqAt.shaped (.tuple [.str a, .str b]) = true
  simp [SeqAt.shaped, PyData.canLay0, PyData.canLayAll0, ha, hb, PyData.depth, PyData.depthAll]
theorem ix0 {a b : D} : fIx (.lst [a, b]) (.int 0) n k x = k a n := rfl
theorem ix1 {a b : D} : fIx (.lst [a, b]) (.int 1) n k x = k b n := rfl
theorem ixt {a b : D} : fIx (.tup [a, b]) (.int 0) n k x = k a n := rfl
theorem u8 {s1 s2 : Sl} {d : Nat} {y : D} {t : Str} (hd : d ≤ 6) (q : E.rt (.bl true) n) : U8 K (US K s1 s2 (.own [tkD d, .tup [.str "count", .str t]]) (.val y) (.val (.int (d : Int))) as) n E x := by
  unfold U8
  (try simp only [Dl.wRet, Dl.wRetN, Dl.wThen, Dl.wIf, Dl.wOr, Dl.wAnd, Dl.wNot, Dl.wNotV, Dl.wAndV, Dl.wOrV, Dl.wB, Dl.wTru, Dl.wOp, Dl.wUn, Dl.wVar, Dl.wC, Dl.wF, Dl.wCons, Dl.wNil, Dl.wTup, Dl.wLst, Dl.wSet, Dl.wAsg, Dl.wNext, Dl.wDrop, Dl.wFz, Dl.wfLst, Dl.wfList, Dl.wfCat, Dl.wSetOwn, Dl.wApp, Dl.wFreeze, Dl.wFreezeD, Dl.wIsi, Dl.wChain, Dl.wIfE, Dl.wSeq, Dl.wRng1, Dl.wRng2, Dl.wLc, Dl.wLcOwn, Dl.wFor, Dl.wPar, Dl.wDPut, Dl.wGet2, Dl.wLend, Dl.wLendT, Dl.wFld, Dl.wProp, Dl.wMeth, Dl.wMethK, Dl.wMakeM, Dl.wMakeMn, Dl.fMakeM, Dl.wStar, Dl.wSl, Dl.wNoP, Dl.wPart, Dl.wItOwn, Dl.wEnT, Dl.wEnL, Dl.wRaise1, Dl.wRaise2, Dl.wFldOwn, Dl.wMaxD, Dl.wDct0, Dl.wYes, Dl.fOwn, Dl.fOwnX, Dl.fOwnNe, Dl.fOwnNeX, Dl.fOwnIn, Dl.fOwnNotIn, Dl.fOwnLen, Dl.fOwnBool, Dl.gt, Dl.isB_bl, Dl.tru_bl, Dl.optI_some, Dl.slV_val, Dl.ownL_own, Dl.ownDI_own, Dl.lendI_own, Dl.lendI_ownD, Dl.seqI_tup, Dl.seqI_lst, Dl.tupI_tup, Dl.lstI_lst, Dl.intI_int, Dl.dctI_dct, Dl.keyI_int, Dl.insI_ins, Dl.ownIi_own, Dl.excI_exc, Dl.fOne_one, Dl.fI0_int, Dl.fI2_int, Dl.fLen_tup, Dl.fLen_lst, Dl.fTuple_tup, Dl.fTuple_lst, Dl.fInt_int, Dl.fInt_bl, Dl.fAdd_int, Dl.fAdd_tup, Dl.fAdd_lst, Dl.fNeg_int, Dl.fSl_tup, Dl.fSl_lst, Dl.gwTup_tup, Dl.gwUnl_lst, Dl.gwCons_cons, Dl.gwNil_nil, Dl.gwName_eq, Dl.lcD_nil, Dl.wipeS, List.set, if_true, if_false, Bool.false_eq_true, Bool.not_true, Bool.not_false, ite_true, ite_false])
  rw [ix0]
  refine repr_int (log_d hd) ?_
  refine ⟨by show 2 ≤ 1000; decide, ?_⟩
  refine fEq_self (cmp_two ok_tick (num_ok hd)) ?_
  (try simp only [Dl.wRet, Dl.wRetN, Dl.wThen, Dl.wIf, Dl.wOr, Dl.wAnd, Dl.wNot, Dl.wNotV, Dl.wAndV, Dl.wOrV, Dl.wB, Dl.wTru, Dl.wOp, Dl.wUn, Dl.wVar, Dl.wC, Dl.wF, Dl.wCons, Dl.wNil, Dl.wTup, Dl.wLst, Dl.wSet, Dl.wAsg, Dl.wNext, Dl.wDrop, Dl.wFz, Dl.wfLst, Dl.wfList, Dl.wfCat, Dl.wSetOwn, Dl.wApp, Dl.wFreeze, Dl.wFreezeD, Dl.wIsi, Dl.wChain, Dl.wIfE, Dl.wSeq, Dl.wRng1, Dl.wRng2, Dl.wLc, Dl.wLcOwn, Dl.wFor, Dl.wPar, Dl.wDPut, Dl.wGet2, Dl.wLend, Dl.wLendT, Dl.wFld, Dl.wProp, Dl.wMeth, Dl.wMethK, Dl.wMakeM, Dl.wMakeMn, Dl.fMakeM, Dl.wStar, Dl.wSl, Dl.wNoP, Dl.wPart, Dl.wItOwn, Dl.wEnT, Dl.wEnL, Dl.wRaise1, Dl.wRaise2, Dl.wFldOwn, Dl.wMaxD, Dl.wDct0, Dl.wYes, Dl.fOwn, Dl.fOwnX, Dl.fOwnNe, Dl.fOwnNeX, Dl.fOwnIn, Dl.fOwnNotIn, Dl.fOwnLen, Dl.fOwnBool, Dl.gt, Dl.isB_bl, Dl.tru_bl, Dl.optI_some, Dl.slV_val, Dl.ownL_own, Dl.ownDI_own, Dl.lendI_own, Dl.lendI_ownD, Dl.seqI_tup, Dl.seqI_lst, Dl.tupI_tup, Dl.lstI_lst, Dl.intI_int, Dl.dctI_dct, Dl.keyI_int, Dl.insI_ins, Dl.ownIi_own, Dl.excI_exc, Dl.fOne_one, Dl.fI0_int, Dl.fI2_int, Dl.fLen_tup, Dl.fLen_lst, Dl.fTuple_tup, Dl.fTuple_lst, Dl.fInt_int, Dl.fInt_bl, Dl.fAdd_int, Dl.fAdd_tup, Dl.fAdd_lst, Dl.fNeg_int, Dl.fSl_tup, Dl.fSl_lst, Dl.gwTup_tup, Dl.gwUnl_lst, Dl.gwCons_cons, Dl.gwNil_nil, Dl.gwName_eq, Dl.lcD_nil, Dl.wipeS, List.set, if_true, if_false, Bool.false_eq_true, Bool.not_true, Bool.not_false, ite_true, ite_false])
  rw [ix1, ixt]
  exact fEq_self (cmp_str ok_count) q
theorem dt_l_turn_right (D' : Dis K) (h : c_l_turn_right K ds n k x) : W_l_turn_right K (startD ["_law_pen_here", "_law_left", "_law_turn", "_law_plan", "_law_heard_here", "_law_ages", "_law_odd", "_law_spot", "_law_age"] ds) n { nx := fun _ n' => k .non n', rt := k } x := by
  obtain ⟨rfl, hn, q⟩ := h
  rw [U_eq]
  show wThen (U0 K) (wThen (U1 K) _) _ n _ x
  refine u01 (K := K) (E := { nx := _, rt := k }) (by omega) fun ls as t2 n1 h8 hl h1 => ?_
  show (wThen (U2 K) _) [.val .pen, .own (IL ls), t2, .un, .un, .val (.lst (IL as)), .un, .un, .un] n1 _ x
  refine then_ ?_
  refine u2 (K := K) h8 hl ?_
  dsimp only
  refine then_ ?_
  refine u3 (K := K) h8 hl ?_
  dsimp only
  refine then_ ?_
  refine u4 (K := K) hl (by omega) fun d hd => ?_
  dsimp only
  refine then_ ?_
  refine u5 (K := K) hl hd (by omega) fun y ho => ?_
  dsimp only
  refine then_ ?_
  refine u6 (K := K) D' h8 hl hd ho ?_
  dsimp only
  refine then_ ?_
  refine u7 (K := K) D' (by omega) fun t => ?_
  dsimp only
  exact u8 (K := K) (by omega) (q _ (by omega))
end
end Lz

set_option Elab.async false
set_option linter.all false
set_option maxRecDepth 100000
set_option maxHeartbeats 4000000
namespace Lz
open PySem PySem.Spec PyProof.Rows L2 LamX Dl Xt TL
def VB (K : PySem.W.Frag) : WS :=
  (wThen (wSet 4 (wFK 1 (c_parity K) (wCons (wVar 3) wNil)))
    (wThen (wSet 5 (wOp fAdd (wLc (wRng1 (wVar 3)) [2] (gwName 2) wYes (wMakeMn (ga K "Tick") (c_Tick_init K) (.bl false) (wCons (wTup (wCons (wC (.int 0)) wNil)) wNil))) (wLst (wCons (wMakeM (ga K "Tick") (c_Tick_init K) (wCons (wTupRg (wC (.int 1)) (wOp fAdd (wVar 3) (wC (.int 1)))) wNil) (wC (.bl true))) wNil))))
    (wIf (wOr (wB (wOp (fEqO true (ga K "Tick") (c_Tick_eq K)) (wLc (wItOwn (ga K "Plan") "_ticks" (wVar 4)) [7] (gwName 7) wYes (wVar 7)) (wVar 5))) (wB (wOp fNe (wProp (ga K "Plan") (c_Plan_rate K) (wVar 4)) (wTup (wCons (wOp fAdd (wVar 3) (wC (.int 1))) (wCons (wVar 3) wNil))))))
      (wRet (wC (.bl false)))
      wNext)))
def V0 (K : PySem.W.Frag) : WS :=
  (wFor (wRng1 (wC (.int 10))) (gwName 2)
      (wIf (wNot (wTru (wF (c_l_turn_right K) (wCons (wVar 1) wNil))))
      (wRet (wC (.bl false)))
      wNext))
def V1 (K : PySem.W.Frag) : WS :=
  (wFor (wRng2 (wC (.int 1)) (wC (.int 6))) (gwName 3)
      (wThen (wSet 4 (wFK 1 (c_parity K) (wCons (wVar 3) wNil)))
    (wThen (wSet 5 (wOp fAdd (wLc (wRng1 (wVar 3)) [2] (gwName 2) wYes (wMakeMn (ga K "Tick") (c_Tick_init K) (.bl false) (wCons (wTup (wCons (wC (.int 0)) wNil)) wNil))) (wLst (wCons (wMakeM (ga K "Tick") (c_Tick_init K) (wCons (wTupRg (wC (.int 1)) (wOp fAdd (wVar 3) (wC (.int 1)))) wNil) (wC (.bl true))) wNil))))
    (wIf (wOr (wB (wOp (fEqO true (ga K "Tick") (c_Tick_eq K)) (wLc (wItOwn (ga K "Plan") "_ticks" (wVar 4)) [7] (gwName 7) wYes (wVar 7)) (wVar 5))) (wB (wOp fNe (wProp (ga K "Plan") (c_Plan_rate K) (wVar 4)) (wTup (wCons (wOp fAdd (wVar 3) (wC (.int 1))) (wCons (wVar 3) wNil))))))
      (wRet (wC (.bl false)))
      wNext))))
def V2 (K : PySem.W.Frag) : WS :=
  (wSetOwn 6 (wfLst (wCons (wHeard N_l_heard (W_l_heard K) (wFV (c_copies K) (wCons (wC (.int 1)) (wCons (wC (.int 2)) (wCons (wC (.int 3)) (wCons (wC (.int 4)) (wCons (wC (.int 5)) (wCons (wC (.int 6)) wNil)))))))) wNil)))
def V3 (K : PySem.W.Frag) : WS :=
  (wApp 6 (wHeard N_l_heard (W_l_heard K) (wFV (c_copies K) (wCons (wC (.int 1)) (wCons (wC (.int 2)) (wCons (wC (.int 3)) (wCons (wC (.int 4)) (wCons (wC (.int 5)) (wCons (wC (.int 6)) (wCons (wC (.int 1)) wNil))))))))))
def V4 (K : PySem.W.Frag) : WS :=
  (wApp 6 (wHeard N_l_heard (W_l_heard K) (wF (c_parity K) (wCons (wC (.int 6)) wNil))))
def V5 (K : PySem.W.Frag) : WS :=
  (wApp 6 (wHeard N_l_heard (W_l_heard K) (wFV (c_copies K) (wCons (wC (.int 2)) (wCons (wC (.int 2)) (wCons (wC (.int 9)) wNil))))))
def V6 (K : PySem.W.Frag) : WS :=
  (wFreeze 6 (wRet (wOp fEq (wVar 6) (wLst (wCons (wTup (wCons (wC (.str "sums")) (wCons (wC (.int 6)) wNil))) (wCons (wTup (wCons (wC (.str "tick")) (wCons (wC (.str "6")) wNil))) (wCons (wTup (wCons (wC (.str "count")) (wCons (wC (.str "6")) wNil))) (wCons (wTup (wCons (wC (.str "tick")) (wCons (wC (.str "1")) wNil))) wNil))))))))
theorem V_eq {K : PySem.W.Frag} : W_law K = wThen (V0 K) (wThen (V1 K) (wThen (V2 K) (wThen (V3 K) (wThen (V4 K) (wThen (V5 K) (V6 K)))))) := rfl
section
variable {K : PySem.W.Frag} {ds : List D} {n : Nat} {k : KD} {x : KX} {E : DEnds}
abbrev VS (t2 t3 t4 t5 t6 : Sl) : List Sl := [.un, .val .pen, t2, t3, t4, t5, t6, .un]
theorem v0 (q : ∀ t n', n' ≤ 300 → E.nx (VS t .un .un .un .un) n') : V0 K (VS .un .un .un .un .un) 0 E x := by
  unfold V0
  (try simp only [Dl.wRet, Dl.wRetN, Dl.wThen, Dl.wIf, Dl.wOr, Dl.wAnd, Dl.wNot, Dl.wNotV, Dl.wAndV, Dl.wOrV, Dl.wB, Dl.wTru, Dl.wOp, Dl.wUn, Dl.wVar, Dl.wC, Dl.wF, Dl.wCons, Dl.wNil, Dl.wTup, Dl.wLst, Dl.wSet, Dl.wAsg, Dl.wNext, Dl.wDrop, Dl.wFz, Dl.wfLst, Dl.wfList, Dl.wfCat, Dl.wSetOwn, Dl.wApp, Dl.wFreeze, Dl.wFreezeD, Dl.wIsi, Dl.wChain, Dl.wIfE, Dl.wSeq, Dl.wRng1, Dl.wRng2, Dl.wLc, Dl.wLcOwn, Dl.wFor, Dl.wPar, Dl.wDPut, Dl.wGet2, Dl.wLend, Dl.wLendT, Dl.wFld, Dl.wProp, Dl.wMeth, Dl.wMethK, Dl.wMakeM, Dl.wMakeMn, Dl.fMakeM, Dl.wStar, Dl.wSl, Dl.wNoP, Dl.wPart, Dl.wItOwn, Dl.wEnT, Dl.wEnL, Dl.wRaise1, Dl.wRaise2, Dl.wFldOwn, Dl.wMaxD, Dl.wDct0, Dl.wYes, Dl.fOwn, Dl.fOwnX, Dl.fOwnNe, Dl.fOwnNeX, Dl.fOwnIn, Dl.fOwnNotIn, Dl.fOwnLen, Dl.fOwnBool, Dl.gt, Dl.isB_bl, Dl.tru_bl, Dl.optI_some, Dl.slV_val, Dl.ownL_own, Dl.ownDI_own, Dl.lendI_own, Dl.lendI_ownD, Dl.seqI_tup, Dl.seqI_lst, Dl.tupI_tup, Dl.lstI_lst, Dl.intI_int, Dl.dctI_dct, Dl.keyI_int, Dl.insI_ins, Dl.ownIi_own, Dl.excI_exc, Dl.fOne_one, Dl.fI0_int, Dl.fI2_int, Dl.fLen_tup, Dl.fLen_lst, Dl.fTuple_tup, Dl.fTuple_lst, Dl.fInt_int, Dl.fInt_bl, Dl.fAdd_int, Dl.fAdd_tup, Dl.fAdd_lst, Dl.fNeg_int, Dl.fSl_tup, Dl.fSl_lst, Dl.gwTup_tup, Dl.gwUnl_lst, Dl.gwCons_cons, Dl.gwNil_nil, Dl.gwName_eq, Dl.lcD_nil, Dl.wipeS, List.set, if_true, if_false, Bool.false_eq_true, Bool.not_true, Bool.not_false, ite_true, ite_false])
  refine ⟨by decide, ?_⟩
  refine for_inv (fun r S m => ∃ t, S = VS t .un .un .un .un ∧ m + 20 * r.length ≤ 300) (fun d r S m R hI hR => ?_) (fun S m hI => ?_) _ _ _ ⟨.un, rfl, by rw [rngD_len]; decide⟩
  · obtain ⟨t, rfl, hm⟩ := hI
    rw [List.length_cons] at hm
    refine ⟨rfl, by omega, fun n' hn' => ?_⟩
    (try simp only [Dl.wRet, Dl.wRetN, Dl.wThen, Dl.wIf, Dl.wOr, Dl.wAnd, Dl.wNot, Dl.wNotV, Dl.wAndV, Dl.wOrV, Dl.wB, Dl.wTru, Dl.wOp, Dl.wUn, Dl.wVar, Dl.wC, Dl.wF, Dl.wCons, Dl.wNil, Dl.wTup, Dl.wLst, Dl.wSet, Dl.wAsg, Dl.wNext, Dl.wDrop, Dl.wFz, Dl.wfLst, Dl.wfList, Dl.wfCat, Dl.wSetOwn, Dl.wApp, Dl.wFreeze, Dl.wFreezeD, Dl.wIsi, Dl.wChain, Dl.wIfE, Dl.wSeq, Dl.wRng1, Dl.wRng2, Dl.wLc, Dl.wLcOwn, Dl.wFor, Dl.wPar, Dl.wDPut, Dl.wGet2, Dl.wLend, Dl.wLendT, Dl.wFld, Dl.wProp, Dl.wMeth, Dl.wMethK, Dl.wMakeM, Dl.wMakeMn, Dl.fMakeM, Dl.wStar, Dl.wSl, Dl.wNoP, Dl.wPart, Dl.wItOwn, Dl.wEnT, Dl.wEnL, Dl.wRaise1, Dl.wRaise2, Dl.wFldOwn, Dl.wMaxD, Dl.wDct0, Dl.wYes, Dl.fOwn, Dl.fOwnX, Dl.fOwnNe, Dl.fOwnNeX, Dl.fOwnIn, Dl.fOwnNotIn, Dl.fOwnLen, Dl.fOwnBool, Dl.gt, Dl.isB_bl, Dl.tru_bl, Dl.optI_some, Dl.slV_val, Dl.ownL_own, Dl.ownDI_own, Dl.lendI_own, Dl.lendI_ownD, Dl.seqI_tup, Dl.seqI_lst, Dl.tupI_tup, Dl.lstI_lst, Dl.intI_int, Dl.dctI_dct, Dl.keyI_int, Dl.insI_ins, Dl.ownIi_own, Dl.excI_exc, Dl.fOne_one, Dl.fI0_int, Dl.fI2_int, Dl.fLen_tup, Dl.fLen_lst, Dl.fTuple_tup, Dl.fTuple_lst, Dl.fInt_int, Dl.fInt_bl, Dl.fAdd_int, Dl.fAdd_tup, Dl.fAdd_lst, Dl.fNeg_int, Dl.fSl_tup, Dl.fSl_lst, Dl.gwTup_tup, Dl.gwUnl_lst, Dl.gwCons_cons, Dl.gwNil_nil, Dl.gwName_eq, Dl.lcD_nil, Dl.wipeS, List.set, if_true, if_false, Bool.false_eq_true, Bool.not_true, Bool.not_false, ite_true, ite_false])
    exact hR _ _ ⟨_, rfl, by omega⟩
  · obtain ⟨t, rfl, hm⟩ := hI
    exact q t m (by simpa using hm)
theorem par_len {m : Nat} : (parTs m).length = m + 1 := by
  unfold parTs
  rw [List.length_append, List.length_replicate]
  rfl
theorem par_sums {m : Nat} (h1 : 1 ≤ m) (h5 : m ≤ 5) : ((parTs m).map fun p => p.1.length).sum = m + 1 ∧ ((parTs m).filter fun p => !p.2).length = m ∧ ∀ p ∈ parTs m, p.1.length ≤ 100 := by
  have : m = 1 ∨ m = 2 ∨ m = 3 ∨ m = 4 ∨ m = 5 := by omega
  rcases this with rfl | rfl | rfl | rfl | rfl <;> exact ⟨by decide, by decide, by decide⟩
theorem rate_x {kk : D → Nat → Prop} {m : Nat} (h1 : 1 ≤ m) (h5 : m ≤ 5) (q : kk (.tup [.int ((m : Int) + 1), .int (m : Int)]) n) : insI (ga K "Plan") (planD K (parTs m)) fun _ => c_Plan_rate K [planD K (parTs m)] n kk x := by
  obtain ⟨e1, e2, e3⟩ := par_sums h1 h5
  unfold planD
  rw [insI_ins]
  refine ⟨parTs m, rfl, by rw [par_len]; omega, e3, ?_⟩
  rw [e1, e2, Int.natCast_add]
  exact q
theorem cmp_pair (a b : Int) : cmpD (.tup [.int a, .int b]) = true := by
  show SeqAt.shaped (.tuple [.int a, .int b]) = true
  simp [SeqAt.shaped, PyData.canLay0, PyData.canLayAll0, PyData.depth, PyData.depthAll]
theorem pl_x {kk : List (Str × D) → Prop} {ps : List Tk} (q : kk (planF K ps)) : insI (ga K "Plan") (planD K ps) kk := by
  unfold planD
  rw [insI_ins]
  exact q
theorem vb {t2 t4 t5 : Sl} {m : Nat} (m1 : 1 ≤ m) (m5 : m ≤ 5) (q : ∀ t4 t5, E.nx (VS t2 (.val (.int (m : Int))) t4 t5 .un) n) : VB K (VS t2 (.val (.int (m : Int))) t4 t5 .un) n E x := by
  obtain ⟨o1, o0⟩ := parS_ok m1 m5
  unfold VB
  (try simp only [Dl.wRet, Dl.wRetN, Dl.wThen, Dl.wIf, Dl.wOr, Dl.wAnd, Dl.wNot, Dl.wNotV, Dl.wAndV, Dl.wOrV, Dl.wB, Dl.wTru, Dl.wOp, Dl.wUn, Dl.wVar, Dl.wC, Dl.wF, Dl.wCons, Dl.wNil, Dl.wTup, Dl.wLst, Dl.wSet, Dl.wAsg, Dl.wNext, Dl.wDrop, Dl.wFz, Dl.wfLst, Dl.wfList, Dl.wfCat, Dl.wSetOwn, Dl.wApp, Dl.wFreeze, Dl.wFreezeD, Dl.wIsi, Dl.wChain, Dl.wIfE, Dl.wSeq, Dl.wRng1, Dl.wRng2, Dl.wLc, Dl.wLcOwn, Dl.wFor, Dl.wPar, Dl.wDPut, Dl.wGet2, Dl.wLend, Dl.wLendT, Dl.wFld, Dl.wProp, Dl.wMeth, Dl.wMethK, Dl.wMakeM, Dl.wMakeMn, Dl.fMakeM, Dl.wStar, Dl.wSl, Dl.wNoP, Dl.wPart, Dl.wItOwn, Dl.wEnT, Dl.wEnL, Dl.wRaise1, Dl.wRaise2, Dl.wFldOwn, Dl.wMaxD, Dl.wDct0, Dl.wYes, Dl.fOwn, Dl.fOwnX, Dl.fOwnNe, Dl.fOwnNeX, Dl.fOwnIn, Dl.fOwnNotIn, Dl.fOwnLen, Dl.fOwnBool, Dl.gt, Dl.isB_bl, Dl.tru_bl, Dl.optI_some, Dl.slV_val, Dl.ownL_own, Dl.ownDI_own, Dl.lendI_own, Dl.lendI_ownD, Dl.seqI_tup, Dl.seqI_lst, Dl.tupI_tup, Dl.lstI_lst, Dl.intI_int, Dl.dctI_dct, Dl.keyI_int, Dl.insI_ins, Dl.ownIi_own, Dl.excI_exc, Dl.fOne_one, Dl.fI0_int, Dl.fI2_int, Dl.fLen_tup, Dl.fLen_lst, Dl.fTuple_tup, Dl.fTuple_lst, Dl.fInt_int, Dl.fInt_bl, Dl.fAdd_int, Dl.fAdd_tup, Dl.fAdd_lst, Dl.fNeg_int, Dl.fSl_tup, Dl.fSl_lst, Dl.gwTup_tup, Dl.gwUnl_lst, Dl.gwCons_cons, Dl.gwNil_nil, Dl.gwName_eq, Dl.lcD_nil, Dl.wipeS, List.set, if_true, if_false, Bool.false_eq_true, Bool.not_true, Bool.not_false, ite_true, ite_false])
  simp only [wFK]
  (try simp only [Dl.wRet, Dl.wRetN, Dl.wThen, Dl.wIf, Dl.wOr, Dl.wAnd, Dl.wNot, Dl.wNotV, Dl.wAndV, Dl.wOrV, Dl.wB, Dl.wTru, Dl.wOp, Dl.wUn, Dl.wVar, Dl.wC, Dl.wF, Dl.wCons, Dl.wNil, Dl.wTup, Dl.wLst, Dl.wSet, Dl.wAsg, Dl.wNext, Dl.wDrop, Dl.wFz, Dl.wfLst, Dl.wfList, Dl.wfCat, Dl.wSetOwn, Dl.wApp, Dl.wFreeze, Dl.wFreezeD, Dl.wIsi, Dl.wChain, Dl.wIfE, Dl.wSeq, Dl.wRng1, Dl.wRng2, Dl.wLc, Dl.wLcOwn, Dl.wFor, Dl.wPar, Dl.wDPut, Dl.wGet2, Dl.wLend, Dl.wLendT, Dl.wFld, Dl.wProp, Dl.wMeth, Dl.wMethK, Dl.wMakeM, Dl.wMakeMn, Dl.fMakeM, Dl.wStar, Dl.wSl, Dl.wNoP, Dl.wPart, Dl.wItOwn, Dl.wEnT, Dl.wEnL, Dl.wRaise1, Dl.wRaise2, Dl.wFldOwn, Dl.wMaxD, Dl.wDct0, Dl.wYes, Dl.fOwn, Dl.fOwnX, Dl.fOwnNe, Dl.fOwnNeX, Dl.fOwnIn, Dl.fOwnNotIn, Dl.fOwnLen, Dl.fOwnBool, Dl.gt, Dl.isB_bl, Dl.tru_bl, Dl.optI_some, Dl.slV_val, Dl.ownL_own, Dl.ownDI_own, Dl.lendI_own, Dl.lendI_ownD, Dl.seqI_tup, Dl.seqI_lst, Dl.tupI_tup, Dl.lstI_lst, Dl.intI_int, Dl.dctI_dct, Dl.keyI_int, Dl.insI_ins, Dl.ownIi_own, Dl.excI_exc, Dl.fOne_one, Dl.fI0_int, Dl.fI2_int, Dl.fLen_tup, Dl.fLen_lst, Dl.fTuple_tup, Dl.fTuple_lst, Dl.fInt_int, Dl.fInt_bl, Dl.fAdd_int, Dl.fAdd_tup, Dl.fAdd_lst, Dl.fNeg_int, Dl.fSl_tup, Dl.fSl_lst, Dl.gwTup_tup, Dl.gwUnl_lst, Dl.gwCons_cons, Dl.gwNil_nil, Dl.gwName_eq, Dl.lcD_nil, Dl.wipeS, List.set, if_true, if_false, Bool.false_eq_true, Bool.not_true, Bool.not_false, ite_true, ite_false])
  refine ⟨by show 1 = 1; rfl, _, rfl, rfl, .inl ⟨m, rfl, m1, m5, ?_⟩⟩
  refine ⟨by omega, ?_⟩
  refine ⟨by rw [rngD_len]; omega, ?_⟩
  refine lc_rep (f := tickD K [[0]] false) (fun d hd mm kd qk => ?_) ?_
  · (try simp only [Dl.wRet, Dl.wRetN, Dl.wThen, Dl.wIf, Dl.wOr, Dl.wAnd, Dl.wNot, Dl.wNotV, Dl.wAndV, Dl.wOrV, Dl.wB, Dl.wTru, Dl.wOp, Dl.wUn, Dl.wVar, Dl.wC, Dl.wF, Dl.wCons, Dl.wNil, Dl.wTup, Dl.wLst, Dl.wSet, Dl.wAsg, Dl.wNext, Dl.wDrop, Dl.wFz, Dl.wfLst, Dl.wfList, Dl.wfCat, Dl.wSetOwn, Dl.wApp, Dl.wFreeze, Dl.wFreezeD, Dl.wIsi, Dl.wChain, Dl.wIfE, Dl.wSeq, Dl.wRng1, Dl.wRng2, Dl.wLc, Dl.wLcOwn, Dl.wFor, Dl.wPar, Dl.wDPut, Dl.wGet2, Dl.wLend, Dl.wLendT, Dl.wFld, Dl.wProp, Dl.wMeth, Dl.wMethK, Dl.wMakeM, Dl.wMakeMn, Dl.fMakeM, Dl.wStar, Dl.wSl, Dl.wNoP, Dl.wPart, Dl.wItOwn, Dl.wEnT, Dl.wEnL, Dl.wRaise1, Dl.wRaise2, Dl.wFldOwn, Dl.wMaxD, Dl.wDct0, Dl.wYes, Dl.fOwn, Dl.fOwnX, Dl.fOwnNe, Dl.fOwnNeX, Dl.fOwnIn, Dl.fOwnNotIn, Dl.fOwnLen, Dl.fOwnBool, Dl.gt, Dl.isB_bl, Dl.tru_bl, Dl.optI_some, Dl.slV_val, Dl.ownL_own, Dl.ownDI_own, Dl.lendI_own, Dl.lendI_ownD, Dl.seqI_tup, Dl.seqI_lst, Dl.tupI_tup, Dl.lstI_lst, Dl.intI_int, Dl.dctI_dct, Dl.keyI_int, Dl.insI_ins, Dl.ownIi_own, Dl.excI_exc, Dl.fOne_one, Dl.fI0_int, Dl.fI2_int, Dl.fLen_tup, Dl.fLen_lst, Dl.fTuple_tup, Dl.fTuple_lst, Dl.fInt_int, Dl.fInt_bl, Dl.fAdd_int, Dl.fAdd_tup, Dl.fAdd_lst, Dl.fNeg_int, Dl.fSl_tup, Dl.fSl_lst, Dl.gwTup_tup, Dl.gwUnl_lst, Dl.gwCons_cons, Dl.gwNil_nil, Dl.gwName_eq, Dl.lcD_nil, Dl.wipeS, List.set, if_true, if_false, Bool.false_eq_true, Bool.not_true, Bool.not_false, ite_true, ite_false])
    refine ⟨by show 1 ≤ 1000; decide, by show 1 ≤ 1000; decide, ?_⟩
    exact init_ok (ss := [[0]]) o0 qk
  rw [List.nil_append, rngD_len]
  simp only [wTupRg]
  (try simp only [Dl.wRet, Dl.wRetN, Dl.wThen, Dl.wIf, Dl.wOr, Dl.wAnd, Dl.wNot, Dl.wNotV, Dl.wAndV, Dl.wOrV, Dl.wB, Dl.wTru, Dl.wOp, Dl.wUn, Dl.wVar, Dl.wC, Dl.wF, Dl.wCons, Dl.wNil, Dl.wTup, Dl.wLst, Dl.wSet, Dl.wAsg, Dl.wNext, Dl.wDrop, Dl.wFz, Dl.wfLst, Dl.wfList, Dl.wfCat, Dl.wSetOwn, Dl.wApp, Dl.wFreeze, Dl.wFreezeD, Dl.wIsi, Dl.wChain, Dl.wIfE, Dl.wSeq, Dl.wRng1, Dl.wRng2, Dl.wLc, Dl.wLcOwn, Dl.wFor, Dl.wPar, Dl.wDPut, Dl.wGet2, Dl.wLend, Dl.wLendT, Dl.wFld, Dl.wProp, Dl.wMeth, Dl.wMethK, Dl.wMakeM, Dl.wMakeMn, Dl.fMakeM, Dl.wStar, Dl.wSl, Dl.wNoP, Dl.wPart, Dl.wItOwn, Dl.wEnT, Dl.wEnL, Dl.wRaise1, Dl.wRaise2, Dl.wFldOwn, Dl.wMaxD, Dl.wDct0, Dl.wYes, Dl.fOwn, Dl.fOwnX, Dl.fOwnNe, Dl.fOwnNeX, Dl.fOwnIn, Dl.fOwnNotIn, Dl.fOwnLen, Dl.fOwnBool, Dl.gt, Dl.isB_bl, Dl.tru_bl, Dl.optI_some, Dl.slV_val, Dl.ownL_own, Dl.ownDI_own, Dl.lendI_own, Dl.lendI_ownD, Dl.seqI_tup, Dl.seqI_lst, Dl.tupI_tup, Dl.lstI_lst, Dl.intI_int, Dl.dctI_dct, Dl.keyI_int, Dl.insI_ins, Dl.ownIi_own, Dl.excI_exc, Dl.fOne_one, Dl.fI0_int, Dl.fI2_int, Dl.fLen_tup, Dl.fLen_lst, Dl.fTuple_tup, Dl.fTuple_lst, Dl.fInt_int, Dl.fInt_bl, Dl.fAdd_int, Dl.fAdd_tup, Dl.fAdd_lst, Dl.fNeg_int, Dl.fSl_tup, Dl.fSl_lst, Dl.gwTup_tup, Dl.gwUnl_lst, Dl.gwCons_cons, Dl.gwNil_nil, Dl.gwName_eq, Dl.lcD_nil, Dl.wipeS, List.set, if_true, if_false, Bool.false_eq_true, Bool.not_true, Bool.not_false, ite_true, ite_false])
  rw [show ((m : Int) + 1 - 1).toNat = m by omega, ask_rng, Int.toNat_natCast]
  refine ⟨⟨by omega, by omega, by omega, by omega⟩, by show 1 ≤ 1000; decide, ?_⟩
  refine init_ok (ss := [parS m]) o1 ?_
  refine ⟨by show 1 ≤ 1000; decide, by rw [List.length_replicate]; show m + 1 ≤ 100000; omega, ?_⟩
  have em : List.replicate m (tickD K [[0]] false) ++ [D.ins (ga K "Tick") (tickF [parS m] true)] = (parTs m).map (tickP' K) := by
    unfold parTs
    rw [List.map_append, List.map_replicate]
    rfl
  rw [em]
  refine pl_x ?_
  refine ⟨_, look_ticks, by rw [List.length_map, par_len]; omega, ?_⟩
  refine lc_on (tickP' K) (tickP' K) (fun p hp m kd qk => by (try simp only [Dl.wRet, Dl.wRetN, Dl.wThen, Dl.wIf, Dl.wOr, Dl.wAnd, Dl.wNot, Dl.wNotV, Dl.wAndV, Dl.wOrV, Dl.wB, Dl.wTru, Dl.wOp, Dl.wUn, Dl.wVar, Dl.wC, Dl.wF, Dl.wCons, Dl.wNil, Dl.wTup, Dl.wLst, Dl.wSet, Dl.wAsg, Dl.wNext, Dl.wDrop, Dl.wFz, Dl.wfLst, Dl.wfList, Dl.wfCat, Dl.wSetOwn, Dl.wApp, Dl.wFreeze, Dl.wFreezeD, Dl.wIsi, Dl.wChain, Dl.wIfE, Dl.wSeq, Dl.wRng1, Dl.wRng2, Dl.wLc, Dl.wLcOwn, Dl.wFor, Dl.wPar, Dl.wDPut, Dl.wGet2, Dl.wLend, Dl.wLendT, Dl.wFld, Dl.wProp, Dl.wMeth, Dl.wMethK, Dl.wMakeM, Dl.wMakeMn, Dl.fMakeM, Dl.wStar, Dl.wSl, Dl.wNoP, Dl.wPart, Dl.wItOwn, Dl.wEnT, Dl.wEnL, Dl.wRaise1, Dl.wRaise2, Dl.wFldOwn, Dl.wMaxD, Dl.wDct0, Dl.wYes, Dl.fOwn, Dl.fOwnX, Dl.fOwnNe, Dl.fOwnNeX, Dl.fOwnIn, Dl.fOwnNotIn, Dl.fOwnLen, Dl.fOwnBool, Dl.gt, Dl.isB_bl, Dl.tru_bl, Dl.optI_some, Dl.slV_val, Dl.ownL_own, Dl.ownDI_own, Dl.lendI_own, Dl.lendI_ownD, Dl.seqI_tup, Dl.seqI_lst, Dl.tupI_tup, Dl.lstI_lst, Dl.intI_int, Dl.dctI_dct, Dl.keyI_int, Dl.insI_ins, Dl.ownIi_own, Dl.excI_exc, Dl.fOne_one, Dl.fI0_int, Dl.fI2_int, Dl.fLen_tup, Dl.fLen_lst, Dl.fTuple_tup, Dl.fTuple_lst, Dl.fInt_int, Dl.fInt_bl, Dl.fAdd_int, Dl.fAdd_tup, Dl.fAdd_lst, Dl.fNeg_int, Dl.fSl_tup, Dl.fSl_lst, Dl.gwTup_tup, Dl.gwUnl_lst, Dl.gwCons_cons, Dl.gwNil_nil, Dl.gwName_eq, Dl.lcD_nil, Dl.wipeS, List.set, if_true, if_false, Bool.false_eq_true, Bool.not_true, Bool.not_false, ite_true, ite_false]); exact qk) ?_
  rw [List.nil_append]
  refine ⟨ins_ticks _, ins_ticks _, fun z => absurd rfl z, fun _ => eqs_ticks ?_⟩
  rw [decide_eq_true rfl]
  (try simp only [Dl.wRet, Dl.wRetN, Dl.wThen, Dl.wIf, Dl.wOr, Dl.wAnd, Dl.wNot, Dl.wNotV, Dl.wAndV, Dl.wOrV, Dl.wB, Dl.wTru, Dl.wOp, Dl.wUn, Dl.wVar, Dl.wC, Dl.wF, Dl.wCons, Dl.wNil, Dl.wTup, Dl.wLst, Dl.wSet, Dl.wAsg, Dl.wNext, Dl.wDrop, Dl.wFz, Dl.wfLst, Dl.wfList, Dl.wfCat, Dl.wSetOwn, Dl.wApp, Dl.wFreeze, Dl.wFreezeD, Dl.wIsi, Dl.wChain, Dl.wIfE, Dl.wSeq, Dl.wRng1, Dl.wRng2, Dl.wLc, Dl.wLcOwn, Dl.wFor, Dl.wPar, Dl.wDPut, Dl.wGet2, Dl.wLend, Dl.wLendT, Dl.wFld, Dl.wProp, Dl.wMeth, Dl.wMethK, Dl.wMakeM, Dl.wMakeMn, Dl.fMakeM, Dl.wStar, Dl.wSl, Dl.wNoP, Dl.wPart, Dl.wItOwn, Dl.wEnT, Dl.wEnL, Dl.wRaise1, Dl.wRaise2, Dl.wFldOwn, Dl.wMaxD, Dl.wDct0, Dl.wYes, Dl.fOwn, Dl.fOwnX, Dl.fOwnNe, Dl.fOwnNeX, Dl.fOwnIn, Dl.fOwnNotIn, Dl.fOwnLen, Dl.fOwnBool, Dl.gt, Dl.isB_bl, Dl.tru_bl, Dl.optI_some, Dl.slV_val, Dl.ownL_own, Dl.ownDI_own, Dl.lendI_own, Dl.lendI_ownD, Dl.seqI_tup, Dl.seqI_lst, Dl.tupI_tup, Dl.lstI_lst, Dl.intI_int, Dl.dctI_dct, Dl.keyI_int, Dl.insI_ins, Dl.ownIi_own, Dl.excI_exc, Dl.fOne_one, Dl.fI0_int, Dl.fI2_int, Dl.fLen_tup, Dl.fLen_lst, Dl.fTuple_tup, Dl.fTuple_lst, Dl.fInt_int, Dl.fInt_bl, Dl.fAdd_int, Dl.fAdd_tup, Dl.fAdd_lst, Dl.fNeg_int, Dl.fSl_tup, Dl.fSl_lst, Dl.gwTup_tup, Dl.gwUnl_lst, Dl.gwCons_cons, Dl.gwNil_nil, Dl.gwName_eq, Dl.lcD_nil, Dl.wipeS, List.set, if_true, if_false, Bool.false_eq_true, Bool.not_true, Bool.not_false, ite_true, ite_false])
  refine rate_x m1 m5 ?_
  refine ⟨by show 2 ≤ 1000; decide, ?_⟩
  refine fNe_self (cmp_pair _ _) ?_
  (try simp only [Dl.wRet, Dl.wRetN, Dl.wThen, Dl.wIf, Dl.wOr, Dl.wAnd, Dl.wNot, Dl.wNotV, Dl.wAndV, Dl.wOrV, Dl.wB, Dl.wTru, Dl.wOp, Dl.wUn, Dl.wVar, Dl.wC, Dl.wF, Dl.wCons, Dl.wNil, Dl.wTup, Dl.wLst, Dl.wSet, Dl.wAsg, Dl.wNext, Dl.wDrop, Dl.wFz, Dl.wfLst, Dl.wfList, Dl.wfCat, Dl.wSetOwn, Dl.wApp, Dl.wFreeze, Dl.wFreezeD, Dl.wIsi, Dl.wChain, Dl.wIfE, Dl.wSeq, Dl.wRng1, Dl.wRng2, Dl.wLc, Dl.wLcOwn, Dl.wFor, Dl.wPar, Dl.wDPut, Dl.wGet2, Dl.wLend, Dl.wLendT, Dl.wFld, Dl.wProp, Dl.wMeth, Dl.wMethK, Dl.wMakeM, Dl.wMakeMn, Dl.fMakeM, Dl.wStar, Dl.wSl, Dl.wNoP, Dl.wPart, Dl.wItOwn, Dl.wEnT, Dl.wEnL, Dl.wRaise1, Dl.wRaise2, Dl.wFldOwn, Dl.wMaxD, Dl.wDct0, Dl.wYes, Dl.fOwn, Dl.fOwnX, Dl.fOwnNe, Dl.fOwnNeX, Dl.fOwnIn, Dl.fOwnNotIn, Dl.fOwnLen, Dl.fOwnBool, Dl.gt, Dl.isB_bl, Dl.tru_bl, Dl.optI_some, Dl.slV_val, Dl.ownL_own, Dl.ownDI_own, Dl.lendI_own, Dl.lendI_ownD, Dl.seqI_tup, Dl.seqI_lst, Dl.tupI_tup, Dl.lstI_lst, Dl.intI_int, Dl.dctI_dct, Dl.keyI_int, Dl.insI_ins, Dl.ownIi_own, Dl.excI_exc, Dl.fOne_one, Dl.fI0_int, Dl.fI2_int, Dl.fLen_tup, Dl.fLen_lst, Dl.fTuple_tup, Dl.fTuple_lst, Dl.fInt_int, Dl.fInt_bl, Dl.fAdd_int, Dl.fAdd_tup, Dl.fAdd_lst, Dl.fNeg_int, Dl.fSl_tup, Dl.fSl_lst, Dl.gwTup_tup, Dl.gwUnl_lst, Dl.gwCons_cons, Dl.gwNil_nil, Dl.gwName_eq, Dl.lcD_nil, Dl.wipeS, List.set, if_true, if_false, Bool.false_eq_true, Bool.not_true, Bool.not_false, ite_true, ite_false])
  exact q _ _
theorem v1_loop : ∀ (l : List Nat) (t2 t3 t4 t5 : Sl), (∀ m ∈ l, 1 ≤ m ∧ m ≤ 5) → (∀ t3 t4 t5, E.nx (VS t2 t3 t4 t5 .un) n) → forD (gwName 3) (VB K) E x (l.map fun i : Nat => D.int (i : Int)) (VS t2 t3 t4 t5 .un) n
  | [], t2, t3, t4, t5, _, q => q t3 t4 t5
  | m :: l, t2, t3, t4, t5, h, q => by
    obtain ⟨m1, m5⟩ := h m List.mem_cons_self
    show VB K (VS t2 (.val (.int (m : Int))) t4 t5 .un) n _ x
    refine vb m1 m5 fun t4 t5 => ?_
    exact v1_loop l t2 _ t4 t5 (fun r hr => h r (List.mem_cons_of_mem _ hr)) q
theorem v1 {t2 : Sl} (q : ∀ t3 t4 t5, E.nx (VS t2 t3 t4 t5 .un) n) : V1 K (VS t2 .un .un .un .un) n E x := by
  unfold V1
  show wFor _ _ (VB K) _ n E x
  (try simp only [Dl.wRet, Dl.wRetN, Dl.wThen, Dl.wIf, Dl.wOr, Dl.wAnd, Dl.wNot, Dl.wNotV, Dl.wAndV, Dl.wOrV, Dl.wB, Dl.wTru, Dl.wOp, Dl.wUn, Dl.wVar, Dl.wC, Dl.wF, Dl.wCons, Dl.wNil, Dl.wTup, Dl.wLst, Dl.wSet, Dl.wAsg, Dl.wNext, Dl.wDrop, Dl.wFz, Dl.wfLst, Dl.wfList, Dl.wfCat, Dl.wSetOwn, Dl.wApp, Dl.wFreeze, Dl.wFreezeD, Dl.wIsi, Dl.wChain, Dl.wIfE, Dl.wSeq, Dl.wRng1, Dl.wRng2, Dl.wLc, Dl.wLcOwn, Dl.wFor, Dl.wPar, Dl.wDPut, Dl.wGet2, Dl.wLend, Dl.wLendT, Dl.wFld, Dl.wProp, Dl.wMeth, Dl.wMethK, Dl.wMakeM, Dl.wMakeMn, Dl.fMakeM, Dl.wStar, Dl.wSl, Dl.wNoP, Dl.wPart, Dl.wItOwn, Dl.wEnT, Dl.wEnL, Dl.wRaise1, Dl.wRaise2, Dl.wFldOwn, Dl.wMaxD, Dl.wDct0, Dl.wYes, Dl.fOwn, Dl.fOwnX, Dl.fOwnNe, Dl.fOwnNeX, Dl.fOwnIn, Dl.fOwnNotIn, Dl.fOwnLen, Dl.fOwnBool, Dl.gt, Dl.isB_bl, Dl.tru_bl, Dl.optI_some, Dl.slV_val, Dl.ownL_own, Dl.ownDI_own, Dl.lendI_own, Dl.lendI_ownD, Dl.seqI_tup, Dl.seqI_lst, Dl.tupI_tup, Dl.lstI_lst, Dl.intI_int, Dl.dctI_dct, Dl.keyI_int, Dl.insI_ins, Dl.ownIi_own, Dl.excI_exc, Dl.fOne_one, Dl.fI0_int, Dl.fI2_int, Dl.fLen_tup, Dl.fLen_lst, Dl.fTuple_tup, Dl.fTuple_lst, Dl.fInt_int, Dl.fInt_bl, Dl.fAdd_int, Dl.fAdd_tup, Dl.fAdd_lst, Dl.fNeg_int, Dl.fSl_tup, Dl.fSl_lst, Dl.gwTup_tup, Dl.gwUnl_lst, Dl.gwCons_cons, Dl.gwNil_nil, Dl.gwName_eq, Dl.lcD_nil, Dl.wipeS, List.set, if_true, if_false, Bool.false_eq_true, Bool.not_true, Bool.not_false, ite_true, ite_false])
  refine ⟨by decide, ?_⟩
  rw [show ((6 : Int) - 1).toNat = 5 from rfl, rng1]
  refine v1_loop _ _ _ _ _ (fun m hm => ?_) q
  have := List.mem_range'_1.mp hm
  omega
def H0 : D := .tup [.str "sums", .int 6]
def H1 : D := .tup [.str "tick", .str "6"]
def H2 : D := .tup [.str "count", .str "6"]
def H3 : D := .tup [.str "tick", .str "1"]
theorem six_t : Str.ofString (toString ((6 : Nat) : Int)) = Str.ofString "6" := by decide +kernel
theorem one_t : Str.ofString (toString ((1 : Nat) : Int)) = Str.ofString "1" := by decide +kernel
theorem cp_some {l : List Int} {i : Nat} (h : badAge 0 [] (IL l) = some i) (hl : l.length ≤ 7) (q : x (ga K "BadTick", [("part", .int (i : Int))]) n) : c_copies K [.tup (IL l)] n k x := by
  refine ⟨IL l, rfl, pln_IL l, by rw [List.length_map]; exact hl, ?_⟩
  rw [h]
  exact q
theorem v2 {t2 t3 t4 t5 : Sl} (D' : Dis K) (q : E.nx (VS t2 t3 t4 t5 (.own [H0])) n) : V2 K (VS t2 t3 t4 t5 .un) n E x := by
  unfold V2
  (try simp only [Dl.wRet, Dl.wRetN, Dl.wThen, Dl.wIf, Dl.wOr, Dl.wAnd, Dl.wNot, Dl.wNotV, Dl.wAndV, Dl.wOrV, Dl.wB, Dl.wTru, Dl.wOp, Dl.wUn, Dl.wVar, Dl.wC, Dl.wF, Dl.wCons, Dl.wNil, Dl.wTup, Dl.wLst, Dl.wSet, Dl.wAsg, Dl.wNext, Dl.wDrop, Dl.wFz, Dl.wfLst, Dl.wfList, Dl.wfCat, Dl.wSetOwn, Dl.wApp, Dl.wFreeze, Dl.wFreezeD, Dl.wIsi, Dl.wChain, Dl.wIfE, Dl.wSeq, Dl.wRng1, Dl.wRng2, Dl.wLc, Dl.wLcOwn, Dl.wFor, Dl.wPar, Dl.wDPut, Dl.wGet2, Dl.wLend, Dl.wLendT, Dl.wFld, Dl.wProp, Dl.wMeth, Dl.wMethK, Dl.wMakeM, Dl.wMakeMn, Dl.fMakeM, Dl.wStar, Dl.wSl, Dl.wNoP, Dl.wPart, Dl.wItOwn, Dl.wEnT, Dl.wEnL, Dl.wRaise1, Dl.wRaise2, Dl.wFldOwn, Dl.wMaxD, Dl.wDct0, Dl.wYes, Dl.fOwn, Dl.fOwnX, Dl.fOwnNe, Dl.fOwnNeX, Dl.fOwnIn, Dl.fOwnNotIn, Dl.fOwnLen, Dl.fOwnBool, Dl.gt, Dl.isB_bl, Dl.tru_bl, Dl.optI_some, Dl.slV_val, Dl.ownL_own, Dl.ownDI_own, Dl.lendI_own, Dl.lendI_ownD, Dl.seqI_tup, Dl.seqI_lst, Dl.tupI_tup, Dl.lstI_lst, Dl.intI_int, Dl.dctI_dct, Dl.keyI_int, Dl.insI_ins, Dl.ownIi_own, Dl.excI_exc, Dl.fOne_one, Dl.fI0_int, Dl.fI2_int, Dl.fLen_tup, Dl.fLen_lst, Dl.fTuple_tup, Dl.fTuple_lst, Dl.fInt_int, Dl.fInt_bl, Dl.fAdd_int, Dl.fAdd_tup, Dl.fAdd_lst, Dl.fNeg_int, Dl.fSl_tup, Dl.fSl_lst, Dl.gwTup_tup, Dl.gwUnl_lst, Dl.gwCons_cons, Dl.gwNil_nil, Dl.gwName_eq, Dl.lcD_nil, Dl.wipeS, List.set, if_true, if_false, Bool.false_eq_true, Bool.not_true, Bool.not_false, ite_true, ite_false])
  refine wheard_of ?_
  simp only [wFV]
  (try simp only [Dl.wRet, Dl.wRetN, Dl.wThen, Dl.wIf, Dl.wOr, Dl.wAnd, Dl.wNot, Dl.wNotV, Dl.wAndV, Dl.wOrV, Dl.wB, Dl.wTru, Dl.wOp, Dl.wUn, Dl.wVar, Dl.wC, Dl.wF, Dl.wCons, Dl.wNil, Dl.wTup, Dl.wLst, Dl.wSet, Dl.wAsg, Dl.wNext, Dl.wDrop, Dl.wFz, Dl.wfLst, Dl.wfList, Dl.wfCat, Dl.wSetOwn, Dl.wApp, Dl.wFreeze, Dl.wFreezeD, Dl.wIsi, Dl.wChain, Dl.wIfE, Dl.wSeq, Dl.wRng1, Dl.wRng2, Dl.wLc, Dl.wLcOwn, Dl.wFor, Dl.wPar, Dl.wDPut, Dl.wGet2, Dl.wLend, Dl.wLendT, Dl.wFld, Dl.wProp, Dl.wMeth, Dl.wMethK, Dl.wMakeM, Dl.wMakeMn, Dl.fMakeM, Dl.wStar, Dl.wSl, Dl.wNoP, Dl.wPart, Dl.wItOwn, Dl.wEnT, Dl.wEnL, Dl.wRaise1, Dl.wRaise2, Dl.wFldOwn, Dl.wMaxD, Dl.wDct0, Dl.wYes, Dl.fOwn, Dl.fOwnX, Dl.fOwnNe, Dl.fOwnNeX, Dl.fOwnIn, Dl.fOwnNotIn, Dl.fOwnLen, Dl.fOwnBool, Dl.gt, Dl.isB_bl, Dl.tru_bl, Dl.optI_some, Dl.slV_val, Dl.ownL_own, Dl.ownDI_own, Dl.lendI_own, Dl.lendI_ownD, Dl.seqI_tup, Dl.seqI_lst, Dl.tupI_tup, Dl.lstI_lst, Dl.intI_int, Dl.dctI_dct, Dl.keyI_int, Dl.insI_ins, Dl.ownIi_own, Dl.excI_exc, Dl.fOne_one, Dl.fI0_int, Dl.fI2_int, Dl.fLen_tup, Dl.fLen_lst, Dl.fTuple_tup, Dl.fTuple_lst, Dl.fInt_int, Dl.fInt_bl, Dl.fAdd_int, Dl.fAdd_tup, Dl.fAdd_lst, Dl.fNeg_int, Dl.fSl_tup, Dl.fSl_lst, Dl.gwTup_tup, Dl.gwUnl_lst, Dl.gwCons_cons, Dl.gwNil_nil, Dl.gwName_eq, Dl.lcD_nil, Dl.wipeS, List.set, if_true, if_false, Bool.false_eq_true, Bool.not_true, Bool.not_false, ite_true, ite_false])
  refine ⟨by show 6 ≤ 1000; decide, IL [1, 2, 3, 4, 5, 6], rfl, pln_IL _, by decide, ?_⟩
  rw [show badAge 0 [] (IL [1, 2, 3, 4, 5, 6]) = none from rfl]
  intro ages ha
  rw [← inj_int ha, if_pos (by decide)]
  refine heard_many D' ?_
  exact ⟨by show 1 ≤ 1000; decide, q⟩
theorem v3 {t2 t3 t4 t5 : Sl} (D' : Dis K) (q : E.nx (VS t2 t3 t4 t5 (.own [H0, H1])) n) : V3 K (VS t2 t3 t4 t5 (.own [H0])) n E x := by
  unfold V3
  (try simp only [Dl.wRet, Dl.wRetN, Dl.wThen, Dl.wIf, Dl.wOr, Dl.wAnd, Dl.wNot, Dl.wNotV, Dl.wAndV, Dl.wOrV, Dl.wB, Dl.wTru, Dl.wOp, Dl.wUn, Dl.wVar, Dl.wC, Dl.wF, Dl.wCons, Dl.wNil, Dl.wTup, Dl.wLst, Dl.wSet, Dl.wAsg, Dl.wNext, Dl.wDrop, Dl.wFz, Dl.wfLst, Dl.wfList, Dl.wfCat, Dl.wSetOwn, Dl.wApp, Dl.wFreeze, Dl.wFreezeD, Dl.wIsi, Dl.wChain, Dl.wIfE, Dl.wSeq, Dl.wRng1, Dl.wRng2, Dl.wLc, Dl.wLcOwn, Dl.wFor, Dl.wPar, Dl.wDPut, Dl.wGet2, Dl.wLend, Dl.wLendT, Dl.wFld, Dl.wProp, Dl.wMeth, Dl.wMethK, Dl.wMakeM, Dl.wMakeMn, Dl.fMakeM, Dl.wStar, Dl.wSl, Dl.wNoP, Dl.wPart, Dl.wItOwn, Dl.wEnT, Dl.wEnL, Dl.wRaise1, Dl.wRaise2, Dl.wFldOwn, Dl.wMaxD, Dl.wDct0, Dl.wYes, Dl.fOwn, Dl.fOwnX, Dl.fOwnNe, Dl.fOwnNeX, Dl.fOwnIn, Dl.fOwnNotIn, Dl.fOwnLen, Dl.fOwnBool, Dl.gt, Dl.isB_bl, Dl.tru_bl, Dl.optI_some, Dl.slV_val, Dl.ownL_own, Dl.ownDI_own, Dl.lendI_own, Dl.lendI_ownD, Dl.seqI_tup, Dl.seqI_lst, Dl.tupI_tup, Dl.lstI_lst, Dl.intI_int, Dl.dctI_dct, Dl.keyI_int, Dl.insI_ins, Dl.ownIi_own, Dl.excI_exc, Dl.fOne_one, Dl.fI0_int, Dl.fI2_int, Dl.fLen_tup, Dl.fLen_lst, Dl.fTuple_tup, Dl.fTuple_lst, Dl.fInt_int, Dl.fInt_bl, Dl.fAdd_int, Dl.fAdd_tup, Dl.fAdd_lst, Dl.fNeg_int, Dl.fSl_tup, Dl.fSl_lst, Dl.gwTup_tup, Dl.gwUnl_lst, Dl.gwCons_cons, Dl.gwNil_nil, Dl.gwName_eq, Dl.lcD_nil, Dl.wipeS, List.set, if_true, if_false, Bool.false_eq_true, Bool.not_true, Bool.not_false, ite_true, ite_false])
  refine wheard_of ?_
  simp only [wFV]
  (try simp only [Dl.wRet, Dl.wRetN, Dl.wThen, Dl.wIf, Dl.wOr, Dl.wAnd, Dl.wNot, Dl.wNotV, Dl.wAndV, Dl.wOrV, Dl.wB, Dl.wTru, Dl.wOp, Dl.wUn, Dl.wVar, Dl.wC, Dl.wF, Dl.wCons, Dl.wNil, Dl.wTup, Dl.wLst, Dl.wSet, Dl.wAsg, Dl.wNext, Dl.wDrop, Dl.wFz, Dl.wfLst, Dl.wfList, Dl.wfCat, Dl.wSetOwn, Dl.wApp, Dl.wFreeze, Dl.wFreezeD, Dl.wIsi, Dl.wChain, Dl.wIfE, Dl.wSeq, Dl.wRng1, Dl.wRng2, Dl.wLc, Dl.wLcOwn, Dl.wFor, Dl.wPar, Dl.wDPut, Dl.wGet2, Dl.wLend, Dl.wLendT, Dl.wFld, Dl.wProp, Dl.wMeth, Dl.wMethK, Dl.wMakeM, Dl.wMakeMn, Dl.fMakeM, Dl.wStar, Dl.wSl, Dl.wNoP, Dl.wPart, Dl.wItOwn, Dl.wEnT, Dl.wEnL, Dl.wRaise1, Dl.wRaise2, Dl.wFldOwn, Dl.wMaxD, Dl.wDct0, Dl.wYes, Dl.fOwn, Dl.fOwnX, Dl.fOwnNe, Dl.fOwnNeX, Dl.fOwnIn, Dl.fOwnNotIn, Dl.fOwnLen, Dl.fOwnBool, Dl.gt, Dl.isB_bl, Dl.tru_bl, Dl.optI_some, Dl.slV_val, Dl.ownL_own, Dl.ownDI_own, Dl.lendI_own, Dl.lendI_ownD, Dl.seqI_tup, Dl.seqI_lst, Dl.tupI_tup, Dl.lstI_lst, Dl.intI_int, Dl.dctI_dct, Dl.keyI_int, Dl.insI_ins, Dl.ownIi_own, Dl.excI_exc, Dl.fOne_one, Dl.fI0_int, Dl.fI2_int, Dl.fLen_tup, Dl.fLen_lst, Dl.fTuple_tup, Dl.fTuple_lst, Dl.fInt_int, Dl.fInt_bl, Dl.fAdd_int, Dl.fAdd_tup, Dl.fAdd_lst, Dl.fNeg_int, Dl.fSl_tup, Dl.fSl_lst, Dl.gwTup_tup, Dl.gwUnl_lst, Dl.gwCons_cons, Dl.gwNil_nil, Dl.gwName_eq, Dl.lcD_nil, Dl.wipeS, List.set, if_true, if_false, Bool.false_eq_true, Bool.not_true, Bool.not_false, ite_true, ite_false])
  refine ⟨by show 7 ≤ 1000; decide, ?_⟩
  refine cp_some (l := [1, 2, 3, 4, 5, 6, 1]) (i := 6) rfl (by decide) ?_
  refine heard_tick D' (by decide) ?_
  rw [six_t]
  exact ⟨by show 1 ≤ 100000; decide, q⟩
theorem v4 {t2 t3 t4 t5 : Sl} (D' : Dis K) (q : E.nx (VS t2 t3 t4 t5 (.own [H0, H1, H2])) n) : V4 K (VS t2 t3 t4 t5 (.own [H0, H1])) n E x := by
  unfold V4
  (try simp only [Dl.wRet, Dl.wRetN, Dl.wThen, Dl.wIf, Dl.wOr, Dl.wAnd, Dl.wNot, Dl.wNotV, Dl.wAndV, Dl.wOrV, Dl.wB, Dl.wTru, Dl.wOp, Dl.wUn, Dl.wVar, Dl.wC, Dl.wF, Dl.wCons, Dl.wNil, Dl.wTup, Dl.wLst, Dl.wSet, Dl.wAsg, Dl.wNext, Dl.wDrop, Dl.wFz, Dl.wfLst, Dl.wfList, Dl.wfCat, Dl.wSetOwn, Dl.wApp, Dl.wFreeze, Dl.wFreezeD, Dl.wIsi, Dl.wChain, Dl.wIfE, Dl.wSeq, Dl.wRng1, Dl.wRng2, Dl.wLc, Dl.wLcOwn, Dl.wFor, Dl.wPar, Dl.wDPut, Dl.wGet2, Dl.wLend, Dl.wLendT, Dl.wFld, Dl.wProp, Dl.wMeth, Dl.wMethK, Dl.wMakeM, Dl.wMakeMn, Dl.fMakeM, Dl.wStar, Dl.wSl, Dl.wNoP, Dl.wPart, Dl.wItOwn, Dl.wEnT, Dl.wEnL, Dl.wRaise1, Dl.wRaise2, Dl.wFldOwn, Dl.wMaxD, Dl.wDct0, Dl.wYes, Dl.fOwn, Dl.fOwnX, Dl.fOwnNe, Dl.fOwnNeX, Dl.fOwnIn, Dl.fOwnNotIn, Dl.fOwnLen, Dl.fOwnBool, Dl.gt, Dl.isB_bl, Dl.tru_bl, Dl.optI_some, Dl.slV_val, Dl.ownL_own, Dl.ownDI_own, Dl.lendI_own, Dl.lendI_ownD, Dl.seqI_tup, Dl.seqI_lst, Dl.tupI_tup, Dl.lstI_lst, Dl.intI_int, Dl.dctI_dct, Dl.keyI_int, Dl.insI_ins, Dl.ownIi_own, Dl.excI_exc, Dl.fOne_one, Dl.fI0_int, Dl.fI2_int, Dl.fLen_tup, Dl.fLen_lst, Dl.fTuple_tup, Dl.fTuple_lst, Dl.fInt_int, Dl.fInt_bl, Dl.fAdd_int, Dl.fAdd_tup, Dl.fAdd_lst, Dl.fNeg_int, Dl.fSl_tup, Dl.fSl_lst, Dl.gwTup_tup, Dl.gwUnl_lst, Dl.gwCons_cons, Dl.gwNil_nil, Dl.gwName_eq, Dl.lcD_nil, Dl.wipeS, List.set, if_true, if_false, Bool.false_eq_true, Bool.not_true, Bool.not_false, ite_true, ite_false])
  refine wheard_of ?_
  (try simp only [Dl.wRet, Dl.wRetN, Dl.wThen, Dl.wIf, Dl.wOr, Dl.wAnd, Dl.wNot, Dl.wNotV, Dl.wAndV, Dl.wOrV, Dl.wB, Dl.wTru, Dl.wOp, Dl.wUn, Dl.wVar, Dl.wC, Dl.wF, Dl.wCons, Dl.wNil, Dl.wTup, Dl.wLst, Dl.wSet, Dl.wAsg, Dl.wNext, Dl.wDrop, Dl.wFz, Dl.wfLst, Dl.wfList, Dl.wfCat, Dl.wSetOwn, Dl.wApp, Dl.wFreeze, Dl.wFreezeD, Dl.wIsi, Dl.wChain, Dl.wIfE, Dl.wSeq, Dl.wRng1, Dl.wRng2, Dl.wLc, Dl.wLcOwn, Dl.wFor, Dl.wPar, Dl.wDPut, Dl.wGet2, Dl.wLend, Dl.wLendT, Dl.wFld, Dl.wProp, Dl.wMeth, Dl.wMethK, Dl.wMakeM, Dl.wMakeMn, Dl.fMakeM, Dl.wStar, Dl.wSl, Dl.wNoP, Dl.wPart, Dl.wItOwn, Dl.wEnT, Dl.wEnL, Dl.wRaise1, Dl.wRaise2, Dl.wFldOwn, Dl.wMaxD, Dl.wDct0, Dl.wYes, Dl.fOwn, Dl.fOwnX, Dl.fOwnNe, Dl.fOwnNeX, Dl.fOwnIn, Dl.fOwnNotIn, Dl.fOwnLen, Dl.fOwnBool, Dl.gt, Dl.isB_bl, Dl.tru_bl, Dl.optI_some, Dl.slV_val, Dl.ownL_own, Dl.ownDI_own, Dl.lendI_own, Dl.lendI_ownD, Dl.seqI_tup, Dl.seqI_lst, Dl.tupI_tup, Dl.lstI_lst, Dl.intI_int, Dl.dctI_dct, Dl.keyI_int, Dl.insI_ins, Dl.ownIi_own, Dl.excI_exc, Dl.fOne_one, Dl.fI0_int, Dl.fI2_int, Dl.fLen_tup, Dl.fLen_lst, Dl.fTuple_tup, Dl.fTuple_lst, Dl.fInt_int, Dl.fInt_bl, Dl.fAdd_int, Dl.fAdd_tup, Dl.fAdd_lst, Dl.fNeg_int, Dl.fSl_tup, Dl.fSl_lst, Dl.gwTup_tup, Dl.gwUnl_lst, Dl.gwCons_cons, Dl.gwNil_nil, Dl.gwName_eq, Dl.lcD_nil, Dl.wipeS, List.set, if_true, if_false, Bool.false_eq_true, Bool.not_true, Bool.not_false, ite_true, ite_false])
  refine ⟨.int 6, rfl, rfl, .inr ⟨rfl, ?_⟩⟩
  refine heard_count D' (t := Str.ofString (toString ((6 : Nat) : Int))) (fun m kd x q => repr_int (by decide) q) ?_
  rw [six_t]
  exact ⟨by show 2 ≤ 100000; decide, q⟩
theorem v5 {t2 t3 t4 t5 : Sl} (D' : Dis K) (q : E.nx (VS t2 t3 t4 t5 (.own [H0, H1, H2, H3])) n) : V5 K (VS t2 t3 t4 t5 (.own [H0, H1, H2])) n E x := by
  unfold V5
  (try simp only [Dl.wRet, Dl.wRetN, Dl.wThen, Dl.wIf, Dl.wOr, Dl.wAnd, Dl.wNot, Dl.wNotV, Dl.wAndV, Dl.wOrV, Dl.wB, Dl.wTru, Dl.wOp, Dl.wUn, Dl.wVar, Dl.wC, Dl.wF, Dl.wCons, Dl.wNil, Dl.wTup, Dl.wLst, Dl.wSet, Dl.wAsg, Dl.wNext, Dl.wDrop, Dl.wFz, Dl.wfLst, Dl.wfList, Dl.wfCat, Dl.wSetOwn, Dl.wApp, Dl.wFreeze, Dl.wFreezeD, Dl.wIsi, Dl.wChain, Dl.wIfE, Dl.wSeq, Dl.wRng1, Dl.wRng2, Dl.wLc, Dl.wLcOwn, Dl.wFor, Dl.wPar, Dl.wDPut, Dl.wGet2, Dl.wLend, Dl.wLendT, Dl.wFld, Dl.wProp, Dl.wMeth, Dl.wMethK, Dl.wMakeM, Dl.wMakeMn, Dl.fMakeM, Dl.wStar, Dl.wSl, Dl.wNoP, Dl.wPart, Dl.wItOwn, Dl.wEnT, Dl.wEnL, Dl.wRaise1, Dl.wRaise2, Dl.wFldOwn, Dl.wMaxD, Dl.wDct0, Dl.wYes, Dl.fOwn, Dl.fOwnX, Dl.fOwnNe, Dl.fOwnNeX, Dl.fOwnIn, Dl.fOwnNotIn, Dl.fOwnLen, Dl.fOwnBool, Dl.gt, Dl.isB_bl, Dl.tru_bl, Dl.optI_some, Dl.slV_val, Dl.ownL_own, Dl.ownDI_own, Dl.lendI_own, Dl.lendI_ownD, Dl.seqI_tup, Dl.seqI_lst, Dl.tupI_tup, Dl.lstI_lst, Dl.intI_int, Dl.dctI_dct, Dl.keyI_int, Dl.insI_ins, Dl.ownIi_own, Dl.excI_exc, Dl.fOne_one, Dl.fI0_int, Dl.fI2_int, Dl.fLen_tup, Dl.fLen_lst, Dl.fTuple_tup, Dl.fTuple_lst, Dl.fInt_int, Dl.fInt_bl, Dl.fAdd_int, Dl.fAdd_tup, Dl.fAdd_lst, Dl.fNeg_int, Dl.fSl_tup, Dl.fSl_lst, Dl.gwTup_tup, Dl.gwUnl_lst, Dl.gwCons_cons, Dl.gwNil_nil, Dl.gwName_eq, Dl.lcD_nil, Dl.wipeS, List.set, if_true, if_false, Bool.false_eq_true, Bool.not_true, Bool.not_false, ite_true, ite_false])
  refine wheard_of ?_
  simp only [wFV]
  (try simp only [Dl.wRet, Dl.wRetN, Dl.wThen, Dl.wIf, Dl.wOr, Dl.wAnd, Dl.wNot, Dl.wNotV, Dl.wAndV, Dl.wOrV, Dl.wB, Dl.wTru, Dl.wOp, Dl.wUn, Dl.wVar, Dl.wC, Dl.wF, Dl.wCons, Dl.wNil, Dl.wTup, Dl.wLst, Dl.wSet, Dl.wAsg, Dl.wNext, Dl.wDrop, Dl.wFz, Dl.wfLst, Dl.wfList, Dl.wfCat, Dl.wSetOwn, Dl.wApp, Dl.wFreeze, Dl.wFreezeD, Dl.wIsi, Dl.wChain, Dl.wIfE, Dl.wSeq, Dl.wRng1, Dl.wRng2, Dl.wLc, Dl.wLcOwn, Dl.wFor, Dl.wPar, Dl.wDPut, Dl.wGet2, Dl.wLend, Dl.wLendT, Dl.wFld, Dl.wProp, Dl.wMeth, Dl.wMethK, Dl.wMakeM, Dl.wMakeMn, Dl.fMakeM, Dl.wStar, Dl.wSl, Dl.wNoP, Dl.wPart, Dl.wItOwn, Dl.wEnT, Dl.wEnL, Dl.wRaise1, Dl.wRaise2, Dl.wFldOwn, Dl.wMaxD, Dl.wDct0, Dl.wYes, Dl.fOwn, Dl.fOwnX, Dl.fOwnNe, Dl.fOwnNeX, Dl.fOwnIn, Dl.fOwnNotIn, Dl.fOwnLen, Dl.fOwnBool, Dl.gt, Dl.isB_bl, Dl.tru_bl, Dl.optI_some, Dl.slV_val, Dl.ownL_own, Dl.ownDI_own, Dl.lendI_own, Dl.lendI_ownD, Dl.seqI_tup, Dl.seqI_lst, Dl.tupI_tup, Dl.lstI_lst, Dl.intI_int, Dl.dctI_dct, Dl.keyI_int, Dl.insI_ins, Dl.ownIi_own, Dl.excI_exc, Dl.fOne_one, Dl.fI0_int, Dl.fI2_int, Dl.fLen_tup, Dl.fLen_lst, Dl.fTuple_tup, Dl.fTuple_lst, Dl.fInt_int, Dl.fInt_bl, Dl.fAdd_int, Dl.fAdd_tup, Dl.fAdd_lst, Dl.fNeg_int, Dl.fSl_tup, Dl.fSl_lst, Dl.gwTup_tup, Dl.gwUnl_lst, Dl.gwCons_cons, Dl.gwNil_nil, Dl.gwName_eq, Dl.lcD_nil, Dl.wipeS, List.set, if_true, if_false, Bool.false_eq_true, Bool.not_true, Bool.not_false, ite_true, ite_false])
  refine ⟨by show 3 ≤ 1000; decide, ?_⟩
  refine cp_some (l := [2, 2, 9]) (i := 1) rfl (by decide) ?_
  refine heard_tick D' (by decide) ?_
  rw [one_t]
  exact ⟨by show 3 ≤ 100000; decide, q⟩
theorem v6 {t2 t3 t4 t5 : Sl} (q : E.rt (.bl true) n) : V6 K (VS t2 t3 t4 t5 (.own [H0, H1, H2, H3])) n E x := by
  unfold V6
  (try simp only [Dl.wRet, Dl.wRetN, Dl.wThen, Dl.wIf, Dl.wOr, Dl.wAnd, Dl.wNot, Dl.wNotV, Dl.wAndV, Dl.wOrV, Dl.wB, Dl.wTru, Dl.wOp, Dl.wUn, Dl.wVar, Dl.wC, Dl.wF, Dl.wCons, Dl.wNil, Dl.wTup, Dl.wLst, Dl.wSet, Dl.wAsg, Dl.wNext, Dl.wDrop, Dl.wFz, Dl.wfLst, Dl.wfList, Dl.wfCat, Dl.wSetOwn, Dl.wApp, Dl.wFreeze, Dl.wFreezeD, Dl.wIsi, Dl.wChain, Dl.wIfE, Dl.wSeq, Dl.wRng1, Dl.wRng2, Dl.wLc, Dl.wLcOwn, Dl.wFor, Dl.wPar, Dl.wDPut, Dl.wGet2, Dl.wLend, Dl.wLendT, Dl.wFld, Dl.wProp, Dl.wMeth, Dl.wMethK, Dl.wMakeM, Dl.wMakeMn, Dl.fMakeM, Dl.wStar, Dl.wSl, Dl.wNoP, Dl.wPart, Dl.wItOwn, Dl.wEnT, Dl.wEnL, Dl.wRaise1, Dl.wRaise2, Dl.wFldOwn, Dl.wMaxD, Dl.wDct0, Dl.wYes, Dl.fOwn, Dl.fOwnX, Dl.fOwnNe, Dl.fOwnNeX, Dl.fOwnIn, Dl.fOwnNotIn, Dl.fOwnLen, Dl.fOwnBool, Dl.gt, Dl.isB_bl, Dl.tru_bl, Dl.optI_some, Dl.slV_val, Dl.ownL_own, Dl.ownDI_own, Dl.lendI_own, Dl.lendI_ownD, Dl.seqI_tup, Dl.seqI_lst, Dl.tupI_tup, Dl.lstI_lst, Dl.intI_int, Dl.dctI_dct, Dl.keyI_int, Dl.insI_ins, Dl.ownIi_own, Dl.excI_exc, Dl.fOne_one, Dl.fI0_int, Dl.fI2_int, Dl.fLen_tup, Dl.fLen_lst, Dl.fTuple_tup, Dl.fTuple_lst, Dl.fInt_int, Dl.fInt_bl, Dl.fAdd_int, Dl.fAdd_tup, Dl.fAdd_lst, Dl.fNeg_int, Dl.fSl_tup, Dl.fSl_lst, Dl.gwTup_tup, Dl.gwUnl_lst, Dl.gwCons_cons, Dl.gwNil_nil, Dl.gwName_eq, Dl.lcD_nil, Dl.wipeS, List.set, if_true, if_false, Bool.false_eq_true, Bool.not_true, Bool.not_false, ite_true, ite_false])
  refine ⟨by show 2 ≤ 1000; decide, by show 2 ≤ 1000; decide, by show 2 ≤ 1000; decide, by show 2 ≤ 1000; decide, by show 4 ≤ 1000; decide, ?_⟩
  exact fEq_self (d := .lst [H0, H1, H2, H3]) (by decide +kernel) q
theorem dt_law (D' : Dis K) : W_law K ([.un, .val .pen] ++ List.replicate 6 .un) 0 { nx := fun _ _ => False, rt := fun d _ => d = .bl true } (fun _ _ => False) := by
  show W_law K (VS .un .un .un .un .un) 0 _ _
  rw [V_eq]
  refine then_ ?_
  refine v0 (K := K) fun t n hn => ?_
  dsimp only
  refine then_ ?_
  refine v1 (K := K) fun t3 t4 t5 => ?_
  dsimp only
  refine then_ ?_
  refine v2 (K := K) D' ?_
  dsimp only
  refine then_ ?_
  refine v3 (K := K) D' ?_
  dsimp only
  refine then_ ?_
  refine v4 (K := K) D' ?_
  dsimp only
  refine then_ ?_
  refine v5 (K := K) D' ?_
  dsimp only
  exact v6 (K := K) rfl
end
end Lz

set_option Elab.async false
set_option linter.all false
set_option maxRecDepth 100000
set_option maxHeartbeats 4000000
namespace Lz
open PySem PySem.Spec PyProof.Rows L2 LamX Dl
section
variable {P : Program} {w : World} {K : PySem.W.Frag} {mg : Str → Option Value} {base : Heap}
theorem b_is_integer (c : Fct P w K mg base) (T : Tb)   (f : Addr) (cdv : Value) (A : Around) (outer : List Env) (s : Shared) (H : Hp) (E : XK) (hr : Room 2 (A.deeper (envOfC "is_integer" (defScope s_is_integer) s.heap.objs.size f cdv))) :
    PSs (cxOf (L2.CX P w) P w K mg base ["value"] "is_integer" (defScope s_is_integer) f cdv A outer s H E) (defBody s_is_integer) (toTS K T E (W_is_integer K)) := by
  have hu := hu64 hr
  have hu5 := hu65 hr
  exact (dss_one (ds_ret (de_and (de_isi (pe_callB call_isi (by rfl) c.n.isinstance boot_isinstance (pa_cons (de_var (pv 0)) (pa_cons (pe_bltn (v := .ty "int") (by rfl) c.n.int PyProof.Rows.boot_int rfl) pa_nil))) c.t_int) (de_one (de_not (de_isi (pe_callB call_isi (by rfl) c.n.isinstance boot_isinstance (pa_cons (de_var (pv 0)) (pa_cons (pe_bltn (v := .ty "bool") (by rfl) c.n.bool PyProof.Rows.boot_bool rfl) pa_nil))) c.t_bool))))))
theorem b_is_within (c : Fct P w K mg base) (T : Tb) (d_is_integer : Def P w K mg base "is_integer" 3 ["value"] (c_is_integer K))  (f : Addr) (cdv : Value) (A : Around) (outer : List Env) (s : Shared) (H : Hp) (E : XK) (hr : Room 3 (A.deeper (envOfC "is_within" (defScope s_is_within) s.heap.objs.size f cdv))) :
    PSs (cxOf (L2.CX P w) P w K mg base ["value", "least", "most"] "is_within" (defScope s_is_within) f cdv A outer s H E) (defBody s_is_within) (toTS K T E (W_is_within K)) := by
  have hu := hu64 hr
  have hu5 := hu65 hr
  exact (dss_one (ds_ret (de_and (de_def d_is_integer (hr.mono (by decide)) (passes_call (takes_of rfl rfl rfl rfl) (fun _ _ _ _ h => h)) (da_cons (de_var (pv 0)) da_nil)) (de_one (de_chn op_le (lr_I0 (h' := fun i j => .bl (decide (i ≤ j))) fun _ _ _ _ _ => .bl _) op_le (lr_I0 (h' := fun i j => .bl (decide (i ≤ j))) fun _ _ _ _ _ => .bl _) (de_var (pv 1)) (de_var (pv 0)) (de_var (pv 2)))))))
theorem b_is_age (c : Fct P w K mg base) (T : Tb) (d_is_within : Def P w K mg base "is_within" 4 ["value", "least", "most"] (c_is_within K))  (f : Addr) (cdv : Value) (A : Around) (outer : List Env) (s : Shared) (H : Hp) (E : XK) (hr : Room 4 (A.deeper (envOfC "is_age" (defScope s_is_age) s.heap.objs.size f cdv))) :
    PSs (cxOf (L2.CX P w) P w K mg base ["value"] "is_age" (defScope s_is_age) f cdv A outer s H E) (defBody s_is_age) (toTS K T E (W_is_age K)) := by
  obtain ⟨t_MOST_AGE, g_MOST_AGE⟩ := c.k_MOST_AGE
  have hu := hu64 hr
  have hu5 := hu65 hr
  exact (dss_one (ds_ret (de_def d_is_within (hr.mono (by decide)) (passes_call (takes_of rfl rfl rfl rfl) (fun _ _ _ _ h => h)) (da_cons (de_var (pv 0)) (da_cons de_int (da_cons (de_gint (pe_glob (v := .int 8) rfl g_MOST_AGE ⟨_, rfl⟩)) da_nil))))))
theorem b_is_ascending (c : Fct P w K mg base) (T : Tb)   (f : Addr) (cdv : Value) (A : Around) (outer : List Env) (s : Shared) (H : Hp) (E : XK) (hr : Room 2 (A.deeper (envOfC "is_ascending" (defScope s_is_ascending) s.heap.objs.size f cdv))) :
    PSs (cxOf (L2.CX P w) P w K mg base ["values", "at"] "is_ascending" (defScope s_is_ascending) f cdv A outer s H E) (defBody s_is_ascending) (toTS K T E (W_is_ascending K)) := by
  have hu := hu64 hr
  have hu5 := hu65 hr
  exact (dss_one (ds_ret (de_f (pe_callB (cr_all rfl) (by rfl) c.n.all PyProof.Rows.boot_all (da_cons (de_lc (own := [("at", 1)]) rfl sc_is_ascending.nd (di_rng2 (by rfl) c.n.range de_int (de_f (pe_callB call_len (by rfl) c.n.len boot_len (da_cons (de_var (pv 0)) da_nil)) lr_len)) (blkOk_by (by kernel_rfl)) (lg_name 1) (by decide) (fun _ _ _ _ _ => by exact (pg_name (i := 1) sc_is_ascending.nd rfl (Or.inl rfl))) (fun _ _ _ _ _ => by exact dts_nil) (fun _ _ _ _ _ => by exact (de_cmp op_lt (lr_I0 (h' := fun i j => .bl (decide (i < j))) fun _ _ _ _ _ => .bl _) (de_ix (de_var (pv 0)) (de_op op_sub (lr_I0 (h' := fun i j => .int (i - j)) fun _ _ _ _ _ => .int _) (de_var (pv 1)) de_int) (fun _ _ => rfl)) (de_ix (de_var (pv 0)) (de_var (pv 1)) (fun _ _ => rfl)) (nomark _)))) da_nil)) lr_all)))
theorem b_is_sum (c : Fct P w K mg base) (T : Tb) (d_is_age : Def P w K mg base "is_age" 5 ["value"] (c_is_age K)) (d_is_ascending : Def P w K mg base "is_ascending" 3 ["values"] (c_is_ascending K))  (f : Addr) (cdv : Value) (A : Around) (outer : List Env) (s : Shared) (H : Hp) (E : XK) (hr : Room 5 (A.deeper (envOfC "is_sum" (defScope s_is_sum) s.heap.objs.size f cdv))) :
    PSs (cxOf (L2.CX P w) P w K mg base ["value", "age"] "is_sum" (defScope s_is_sum) f cdv A outer s H E) (defBody s_is_sum) (toTS K T E (W_is_sum K)) := by
  have hu := hu64 hr
  have hu5 := hu65 hr
  exact (dss_cons (ds_if (dt_w (dw_or (dt_not (dt_val (de_isi (pe_callB call_isi (by rfl) c.n.isinstance boot_isinstance (pa_cons (de_var (pv 0)) (pa_cons (pe_bltn (v := .ty "tuple") (by rfl) c.n.tuple PyProof.Rows.boot_tuple rfl) pa_nil))) c.t_tuple))) (dw_or1 (dt_cmp (op_eqD hu) lr_eqD (de_f (pe_callB call_len (by rfl) c.n.len boot_len (da_cons (de_var (pv 0)) da_nil)) lr_len) de_int (nomark _)))))
      (dss_one (ds_ret de_bl))
      dss_nil)
    (dss_one (ds_ret (de_and (de_f (pe_callB (cr_all rfl) (by rfl) c.n.all PyProof.Rows.boot_all (da_cons (de_lc (own := [("age", 1)]) rfl sc_is_sum.nd (di_seq (de_var (pv 0))) (blkOk_by (by kernel_rfl)) (lg_name 1) (by decide) (fun _ _ _ _ _ => by exact (pg_name (i := 1) sc_is_sum.nd rfl (Or.inl rfl))) (fun _ _ _ _ _ => by exact dts_nil) (fun _ _ _ _ _ => by exact (de_def d_is_age (hr.mono (by decide)) passL (da_cons (de_var (pv 1)) da_nil)))) da_nil)) lr_all) (de_one (de_def d_is_ascending (hr.mono (by decide)) (passes_call (takes_of rfl rfl rfl rfl) (fun _ _ _ _ h => h)) (da_cons (de_var (pv 0)) da_nil)))))))
theorem b_Tick_init (c : Fct P w K mg base) (T : Tb) (d_is_sum : Def P w K mg base "is_sum" 6 ["value"] (c_is_sum K))  (f : Addr) (cdv : Value) (A : Around) (outer : List Env) (s : Shared) (H : Hp) (E : XK) (hr : Room 6 (A.deeper (envOfC "Tick.__init__" (defScope s_Tick_init) s.heap.objs.size f cdv))) :
    PSs (cxOf (L2.CX P w) P w K mg base ["self", "mute", "sums", "at", "ages"] "Tick.__init__" (defScope s_Tick_init) f cdv A outer s H E) (defBody s_Tick_init) (toTS K T E (W_Tick_init K)) := by
  obtain ⟨t_MOST_SUMS, g_MOST_SUMS⟩ := c.k_MOST_SUMS
  have hu := hu64 hr
  have hu5 := hu65 hr
  exact (dss_cons (ds_for (ps_for (passes_of rfl) rfl (di_enT (by rfl) c.n.enumerate (de_var (pv 2))) (pg_tup rfl (pgs_cons (pg_name (i := 3) sc_Tick_init.nd rfl (Or.inl rfl)) (pgs_cons (pg_name (i := 4) sc_Tick_init.nd rfl (Or.inl rfl)) pgs_nil)))
      (dss_one (ds_if (dt_w (dw_or (dt_not (dt_val (de_def d_is_sum (hr.mono (by decide)) (passes_call (takes_of rfl rfl rfl rfl) (fun _ _ _ _ h => h)) (da_cons (de_var (pv 4)) da_nil)))) (dw_or1 (dt_cmp (op_inA hu5) lr_inA (de_var (pv 4)) (de_slice (de_var (pv 2)) do_none (do_some (de_var (pv 3)))) (by rfl)))))
      (dss_one (ds_er1 c.e_BadTick (hr.mono (by decide)) rfl (takes_of rfl rfl rfl rfl) (by exact (de_var (pv 3)))))
      dss_nil))) (lgs_len (lg_cons (lg_name 3) (lg_cons (lg_name 4) lg_nil)) (gw_lenN gw_name (gw_lenN gw_name gw_len0))))
    (dss_cons (ds_if (dt_cmp op_gt (lr_I0 (h' := fun i j => .bl (decide (j < i))) fun _ _ _ _ _ => .bl _) (de_f (pe_callB call_len (by rfl) c.n.len boot_len (da_cons (de_var (pv 2)) da_nil)) lr_len) (de_gint (pe_glob (v := .int 6) rfl g_MOST_SUMS ⟨_, rfl⟩)) (nomark _))
      (dss_one (ds_er2 c.e_TooMany (hr.mono (by decide)) rfl (takes_of rfl rfl rfl rfl) (by exact de_str) (by exact (de_gint (pe_glob (v := .int 6) rfl g_MOST_SUMS ⟨_, rfl⟩)))))
      dss_nil)
    (dss_cons (ds_if (dt_not (dt_val (de_isi (pe_callB call_isi (by rfl) c.n.isinstance boot_isinstance (pa_cons (de_var (pv 1)) (pa_cons (pe_bltn (v := .ty "bool") (by rfl) c.n.bool PyProof.Rows.boot_bool rfl) pa_nil))) c.t_bool)))
      (dss_one (ds_er1 c.e_BadTick (hr.mono (by decide)) rfl (takes_of rfl rfl rfl rfl) (by exact de_str)))
      dss_nil)
    (dss_cons (ds_if (dt_w (dw_and (dt_val (de_var (pv 1))) (dw_and1 (dt_val (de_f (pe_callB (cr_any rfl) (by rfl) c.n.any PyProof.Rows.boot_any (da_cons (de_lc (own := [("ages", 4)]) rfl sc_Tick_init.nd (di_seq (de_var (pv 2))) (blkOk_by (by kernel_rfl)) (lg_name 4) (by decide) (fun _ _ _ _ _ => by exact (pg_name (i := 4) sc_Tick_init.nd rfl (Or.inl rfl))) (fun _ _ _ _ _ => by exact dts_nil) (fun _ _ _ _ _ => by exact (de_cmp (op_eqD hu) lr_eqD (de_ix (de_var (pv 4)) de_int (fun _ _ => rfl)) de_int (nomark _)))) da_nil)) lr_any)))))
      (dss_one (ds_er1 c.e_BadTick (hr.mono (by decide)) rfl (takes_of rfl rfl rfl rfl) (by exact de_str)))
      dss_nil)
    (dss_cons (ds_fldOwn (i := 0) c.cl_Tick c.na_Tick_sums (ps_fld (pv 0) (de_var (pv 2)) rfl))
    (dss_one (ds_fldOwn (i := 0) c.cl_Tick c.na_Tick_mute (ps_fld (pv 0) (de_var (pv 1)) rfl))))))))
theorem b_Tick_eq (c : Fct P w K mg base) (T : Tb)   (f : Addr) (cdv : Value) (A : Around) (outer : List Env) (s : Shared) (H : Hp) (E : XK) (hr : Room 2 (A.deeper (envOfC "Tick.__eq__" (defScope s_Tick_eq) s.heap.objs.size f cdv))) :
    PSs (cxOf (L2.CX P w) P w K mg base ["self", "other"] "Tick.__eq__" (defScope s_Tick_eq) f cdv A outer s H E) (defBody s_Tick_eq) (toTS K T E (W_Tick_eq K)) := by
  have hu := hu64 hr
  have hu5 := hu65 hr
  exact (dss_one (ds_ret (de_and (de_isi (pe_callB call_isi (by rfl) c.n.isinstance boot_isinstance (pa_cons (de_var (pv 1)) (pa_cons (pe_glob (v := .ref (ga K "Tick")) rfl c.g_Tick rfl) pa_nil))) c.t_Tick) (de_and (de_cmp (op_eqD hu) lr_eqD (de_fld c.cl_Tick c.na_Tick_sums (pe_fld (de_var (pv 0)) rfl)) (de_fld c.cl_Tick c.na_Tick_sums (pe_fld (de_var (pv 1)) rfl)) (nomark _)) (de_one (de_cmp (op_eqD hu) lr_eqD (de_fld c.cl_Tick c.na_Tick_mute (pe_fld (de_var (pv 0)) rfl)) (de_fld c.cl_Tick c.na_Tick_mute (pe_fld (de_var (pv 1)) rfl)) (nomark _)))))))
theorem b_Tick_str (c : Fct P w K mg base) (T : Tb)   (f : Addr) (cdv : Value) (A : Around) (outer : List Env) (s : Shared) (H : Hp) (E : XK) (hr : Room 2 (A.deeper (envOfC "Tick.__str__" (defScope s_Tick_str) s.heap.objs.size f cdv))) :
    PSs (cxOf (L2.CX P w) P w K mg base ["self", "texts", "first", "words", "ages", "age"] "Tick.__str__" (defScope s_Tick_str) f cdv A outer s H E) (defBody s_Tick_str) (toTS K T E (W_Tick_str K)) := by
  have hu := hu64 hr
  have hu5 := hu65 hr
  exact (dss_cons (ds_lc (i := 1) (vs := [4]) (lg_name 4) (by decide) (ps_setLc (i := 1) (own := [("ages", 4)]) rfl sc_Tick_str.nd rfl rfl (sw_true rfl rfl rfl (by decide +kernel)) (di_seq (de_fld c.cl_Tick c.na_Tick_sums (pe_fld (de_var (pv 0)) rfl))) (blkOk_by (by kernel_rfl)) (fun _ _ _ _ _ => by exact (pg_name (i := 4) sc_Tick_str.nd rfl (Or.inl rfl))) (fun _ _ _ _ _ => by exact dts_nil) (fun _ _ _ _ _ => by exact (de_join (pe_join de_str (de_lc (own := [("age", 5)]) rfl sc_Tick_str.nd (di_seq (de_var (pv 4))) (blkOk_by (by kernel_rfl)) (lg_name 5) (by decide) (fun _ _ _ _ _ => by exact (pg_name (i := 5) sc_Tick_str.nd rfl (Or.inl rfl))) (fun _ _ _ _ _ => by exact dts_nil) (fun _ _ _ _ _ => by exact (de_f (pe_callTy call_str_int (by rfl) c.n.str PyProof.Rows.boot_str (da_cons (de_var (pv 5)) da_nil)) lr_str))))))))
    (dss_cons (ds_set (ps_set (i := 2) sc_Tick_str.nd rfl (Or.inl rfl) (de_ifE (dt_val (de_fld c.cl_Tick c.na_Tick_mute (pe_fld (de_var (pv 0)) rfl))) de_str de_str)))
    (dss_freeze (i := 1) (dss_cons (ds_set (ps_set (i := 3) sc_Tick_str.nd rfl (Or.inl rfl) (de_ifE (dt_val (de_var (pv 1))) (de_join (pe_join de_str (de_var (pv 1)))) de_str)))
    (dss_one (ds_ret (de_joined (.cons (de_fmt (de_var (pv 2))) (.cons (de_fmt (de_var (pv 3))) .nil)))))))))
theorem b_Plan_init (c : Fct P w K mg base) (T : Tb)   (f : Addr) (cdv : Value) (A : Around) (outer : List Env) (s : Shared) (H : Hp) (E : XK) (hr : Room 2 (A.deeper (envOfC "Plan.__init__" (defScope s_Plan_init) s.heap.objs.size f cdv))) :
    PSs (cxOf (L2.CX P w) P w K mg base ["self", "ticks", "at", "tick"] "Plan.__init__" (defScope s_Plan_init) f cdv A outer s H E) (defBody s_Plan_init) (toTS K T E (W_Plan_init K)) := by
  obtain ⟨t_MOST_PHASES, g_MOST_PHASES⟩ := c.k_MOST_PHASES
  have hu := hu64 hr
  have hu5 := hu65 hr
  exact (dss_cons (ds_for (ps_for (passes_of rfl) rfl (di_enT (by rfl) c.n.enumerate (de_var (pv 1))) (pg_tup rfl (pgs_cons (pg_name (i := 2) sc_Plan_init.nd rfl (Or.inl rfl)) (pgs_cons (pg_name (i := 3) sc_Plan_init.nd rfl (Or.inl rfl)) pgs_nil)))
      (dss_one (ds_if (dt_not (dt_val (de_isi (pe_callB call_isi (by rfl) c.n.isinstance boot_isinstance (pa_cons (de_var (pv 3)) (pa_cons (pe_glob (v := .ref (ga K "Tick")) rfl c.g_Tick rfl) pa_nil))) c.t_Tick)))
      (dss_one (ds_er1 c.e_BadPlan (hr.mono (by decide)) rfl (takes_of rfl rfl rfl rfl) (by exact (de_var (pv 2)))))
      dss_nil))) (lgs_len (lg_cons (lg_name 2) (lg_cons (lg_name 3) lg_nil)) (gw_lenN gw_name (gw_lenN gw_name gw_len0))))
    (dss_cons (ds_if (dt_cmp (op_eqD hu) lr_eqD (de_f (pe_callB call_len (by rfl) c.n.len boot_len (da_cons (de_var (pv 1)) da_nil)) lr_len) de_int (nomark _))
      (dss_one (ds_er1 c.e_BadPlan (hr.mono (by decide)) rfl (takes_of rfl rfl rfl rfl) (by exact de_str)))
      dss_nil)
    (dss_cons (ds_if (dt_cmp op_gt (lr_I0 (h' := fun i j => .bl (decide (j < i))) fun _ _ _ _ _ => .bl _) (de_f (pe_callB call_len (by rfl) c.n.len boot_len (da_cons (de_var (pv 1)) da_nil)) lr_len) (de_gint (pe_glob (v := .int 6) rfl g_MOST_PHASES ⟨_, rfl⟩)) (nomark _))
      (dss_one (ds_er2 c.e_TooMany (hr.mono (by decide)) rfl (takes_of rfl rfl rfl rfl) (by exact de_str) (by exact (de_gint (pe_glob (v := .int 6) rfl g_MOST_PHASES ⟨_, rfl⟩)))))
      dss_nil)
    (dss_one (ds_fldOwn (i := 0) c.cl_Plan c.na_Plan__ticks (ps_fld (pv 0) (de_var (pv 1)) rfl))))))
theorem b_Plan_len (c : Fct P w K mg base) (T : Tb)   (f : Addr) (cdv : Value) (A : Around) (outer : List Env) (s : Shared) (H : Hp) (E : XK) (hr : Room 2 (A.deeper (envOfC "Plan.__len__" (defScope s_Plan_len) s.heap.objs.size f cdv))) :
    PSs (cxOf (L2.CX P w) P w K mg base ["self"] "Plan.__len__" (defScope s_Plan_len) f cdv A outer s H E) (defBody s_Plan_len) (toTS K T E (W_Plan_len K)) := by
  have hu := hu64 hr
  have hu5 := hu65 hr
  exact (dss_one (ds_ret (de_f (pe_callB call_len (by rfl) c.n.len boot_len (da_cons (de_fld c.cl_Plan c.na_Plan__ticks (pe_fld (de_var (pv 0)) rfl)) da_nil)) lr_len)))
theorem b_Plan_getitem (c : Fct P w K mg base) (T : Tb) (d_is_within : Def P w K mg base "is_within" 4 ["value", "least", "most"] (c_is_within K))  (f : Addr) (cdv : Value) (A : Around) (outer : List Env) (s : Shared) (H : Hp) (E : XK) (hr : Room 4 (A.deeper (envOfC "Plan.__getitem__" (defScope s_Plan_getitem) s.heap.objs.size f cdv))) :
    PSs (cxOf (L2.CX P w) P w K mg base ["self", "at"] "Plan.__getitem__" (defScope s_Plan_getitem) f cdv A outer s H E) (defBody s_Plan_getitem) (toTS K T E (W_Plan_getitem K)) := by
  have hu := hu64 hr
  have hu5 := hu65 hr
  exact (dss_cons (ds_if (dt_not (dt_val (de_def d_is_within (hr.mono (by decide)) (passes_call (takes_of rfl rfl rfl rfl) (fun _ _ _ _ h => h)) (da_cons (de_var (pv 1)) (da_cons de_int (da_cons (de_op op_sub (lr_I0 (h' := fun i j => .int (i - j)) fun _ _ _ _ _ => .int _) (de_f (pe_callB call_len (by rfl) c.n.len boot_len (da_cons (de_fld c.cl_Plan c.na_Plan__ticks (pe_fld (de_var (pv 0)) rfl)) da_nil)) lr_len) de_int) da_nil))))))
      (dss_one (ds_er1 c.e_NoPhase (hr.mono (by decide)) rfl (takes_of rfl rfl rfl rfl) (by exact (de_var (pv 1)))))
      dss_nil)
    (dss_one (ds_ret (de_ix (de_fld c.cl_Plan c.na_Plan__ticks (pe_fld (de_var (pv 0)) rfl)) (de_var (pv 1)) (fun _ _ => rfl)))))
theorem b_Plan_rate (c : Fct P w K mg base) (T : Tb)   (f : Addr) (cdv : Value) (A : Around) (outer : List Env) (s : Shared) (H : Hp) (E : XK) (hr : Room 2 (A.deeper (envOfC "Plan.rate" (defScope s_Plan_rate) s.heap.objs.size f cdv))) :
    PSs (cxOf (L2.CX P w) P w K mg base ["self", "many", "speaking", "tick"] "Plan.rate" (defScope s_Plan_rate) f cdv A outer s H E) (defBody s_Plan_rate) (toTS K T E (W_Plan_rate K)) := by
  have hu := hu64 hr
  have hu5 := hu65 hr
  exact (dss_cons (ds_set (ps_set (i := 1) sc_Plan_rate.nd rfl (Or.inl rfl) (de_f (pe_callB (cr_sum rfl) (by rfl) c.n.sum PyProof.Rows.boot_sum (da_cons (de_lc (own := [("tick", 3)]) rfl sc_Plan_rate.nd (di_seq (de_fld c.cl_Plan c.na_Plan__ticks (pe_fld (de_var (pv 0)) rfl))) (blkOk_by (by kernel_rfl)) (lg_name 3) (by decide) (fun _ _ _ _ _ => by exact (pg_name (i := 3) sc_Plan_rate.nd rfl (Or.inl rfl))) (fun _ _ _ _ _ => by exact dts_nil) (fun _ _ _ _ _ => by exact (de_f (pe_callB call_len (by rfl) c.n.len boot_len (da_cons (de_fld c.cl_Tick c.na_Tick_sums (pe_fld (de_var (pv 3)) rfl)) da_nil)) lr_len))) da_nil)) lr_sum)))
    (dss_cons (ds_lc (i := 2) (vs := [3]) (lg_name 3) (by decide) (ps_setLc (i := 2) (own := [("tick", 3)]) rfl sc_Plan_rate.nd rfl rfl (sw_true rfl rfl rfl (by decide +kernel)) (di_seq (de_fld c.cl_Plan c.na_Plan__ticks (pe_fld (de_var (pv 0)) rfl))) (blkOk_by (by kernel_rfl)) (fun _ _ _ _ _ => by exact (pg_name (i := 3) sc_Plan_rate.nd rfl (Or.inl rfl))) (fun _ _ _ _ _ => by exact (dts_one (dt_not (dt_val (de_fld c.cl_Tick c.na_Tick_mute (pe_fld (de_var (pv 3)) rfl)))))) (fun _ _ _ _ _ => by exact (de_var (pv 3)))))
    (dss_freeze (i := 2) (dss_one (ds_ret (de_tup (da_cons (de_var (pv 1)) (da_cons (de_f (pe_callB call_len (by rfl) c.n.len boot_len (da_cons (de_var (pv 2)) da_nil)) lr_len) da_nil))))))))
theorem b_Plan_str (c : Fct P w K mg base) (T : Tb) (d_Tick_str : Met P w K mg base "Tick" "__str__" 3 ["self"] (c_Tick_str K))  (f : Addr) (cdv : Value) (A : Around) (outer : List Env) (s : Shared) (H : Hp) (E : XK) (hr : Room 5 (A.deeper (envOfC "Plan.__str__" (defScope s_Plan_str) s.heap.objs.size f cdv))) :
    PSs (cxOf (L2.CX P w) P w K mg base ["self", "tick"] "Plan.__str__" (defScope s_Plan_str) f cdv A outer s H E) (defBody s_Plan_str) (toTS K T E (W_Plan_str K)) := by
  have hu := hu64 hr
  have hu5 := hu65 hr
  exact (dss_one (ds_ret (de_join (pe_join de_str (de_lc (own := [("tick", 1)]) rfl sc_Plan_str.nd (di_seq (de_fld c.cl_Plan c.na_Plan__ticks (pe_fld (de_var (pv 0)) rfl))) (blkOk_by (by kernel_rfl)) (lg_name 1) (by decide) (fun _ _ _ _ _ => by exact (pg_name (i := 1) sc_Plan_str.nd rfl (Or.inl rfl))) (fun _ _ _ _ _ => by exact dts_nil) (fun _ _ _ _ _ => by exact (de_f (pe_callTy (Ow.call_strO d_Tick_str.me.at_ d_Tick_str.me.fn (d_Tick_str.raw _) (hr.mono (by decide)) passL) (by rfl) c.n.str PyProof.Rows.boot_str (da_cons (de_var (pv 1)) da_nil)) lr_ownStr)))))))
theorem b_copies (c : Fct P w K mg base) (T : Tb) (d_is_within : Def P w K mg base "is_within" 4 ["value", "least", "most"] (c_is_within K)) (d_Plan_init : FnV P w K mg base 3 (ma K "Plan" "__init__") (ga K "Plan") (c_Plan_init K)) (d_Tick_init : ∀ T : Tb, Ow.FnM P w K mg base (L2.CX P w) 7 (ma K "Tick" "__init__") "mute" (.bl false) (spI K T (ga K "Tick") (c_Tick_init K)))  (f : Addr) (cdv : Value) (A : Around) (outer : List Env) (s : Shared) (H : Hp) (E : XK) (hr : Room 8 (A.deeper (envOfC "copies" (defScope s_copies) s.heap.objs.size f cdv))) :
    PSs (cxOf (L2.CX P w) P w K mg base ["ages", "at", "age", "sums"] "copies" (defScope s_copies) f cdv A outer s H E) (defBody s_copies) (toTS K T E (W_copies K)) := by
  obtain ⟨t_MOST_AGE, g_MOST_AGE⟩ := c.k_MOST_AGE
  have hu := hu64 hr
  have hu5 := hu65 hr
  exact (dss_cons (ds_for (ps_for (passes_of rfl) rfl (di_enT (by rfl) c.n.enumerate (de_var (pv 0))) (pg_tup rfl (pgs_cons (pg_name (i := 1) sc_copies.nd rfl (Or.inl rfl)) (pgs_cons (pg_name (i := 2) sc_copies.nd rfl (Or.inl rfl)) pgs_nil)))
      (dss_one (ds_if (dt_w (dw_or (dt_not (dt_val (de_def d_is_within (hr.mono (by decide)) (passes_call (takes_of rfl rfl rfl rfl) (fun _ _ _ _ h => h)) (da_cons (de_var (pv 2)) (da_cons de_int (da_cons (de_gint (pe_glob (v := .int 8) rfl g_MOST_AGE ⟨_, rfl⟩)) da_nil)))))) (dw_or1 (dt_cmp (op_inA hu5) lr_inA (de_var (pv 2)) (de_slice (de_var (pv 0)) do_none (do_some (de_var (pv 1)))) (by rfl)))))
      (dss_one (ds_er1 c.e_BadTick (hr.mono (by decide)) rfl (takes_of rfl rfl rfl rfl) (by exact (de_var (pv 1)))))
      dss_nil))) (lgs_len (lg_cons (lg_name 1) (lg_cons (lg_name 2) lg_nil)) (gw_lenN gw_name (gw_lenN gw_name gw_len0))))
    (dss_cons (ds_lc (i := 3) (vs := [2]) (lg_name 2) (by decide) (ps_setLc (i := 3) (own := [("age", 2)]) rfl sc_copies.nd rfl rfl (sw_true rfl rfl rfl (by decide +kernel)) (di_seq (de_var (pv 0))) (blkOk_by (by kernel_rfl)) (fun _ _ _ _ _ => by exact (pg_name (i := 2) sc_copies.nd rfl (Or.inl rfl))) (fun _ _ _ _ _ => by exact dts_nil) (fun _ _ _ _ _ => by exact (de_tup (da_cons (de_var (pv 2)) da_nil)))))
    (dss_freeze (i := 3) (dss_one (ds_ret (de_makeV (Ow.pe_makeRs c.mk_Plan (d_Plan_init _) (hr.mono (by decide)) rfl c.g_Plan (passes_call (takes_of rfl rfl rfl rfl) (fun _ _ _ _ h => h)) (da_cons (de_makeMn (m := .bl false) (fun _ _ _ => .bl false) (Ow.pe_makeNX c.mk_Tick (d_Tick_init _) (hr.mono (by decide)) rfl c.g_Tick (passes_call (takes_of rfl rfl rfl rfl) (fun _ _ _ _ h => h)) (da_cons (de_tup (da_cons de_int da_nil)) (da_star (de_var (pv 3)) da_nil)))) da_nil))))))))
theorem b_parity (c : Fct P w K mg base) (T : Tb) (d_is_within : Def P w K mg base "is_within" 4 ["value", "least", "most"] (c_is_within K)) (d_Tick_init : ∀ T : Tb, Ow.FnM P w K mg base (L2.CX P w) 7 (ma K "Tick" "__init__") "mute" (.bl false) (spI K T (ga K "Tick") (c_Tick_init K))) (d_Plan_init : FnV P w K mg base 3 (ma K "Plan" "__init__") (ga K "Plan") (c_Plan_init K))  (f : Addr) (cdv : Value) (A : Around) (outer : List Env) (s : Shared) (H : Hp) (E : XK) (hr : Room 8 (A.deeper (envOfC "parity" (defScope s_parity) s.heap.objs.size f cdv))) :
    PSs (cxOf (L2.CX P w) P w K mg base ["size", "single", "closing", "_"] "parity" (defScope s_parity) f cdv A outer s H E) (defBody s_parity) (toTS K T E (W_parity K)) := by
  obtain ⟨t_MOST_PHASES, g_MOST_PHASES⟩ := c.k_MOST_PHASES
  have hu := hu64 hr
  have hu5 := hu65 hr
  exact (dss_cons (ds_if (dt_not (dt_val (de_def d_is_within (hr.mono (by decide)) (passes_call (takes_of rfl rfl rfl rfl) (fun _ _ _ _ h => h)) (da_cons (de_var (pv 0)) (da_cons de_int (da_cons (de_op op_sub (lr_I0 (h' := fun i j => .int (i - j)) fun _ _ _ _ _ => .int _) (de_gint (pe_glob (v := .int 6) rfl g_MOST_PHASES ⟨_, rfl⟩)) de_int) da_nil))))))
      (dss_one (ds_er1 c.e_BadCount (hr.mono (by decide)) rfl (takes_of rfl rfl rfl rfl) (by exact (de_var (pv 0)))))
      dss_nil)
    (dss_cons (ds_lc (i := 1) (vs := [3]) (lg_name 3) (by decide) (ps_setLc (i := 1) (own := [("_", 3)]) rfl sc_parity.nd rfl rfl (sw_true rfl rfl rfl (by decide +kernel)) (di_rng1 (by rfl) c.n.range (de_var (pv 0))) (blkOk_by (by kernel_rfl)) (fun _ _ _ _ _ => by exact (pg_name (i := 3) sc_parity.nd rfl (Or.inl rfl))) (fun _ _ _ _ _ => by exact dts_nil) (fun _ _ _ _ _ => by exact (de_makeMn (m := .bl false) (fun _ _ _ => .bl false) (Ow.pe_makeMn c.mk_Tick (d_Tick_init _) (hr.mono (by decide)) rfl c.g_Tick passL (da_cons (de_tup (da_cons de_int da_nil)) da_nil))))))
    (dss_cons (ds_set (ps_set (i := 2) sc_parity.nd rfl (Or.inl rfl) (de_makeM (Ow.pe_makeM c.mk_Tick (d_Tick_init _) (hr.mono (by decide)) rfl c.g_Tick (passes_call (takes_of rfl rfl rfl rfl) (fun _ _ _ _ h => h)) (da_cons (de_tupRg de_int (de_op op_addA lr_add (de_var (pv 0)) de_int) rfl (by rfl) c.n.tuple (by rfl) c.n.range) da_nil) (pk_cons de_bl pk_nil)))))
    (dss_freeze (i := 1) (dss_one (ds_ret (de_makeV (Ow.pe_makeRX c.mk_Plan (d_Plan_init _) (hr.mono (by decide)) rfl c.g_Plan (passes_call (takes_of rfl rfl rfl rfl) (fun _ _ _ _ h => h)) (da_star (de_var (pv 1)) (da_cons (de_var (pv 2)) da_nil))))))))))
theorem b_l_pick (c : Fct P w K mg base) (T : Tb) (d_l_draw : Def P w K mg base "_law_draw" 1 ["_law_pen_here", "_law_many"] cDraw)  (f : Addr) (cdv : Value) (A : Around) (outer : List Env) (s : Shared) (H : Hp) (E : XK) (hr : Room 2 (A.deeper (envOfC "_law_pick" (defScope s_l_pick) s.heap.objs.size f cdv))) :
    PSs (cxOf (L2.CX P w) P w K mg base ["_law_pen_here", "_law_some"] "_law_pick" (defScope s_l_pick) f cdv A outer s H E) (defBody s_l_pick) (toTS K T E (W_l_pick K)) := by
  have hu := hu64 hr
  have hu5 := hu65 hr
  exact (dss_one (ds_ret (de_ix (de_var (pv 1)) (de_def d_l_draw (hr.mono (by decide)) (passes_call (takes_of rfl rfl rfl rfl) (fun _ _ _ _ h => h)) (da_cons (de_var (pv 0)) (da_cons (de_f (pe_callB call_len (by rfl) c.n.len boot_len (da_cons (de_var (pv 1)) da_nil)) lr_len) da_nil))) (fun _ _ => rfl))))
theorem hears_l_heard {X : Cx} {T : Tb} {q : Str} {cdg : Value} (c : Fct X.prog X.w X.K X.mg X.base)  (hrX : Room 3 X.A) (hG : X.A.guards = some []) (hTp : T.pin = none) : GivesTo X N_l_heard "_law_heard" (defScope s_l_heard) (ga X.K "_law_heard") cdg (defBody s_l_heard) "_law_ask" q (THd X.K T N_l_heard (W_l_heard X.K)) :=
  hears hTp fun T s H f ask ask' => by
    have ask := ask'
    have hr : Room 2 (X.A.deeper (envOfC "_law_heard" (defScope s_l_heard) s.heap.objs.size (ga X.K "_law_heard") cdg)) := hrX.deeper _
    have hu := hu64 hr
    exact (dss_cons (ds_set (ps_set (i := 1) sc_l_heard.nd rfl (Or.inl rfl) de_non))
    (dss_cons (ds_try (i := 2) (j := 1) (c := .ref (ga _ "RepairError")) (hc := hcE _) c.exm_RepairError (by decide) (by show 1 < 4; decide) (Oe.ps_try_held (i := 2) (j := 1) (c := .ref (ga _ "RepairError")) (tb := tHeld _ T _) rfl rfl rfl sc_l_heard.nd rfl rfl rfl rfl ⟨rfl, rfl, .inl c.g_RepairError⟩ (fun W pn xe tk _ => ps_tried fun Ech hW => by exact (dss_one (ds_ret (de_lst (da_cons (ask' W pn xe Ech _ _ tk hW) da_nil))))) (fun a oe pn => pss_one (ps_set (i := 1) sc_l_heard.nd rfl (Or.inl rfl) (pv 2)))))
    (dss_cons (ds_setOwn (ps_set (i := 3) sc_l_heard.nd rfl (Or.inl rfl) (df_lst da_nil)))
    (dss_cons (ds_if (dt_val (de_isX (pe_callB call_isIX (by rfl) c.n.isinstance boot_isinstance (pa_cons (de_var (pv 1)) (pa_cons (pe_glob (v := .ref (ga X.K "BadTick")) rfl c.g_BadTick rfl) pa_nil))) c.x_BadTick))
      (dss_one (ds_app (i := 3) (ps_expr (pe_bm PySem.F.plainAttrs_list PySem.F.slot_list_append PySem.F.type_list_append mt_append (pv 3) (pa_cons (de_tup (da_cons de_str (da_cons (de_f (pe_callB (call_reprK hG hu) (by rfl) c.n.repr PyProof.Rows.boot_repr (da_cons (de_xk c.xf_part (Oe.pe_xk (de_var (pv 1)))) da_nil)) lr_reprK) da_nil))) pa_nil)))))
      dss_nil)
    (dss_cons (ds_if (dt_val (de_isX (pe_callB call_isIX (by rfl) c.n.isinstance boot_isinstance (pa_cons (de_var (pv 1)) (pa_cons (pe_glob (v := .ref (ga X.K "BadPlan")) rfl c.g_BadPlan rfl) pa_nil))) c.x_BadPlan))
      (dss_one (ds_app (i := 3) (ps_expr (pe_bm PySem.F.plainAttrs_list PySem.F.slot_list_append PySem.F.type_list_append mt_append (pv 3) (pa_cons (de_tup (da_cons de_str (da_cons (de_f (pe_callB (call_reprK hG hu) (by rfl) c.n.repr PyProof.Rows.boot_repr (da_cons (de_xk c.xf_part (Oe.pe_xk (de_var (pv 1)))) da_nil)) lr_reprK) da_nil))) pa_nil)))))
      dss_nil)
    (dss_cons (ds_if (dt_val (de_isX (pe_callB call_isIX (by rfl) c.n.isinstance boot_isinstance (pa_cons (de_var (pv 1)) (pa_cons (pe_glob (v := .ref (ga X.K "BadCount")) rfl c.g_BadCount rfl) pa_nil))) c.x_BadCount))
      (dss_one (ds_app (i := 3) (ps_expr (pe_bm PySem.F.plainAttrs_list PySem.F.slot_list_append PySem.F.type_list_append mt_append (pv 3) (pa_cons (de_tup (da_cons de_str (da_cons (de_f (pe_callB (call_reprK hG hu) (by rfl) c.n.repr PyProof.Rows.boot_repr (da_cons (de_xk c.xf_value (Oe.pe_xk (de_var (pv 1)))) da_nil)) lr_reprK) da_nil))) pa_nil)))))
      dss_nil)
    (dss_cons (ds_if (dt_val (de_isX (pe_callB call_isIX (by rfl) c.n.isinstance boot_isinstance (pa_cons (de_var (pv 1)) (pa_cons (pe_glob (v := .ref (ga X.K "NoPhase")) rfl c.g_NoPhase rfl) pa_nil))) c.x_NoPhase))
      (dss_one (ds_app (i := 3) (ps_expr (pe_bm PySem.F.plainAttrs_list PySem.F.slot_list_append PySem.F.type_list_append mt_append (pv 3) (pa_cons (de_tup (da_cons de_str (da_cons (de_f (pe_callB (call_reprK hG hu) (by rfl) c.n.repr PyProof.Rows.boot_repr (da_cons (de_xk c.xf_at (Oe.pe_xk (de_var (pv 1)))) da_nil)) lr_reprK) da_nil))) pa_nil)))))
      dss_nil)
    (dss_cons (ds_if (dt_val (de_isX (pe_callB call_isIX (by rfl) c.n.isinstance boot_isinstance (pa_cons (de_var (pv 1)) (pa_cons (pe_glob (v := .ref (ga X.K "TooMany")) rfl c.g_TooMany rfl) pa_nil))) c.x_TooMany))
      (dss_one (ds_app (i := 3) (ps_expr (pe_bm PySem.F.plainAttrs_list PySem.F.slot_list_append PySem.F.type_list_append mt_append (pv 3) (pa_cons (de_tup (da_cons (de_xk c.xf_what (Oe.pe_xk (de_var (pv 1)))) (da_cons (de_xk c.xf_most (Oe.pe_xk (de_var (pv 1)))) da_nil))) pa_nil)))))
      dss_nil)
    (dss_freeze (i := 3) (dss_one (ds_ret (de_ifE (dt_cmp op_eq lr_eqI (de_f (pe_callB call_len (by rfl) c.n.len boot_len (da_cons (de_var (pv 3)) da_nil)) lr_len) de_int (nomark _)) (de_ix (de_var (pv 3)) de_int (fun _ _ => rfl)) (de_tup (da_cons de_str da_nil))))))))))))))
theorem b_l_copies (c : Fct P w K mg base) (T : Tb) (d_copies : DefV P w K mg base "copies" 9 (c_copies K))  (f : Addr) (cdv : Value) (A : Around) (outer : List Env) (s : Shared) (H : Hp) (E : XK) (hr : Room 9 (A.deeper (envOfC "_law_copies" (defScope s_l_copies) s.heap.objs.size f cdv))) :
    PSs (cxOf (L2.CX P w) P w K mg base ["_law_ages", "_law_a", "_law_b", "_law_c", "_law_d", "_law_e", "_law_f", "_law_g"] "_law_copies" (defScope s_l_copies) f cdv A outer s H E) (defBody s_l_copies) (toTS K T E (W_l_copies K)) := by
  have hu := hu64 hr
  have hu5 := hu65 hr
  exact (dss_cons (ds_asg (ps_asg (de_slice (de_op op_addA lr_add (de_var (pv 0)) (de_op op_mulA lr_mul (de_lst (da_cons de_non da_nil)) de_int)) do_none (do_some de_int)) (pg_unl rfl (pgs_cons (pg_name (i := 1) sc_l_copies.nd rfl (Or.inl rfl)) (pgs_cons (pg_name (i := 2) sc_l_copies.nd rfl (Or.inl rfl)) (pgs_cons (pg_name (i := 3) sc_l_copies.nd rfl (Or.inl rfl)) (pgs_cons (pg_name (i := 4) sc_l_copies.nd rfl (Or.inl rfl)) (pgs_cons (pg_name (i := 5) sc_l_copies.nd rfl (Or.inl rfl)) (pgs_cons (pg_name (i := 6) sc_l_copies.nd rfl (Or.inl rfl)) (pgs_cons (pg_name (i := 7) sc_l_copies.nd rfl (Or.inl rfl)) pgs_nil))))))))) (lgs_unl (lg_cons (lg_name 1) (lg_cons (lg_name 2) (lg_cons (lg_name 3) (lg_cons (lg_name 4) (lg_cons (lg_name 5) (lg_cons (lg_name 6) (lg_cons (lg_name 7) lg_nil))))))) (gw_lenN gw_name (gw_lenN gw_name (gw_lenN gw_name (gw_lenN gw_name (gw_lenN gw_name (gw_lenN gw_name (gw_lenN gw_name gw_len0)))))))))
    (dss_cons (ds_if (dt_cmp op_gt (lr_I0 (h' := fun i j => .bl (decide (j < i))) fun _ _ _ _ _ => .bl _) (de_f (pe_callB call_len (by rfl) c.n.len boot_len (da_cons (de_var (pv 0)) da_nil)) lr_len) de_int (nomark _))
      (dss_cons (ds_if (dt_cmp (op_eqD hu) lr_eqD (de_f (pe_callB call_len (by rfl) c.n.len boot_len (da_cons (de_var (pv 0)) da_nil)) lr_len) de_int (nomark _))
      (dss_one (ds_ret (de_defV d_copies (hr.mono (by decide)) (passes_call (takes_of rfl rfl rfl rfl) (fun _ _ _ _ h => h)) (da_cons (de_var (pv 1)) (da_cons (de_var (pv 2)) (da_cons (de_var (pv 3)) (da_cons (de_var (pv 4)) da_nil)))))))
      dss_nil)
    (dss_cons (ds_if (dt_cmp (op_eqD hu) lr_eqD (de_f (pe_callB call_len (by rfl) c.n.len boot_len (da_cons (de_var (pv 0)) da_nil)) lr_len) de_int (nomark _))
      (dss_one (ds_ret (de_defV d_copies (hr.mono (by decide)) (passes_call (takes_of rfl rfl rfl rfl) (fun _ _ _ _ h => h)) (da_cons (de_var (pv 1)) (da_cons (de_var (pv 2)) (da_cons (de_var (pv 3)) (da_cons (de_var (pv 4)) (da_cons (de_var (pv 5)) da_nil))))))))
      dss_nil)
    (dss_one (ds_ret (de_ifE (dt_cmp (op_eqD hu) lr_eqD (de_f (pe_callB call_len (by rfl) c.n.len boot_len (da_cons (de_var (pv 0)) da_nil)) lr_len) de_int (nomark _)) (de_defV d_copies (hr.mono (by decide)) (passes_call (takes_of rfl rfl rfl rfl) (fun _ _ _ _ h => h)) (da_cons (de_var (pv 1)) (da_cons (de_var (pv 2)) (da_cons (de_var (pv 3)) (da_cons (de_var (pv 4)) (da_cons (de_var (pv 5)) (da_cons (de_var (pv 6)) da_nil))))))) (de_defV d_copies (hr.mono (by decide)) (passes_call (takes_of rfl rfl rfl rfl) (fun _ _ _ _ h => h)) (da_cons (de_var (pv 1)) (da_cons (de_var (pv 2)) (da_cons (de_var (pv 3)) (da_cons (de_var (pv 4)) (da_cons (de_var (pv 5)) (da_cons (de_var (pv 6)) (da_cons (de_var (pv 7)) da_nil)))))))))))))
      dss_nil)
    (dss_cons (ds_if (dt_cmp (op_eqD hu) lr_eqD (de_f (pe_callB call_len (by rfl) c.n.len boot_len (da_cons (de_var (pv 0)) da_nil)) lr_len) de_int (nomark _))
      (dss_one (ds_ret (de_defV d_copies (hr.mono (by decide)) (passes_call (takes_of rfl rfl rfl rfl) (fun _ _ _ _ h => h)) (da_cons (de_var (pv 1)) (da_cons (de_var (pv 2)) (da_cons (de_var (pv 3)) da_nil))))))
      dss_nil)
    (dss_cons (ds_if (dt_cmp (op_eqD hu) lr_eqD (de_f (pe_callB call_len (by rfl) c.n.len boot_len (da_cons (de_var (pv 0)) da_nil)) lr_len) de_int (nomark _))
      (dss_one (ds_ret (de_defV0 d_copies (hr.mono (by decide)) (passes_call (takes_of rfl rfl rfl rfl) (fun _ _ _ _ h => h)))))
      dss_nil)
    (dss_one (ds_ret (de_ifE (dt_cmp (op_eqD hu) lr_eqD (de_f (pe_callB call_len (by rfl) c.n.len boot_len (da_cons (de_var (pv 0)) da_nil)) lr_len) de_int (nomark _)) (de_defV d_copies (hr.mono (by decide)) (passes_call (takes_of rfl rfl rfl rfl) (fun _ _ _ _ h => h)) (da_cons (de_var (pv 1)) da_nil)) (de_defV d_copies (hr.mono (by decide)) (passes_call (takes_of rfl rfl rfl rfl) (fun _ _ _ _ h => h)) (da_cons (de_var (pv 1)) (da_cons (de_var (pv 2)) da_nil))))))))))
theorem b_l_turn_right (c : Fct P w K mg base) (T : Tb) (d_l_draw : Def P w K mg base "_law_draw" 1 ["_law_pen_here", "_law_many"] cDraw) (d_l_copies : Def P w K mg base "_law_copies" 10 ["_law_ages"] (c_l_copies K)) (d_Plan_str : Met P w K mg base "Plan" "__str__" 6 ["self"] (c_Plan_str K)) (d_Plan_len : Met P w K mg base "Plan" "__len__" 3 ["self"] (c_Plan_len K)) (d_Plan_getitem : Met P w K mg base "Plan" "__getitem__" 5 ["self", "at"] (c_Plan_getitem K)) (d_l_pick : Def P w K mg base "_law_pick" 3 ["_law_pen_here", "_law_some"] (c_l_pick K)) (d_parity : Def P w K mg base "parity" 9 ["size"] (c_parity K))  (f : Addr) (cdv : Value) (A : Around) (outer : List Env) (s : Shared) (H : Hp) (E : XK) {co Po : Addr} (TB : TabB base mg co Po) (hmT : (Po, ("_law_turn_right" : Str) ++ ".<locals>." ++ "<lambda>") ∈ T.tabs) (huT : ∀ p ∈ T.tabs, p.1 = Po → p.2 = ("_law_turn_right" : Str) ++ ".<locals>." ++ "<lambda>") (hTp : T.pin = none) (hcode : cdv = .ref co) (hG : A.guards = some []) (hr : Room 12 (A.deeper (envOfC "_law_turn_right" (defScope s_l_turn_right) s.heap.objs.size f cdv))) :
    PSs (cxOf (L2.CX P w) P w K mg base ["_law_pen_here", "_law_left", "_law_turn", "_law_plan", "_law_heard_here", "_law_ages", "_law_odd", "_law_spot", "_law_age"] "_law_turn_right" (defScope s_l_turn_right) f cdv A outer s H E) (defBody s_l_turn_right) (toTS K T E (W_l_turn_right K)) := by
  have hu := hu64 hr
  have hu5 := hu65 hr
  exact (dss_cons (ds_par2 (ps_asg (pe_tup (pa_cons (df_lst (da_cons de_int (da_cons de_int (da_cons de_int (da_cons de_int (da_cons de_int (da_cons de_int (da_cons de_int (da_cons de_int da_nil))))))))) (pa_cons (pe_lst pa_nil) pa_nil))) (pg_tup rfl (pgs_cons (pg_name (i := 1) sc_l_turn_right.nd rfl (Or.inl rfl)) (pgs_cons (pg_name (i := 5) sc_l_turn_right.nd rfl (Or.inr rfl)) pgs_nil)))))
    (dss_cons (ds_for (ps_for (passes_of rfl) rfl (di_rng1 (by rfl) c.n.range (de_def d_l_draw (hr.mono (by decide)) (passes_call (takes_of rfl rfl rfl rfl) (fun _ _ _ _ h => h)) (da_cons (de_var (pv 0)) (da_cons de_int da_nil)))) (pg_name (i := 2) sc_l_turn_right.nd rfl (Or.inl rfl))
      (dss_one (ds_appPop (i := 5) (j := 1) (ps_expr (pe_bm PySem.F.plainAttrs_list PySem.F.slot_list_append PySem.F.type_list_append mt_append (pv 5) (pa_cons (pe_bm PySem.F.plainAttrs_list PySem.F.slot_list_pop PySem.F.type_list_pop mt_popAt (pv 1) (pa_cons (de_def d_l_draw (hr.mono (by decide)) (passes_call (takes_of rfl rfl rfl rfl) (fun _ _ _ _ h => h)) (da_cons (de_var (pv 0)) (da_cons (de_lend 1 (de_f (pe_callB call_len (by rfl) c.n.len boot_len (da_cons (de_var (pv 1)) da_nil)) lr_len)) da_nil))) pa_nil)) pa_nil)))))) (lg_name 2))
    (dss_freeze (i := 5) (dss_cons (ds_set (ps_set (i := 3) sc_l_turn_right.nd rfl (Or.inl rfl) (de_def d_l_copies (hr.mono (by decide)) (passes_call (takes_of rfl rfl rfl rfl) (fun _ _ _ _ h => h)) (da_cons (de_var (pv 5)) da_nil))))
    (dss_cons (ds_if (dt_w (dw_or (dt_not (dt_val (de_isi (pe_callB call_isi (by rfl) c.n.isinstance boot_isinstance (pa_cons (de_var (pv 3)) (pa_cons (pe_glob (v := .ref (ga K "Plan")) rfl c.g_Plan rfl) pa_nil))) c.t_Plan))) (dw_or (dt_cmp (op_neD hu) lr_neD (de_f (pe_callTy (Ow.call_strO d_Plan_str.me.at_ d_Plan_str.me.fn (d_Plan_str.raw _) (hr.mono (by decide)) (passes_call (takes_of rfl rfl rfl rfl) (fun _ _ _ _ h => h))) (by rfl) c.n.str PyProof.Rows.boot_str (da_cons (de_var (pv 3)) da_nil)) lr_ownStr) (de_join (pe_join de_str (de_op op_addA lr_add (de_lst (da_cons de_str da_nil)) (de_lc (own := [("_law_age", 8)]) rfl sc_l_turn_right.nd (di_seq (de_var (pv 5))) (blkOk_by (by kernel_rfl)) (lg_name 8) (by decide) (fun _ _ _ _ _ => by exact (pg_name (i := 8) sc_l_turn_right.nd rfl (Or.inl rfl))) (fun _ _ _ _ _ => by exact dts_nil) (fun _ _ _ _ _ => by exact (de_f (pe_callTy call_str_int (by rfl) c.n.str PyProof.Rows.boot_str (da_cons (de_var (pv 8)) da_nil)) lr_str)))))) (nomark _)) (dw_or (dt_cmp (op_neD hu) lr_neD (de_f (pe_callB (Ow.call_lenO d_Plan_len.me.at_ d_Plan_len.me.fn (d_Plan_len.raw _) (hr.mono (by decide)) (passes_call (takes_of rfl rfl rfl rfl) (fun _ _ _ _ h => h))) (by rfl) c.n.len boot_len (da_cons (de_var (pv 3)) da_nil)) lr_ownLen) de_int (nomark _)) (dw_or1 (dt_val (de_fld c.cl_Tick c.na_Tick_mute (pe_fld (de_ixO d_Plan_getitem.me.at_ d_Plan_getitem.me.fn c.gi_Plan (d_Plan_getitem.raw _) (hr.mono (by decide)) (passes_call (takes_of rfl rfl rfl rfl) (fun _ _ _ _ h => h)) (de_var (pv 3)) de_int (fun _ _ => rfl)) rfl))))))))
      (dss_one (ds_ret de_bl))
      dss_nil)
    (dss_cons (ds_set (ps_set (i := 7) sc_l_turn_right.nd rfl (Or.inr rfl) (de_def d_l_draw (hr.mono (by decide)) (passes_call (takes_of rfl rfl rfl rfl) (fun _ _ _ _ h => h)) (da_cons (de_var (pv 0)) (da_cons (de_op op_addA lr_add (de_f (pe_callB call_len (by rfl) c.n.len boot_len (da_cons (de_var (pv 5)) da_nil)) lr_len) de_int) da_nil)))))
    (dss_cons (ds_set (ps_set (i := 6) sc_l_turn_right.nd rfl (Or.inr rfl) (de_def d_l_pick (hr.mono (by decide)) (passes_call (takes_of rfl rfl rfl rfl) (fun _ _ _ _ h => h)) (da_cons (de_var (pv 0)) (da_cons (de_op op_addA lr_add (de_lst (da_cons de_non (da_cons de_int (da_cons de_int (da_cons (de_un un_neg lr_neg de_int) (da_cons de_bl (da_cons de_str (da_cons (de_tup (da_cons de_int da_nil)) (da_cons (de_lst da_nil) (da_cons (de_op op_pow (lr_I (h' := fun i j => .int (i ^ j.toNat)) fun _ _ _ _ _ => .int _) de_int de_int) da_nil)))))))))) (de_slice (de_var (pv 5)) do_none (do_some (de_var (pv 7))))) da_nil)))))
    (dss_cons (ds_setOwn (ps_set (i := 4) sc_l_turn_right.nd rfl (Or.inl rfl) (df_lst (da_cons (de_hear (k := 10) c.h_l_heard sc_l_heard rfl (.inl rfl) (fun _ => hears_l_heard c  (hr.mono (by decide)) hG hTp) hTp TB hcode hmT huT (hr.mono (by decide)) (fun _ A outer s H E f c' hr' => by exact (de_def d_l_copies (hr'.mono (by decide)) (passes_call (takes_of rfl rfl rfl rfl) (fun _ _ _ _ h => h)) (da_cons (de_op op_addA lr_add (de_op op_addA lr_add (de_slice (de_var (pv 5)) do_none (do_some (de_var (pv 7)))) (de_lst (da_cons (de_var (pv 6)) da_nil))) (de_slice (de_var (pv 5)) (do_some (de_var (pv 7))) do_none)) da_nil)))) da_nil))))
    (dss_cons (ds_app (i := 4) (ps_expr (pe_bm PySem.F.plainAttrs_list PySem.F.slot_list_append PySem.F.type_list_append mt_append (pv 4) (pa_cons (de_hear (k := 10) c.h_l_heard sc_l_heard rfl (.inl rfl) (fun _ => hears_l_heard c  (hr.mono (by decide)) hG hTp) hTp TB hcode hmT huT (hr.mono (by decide)) (fun _ A outer s H E f c' hr' => by exact (de_def d_parity (hr'.mono (by decide)) (passes_call (takes_of rfl rfl rfl rfl) (fun _ _ _ _ h => h)) (da_cons (de_def d_l_pick (hr'.mono (by decide)) (passes_call (takes_of rfl rfl rfl rfl) (fun _ _ _ _ h => h)) (da_cons (de_var (pv 0)) (da_cons (de_lst (da_cons de_non (da_cons de_int (da_cons de_int (da_cons (de_un un_neg lr_neg de_int) (da_cons de_bl (da_cons de_str (da_cons (de_tup (da_cons de_int da_nil)) (da_cons (de_lst da_nil) da_nil))))))))) da_nil))) da_nil)))) pa_nil))))
    (dss_freeze (i := 4) (dss_one (ds_ret (de_and (de_cmp (op_eqD hu) lr_eqD (de_ix (de_var (pv 4)) de_int (fun _ _ => rfl)) (de_tup (da_cons de_str (da_cons (de_f (pe_callB (call_reprK hG hu) (by rfl) c.n.repr PyProof.Rows.boot_repr (da_cons (de_var (pv 7)) da_nil)) lr_reprK) da_nil))) (nomark _)) (de_one (de_cmp (op_eqD hu) lr_eqD (de_ix (de_ix (de_var (pv 4)) de_int (fun _ _ => rfl)) de_int (fun _ _ => rfl)) de_str (nomark _))))))))))))))))
theorem b_law (c : Fct P w K mg base) (T : Tb) (d_l_turn_right : DefG P w K mg base T "_law_turn_right" 13 ["_law_pen_here"] (c_l_turn_right K)) (d_Tick_init : ∀ T : Tb, Ow.FnM P w K mg base (L2.CX P w) 7 (ma K "Tick" "__init__") "mute" (.bl false) (spI K T (ga K "Tick") (c_Tick_init K))) (d_Plan_iter : ItAt P w K mg base "Plan" "_ticks" 1) (d_Tick_eq : Met P w K mg base "Tick" "__eq__" 3 ["self", "other"] (c_Tick_eq K)) (d_Plan_rate : Prp P w K mg base "Plan" "rate" 3 (c_Plan_rate K)) (d_copies : DefV P w K mg base "copies" 9 (c_copies K)) (d_parity : Def P w K mg base "parity" 9 ["size"] (c_parity K)) (dk_parity : DefK P w K mg base "parity" 9 ["size"] ["size"] (c_parity K)) (f : Addr) (cdv : Value) (A : Around) (outer : List Env) (s : Shared) (H : Hp) (E : XK) {co Po : Addr} (TB : TabB base mg co Po) (hmT : (Po, ("law" : Str) ++ ".<locals>." ++ "<lambda>") ∈ T.tabs) (huT : ∀ p ∈ T.tabs, p.1 = Po → p.2 = ("law" : Str) ++ ".<locals>." ++ "<lambda>") (hTp : T.pin = none) (hcode : cdv = .ref co) (hG : A.guards = some []) (hr : Room 13 (A.deeper (envOfC "law" (defScope s_law) s.heap.objs.size f cdv))) :
    PSs (cxOf CX0 P w K mg base ["_law_script", "_law_pen_here", "_law_turn", "_law_many", "_law_plan", "_law_due", "_law_heard_here", "_law_tick"] "law" (defScope s_law) f cdv A outer s H E) ((defBody s_law).tail) (toTS K T E0 (W_law K)) := by
  have hu := hu64 hr
  have hu5 := hu65 hr
  exact (dss_cons (ds_for (ps_for (passes_of rfl) rfl (di_rng1 (by rfl) c.n.range de_int) (pg_name (i := 2) sc_law.nd rfl (Or.inl rfl))
      (dss_one (ds_if (dt_not (dt_val (de_gdef d_l_turn_right (hr.mono (by decide)) hG passL (da_cons (de_var (pv 1)) da_nil))))
      (dss_one (ds_ret de_bl))
      dss_nil))) (lg_name 2))
    (dss_cons (ds_for (ps_for (passes_of rfl) rfl (di_rng2 (by rfl) c.n.range de_int de_int) (pg_name (i := 3) sc_law.nd rfl (Or.inl rfl))
      (dss_cons (ds_set (ps_set (i := 4) sc_law.nd rfl (Or.inl rfl) (de_defK dk_parity (hr.mono (by decide)) passL (dk_cons (de_var (pv 3)) dk_nil))))
    (dss_cons (ds_set (ps_set (i := 5) sc_law.nd rfl (Or.inl rfl) (de_op op_addA lr_add (de_lc (own := [("_law_turn", 2)]) rfl sc_law.nd (di_rng1 (by rfl) c.n.range (de_var (pv 3))) (blkOk_by (by kernel_rfl)) (lg_name 2) (by decide) (fun _ _ _ _ _ => by exact (pg_name (i := 2) sc_law.nd rfl (Or.inl rfl))) (fun _ _ _ _ _ => by exact dts_nil) (fun _ _ _ _ _ => by exact (de_makeMn (m := .bl false) (fun _ _ _ => .bl false) (Ow.pe_makeMn c.mk_Tick (d_Tick_init _) (hr.mono (by decide)) rfl c.g_Tick passL (da_cons (de_tup (da_cons de_int da_nil)) da_nil))))) (de_lst (da_cons (de_makeM (Ow.pe_makeM c.mk_Tick (d_Tick_init _) (hr.mono (by decide)) rfl c.g_Tick passL (da_cons (de_tupRg de_int (de_op op_addA lr_add (de_var (pv 3)) de_int) rfl (by rfl) c.n.tuple (by rfl) c.n.range) da_nil) (pk_cons de_bl pk_nil))) da_nil)))))
    (dss_one (ds_if (dt_w (dw_or (dt_cmp (op_neU d_Tick_eq.me.at_ d_Tick_eq.me.fn (d_Tick_eq.raw _) (hr.mono (by decide)) passL) lr_eqO (de_lc (own := [("_law_tick", 7)]) rfl sc_law.nd (di_own (Ow.pi_ownF d_Plan_iter.at_ d_Plan_iter.fn d_Plan_iter.it (hr.mono (by decide)) (de_var (pv 4)))) (blkOk_by (by kernel_rfl)) (lg_name 7) (by decide) (fun _ _ _ _ _ => by exact (pg_name (i := 7) sc_law.nd rfl (Or.inl rfl))) (fun _ _ _ _ _ => by exact dts_nil) (fun _ _ _ _ _ => by exact (de_var (pv 7)))) (de_var (pv 5)) (nomark _)) (dw_or1 (dt_cmp (op_neD hu) lr_neD (de_prp c.cl_Plan d_Plan_rate (hr.mono (by decide)) (de_var (pv 4))) (de_tup (da_cons (de_op op_addA lr_add (de_var (pv 3)) de_int) (da_cons (de_var (pv 3)) da_nil))) (nomark _)))))
      (dss_one (ds_ret de_bl))
      dss_nil))))) (lg_name 3))
    (dss_cons (ds_setOwn (ps_set (i := 6) sc_law.nd rfl (Or.inl rfl) (df_lst (da_cons (de_hear (k := 11) c.h_l_heard sc_l_heard rfl (.inl rfl) (fun _ => hears_l_heard c  (hr.mono (by decide)) hG hTp) hTp TB hcode hmT huT (hr.mono (by decide)) (fun _ A outer s H E f c' hr' => by exact (de_defV d_copies (hr'.mono (by decide)) (passes_call (takes_of rfl rfl rfl rfl) (fun _ _ _ _ h => h)) (da_cons de_int (da_cons de_int (da_cons de_int (da_cons de_int (da_cons de_int (da_cons de_int da_nil))))))))) da_nil))))
    (dss_cons (ds_app (i := 6) (ps_expr (pe_bm PySem.F.plainAttrs_list PySem.F.slot_list_append PySem.F.type_list_append mt_append (pv 6) (pa_cons (de_hear (k := 11) c.h_l_heard sc_l_heard rfl (.inl rfl) (fun _ => hears_l_heard c  (hr.mono (by decide)) hG hTp) hTp TB hcode hmT huT (hr.mono (by decide)) (fun _ A outer s H E f c' hr' => by exact (de_defV d_copies (hr'.mono (by decide)) (passes_call (takes_of rfl rfl rfl rfl) (fun _ _ _ _ h => h)) (da_cons de_int (da_cons de_int (da_cons de_int (da_cons de_int (da_cons de_int (da_cons de_int (da_cons de_int da_nil)))))))))) pa_nil))))
    (dss_cons (ds_app (i := 6) (ps_expr (pe_bm PySem.F.plainAttrs_list PySem.F.slot_list_append PySem.F.type_list_append mt_append (pv 6) (pa_cons (de_hear (k := 11) c.h_l_heard sc_l_heard rfl (.inl rfl) (fun _ => hears_l_heard c  (hr.mono (by decide)) hG hTp) hTp TB hcode hmT huT (hr.mono (by decide)) (fun _ A outer s H E f c' hr' => by exact (de_def d_parity (hr'.mono (by decide)) (passes_call (takes_of rfl rfl rfl rfl) (fun _ _ _ _ h => h)) (da_cons de_int da_nil)))) pa_nil))))
    (dss_cons (ds_app (i := 6) (ps_expr (pe_bm PySem.F.plainAttrs_list PySem.F.slot_list_append PySem.F.type_list_append mt_append (pv 6) (pa_cons (de_hear (k := 11) c.h_l_heard sc_l_heard rfl (.inl rfl) (fun _ => hears_l_heard c  (hr.mono (by decide)) hG hTp) hTp TB hcode hmT huT (hr.mono (by decide)) (fun _ A outer s H E f c' hr' => by exact (de_defV d_copies (hr'.mono (by decide)) (passes_call (takes_of rfl rfl rfl rfl) (fun _ _ _ _ h => h)) (da_cons de_int (da_cons de_int (da_cons de_int da_nil)))))) pa_nil))))
    (dss_freeze (i := 6) (dss_one (ds_ret (de_cmp (op_eqD hu) lr_eqD (de_var (pv 6)) (de_lst (da_cons (de_tup (da_cons de_str (da_cons de_int da_nil))) (da_cons (de_tup (da_cons de_str (da_cons de_str da_nil))) (da_cons (de_tup (da_cons de_str (da_cons de_str da_nil))) (da_cons (de_tup (da_cons de_str (da_cons de_str da_nil))) da_nil))))) (nomark _)))))))))))
end
end Lz

set_option Elab.async false
set_option linter.all false
set_option maxRecDepth 100000
set_option maxHeartbeats 4000000
namespace Lz
open PySem PySem.Spec PyProof.Rows L2 LamX Dl
/-! The defs, one behind another. -/
structure Fns (K : PySem.W.Frag) (mg : Str → Option Value) : Prop where
  f_is_integer : FunAt K mg "is_integer" s_is_integer ["value"]
  f_is_within : FunAt K mg "is_within" s_is_within ["value", "least", "most"]
  f_is_age : FunAt K mg "is_age" s_is_age ["value"]
  f_is_ascending : FunAt K mg "is_ascending" s_is_ascending ["values"]
  f_is_sum : FunAt K mg "is_sum" s_is_sum ["value"]
  f_copies : FunV K mg "copies" s_copies
  f_parity : FunAt K mg "parity" s_parity ["size"]
  f_l_pick : FunAt K mg "_law_pick" s_l_pick ["_law_pen_here", "_law_some"]
  f_l_copies : FunAt K mg "_law_copies" s_l_copies ["_law_ages"]
  f_l_turn_right : FunAt K mg "_law_turn_right" s_l_turn_right ["_law_pen_here"]
  f_Tick_eq : MetAt K "Tick" "__eq__" "Tick.__eq__" s_Tick_eq ["self", "other"]
  f_Tick_str : MetAt K "Tick" "__str__" "Tick.__str__" s_Tick_str ["self"]
  f_Plan_len : MetAt K "Plan" "__len__" "Plan.__len__" s_Plan_len ["self"]
  f_Plan_getitem : MetAt K "Plan" "__getitem__" "Plan.__getitem__" s_Plan_getitem ["self", "at"]
  f_Plan_str : MetAt K "Plan" "__str__" "Plan.__str__" s_Plan_str ["self"]
  f_Plan_rate : PrpAt K "Plan" "rate" "Plan.rate" s_Plan_rate
  f_draw : ∃ fd, L2.Fun K "_law_draw" "_law_draw" s_draw (ga K "_law_draw") fd ∧ L2.Binds K fd ["_law_pen_here", "_law_many"] []
  g_draw : mg "_law_draw" = some (.ref (ga K "_law_draw"))
  f_pen : ∃ fd, L2.Fun K "_law_pen" "_law_pen" s_pen (ga K "_law_pen") fd ∧ L2.Binds K fd ["_law_script"] []
  g_pen : mg "_law_pen" = some (.ref (ga K "_law_pen"))
  f_Plan_init : ∃ fd, L2.Fun K "__init__" "Plan.__init__" s_Plan_init (ma K "Plan" "__init__") fd
  f_init : ∃ fd, FunD K "__init__" "Tick.__init__" (defArgs s_Tick_init) (defBody s_Tick_init) (defScope s_Tick_init) [] [("mute", .bl false)] (ma K "Tick" "__init__") fd
  ab : mg "abs" = none
theorem len_is_integer {K : PySem.W.Frag} (ds : List D) (n : Nat) (k : KD) (x : KX) (h : c_is_integer K ds n k x) : ds.length = 1 := by
  match ds, h with | [_], _ => rfl
theorem len_is_within {K : PySem.W.Frag} (ds : List D) (n : Nat) (k : KD) (x : KX) (h : c_is_within K ds n k x) : ds.length = 3 := by
  match ds, h with | [_, .int _, .int _], _ => rfl
theorem len_is_age {K : PySem.W.Frag} (ds : List D) (n : Nat) (k : KD) (x : KX) (h : c_is_age K ds n k x) : ds.length = 1 := by
  match ds, h with | [_], _ => rfl
theorem len_is_ascending {K : PySem.W.Frag} (ds : List D) (n : Nat) (k : KD) (x : KX) (h : c_is_ascending K ds n k x) : ds.length = 1 := by
  match ds, h with | [.tup _], _ => rfl
theorem len_is_sum {K : PySem.W.Frag} (ds : List D) (n : Nat) (k : KD) (x : KX) (h : c_is_sum K ds n k x) : ds.length = 1 := by
  match ds, h with | [_], _ => rfl
theorem len_copies {K : PySem.W.Frag} (ds : List D) (n : Nat) (k : KD) (x : KX) (h : c_copies K ds n k x) : ds.length = 1 := by
  first
    | (obtain ⟨_, _, _, _, _, rfl, _⟩ := h; rfl)
    | (obtain ⟨_, _, _, _, rfl, _⟩ := h; rfl)
    | (obtain ⟨_, _, _, rfl, _⟩ := h; rfl)
    | (obtain ⟨_, _, rfl, _⟩ := h; rfl)
    | (obtain ⟨_, rfl, _⟩ := h; rfl)
    | (obtain ⟨rfl, _⟩ := h; rfl)
theorem len_parity {K : PySem.W.Frag} (ds : List D) (n : Nat) (k : KD) (x : KX) (h : c_parity K ds n k x) : ds.length = 1 := by
  first
    | (obtain ⟨_, _, _, _, _, rfl, _⟩ := h; rfl)
    | (obtain ⟨_, _, _, _, rfl, _⟩ := h; rfl)
    | (obtain ⟨_, _, _, rfl, _⟩ := h; rfl)
    | (obtain ⟨_, _, rfl, _⟩ := h; rfl)
    | (obtain ⟨_, rfl, _⟩ := h; rfl)
    | (obtain ⟨rfl, _⟩ := h; rfl)
theorem len_l_pick {K : PySem.W.Frag} (ds : List D) (n : Nat) (k : KD) (x : KX) (h : c_l_pick K ds n k x) : ds.length = 2 := by
  match ds, h with | [.pen, .lst _], _ => rfl
theorem len_l_copies {K : PySem.W.Frag} (ds : List D) (n : Nat) (k : KD) (x : KX) (h : c_l_copies K ds n k x) : ds.length = 1 := by
  first
    | (obtain ⟨_, _, _, _, _, rfl, _⟩ := h; rfl)
    | (obtain ⟨_, _, _, _, rfl, _⟩ := h; rfl)
    | (obtain ⟨_, _, _, rfl, _⟩ := h; rfl)
    | (obtain ⟨_, _, rfl, _⟩ := h; rfl)
    | (obtain ⟨_, rfl, _⟩ := h; rfl)
    | (obtain ⟨rfl, _⟩ := h; rfl)
theorem len_l_turn_right {K : PySem.W.Frag} (ds : List D) (n : Nat) (k : KD) (x : KX) (h : c_l_turn_right K ds n k x) : ds.length = 1 := by
  first
    | (obtain ⟨_, _, _, _, _, rfl, _⟩ := h; rfl)
    | (obtain ⟨_, _, _, _, rfl, _⟩ := h; rfl)
    | (obtain ⟨_, _, _, rfl, _⟩ := h; rfl)
    | (obtain ⟨_, _, rfl, _⟩ := h; rfl)
    | (obtain ⟨_, rfl, _⟩ := h; rfl)
    | (obtain ⟨rfl, _⟩ := h; rfl)
theorem len_Tick_eq {K : PySem.W.Frag} (ds : List D) (n : Nat) (k : KD) (x : KX) (h : c_Tick_eq K ds n k x) : ds.length = 2 := by
  first
    | (obtain ⟨_, _, _, _, _, rfl, _⟩ := h; rfl)
    | (obtain ⟨_, _, _, _, rfl, _⟩ := h; rfl)
    | (obtain ⟨_, _, _, rfl, _⟩ := h; rfl)
    | (obtain ⟨_, _, rfl, _⟩ := h; rfl)
    | (obtain ⟨_, rfl, _⟩ := h; rfl)
    | (obtain ⟨rfl, _⟩ := h; rfl)
theorem len_Tick_str {K : PySem.W.Frag} (ds : List D) (n : Nat) (k : KD) (x : KX) (h : c_Tick_str K ds n k x) : ds.length = 1 := by
  first
    | (obtain ⟨_, _, _, _, _, rfl, _⟩ := h; rfl)
    | (obtain ⟨_, _, _, _, rfl, _⟩ := h; rfl)
    | (obtain ⟨_, _, _, rfl, _⟩ := h; rfl)
    | (obtain ⟨_, _, rfl, _⟩ := h; rfl)
    | (obtain ⟨_, rfl, _⟩ := h; rfl)
    | (obtain ⟨rfl, _⟩ := h; rfl)
theorem len_Plan_len {K : PySem.W.Frag} (ds : List D) (n : Nat) (k : KD) (x : KX) (h : c_Plan_len K ds n k x) : ds.length = 1 := by
  first
    | (obtain ⟨_, _, _, _, _, rfl, _⟩ := h; rfl)
    | (obtain ⟨_, _, _, _, rfl, _⟩ := h; rfl)
    | (obtain ⟨_, _, _, rfl, _⟩ := h; rfl)
    | (obtain ⟨_, _, rfl, _⟩ := h; rfl)
    | (obtain ⟨_, rfl, _⟩ := h; rfl)
    | (obtain ⟨rfl, _⟩ := h; rfl)
theorem len_Plan_getitem {K : PySem.W.Frag} (ds : List D) (n : Nat) (k : KD) (x : KX) (h : c_Plan_getitem K ds n k x) : ds.length = 2 := by
  first
    | (obtain ⟨_, _, _, _, _, rfl, _⟩ := h; rfl)
    | (obtain ⟨_, _, _, _, rfl, _⟩ := h; rfl)
    | (obtain ⟨_, _, _, rfl, _⟩ := h; rfl)
    | (obtain ⟨_, _, rfl, _⟩ := h; rfl)
    | (obtain ⟨_, rfl, _⟩ := h; rfl)
    | (obtain ⟨rfl, _⟩ := h; rfl)
theorem len_Plan_str {K : PySem.W.Frag} (ds : List D) (n : Nat) (k : KD) (x : KX) (h : c_Plan_str K ds n k x) : ds.length = 1 := by
  first
    | (obtain ⟨_, _, _, _, _, rfl, _⟩ := h; rfl)
    | (obtain ⟨_, _, _, _, rfl, _⟩ := h; rfl)
    | (obtain ⟨_, _, _, rfl, _⟩ := h; rfl)
    | (obtain ⟨_, _, rfl, _⟩ := h; rfl)
    | (obtain ⟨_, rfl, _⟩ := h; rfl)
    | (obtain ⟨rfl, _⟩ := h; rfl)
theorem len_Plan_rate {K : PySem.W.Frag} (ds : List D) (n : Nat) (k : KD) (x : KX) (h : c_Plan_rate K ds n k x) : ds.length = 1 := by
  first
    | (obtain ⟨_, _, _, _, _, rfl, _⟩ := h; rfl)
    | (obtain ⟨_, _, _, _, rfl, _⟩ := h; rfl)
    | (obtain ⟨_, _, _, rfl, _⟩ := h; rfl)
    | (obtain ⟨_, _, rfl, _⟩ := h; rfl)
    | (obtain ⟨_, rfl, _⟩ := h; rfl)
    | (obtain ⟨rfl, _⟩ := h; rfl)
theorem kb_of {K : PySem.W.Frag} {x q : Str} {st : Stmt} {f : Addr} {fd : FuncData} {ps ks : List Str} (F : L2.Fun K x q st f fd) (h : ∀ (kV doc pm : Value) (an : Option Addr) (cdv ct u : Value) (ws : List Value), ws.length = ks.length → bindArgs (PySem.W.fnOf x q (defArgs st) (defBody st) (defScope st) .none kV doc pm an cdv ct) ⟨[u], ks.zip ws⟩ = pure (ps.zip (u :: ws))) : Ow.KB1 K fd ps ks := by
  obtain ⟨oc, od, kV, doc, pm, an, cdv, ct, osl, rfl, lk, hc⟩ := F.ex
  exact fun s u ws _ hl => .of_eq (h kV doc pm an cdv ct u ws hl)
theorem kd_of {K : PySem.W.Frag} {x q : Str} {st : Stmt} {f : Addr} {fd : FuncData} {ps ks : List Str} (F : L2.Fun K x q st f fd) (h : ∀ (kV doc pm : Value) (an : Option Addr) (cdv ct : Value) (ws : List Value), ws.length = ks.length → bindArgs (PySem.W.fnOf x q (defArgs st) (defBody st) (defScope st) .none kV doc pm an cdv ct) ⟨[], ks.zip ws⟩ = pure (ps.zip ws)) : ∀ (s : Shared) (ws : List Value), K.In s.heap → ws.length = ks.length → BindsTo s fd ⟨[], ks.zip ws⟩ (ps.zip ws) := by
  obtain ⟨oc, od, kV, doc, pm, an, cdv, ct, osl, rfl, lk, hc⟩ := F.ex
  exact fun s ws _ hl => .of_eq (h kV doc pm an cdv ct ws hl)
theorem law_ok {P : Program} {w : World} {K : PySem.W.Frag} {mg : Str → Option Value} {base : Heap} (c : Fct P w K mg base) (D' : Dis K) (Fn : Fns K mg) (d_Plan_iter : ItAt P w K mg base "Plan" "_ticks" 1) {f : Addr} {fd fd1 : FuncData} (FL : L2.Fun K "law" "law" s_law f fd)
    (FT : L2.Fun K "_law_turn_right" "_law_turn_right" s_l_turn_right (ga K "_law_turn_right") fd1) (bT : L2.Binds K fd1 ["_law_pen_here"] []) (gT : mg "_law_turn_right" = some (.ref (ga K "_law_turn_right"))) {cl Pl co Po : Addr} (hcl : fd.code = .ref cl) (hco : fd1.code = .ref co) (hP : Pl ≠ Po) (TBl : TabB base mg cl Pl) (TBo : TabB base mg co Po) :
    Og.FnG P w K mg base CX0 14 f fd ["_law_script"] (spLaw K [Pl, Po]) := by
  let T : Tb := { tabs := [(Pl, ("law" : Str) ++ ".<locals>." ++ "<lambda>"), (Po, ("_law_turn_right" : Str) ++ ".<locals>." ++ "<lambda>")], pin := none }
  have d_l_draw : Def P w K mg base "_law_draw" 1 ["_law_pen_here", "_law_many"] cDraw := by
    obtain ⟨fdd, F1, b⟩ := Fn.f_draw
    exact draw_def (ok_draw F1 c.n Fn.ab) F1.kp b Fn.g_draw
  have d_is_integer : Def P w K mg base "is_integer" 3 ["value"] (c_is_integer K) := def_of Fn.f_is_integer sc_is_integer len_is_integer (fun T f cdv A outer s H E hr => b_is_integer c T   f cdv A outer s H E hr) (fun ds n k x h => dt_is_integer h)
  have d_is_within : Def P w K mg base "is_within" 4 ["value", "least", "most"] (c_is_within K) := def_of Fn.f_is_within sc_is_within len_is_within (fun T f cdv A outer s H E hr => b_is_within c T d_is_integer  f cdv A outer s H E hr) (fun ds n k x h => dt_is_within h)
  have d_is_age : Def P w K mg base "is_age" 5 ["value"] (c_is_age K) := def_of Fn.f_is_age sc_is_age len_is_age (fun T f cdv A outer s H E hr => b_is_age c T d_is_within  f cdv A outer s H E hr) (fun ds n k x h => dt_is_age h)
  have d_is_ascending : Def P w K mg base "is_ascending" 3 ["values"] (c_is_ascending K) := def_of Fn.f_is_ascending sc_is_ascending len_is_ascending (fun T f cdv A outer s H E hr => b_is_ascending c T   f cdv A outer s H E hr) (fun ds n k x h => dt_is_ascending h)
  have d_is_sum : Def P w K mg base "is_sum" 6 ["value"] (c_is_sum K) := def_of Fn.f_is_sum sc_is_sum len_is_sum (fun T f cdv A outer s H E hr => b_is_sum c T d_is_age d_is_ascending  f cdv A outer s H E hr) (fun ds n k x h => dt_is_sum h)
  have d_Tick_init : ∀ T : Tb, Ow.FnM P w K mg base (L2.CX P w) 7 (ma K "Tick" "__init__") "mute" (.bl false) (spI K T (ga K "Tick") (c_Tick_init K)) := fun T => by
    obtain ⟨fdi, F⟩ := Fn.f_init
    obtain ⟨oc, od, dV, kV, doc, pm, an, cdv, ct, osl, rfl, lk, hcd, hD, hK⟩ := F.ex
    rcases hD with ⟨_, rfl⟩ | ⟨e, _⟩
    · rcases hK with e | ⟨Dd, rfl, hq⟩
      · cases e
      · obtain ⟨u, hu, ru⟩ := hq ("mute", .bl false) List.mem_cons_self
        refine Ow.fnM_of (p1 := "self") (mk := "mute") (pv := "sums") (dv := .bl false) (du := u) (D := Dd) lk hcd sc_Tick_init StX.cxUp (fun a m rest => ?_) hu ru (fun a rest => ?_) (fun A outer s H vs Q E hr h => init_body (b_Tick_init c T d_is_sum  _ _ A outer s H E hr) (fun x0 ds n k x h => dt_Tick_init h) h)
        · cases rest <;> rfl
        · cases rest with
          | nil => exact ⟨_, _, _, _, _, _, rfl, rfl, rfl⟩
          | cons r rs => exact ⟨_, _, _, _, _, _, rfl, rfl, rfl⟩
    · exact absurd rfl e
  have d_Tick_eq : Met P w K mg base "Tick" "__eq__" 3 ["self", "other"] (c_Tick_eq K) := met_of Fn.f_Tick_eq sc_Tick_eq len_Tick_eq (fun T f cdv A outer s H E hr => b_Tick_eq c T   f cdv A outer s H E hr) (fun ds n k x h => dt_Tick_eq h)
  have d_Tick_str : Met P w K mg base "Tick" "__str__" 3 ["self"] (c_Tick_str K) := met_of Fn.f_Tick_str sc_Tick_str len_Tick_str (fun T f cdv A outer s H E hr => b_Tick_str c T   f cdv A outer s H E hr) (fun ds n k x h => dt_Tick_str h)
  have d_Plan_init : FnV P w K mg base 3 (ma K "Plan" "__init__") (ga K "Plan") (c_Plan_init K) := fun T => by
    obtain ⟨fdv, F⟩ := Fn.f_Plan_init
    obtain ⟨oc, od, kV, doc, pm, an, cdv, ct, osl, rfl, lk, hcd⟩ := F.ex
    exact StX.fn_star (ps := ["self"]) (pv := "ticks") (sp := spI K T (ga K "Plan") (c_Plan_init K)) (k := 2) lk hcd sc_Plan_init StX.cxUp (fun us rest h => StX.bind_star1 (p1 := "self") (pv := "ticks") (B := fun z => bindArgs (PySem.W.fnOf "__init__" "Plan.__init__" (defArgs s_Plan_init) (defBody s_Plan_init) (defScope s_Plan_init) Value.none kV doc pm an cdv ct) { pos := z }) (fun a => rfl) (fun a r rs => rfl) us rest h) fun A outer s H vs Q E hr h => init_body (b_Plan_init c T   _ _ A outer s H E hr) (fun x0 ds n k x h => dt_Plan_init h) h
  have d_Plan_len : Met P w K mg base "Plan" "__len__" 3 ["self"] (c_Plan_len K) := met_of Fn.f_Plan_len sc_Plan_len len_Plan_len (fun T f cdv A outer s H E hr => b_Plan_len c T   f cdv A outer s H E hr) (fun ds n k x h => dt_Plan_len h)
  have d_Plan_getitem : Met P w K mg base "Plan" "__getitem__" 5 ["self", "at"] (c_Plan_getitem K) := met_of Fn.f_Plan_getitem sc_Plan_getitem len_Plan_getitem (fun T f cdv A outer s H E hr => b_Plan_getitem c T d_is_within  f cdv A outer s H E hr) (fun ds n k x h => dt_Plan_getitem h)
  have d_Plan_rate : Prp P w K mg base "Plan" "rate" 3 (c_Plan_rate K) := prp_of Fn.f_Plan_rate sc_Plan_rate len_Plan_rate (fun T f cdv A outer s H E hr => b_Plan_rate c T   f cdv A outer s H E hr) (fun ds n k x h => dt_Plan_rate h)
  have d_Plan_str : Met P w K mg base "Plan" "__str__" 6 ["self"] (c_Plan_str K) := met_of Fn.f_Plan_str sc_Plan_str len_Plan_str (fun T f cdv A outer s H E hr => b_Plan_str c T d_Tick_str  f cdv A outer s H E hr) (fun ds n k x h => dt_Plan_str h)
  have d_copies : DefV P w K mg base "copies" 9 (c_copies K) := by
    obtain ⟨fdv, F⟩ := Fn.f_copies.ex
    exact defV_of (pv := "ages") F Fn.f_copies.g sc_copies (fun kV doc pm an cdv ct us rest hl => match us, rest, hl with | [], [], _ => rfl | [], _ :: _, _ => rfl) (fun T f cdv A outer s H E hr => b_copies c T d_is_within d_Plan_init d_Tick_init  f cdv A outer s H E hr) (fun ds n k x h => dt_copies h)
  have d_parity : Def P w K mg base "parity" 9 ["size"] (c_parity K) := def_of Fn.f_parity sc_parity len_parity (fun T f cdv A outer s H E hr => b_parity c T d_is_within d_Tick_init d_Plan_init  f cdv A outer s H E hr) (fun ds n k x h => dt_parity h)
  have dk_parity : DefK P w K mg base "parity" 9 ["size"] ["size"] (c_parity K) := by
    obtain ⟨fdk, F1, _⟩ := Fn.f_parity.ex
    exact ⟨⟨fdk, fun T => fnD_of F1 sc_parity len_parity (fun cdv A outer s H E hr => b_parity c T d_is_within d_Tick_init d_Plan_init  _ cdv A outer s H E hr) (fun ds n k x h => dt_parity h), F1.kp, kd_of F1 fun _ _ _ _ _ _ ws hl => match ws, hl with | [_], _ => rfl⟩, Fn.f_parity.g⟩
  have d_l_pick : Def P w K mg base "_law_pick" 3 ["_law_pen_here", "_law_some"] (c_l_pick K) := def_of Fn.f_l_pick sc_l_pick len_l_pick (fun T f cdv A outer s H E hr => b_l_pick c T d_l_draw  f cdv A outer s H E hr) (fun ds n k x h => dt_l_pick h)
  have d_l_copies : Def P w K mg base "_law_copies" 10 ["_law_ages"] (c_l_copies K) := def_of Fn.f_l_copies sc_l_copies len_l_copies (fun T f cdv A outer s H E hr => b_l_copies c T d_copies  f cdv A outer s H E hr) (fun ds n k x h => dt_l_copies h)
  have d_l_turn_right : DefG P w K mg base T "_law_turn_right" 13 ["_law_pen_here"] (c_l_turn_right K) := defG_of FT bT gT sc_l_turn_right len_l_turn_right (fun cdv A outer s H E hc hr hG => b_l_turn_right c T d_l_draw d_l_copies d_Plan_str d_Plan_len d_Plan_getitem d_l_pick d_parity  _ cdv A outer s H E TBo (by simp [T]) (fun p hp e => by
      rcases List.mem_cons.mp hp with h | h
      · rw [h] at e
        exact absurd e hP
      · rw [List.mem_singleton.mp h]) rfl (by rw [← hc]; exact hco) hG hr) (fun ds n k x h => dt_l_turn_right D' h)
  obtain ⟨fdp, FP, bP⟩ := Fn.f_pen
  have GP := ok_pen (P := P) (w := w) (mg := mg) (base := base) FP c.n
  refine Oq.okGD FL sc_law (fun vs H Q E h => ?_) (fun cdv A outer s H vs Q E hc hr hG h => ?_)
  · obtain ⟨a, ns, rfl, _⟩ := h
    rfl
  · have h' := h
    obtain ⟨a, ns, rfl, _⟩ := h'
    have hb := b_law c T d_l_turn_right d_Tick_init d_Plan_iter d_Tick_eq d_Plan_rate d_copies d_parity dk_parity f cdv A outer s H E TBl (by simp [T]) (fun p hp e => by
      rcases List.mem_cons.mp hp with h | h
      · rw [h]
      · rw [List.mem_singleton.mp h] at e
        exact absurd e.symm hP) rfl (by rw [← hc]; exact hcl) hG hr
    exact law_run (sp := spLaw K [Pl, Po]) (N := ["_law_script", "_law_pen_here", "_law_turn", "_law_many", "_law_plan", "_law_due", "_law_heard_here", "_law_tick"]) (fp := f) (T := T) (m := 6) rfl (ps_set (i := 1) sc_law.nd rfl (Or.inl rfl) (pe_call GP (hr.mono (by decide)) rfl Fn.g_pen FP.kp bP .nil pass0 (pa_cons (pv 0) pa_nil))) hb h (dt_law D')
end Lz

set_option Elab.async false
set_option linter.all false
set_option maxRecDepth 100000
set_option maxHeartbeats 0
namespace Hk
open PySem PySem.Spec PyProof.Rows L2 Ow Oe LamX Dl Lz
theorem facts {P : Program} {w : World} {K : PySem.W.Frag} {h : Heap} {mg : Str → Option Value} {f : Addr} (X : K.In h) (G : h.Ns mainGlobals mg) (hfa : mg ("law" : Str) = some (.ref f)) (c : see K = seen) :
    ∃ fd fd1 : FuncData, (∀ (s : Shared) (v : Value), BindsTo s fd ⟨[v], []⟩ [("_law_script", v)]) ∧ (∃ oc od sl, K.lookup (He.ga K "law") = some ⟨oc, od, .func fd, sl⟩) ∧ (∃ oc od sl, K.lookup (He.ga K "_law_turn_right") = some ⟨oc, od, .func fd1, sl⟩) ∧ mg "_law_turn_right" = some (.ref (He.ga K "_law_turn_right")) ∧ f = He.ga K "law" ∧ tabsB K "law" "_law_turn_right" = true ∧
      ∀ (cc Pl co Po : Addr), fd.code = .ref cc → fd1.code = .ref co → Pl ≠ Po → ∀ base : Heap, K.In base → base.Ns mainGlobals mg → TabB base mg cc Pl → TabB base mg co Po → Og.FnG P w K mg base CX0 14 f fd ["_law_script"] (spLaw K [Pl, Po]) := by
  have cD : He.SaysD faA fn K := congrArg (fun z : Al => z.1) c
  have cT : (tests K).all id = true := congrArg (fun z : Al => z.2.1) c
  have cA : [atA K (propG K "Plan" "rate")] = [v_Plan_rate] := congrArg (fun z : Al => z.2.2) c
  have t : ∀ i {b}, (tests K)[i]? = some b → b = true := fun i b e => all_id cT e
  obtain ⟨fdx_is_integer, Dx_is_integer⟩ := cD.def_ 0 (d := dg "is_integer" s_is_integer) rfl
  have Fx_is_integer : L2.Fun K "is_integer" "is_integer" s_is_integer (He.ga K "is_integer") fdx_is_integer := toFun Dx_is_integer
  have bx_is_integer : L2.Binds K fdx_is_integer ["value"] [] := Fx_is_integer.binds fun _ _ _ _ _ _ us hl => match us, hl with | [_], _ => rfl
  obtain ⟨fdx_is_within, Dx_is_within⟩ := cD.def_ 1 (d := dg "is_within" s_is_within) rfl
  have Fx_is_within : L2.Fun K "is_within" "is_within" s_is_within (He.ga K "is_within") fdx_is_within := toFun Dx_is_within
  have bx_is_within : L2.Binds K fdx_is_within ["value", "least", "most"] [] := Fx_is_within.binds fun _ _ _ _ _ _ us hl => match us, hl with | [_, _, _], _ => rfl
  obtain ⟨fdx_is_age, Dx_is_age⟩ := cD.def_ 2 (d := dg "is_age" s_is_age) rfl
  have Fx_is_age : L2.Fun K "is_age" "is_age" s_is_age (He.ga K "is_age") fdx_is_age := toFun Dx_is_age
  have bx_is_age : L2.Binds K fdx_is_age ["value"] [] := Fx_is_age.binds fun _ _ _ _ _ _ us hl => match us, hl with | [_], _ => rfl
  obtain ⟨fdx_is_ascending, Dx_is_ascending⟩ := cD.def_ 3 (d := dg "is_ascending" s_is_ascending) rfl
  have Fx_is_ascending : L2.Fun K "is_ascending" "is_ascending" s_is_ascending (He.ga K "is_ascending") fdx_is_ascending := toFun Dx_is_ascending
  have bx_is_ascending : L2.Binds K fdx_is_ascending ["values"] [] := Fx_is_ascending.binds fun _ _ _ _ _ _ us hl => match us, hl with | [_], _ => rfl
  obtain ⟨fdx_is_sum, Dx_is_sum⟩ := cD.def_ 4 (d := dg "is_sum" s_is_sum) rfl
  have Fx_is_sum : L2.Fun K "is_sum" "is_sum" s_is_sum (He.ga K "is_sum") fdx_is_sum := toFun Dx_is_sum
  have bx_is_sum : L2.Binds K fdx_is_sum ["value"] [] := Fx_is_sum.binds fun _ _ _ _ _ _ us hl => match us, hl with | [_], _ => rfl
  obtain ⟨fdx_copies, Dx_copies⟩ := cD.def_ 5 (d := dg "copies" s_copies) rfl
  have Fx_copies : L2.Fun K "copies" "copies" s_copies (He.ga K "copies") fdx_copies := toFun Dx_copies
  obtain ⟨fdx_parity, Dx_parity⟩ := cD.def_ 6 (d := dg "parity" s_parity) rfl
  have Fx_parity : L2.Fun K "parity" "parity" s_parity (He.ga K "parity") fdx_parity := toFun Dx_parity
  have bx_parity : L2.Binds K fdx_parity ["size"] [] := Fx_parity.binds fun _ _ _ _ _ _ us hl => match us, hl with | [_], _ => rfl
  obtain ⟨fdx__law_pick, Dx__law_pick⟩ := cD.def_ 7 (d := dg "_law_pick" s_l_pick) rfl
  have Fx__law_pick : L2.Fun K "_law_pick" "_law_pick" s_l_pick (He.ga K "_law_pick") fdx__law_pick := toFun Dx__law_pick
  have bx__law_pick : L2.Binds K fdx__law_pick ["_law_pen_here", "_law_some"] [] := Fx__law_pick.binds fun _ _ _ _ _ _ us hl => match us, hl with | [_, _], _ => rfl
  obtain ⟨fdx__law_heard, Dx__law_heard⟩ := cD.def_ 8 (d := dg "_law_heard" s_l_heard) rfl
  have Fx__law_heard : L2.Fun K "_law_heard" "_law_heard" s_l_heard (He.ga K "_law_heard") fdx__law_heard := toFun Dx__law_heard
  have bx__law_heard : L2.Binds K fdx__law_heard ["_law_ask"] [] := Fx__law_heard.binds fun _ _ _ _ _ _ us hl => match us, hl with | [_], _ => rfl
  obtain ⟨fdx__law_copies, Dx__law_copies⟩ := cD.def_ 9 (d := dg "_law_copies" s_l_copies) rfl
  have Fx__law_copies : L2.Fun K "_law_copies" "_law_copies" s_l_copies (He.ga K "_law_copies") fdx__law_copies := toFun Dx__law_copies
  have bx__law_copies : L2.Binds K fdx__law_copies ["_law_ages"] [] := Fx__law_copies.binds fun _ _ _ _ _ _ us hl => match us, hl with | [_], _ => rfl
  obtain ⟨fdx__law_turn_right, Dx__law_turn_right⟩ := cD.def_ 10 (d := dg "_law_turn_right" s_l_turn_right) rfl
  have Fx__law_turn_right : L2.Fun K "_law_turn_right" "_law_turn_right" s_l_turn_right (He.ga K "_law_turn_right") fdx__law_turn_right := toFun Dx__law_turn_right
  have bx__law_turn_right : L2.Binds K fdx__law_turn_right ["_law_pen_here"] [] := Fx__law_turn_right.binds fun _ _ _ _ _ _ us hl => match us, hl with | [_], _ => rfl
  obtain ⟨fdx_law, Dx_law⟩ := cD.def_ 11 (d := dg "law" s_law) rfl
  have Fx_law : L2.Fun K "law" "law" s_law (He.ga K "law") fdx_law := toFun Dx_law
  obtain ⟨fdx__law_draw, Dx__law_draw⟩ := cD.def_ 12 (d := dg "_law_draw" s_draw) rfl
  have Fx__law_draw : L2.Fun K "_law_draw" "_law_draw" s_draw (He.ga K "_law_draw") fdx__law_draw := toFun Dx__law_draw
  have bx__law_draw : L2.Binds K fdx__law_draw ["_law_pen_here", "_law_many"] [] := Fx__law_draw.binds fun _ _ _ _ _ _ us hl => match us, hl with | [_, _], _ => rfl
  obtain ⟨fdx__law_pen, Dx__law_pen⟩ := cD.def_ 13 (d := dg "_law_pen" s_pen) rfl
  have Fx__law_pen : L2.Fun K "_law_pen" "_law_pen" s_pen (He.ga K "_law_pen") fdx__law_pen := toFun Dx__law_pen
  have bx__law_pen : L2.Binds K fdx__law_pen ["_law_script"] [] := Fx__law_pen.binds fun _ _ _ _ _ _ us hl => match us, hl with | [_], _ => rfl
  obtain ⟨fdx_Tick___eq__, Dx_Tick___eq__⟩ := cD.def_ 14 (d := de "Tick" "__eq__" "Tick.__eq__" s_Tick_eq) rfl
  have Fx_Tick___eq__ : L2.Fun K "__eq__" "Tick.__eq__" s_Tick_eq (Dl.ma K "Tick" "__eq__") fdx_Tick___eq__ := toFun Dx_Tick___eq__
  have bx_Tick___eq__ : L2.Binds K fdx_Tick___eq__ ["self", "other"] [] := Fx_Tick___eq__.binds fun _ _ _ _ _ _ us hl => match us, hl with | [_, _], _ => rfl
  obtain ⟨fdx_Tick___str__, Dx_Tick___str__⟩ := cD.def_ 15 (d := de "Tick" "__str__" "Tick.__str__" s_Tick_str) rfl
  have Fx_Tick___str__ : L2.Fun K "__str__" "Tick.__str__" s_Tick_str (Dl.ma K "Tick" "__str__") fdx_Tick___str__ := toFun Dx_Tick___str__
  have bx_Tick___str__ : L2.Binds K fdx_Tick___str__ ["self"] [] := Fx_Tick___str__.binds fun _ _ _ _ _ _ us hl => match us, hl with | [_], _ => rfl
  obtain ⟨fdx_Plan___len__, Dx_Plan___len__⟩ := cD.def_ 16 (d := de "Plan" "__len__" "Plan.__len__" s_Plan_len) rfl
  have Fx_Plan___len__ : L2.Fun K "__len__" "Plan.__len__" s_Plan_len (Dl.ma K "Plan" "__len__") fdx_Plan___len__ := toFun Dx_Plan___len__
  have bx_Plan___len__ : L2.Binds K fdx_Plan___len__ ["self"] [] := Fx_Plan___len__.binds fun _ _ _ _ _ _ us hl => match us, hl with | [_], _ => rfl
  obtain ⟨fdx_Plan___getitem__, Dx_Plan___getitem__⟩ := cD.def_ 17 (d := de "Plan" "__getitem__" "Plan.__getitem__" s_Plan_getitem) rfl
  have Fx_Plan___getitem__ : L2.Fun K "__getitem__" "Plan.__getitem__" s_Plan_getitem (Dl.ma K "Plan" "__getitem__") fdx_Plan___getitem__ := toFun Dx_Plan___getitem__
  have bx_Plan___getitem__ : L2.Binds K fdx_Plan___getitem__ ["self", "at"] [] := Fx_Plan___getitem__.binds fun _ _ _ _ _ _ us hl => match us, hl with | [_, _], _ => rfl
  obtain ⟨fdx_Plan___str__, Dx_Plan___str__⟩ := cD.def_ 18 (d := de "Plan" "__str__" "Plan.__str__" s_Plan_str) rfl
  have Fx_Plan___str__ : L2.Fun K "__str__" "Plan.__str__" s_Plan_str (Dl.ma K "Plan" "__str__") fdx_Plan___str__ := toFun Dx_Plan___str__
  have bx_Plan___str__ : L2.Binds K fdx_Plan___str__ ["self"] [] := Fx_Plan___str__.binds fun _ _ _ _ _ _ us hl => match us, hl with | [_], _ => rfl
  obtain ⟨fdx_iterPlan, Dx_iterPlan⟩ := cD.def_ 19 (d := de "Plan" "__iter__" "Plan.__iter__" s_Plan_iter) rfl
  have Fx_iterPlan : L2.Fun K "__iter__" "Plan.__iter__" s_Plan_iter (Dl.ma K "Plan" "__iter__") fdx_iterPlan := toFun Dx_iterPlan
  have bx_iterPlan : L2.Binds K fdx_iterPlan ["self"] [] := Fx_iterPlan.binds fun _ _ _ _ _ _ us hl => match us, hl with | [_], _ => rfl
  obtain ⟨fdx_err_BadTick, Dx_err_BadTick⟩ := cD.def_ 20 (d := de "BadTick" "__init__" "BadTick.__init__" s_BadTick_init) rfl
  have Fx_err_BadTick : L2.Fun K "__init__" "BadTick.__init__" s_BadTick_init (Dl.ma K "BadTick" "__init__") fdx_err_BadTick := toFun Dx_err_BadTick
  have bx_err_BadTick : L2.Binds K fdx_err_BadTick ["self", "part"] [] := Fx_err_BadTick.binds fun _ _ _ _ _ _ us hl => match us, hl with | [_, _], _ => rfl
  obtain ⟨fdx_err_BadPlan, Dx_err_BadPlan⟩ := cD.def_ 21 (d := de "BadPlan" "__init__" "BadPlan.__init__" s_BadPlan_init) rfl
  have Fx_err_BadPlan : L2.Fun K "__init__" "BadPlan.__init__" s_BadPlan_init (Dl.ma K "BadPlan" "__init__") fdx_err_BadPlan := toFun Dx_err_BadPlan
  have bx_err_BadPlan : L2.Binds K fdx_err_BadPlan ["self", "part"] [] := Fx_err_BadPlan.binds fun _ _ _ _ _ _ us hl => match us, hl with | [_, _], _ => rfl
  obtain ⟨fdx_err_TooMany, Dx_err_TooMany⟩ := cD.def_ 22 (d := de "TooMany" "__init__" "TooMany.__init__" s_TooMany_init) rfl
  have Fx_err_TooMany : L2.Fun K "__init__" "TooMany.__init__" s_TooMany_init (Dl.ma K "TooMany" "__init__") fdx_err_TooMany := toFun Dx_err_TooMany
  have bx_err_TooMany : L2.Binds K fdx_err_TooMany ["self", "what", "most"] [] := Fx_err_TooMany.binds fun _ _ _ _ _ _ us hl => match us, hl with | [_, _, _], _ => rfl
  obtain ⟨fdx_err_NoPhase, Dx_err_NoPhase⟩ := cD.def_ 23 (d := de "NoPhase" "__init__" "NoPhase.__init__" s_NoPhase_init) rfl
  have Fx_err_NoPhase : L2.Fun K "__init__" "NoPhase.__init__" s_NoPhase_init (Dl.ma K "NoPhase" "__init__") fdx_err_NoPhase := toFun Dx_err_NoPhase
  have bx_err_NoPhase : L2.Binds K fdx_err_NoPhase ["self", "at"] [] := Fx_err_NoPhase.binds fun _ _ _ _ _ _ us hl => match us, hl with | [_, _], _ => rfl
  obtain ⟨fdx_err_BadCount, Dx_err_BadCount⟩ := cD.def_ 24 (d := de "BadCount" "__init__" "BadCount.__init__" s_BadCount_init) rfl
  have Fx_err_BadCount : L2.Fun K "__init__" "BadCount.__init__" s_BadCount_init (Dl.ma K "BadCount" "__init__") fdx_err_BadCount := toFun Dx_err_BadCount
  have bx_err_BadCount : L2.Binds K fdx_err_BadCount ["self", "value"] [] := Fx_err_BadCount.binds fun _ _ _ _ _ _ us hl => match us, hl with | [_, _], _ => rfl
  obtain ⟨fdx_init_Plan, Dx_init_Plan⟩ := cD.def_ 25 (d := de "Plan" "__init__" "Plan.__init__" s_Plan_init) rfl
  have Fx_init_Plan : L2.Fun K "__init__" "Plan.__init__" s_Plan_init (Dl.ma K "Plan" "__init__") fdx_init_Plan := toFun Dx_init_Plan
  obtain ⟨fdx_init, Dx_init⟩ := cD.def_ 26 (d := ⟨("Tick", some "__init__"), "__init__", "Tick.__init__", defArgs s_Tick_init, defBody s_Tick_init, defScope s_Tick_init, [], [("mute", .bl false)]⟩) rfl
  have CLTick : Cls K (Dl.ga K "Tick") := He.cls_ok (cD.fact 18 (f := .cls "Tick") rfl)
  have INTick : InsF K (Dl.ga K "Tick") := insB_ok CLTick (t 53 rfl)
  have CLPlan : Cls K (Dl.ga K "Plan") := He.cls_ok (cD.fact 19 (f := .cls "Plan") rfl)
  have INPlan : InsF K (Dl.ga K "Plan") := insB_ok CLPlan (t 54 rfl)
  have NAPlan__ticks : NoAttr K (Dl.ga K "Plan") "_ticks" := He.noat_ok (cD.fact 20 (f := .noat "Plan" "_ticks") rfl)
  have NATick_mute : NoAttr K (Dl.ga K "Tick") "mute" := He.noat_ok (cD.fact 21 (f := .noat "Tick" "mute") rfl)
  have NATick_sums : NoAttr K (Dl.ga K "Tick") "sums" := He.noat_ok (cD.fact 22 (f := .noat "Tick" "sums") rfl)
  have XBadTick := errB_ok (t 0 rfl)
  have XBadPlan := errB_ok (t 2 rfl)
  have XTooMany := errB_ok (t 4 rfl)
  have XNoPhase := errB_ok (t 7 rfl)
  have XBadCount := errB_ok (t 9 rfl)
  have NN : Lz.Nm mg := ⟨He.free_ok X G (cD.fact 0 (f := .free "all") rfl), He.free_ok X G (cD.fact 1 (f := .free "any") rfl), He.free_ok X G (cD.fact 2 (f := .free "bool") rfl), He.free_ok X G (cD.fact 3 (f := .free "enumerate") rfl), He.free_ok X G (cD.fact 4 (f := .free "int") rfl), He.free_ok X G (cD.fact 5 (f := .free "isinstance") rfl), He.free_ok X G (cD.fact 6 (f := .free "len") rfl), He.free_ok X G (cD.fact 7 (f := .free "list") rfl), He.free_ok X G (cD.fact 8 (f := .free "range") rfl), He.free_ok X G (cD.fact 9 (f := .free "repr") rfl), He.free_ok X G (cD.fact 10 (f := .free "str") rfl), He.free_ok X G (cD.fact 11 (f := .free "sum") rfl), He.free_ok X G (cD.fact 12 (f := .free "tuple") rfl)⟩
  have esM : ∀ {p : Addr → Prop}, p (Dl.ga K "BadTick") → p (Dl.ga K "BadPlan") → p (Dl.ga K "TooMany") → p (Dl.ga K "NoPhase") → p (Dl.ga K "BadCount") → ∀ C ∈ Es K, p C := fun h0 h1 h2 h3 h4 C hC => by
    rcases List.mem_cons.mp hC with h | hC
    · rw [h]; exact h0
    rcases List.mem_cons.mp hC with h | hC
    · rw [h]; exact h1
    rcases List.mem_cons.mp hC with h | hC
    · rw [h]; exact h2
    rcases List.mem_cons.mp hC with h | hC
    · rw [h]; exact h3
    rw [List.mem_singleton.mp hC]; exact h4
  have FC : ∀ base : Heap, Fct P w K mg base := fun base => {
    n := NN
    cl_Plan := CLPlan
    cl_Tick := CLTick
    e_BadCount := ⟨⟨_, fdx_err_BadCount, ⟨XBadCount.ox, XBadCount.ic, XBadCount.ti, (He.glo_ok X G (cD.fact 27 (f := .glo "BadCount") rfl))⟩, ok_BadCount Fx_err_BadCount, bx_err_BadCount⟩, XBadCount.no⟩
    e_BadPlan := ⟨⟨_, fdx_err_BadPlan, ⟨XBadPlan.ox, XBadPlan.ic, XBadPlan.ti, (He.glo_ok X G (cD.fact 28 (f := .glo "BadPlan") rfl))⟩, ok_BadPlan Fx_err_BadPlan, bx_err_BadPlan⟩, XBadPlan.no⟩
    e_BadTick := ⟨⟨_, fdx_err_BadTick, ⟨XBadTick.ox, XBadTick.ic, XBadTick.ti, (He.glo_ok X G (cD.fact 29 (f := .glo "BadTick") rfl))⟩, ok_BadTick Fx_err_BadTick, bx_err_BadTick⟩, XBadTick.no⟩
    e_NoPhase := ⟨⟨_, fdx_err_NoPhase, ⟨XNoPhase.ox, XNoPhase.ic, XNoPhase.ti, (He.glo_ok X G (cD.fact 30 (f := .glo "NoPhase") rfl))⟩, ok_NoPhase Fx_err_NoPhase, bx_err_NoPhase⟩, XNoPhase.no⟩
    e_TooMany := ⟨⟨_, fdx_err_TooMany, ⟨XTooMany.ox, XTooMany.ic, XTooMany.ti, (He.glo_ok X G (cD.fact 32 (f := .glo "TooMany") rfl))⟩, ok_TooMany Fx_err_TooMany, bx_err_TooMany⟩, XTooMany.no, none_ok (t 5 rfl)⟩
    exm_RepairError := (fun C hC => esM (p := fun C => PySem.W.exmOne K (.ref C) (.ref (Dl.ga K "RepairError")) = some true) (of_decide_eq_true (t 1 rfl)) (of_decide_eq_true (t 3 rfl)) (of_decide_eq_true (t 6 rfl)) (of_decide_eq_true (t 8 rfl)) (of_decide_eq_true (t 10 rfl)) C (of_decide_eq_true hC))
    g_BadCount := (He.glo_ok X G (cD.fact 27 (f := .glo "BadCount") rfl))
    g_BadPlan := (He.glo_ok X G (cD.fact 28 (f := .glo "BadPlan") rfl))
    g_BadTick := (He.glo_ok X G (cD.fact 29 (f := .glo "BadTick") rfl))
    g_NoPhase := (He.glo_ok X G (cD.fact 30 (f := .glo "NoPhase") rfl))
    g_Plan := (He.glo_ok X G (cD.fact 26 (f := .glo "Plan") rfl))
    g_RepairError := (He.glo_ok X G (cD.fact 31 (f := .glo "RepairError") rfl))
    g_Tick := (He.glo_ok X G (cD.fact 25 (f := .glo "Tick") rfl))
    g_TooMany := (He.glo_ok X G (cD.fact 32 (f := .glo "TooMany") rfl))
    gi_Plan := (t 61 rfl)
    h_l_heard := ⟨⟨fdx__law_heard, Fx__law_heard, bx__law_heard⟩, (He.glo_ok X G (cD.fact 41 (f := .glo "_law_heard") rfl))⟩
    k_MOST_AGE := He.int_ok X G (cD.fact 15 (f := .int "MOST_AGE" 8) rfl)
    k_MOST_PHASES := He.int_ok X G (cD.fact 16 (f := .int "MOST_PHASES" 6) rfl)
    k_MOST_SUMS := He.int_ok X G (cD.fact 17 (f := .int "MOST_SUMS" 6) rfl)
    mk_Plan := He.mkr_ok (cD.fact 24 (f := .mkr "Plan") rfl)
    mk_Tick := He.mkr_ok (cD.fact 23 (f := .mkr "Tick") rfl)
    na_Plan__ticks := NAPlan__ticks
    na_Tick_mute := NATick_mute
    na_Tick_sums := NATick_sums
    t_Plan := tells_own (tyClB_ok (t 55 rfl)) ⟨INPlan, kitB_ok (t 56 rfl)⟩ (fun C hC ne => by
    rcases List.mem_cons.mp hC with h | hC
    · exact (by rw [h]; exact ⟨INTick, kitB_ok (t 57 rfl)⟩)
    exact absurd (List.mem_singleton.mp hC) ne)
    t_Tick := tells_own (tyClB_ok (t 58 rfl)) ⟨INTick, kitB_ok (t 59 rfl)⟩ (fun C hC ne => by
    rcases List.mem_cons.mp hC with h | hC
    · exact absurd h ne
    exact (by rw [List.mem_singleton.mp hC]; exact ⟨INPlan, kitB_ok (t 60 rfl)⟩))
    t_bool := tells_ty tyB_bool (fun C hC => by
    rcases List.mem_cons.mp hC with h | hC
    · rw [h]; exact ⟨INTick, kitB_ok (t 62 rfl)⟩
    rw [List.mem_singleton.mp hC]; exact ⟨INPlan, kitB_ok (t 63 rfl)⟩)
    t_int := tells_ty tyB_int (fun C hC => by
    rcases List.mem_cons.mp hC with h | hC
    · rw [h]; exact ⟨INTick, kitB_ok (t 64 rfl)⟩
    rw [List.mem_singleton.mp hC]; exact ⟨INPlan, kitB_ok (t 65 rfl)⟩)
    t_tuple := tells_ty tyB_tuple (fun C hC => by
    rcases List.mem_cons.mp hC with h | hC
    · rw [h]; exact ⟨INTick, kitB_ok (t 66 rfl)⟩
    rw [List.mem_singleton.mp hC]; exact ⟨INPlan, kitB_ok (t 67 rfl)⟩)
    x_BadCount := tells_x (kitB_ok (t 11 rfl)) (esM ⟨XBadTick.ec, kitB_ok (t 12 rfl)⟩ ⟨XBadPlan.ec, kitB_ok (t 13 rfl)⟩ ⟨XTooMany.ec, kitB_ok (t 14 rfl)⟩ ⟨XNoPhase.ec, kitB_ok (t 15 rfl)⟩ ⟨XBadCount.ec, kitB_ok (t 16 rfl)⟩)
    x_BadPlan := tells_x (kitB_ok (t 17 rfl)) (esM ⟨XBadTick.ec, kitB_ok (t 18 rfl)⟩ ⟨XBadPlan.ec, kitB_ok (t 19 rfl)⟩ ⟨XTooMany.ec, kitB_ok (t 20 rfl)⟩ ⟨XNoPhase.ec, kitB_ok (t 21 rfl)⟩ ⟨XBadCount.ec, kitB_ok (t 22 rfl)⟩)
    x_BadTick := tells_x (kitB_ok (t 23 rfl)) (esM ⟨XBadTick.ec, kitB_ok (t 24 rfl)⟩ ⟨XBadPlan.ec, kitB_ok (t 25 rfl)⟩ ⟨XTooMany.ec, kitB_ok (t 26 rfl)⟩ ⟨XNoPhase.ec, kitB_ok (t 27 rfl)⟩ ⟨XBadCount.ec, kitB_ok (t 28 rfl)⟩)
    x_NoPhase := tells_x (kitB_ok (t 29 rfl)) (esM ⟨XBadTick.ec, kitB_ok (t 30 rfl)⟩ ⟨XBadPlan.ec, kitB_ok (t 31 rfl)⟩ ⟨XTooMany.ec, kitB_ok (t 32 rfl)⟩ ⟨XNoPhase.ec, kitB_ok (t 33 rfl)⟩ ⟨XBadCount.ec, kitB_ok (t 34 rfl)⟩)
    x_TooMany := tells_x (kitB_ok (t 35 rfl)) (esM ⟨XBadTick.ec, kitB_ok (t 36 rfl)⟩ ⟨XBadPlan.ec, kitB_ok (t 37 rfl)⟩ ⟨XTooMany.ec, kitB_ok (t 38 rfl)⟩ ⟨XNoPhase.ec, kitB_ok (t 39 rfl)⟩ ⟨XBadCount.ec, kitB_ok (t 40 rfl)⟩)
    xf_at := (fun C hC => by cases hC)
    xf_most := (fun C hC => by
    rw [List.mem_singleton.mp hC]; exact ⟨XTooMany.xf, none_ok (t 5 rfl)⟩)
    xf_part := (fun C hC => by
    rw [List.mem_singleton.mp hC]; exact ⟨XBadTick.xf, XBadTick.no⟩)
    xf_value := (fun C hC => by
    rw [List.mem_singleton.mp hC]; exact ⟨XBadCount.xf, XBadCount.no⟩)
    xf_what := (fun C hC => by
    rw [List.mem_singleton.mp hC]; exact ⟨XTooMany.xf, XTooMany.no⟩)
    }
  have DD : Dis K := ⟨of_decide_eq_true (t 41 rfl), of_decide_eq_true (t 42 rfl), of_decide_eq_true (t 43 rfl), of_decide_eq_true (t 44 rfl), of_decide_eq_true (t 45 rfl), of_decide_eq_true (t 46 rfl), of_decide_eq_true (t 47 rfl), of_decide_eq_true (t 48 rfl), of_decide_eq_true (t 49 rfl), of_decide_eq_true (t 50 rfl)⟩
  have e_Plan_rate : atA K (propG K "Plan" "rate") = v_Plan_rate := Option.some.inj (congrArg (fun l : List He.FnW => l[0]?) cA)
  have FN : Fns K mg := {
    f_is_integer := ⟨⟨fdx_is_integer, Fx_is_integer, bx_is_integer⟩, (He.glo_ok X G (cD.fact 33 (f := .glo "is_integer") rfl))⟩
    f_is_within := ⟨⟨fdx_is_within, Fx_is_within, bx_is_within⟩, (He.glo_ok X G (cD.fact 34 (f := .glo "is_within") rfl))⟩
    f_is_age := ⟨⟨fdx_is_age, Fx_is_age, bx_is_age⟩, (He.glo_ok X G (cD.fact 35 (f := .glo "is_age") rfl))⟩
    f_is_ascending := ⟨⟨fdx_is_ascending, Fx_is_ascending, bx_is_ascending⟩, (He.glo_ok X G (cD.fact 36 (f := .glo "is_ascending") rfl))⟩
    f_is_sum := ⟨⟨fdx_is_sum, Fx_is_sum, bx_is_sum⟩, (He.glo_ok X G (cD.fact 37 (f := .glo "is_sum") rfl))⟩
    f_copies := ⟨⟨fdx_copies, Fx_copies⟩, (He.glo_ok X G (cD.fact 38 (f := .glo "copies") rfl))⟩
    f_parity := ⟨⟨fdx_parity, Fx_parity, bx_parity⟩, (He.glo_ok X G (cD.fact 39 (f := .glo "parity") rfl))⟩
    f_l_pick := ⟨⟨fdx__law_pick, Fx__law_pick, bx__law_pick⟩, (He.glo_ok X G (cD.fact 40 (f := .glo "_law_pick") rfl))⟩
    f_l_copies := ⟨⟨fdx__law_copies, Fx__law_copies, bx__law_copies⟩, (He.glo_ok X G (cD.fact 42 (f := .glo "_law_copies") rfl))⟩
    f_l_turn_right := ⟨⟨fdx__law_turn_right, Fx__law_turn_right, bx__law_turn_right⟩, (He.glo_ok X G (cD.fact 43 (f := .glo "_law_turn_right") rfl))⟩
    f_Tick_eq := ⟨⟨fdx_Tick___eq__, Fx_Tick___eq__, bx_Tick___eq__⟩, He.meth_ok (cD.fact 47 (f := .meth "Tick" "__eq__") rfl)⟩
    f_Tick_str := ⟨⟨fdx_Tick___str__, Fx_Tick___str__, bx_Tick___str__⟩, He.meth_ok (cD.fact 48 (f := .meth "Tick" "__str__") rfl)⟩
    f_Plan_len := ⟨⟨fdx_Plan___len__, Fx_Plan___len__, bx_Plan___len__⟩, He.meth_ok (cD.fact 49 (f := .meth "Plan" "__len__") rfl)⟩
    f_Plan_getitem := ⟨⟨fdx_Plan___getitem__, Fx_Plan___getitem__, bx_Plan___getitem__⟩, He.meth_ok (cD.fact 50 (f := .meth "Plan" "__getitem__") rfl)⟩
    f_Plan_str := ⟨⟨fdx_Plan___str__, Fx_Plan___str__, bx_Plan___str__⟩, He.meth_ok (cD.fact 51 (f := .meth "Plan" "__str__") rfl)⟩
    f_Plan_rate := prp_at (st := s_Plan_rate) (t 52 rfl) e_Plan_rate (fun fd F => F.binds fun _ _ _ _ _ _ us hl => match us, hl with | [_], _ => rfl)
    f_draw := ⟨fdx__law_draw, Fx__law_draw, bx__law_draw⟩
    g_draw := (He.glo_ok X G (cD.fact 45 (f := .glo "_law_draw") rfl))
    f_pen := ⟨fdx__law_pen, Fx__law_pen, bx__law_pen⟩
    g_pen := (He.glo_ok X G (cD.fact 46 (f := .glo "_law_pen") rfl))
    f_Plan_init := ⟨fdx_init_Plan, Fx_init_Plan⟩
    f_init := ⟨fdx_init, Dx_init⟩
    ab := He.free_ok X G (cD.fact 13 (f := .free "abs") rfl)
    }
  have e := hfa.symm.trans (He.glo_ok X G (cD.fact 44 (f := .glo "law") rfl))
  cases e
  refine ⟨fdx_law, fdx__law_turn_right, fun s v => ?_, ?_, ?_, (He.glo_ok X G (cD.fact 43 (f := .glo "_law_turn_right") rfl)), rfl, (t 51 rfl), fun cc Pl co Po hcc hco hPo base _ _ TB TBo => ?_⟩
  · obtain ⟨oc, od, kV, doc, pm, an, cdv, ct, osl, rfl, lk, hc⟩ := Fx_law.ex
    exact .of_eq rfl
  · obtain ⟨oc, od, kV, doc, pm, an, cdv, ct, osl, rfl, lk, hc⟩ := Fx_law.ex
    exact ⟨_, _, _, lk⟩
  · obtain ⟨oc, od, kV, doc, pm, an, cdv, ct, osl, rfl, lk, hc⟩ := Fx__law_turn_right.ex
    exact ⟨_, _, _, lk⟩
  · have ITPlan : ItAt P w K mg base "Plan" "_ticks" 1 := by
      have M : Meth K (Dl.ga K "Plan") "__iter__" (Dl.ma K "Plan" "__iter__") := He.meth_ok (cD.fact 52 (f := .meth "Plan" "__iter__") rfl)
      exact ⟨M.at_, M.fn, it_runF Fx_iterPlan sc_Plan_iter bx_iterPlan CLPlan NAPlan__ticks fun cdv A outer s H => pss_one (ps_ret (pe_callB call_iterT (by rfl) (He.free_ok X G (cD.fact 14 (f := .free "iter") rfl)) (by decide +kernel) (pa_cons (pe_fld (pv 0) rfl) pa_nil)))⟩
    exact law_ok (FC base) DD FN ITPlan Fx_law Fx__law_turn_right bx__law_turn_right (He.glo_ok X G (cD.fact 43 (f := .glo "_law_turn_right") rfl)) hcc hco hPo TB TBo
end Hk
open PySem PySem.W PySem.Calls PyProof.Rows
theorem PySem.Challenge.cw_laterepair_k16_copies_and_parities_holds : PySem.Challenge.rw_laterepair_k16_copies_and_parities.Holds := by
  w_on; o_law
  refine HandSHeadRun.head_imp (r := Hk.R) (q := view Hk.R.prog [0, 43, 44]) (H := Hk.hook) (ob := Hk.ob) (M := 20000) (loose := Hk.names) (d := HandSHeadRun.topDef Hk.R.prog 44) (kwd := []) Hk.ob_eq
    Hk.run (by kernel_rfl) (by kernel_rfl) (by kernel_rfl) (by rfl) (by first | assumption | decide +kernel) (by decide +kernel) ⟨rfl, rfl, rfl, rfl, rfl, by decide +kernel⟩ ?hw ?hc
  case hw => w_witness2
  case hc =>
    refine Oq.walk_endT (l := PySem.Challenge.rw_laterepair_k16_copies_and_parities) (n := 63) (k := 14) (x := "_law_script") (CX := fun _ => L2.CX0) rfl (by decide) (by kernel_rfl) ⟨rfl, by decide, by decide⟩ ?F (fun _ _ _ _ _ z => z)
    intro w mg fa h Y TT G hmg0
    obtain ⟨K, KX, c⟩ := Y
    have dn : (HandSHeadRun.topDef Hk.R.prog 44).name = ("law" : PySem.Str) := by kernel_rfl
    have hmg : mg ("law" : PySem.Str) = some (.ref fa) := by
      rw [← dn]
      exact hmg0
    obtain ⟨fd, fd1, hb, ⟨oc, od, sl, lk⟩, ⟨oc1, od1, sl1, lk1⟩, g1, ef, tb, hF⟩ := Hk.facts (P := (PySem.Challenge.rw_laterepair_k16_copies_and_parities).prog) (w := w) KX G hmg c
    subst ef
    obtain ⟨o, fd2, c2, P2, h1, h2, h3, h4, h5⟩ := TT "law" _ (by kernel_rfl) hmg
    have e1 := KX _ _ lk
    rw [h1] at e1
    cases e1
    cases h2
    obtain ⟨o', fd3, c3, P3, k1, k2, k3, k4, k5⟩ := TT "_law_turn_right" _ (by kernel_rfl) g1
    have e3 := KX _ _ lk1
    rw [k1] at e3
    cases e3
    cases k2
    obtain ⟨p, q, tp, tq, pq⟩ := Hk.tabsB_ok tb
    obtain ⟨r1, n1⟩ := Hk.tabOf_ok KX tp lk h3 h4
    obtain ⟨r2, n2⟩ := Hk.tabOf_ok KX tq lk1 k3 k4
    subst r1 r2
    have two : ∀ {A : Addr × Addr → Prop}, A (c2, p) → A (c3, q) → ∀ x ∈ [(c2, p), (c3, q)], A x := fun a1 a2 x hx => by
      rcases List.mem_cons.mp hx with h | h
      · rw [h]
        exact a1
      · rw [List.mem_singleton.mp h]
        exact a2
    have two' : ∀ {A : Addr → Prop}, A p → A q → ∀ x ∈ [p, q], A x := fun a1 a2 x hx => by
      rcases List.mem_cons.mp hx with h | h
      · rw [h]
        exact a1
      · rw [List.mem_singleton.mp h]
        exact a2
    exact ⟨K, fd, [(c2, p), (c3, q)], Dl.spLaw K [p, q], KX, two h5 k5, two n1 n2, two h4 k4, hb, fun H a ns hl hT hS => ⟨a, ns, rfl, hS, hl, two' (hT (c2, p) List.mem_cons_self) (hT (c3, q) (List.mem_cons_of_mem _ List.mem_cons_self)), fun _ => rfl⟩, fun base b1 b2 b3 => hF c2 p c3 q h3 k3 pq base b1 b2 (b3 (c2, p) List.mem_cons_self) (b3 (c3, q) (List.mem_cons_of_mem _ List.mem_cons_self))⟩
#print axioms PySem.Challenge.cw_laterepair_k16_copies_and_parities_holds


