import PyProof.Rows.All
import Wide.All
import OpenK.AllK
import Wide.FinOn
import HandS.ForMost
import HandS.Star
import HandS.IsInst
import HandS.SortInts
import HandS.WideBits
import HandS.Conv
import HandS.Style
import HandS.ClsMeth
import HandS.Small
import PySem.Challenge.RW_laterepair_k10_ticks_refused
import HandS.SlotsOwn
import HandS.MakeKwOnly
import HandS.Property
import PyProof.InstEq
import HandS.IterVal
import PyProof.ReprRoads
import KE.DatumIndex
import HandS.Lambda
import HandS.ExcOwn
import HandS.ExcField
import HandS.ExcIs
import HandS.ExcInit
import HandS.ExcValue
import KE.KExcIs
import HandS.Defaults
import HandS.Deep
import HandS.Iter
import KE.GoesMore
import PyProof.P3In
import HandS.WordsExc
import HandS.Walk
import HandS.NoneIn
import HandS.EndTab
import HandS.EndOwn
import HandS.RaiseMore
import PyProof.FactsAll.dict
import HandS.TupLe
import KE.KStateDown
import Lean
import HandS.Head0
import HandS.Head1
import HandS.Head2
import HandS.HeadEnd
import HandS.HeadHook1
import HandS.HeadHook2
/-! Sums of rows as integers under exclusive or: spans, reduced rows, what they are unique by. Core Lean alone. -/
set_option autoImplicit false
set_option linter.unusedVariables false
namespace Xr
theorem lt_of_testBit' {x y : Nat} (i : Nat) (hx : x.testBit i = false) (hy : y.testBit i = true) (h : ∀ j, i < j → x.testBit j = y.testBit j) : x < y := by
  have e : x >>> (i + 1) = y >>> (i + 1) := Nat.eq_of_testBit_eq fun j => by
    rw [Nat.testBit_shiftRight, Nat.testBit_shiftRight]
    exact h _ (by omega)
  rw [Nat.shiftRight_eq_div_pow, Nat.shiftRight_eq_div_pow] at e
  have a : x % 2 ^ (i + 1) < 2 ^ i := Nat.lt_pow_two_of_testBit _ fun j hj => by
    rw [Nat.testBit_mod_two_pow]
    rcases Nat.lt_or_ge j (i + 1) with c | c
    · have : j = i := by omega
      subst this
      rw [hx, Bool.and_false]
    · have : decide (j < i + 1) = false := decide_eq_false (by omega)
      rw [this, Bool.false_and]
  have b : 2 ^ i ≤ y % 2 ^ (i + 1) := Nat.ge_two_pow_of_testBit (by
    rw [Nat.testBit_mod_two_pow, hy]
    simp)
  have d1 := Nat.div_add_mod x (2 ^ (i + 1))
  have d2 := Nat.div_add_mod y (2 ^ (i + 1))
  rw [e] at d1
  omega
theorem xor_right_comm (x r y : Nat) : x ^^^ r ^^^ y = x ^^^ y ^^^ r := by
  rw [Nat.xor_assoc, Nat.xor_comm r y, ← Nat.xor_assoc]

/-! ### the span of a list -/
def Span : List Nat → Nat → Prop
  | [], x => x = 0
  | r :: l, x => Span l x ∨ Span l (x ^^^ r)

theorem span_zero : ∀ l : List Nat, Span l 0
  | [] => rfl
  | _ :: l => .inl (span_zero l)
theorem span_xor : ∀ (l : List Nat) {x y : Nat}, Span l x → Span l y → Span l (x ^^^ y)
  | [], x, y, hx, hy => by
    have hx : x = 0 := hx
    have hy : y = 0 := hy
    subst hx; subst hy; rfl
  | r :: l, x, y, hx, hy => by
    rcases hx with hx | hx <;> rcases hy with hy | hy
    · exact .inl (span_xor l hx hy)
    · refine .inr ?_
      have := span_xor l hx hy
      rwa [← Nat.xor_assoc] at this
    · refine .inr ?_
      have := span_xor l hx hy
      rwa [xor_right_comm] at this
    · refine .inl ?_
      have := span_xor l hx hy
      have e : x ^^^ r ^^^ (y ^^^ r) = x ^^^ y := by
        rw [Nat.xor_assoc, Nat.xor_comm y r, ← Nat.xor_assoc r r y, Nat.xor_self, Nat.zero_xor]
      rwa [e] at this
theorem span_tail {r : Nat} {l : List Nat} {x : Nat} (h : Span l x) : Span (r :: l) x := .inl h
theorem span_head {r : Nat} {l : List Nat} : Span (r :: l) r := .inr (by rw [Nat.xor_self]; exact span_zero l)
theorem span_mem : ∀ {l : List Nat} {x : Nat}, x ∈ l → Span l x
  | r :: l, x, h => by
    rcases List.mem_cons.mp h with rfl | h
    · exact span_head
    · exact .inl (span_mem h)
/-- the span is the least set with 0 and its rows that is closed -/
theorem span_least {S : Nat → Prop} (h0 : S 0) (hx : ∀ x y, S x → S y → S (x ^^^ y)) : ∀ {l : List Nat}, (∀ r ∈ l, S r) → ∀ {x}, Span l x → S x
  | [], _, x, h => by
    have h : x = 0 := h
    rw [h]; exact h0
  | r :: l, hl, x, h => by
    have hl' : ∀ r ∈ l, S r := fun q hq => hl q (List.mem_cons_of_mem _ hq)
    rcases h with h | h
    · exact span_least h0 hx hl' h
    · have a := span_least h0 hx hl' h
      have b := hx _ _ a (hl r List.mem_cons_self)
      rwa [Nat.xor_assoc, Nat.xor_self, Nat.xor_zero] at b
theorem span_sub {l m : List Nat} (h : ∀ r ∈ l, Span m r) {x : Nat} (hx : Span l x) : Span m x :=
  span_least (S := Span m) (span_zero m) (fun _ _ a b => span_xor m a b) h hx
theorem span_eq {l m : List Nat} (h1 : ∀ r ∈ l, Span m r) (h2 : ∀ r ∈ m, Span l r) (x : Nat) : Span l x ↔ Span m x := ⟨span_sub h1, span_sub h2⟩
theorem span_append {l m : List Nat} {x : Nat} : Span (l ++ m) x ↔ ∃ y z, Span l y ∧ Span m z ∧ x = y ^^^ z := by
  constructor
  · intro h
    refine span_least (S := fun x => ∃ y z, Span l y ∧ Span m z ∧ x = y ^^^ z) ⟨0, 0, span_zero _, span_zero _, rfl⟩ ?_ ?_ h
    · rintro x x' ⟨y, z, hy, hz, rfl⟩ ⟨y', z', hy', hz', rfl⟩
      refine ⟨y ^^^ y', z ^^^ z', span_xor _ hy hy', span_xor _ hz hz', ?_⟩
      rw [Nat.xor_assoc, Nat.xor_assoc, ← Nat.xor_assoc z y' z', Nat.xor_comm z y', Nat.xor_assoc y' z z']
    · intro r hr
      rcases List.mem_append.mp hr with hr | hr
      · exact ⟨r, 0, span_mem hr, span_zero _, (Nat.xor_zero r).symm⟩
      · exact ⟨0, r, span_zero _, span_mem hr, (Nat.zero_xor r).symm⟩
  · rintro ⟨y, z, hy, hz, rfl⟩
    exact span_xor _ (span_sub (fun r hr => span_mem (List.mem_append_left _ hr)) hy) (span_sub (fun r hr => span_mem (List.mem_append_right _ hr)) hz)

/-! ### the greatest bit -/
/-- the place of the greatest bit, 0 of 0 -/
abbrev top (x : Nat) : Nat := x.log2
theorem top_bit {x : Nat} (h : x ≠ 0) : x.testBit (top x) = true := by
  have := Nat.testBit_log2 h
  exact this
theorem above_top {x i : Nat} (h : x.log2 < i) : x.testBit i = false := Nat.testBit_lt_two_pow (Nat.lt_of_lt_of_le Nat.lt_log2_self (Nat.pow_le_pow_right (by decide) h))
theorem ne_zero_of_bit {x i : Nat} (h : x.testBit i = true) : x ≠ 0 := fun e => by
  subst e
  simp at h
/-- less by the greatest bit that parts them -/
theorem lt_of_top {x y : Nat} {i : Nat} (hx : x.testBit i = false) (hy : y.testBit i = true) (h : ∀ j, i < j → x.testBit j = y.testBit j) : x < y := by
  exact lt_of_testBit' i hx hy (fun j hj => h j hj)
/-- exclusive or with a row makes an integer less exactly if it has the row's greatest bit -/
theorem xor_lt_iff {x r : Nat} (hr : r ≠ 0) : x ^^^ r < x ↔ x.testBit (top r) = true := by
  have hb := top_bit hr
  constructor
  · intro h
    cases hx : x.testBit (top r) with
    | true => rfl
    | false =>
      have : x < x ^^^ r := lt_of_top hx (by rw [Nat.testBit_xor, hx, hb]; rfl) fun j hj => by
        rw [Nat.testBit_xor, above_top hj, Bool.xor_false]
      omega
  · intro h
    exact lt_of_top (by rw [Nat.testBit_xor, h, hb]; rfl) h fun j hj => by
      rw [Nat.testBit_xor, above_top hj, Bool.xor_false]

/-! ### what the loop of lessened does -/
def less1 (x r : Nat) : Nat := if x ^^^ r < x then x ^^^ r else x
def lessened (x : Nat) (rows : List Nat) : Nat := rows.foldl less1 x
theorem less1_span {x r : Nat} : Span [r] (x ^^^ less1 x r) := by
  unfold less1
  split
  · rw [← Nat.xor_assoc, Nat.xor_self, Nat.zero_xor]; exact span_head
  · rw [Nat.xor_self]; exact span_zero _
theorem less1_bit {x r : Nat} (hr : r ≠ 0) : (less1 x r).testBit (top r) = false := by
  unfold less1
  split
  · rename_i h
    rw [Nat.testBit_xor, (xor_lt_iff hr).mp h, top_bit hr]; rfl
  · rename_i h
    cases hx : x.testBit (top r) with
    | false => rfl
    | true => exact absurd ((xor_lt_iff hr).mpr hx) h
theorem less1_keep {x r i : Nat} (h : r.testBit i = false) : (less1 x r).testBit i = x.testBit i := by
  unfold less1
  split
  · rw [Nat.testBit_xor, h, Bool.xor_false]
  · rfl
theorem less1_le {x r : Nat} : less1 x r ≤ x := by
  unfold less1
  split <;> omega
theorem lessened_le : ∀ (rows : List Nat) (x : Nat), lessened x rows ≤ x
  | [], x => Nat.le_refl x
  | r :: rows, x => Nat.le_trans (lessened_le rows (less1 x r)) less1_le
theorem lessened_span : ∀ (rows : List Nat) (x : Nat), Span rows (x ^^^ lessened x rows)
  | [], x => Nat.xor_self x
  | r :: rows, x => by
    have h1 : Span (r :: rows) (x ^^^ less1 x r) := span_sub (fun q hq => span_mem (by
      have := List.mem_singleton.mp hq
      rw [this]; exact List.mem_cons_self)) less1_span
    have h2 : Span (r :: rows) (less1 x r ^^^ lessened (less1 x r) rows) := span_tail (lessened_span rows _)
    have h3 := span_xor _ h1 h2
    have e : x ^^^ less1 x r ^^^ (less1 x r ^^^ lessened (less1 x r) rows) = x ^^^ lessened (less1 x r) rows := by
      rw [Nat.xor_assoc, ← Nat.xor_assoc (less1 x r) (less1 x r), Nat.xor_self, Nat.zero_xor]
    rw [e] at h3
    exact h3
theorem lessened_keep : ∀ (rows : List Nat) (x i : Nat), (∀ r ∈ rows, r.testBit i = false) → (lessened x rows).testBit i = x.testBit i
  | [], x, i, _ => rfl
  | r :: rows, x, i, h => by
    show (lessened (less1 x r) rows).testBit i = _
    rw [lessened_keep rows _ i fun q hq => h q (List.mem_cons_of_mem _ hq), less1_keep (h r List.mem_cons_self)]

/-! ### reduced rows: each has a greatest bit that no other one has -/
/-- rows above 0, in any order, each with a greatest bit that none of the others has -/
def Red (l : List Nat) : Prop := (∀ r ∈ l, r ≠ 0) ∧ l.Pairwise fun a b => a.testBit (top b) = false ∧ b.testBit (top a) = false
theorem Red.nil : Red [] := ⟨fun _ h => (by cases h), .nil⟩
theorem Red.cons_iff {r : Nat} {l : List Nat} : Red (r :: l) ↔ r ≠ 0 ∧ (∀ b ∈ l, r.testBit (top b) = false ∧ b.testBit (top r) = false) ∧ Red l := by
  constructor
  · rintro ⟨h1, h2⟩
    rw [List.pairwise_cons] at h2
    exact ⟨h1 r List.mem_cons_self, h2.1, fun q hq => h1 q (List.mem_cons_of_mem _ hq), h2.2⟩
  · rintro ⟨h1, h2, h3, h4⟩
    refine ⟨fun q hq => ?_, List.pairwise_cons.mpr ⟨h2, h4⟩⟩
    rcases List.mem_cons.mp hq with rfl | hq
    · exact h1
    · exact h3 q hq
theorem Red.perm {l m : List Nat} (p : l.Perm m) (h : Red l) : Red m :=
  ⟨fun r hr => h.1 r (p.mem_iff.mpr hr), (p.pairwise_iff (fun {a b} q => ⟨q.2, q.1⟩)).mp h.2⟩
theorem span_perm {l m : List Nat} (p : l.Perm m) (x : Nat) : Span l x ↔ Span m x :=
  span_eq (fun r hr => span_mem (p.mem_iff.mp hr)) (fun r hr => span_mem (p.mem_iff.mpr hr)) x
/-- behind lessened no greatest bit of the rows is left -/
theorem lessened_bit : ∀ {rows : List Nat}, Red rows → ∀ (x : Nat) {r : Nat}, r ∈ rows → (lessened x rows).testBit (top r) = false
  | q :: rows, h, x, r, hr => by
    obtain ⟨h1, h2, h3⟩ := Red.cons_iff.mp h
    show (lessened (less1 x q) rows).testBit _ = _
    rcases List.mem_cons.mp hr with rfl | hr
    · rw [lessened_keep rows _ _ fun b hb => (h2 b hb).2, less1_bit h1]
    · exact lessened_bit h3 _ hr
/-- an integer of the span that has none of the greatest bits is 0 -/
theorem span_no_top : ∀ {l : List Nat}, Red l → ∀ {x : Nat}, Span l x → (∀ r ∈ l, x.testBit (top r) = false) → x = 0
  | [], _, x, h, _ => h
  | r :: l, hl, x, h, hb => by
    obtain ⟨h1, h2, h3⟩ := Red.cons_iff.mp hl
    have kp : ∀ {z : Nat}, Span l z → z.testBit (top r) = false := fun {z} hz =>
      span_least (S := fun z => z.testBit (top r) = false) (by simp) (fun x y a b => by rw [Nat.testBit_xor, a, b]; rfl) (fun b hb' => (h2 b hb').2) hz
    rcases h with h | h
    · exact span_no_top h3 h fun q hq => hb q (List.mem_cons_of_mem _ hq)
    · have := kp h
      rw [Nat.testBit_xor, hb r List.mem_cons_self, top_bit h1] at this
      simp at this
/-- the greatest bit of an integer of the span is a row's -/
theorem span_top {l : List Nat} (h : Red l) {x : Nat} (hx : Span l x) (h0 : x ≠ 0) : ∃ r ∈ l, top r = top x := by
  -- cases by the rows that have their bit in x: the sum of those is x, its greatest bit is the greatest of theirs
  induction l generalizing x with
  | nil => exact absurd hx h0
  | cons r l ih =>
    obtain ⟨h1, h2, h3⟩ := Red.cons_iff.mp h
    rcases hx with hx | hx
    · obtain ⟨q, hq, e⟩ := ih h3 hx h0
      exact ⟨q, List.mem_cons_of_mem _ hq, e⟩
    · by_cases hz : x ^^^ r = 0
      · have e : x = r := by
          have := congrArg (· ^^^ r) hz
          simp only [Nat.xor_assoc, Nat.xor_self, Nat.xor_zero, Nat.zero_xor] at this
          exact this
        exact ⟨r, List.mem_cons_self, by rw [e]⟩
      · obtain ⟨q, hq, e⟩ := ih h3 hx hz
        obtain ⟨a1, a2⟩ := h2 q hq
        -- top q and top r differ; the greater one is x's
        have bq : (x ^^^ r).testBit (top q) = true := by rw [e]; exact top_bit hz
        have xq : x.testBit (top q) = true := by
          rw [Nat.testBit_xor, a1, Bool.xor_false] at bq
          exact bq
        have kp : (x ^^^ r).testBit (top r) = false := span_least (S := fun z => z.testBit (top r) = false) (by simp) (fun x y a b => by rw [Nat.testBit_xor, a, b]; rfl) (fun b hb' => (h2 b hb').2) hx
        have xr : x.testBit (top r) = true := by
          rw [Nat.testBit_xor, top_bit h1] at kp
          cases hh : x.testBit (top r) with
          | true => rfl
          | false =>
            rw [hh] at kp
            simp at kp
        have ab : ∀ j, top q < j → top r < j → x.testBit j = false := fun j j1 j2 => by
          have z := above_top (x := x ^^^ r) (i := j) (by rw [e] at j1; exact j1)
          rw [Nat.testBit_xor, above_top j2, Bool.xor_false] at z
          exact z
        have lg : ∀ t, x.testBit t = true → (∀ j, t < j → x.testBit j = false) → top x = t := fun t ht hj => by
          have b := top_bit (ne_zero_of_bit ht)
          rcases Nat.lt_trichotomy (top x) t with c | c | c
          · rw [above_top c] at ht
            cases ht
          · exact c
          · rw [hj _ c] at b
            cases b
        rcases Nat.lt_trichotomy (top q) (top r) with c | c | c
        · exact ⟨r, List.mem_cons_self, (lg _ xr fun j hj => ab j (Nat.lt_trans c hj) hj).symm⟩
        · rw [c, top_bit h1] at a1
          cases a1
        · exact ⟨q, List.mem_cons_of_mem _ hq, (lg _ xq fun j hj => ab j hj (Nat.lt_trans c hj)).symm⟩
/-- in the span exactly if nothing is left -/
theorem lessened_zero {l : List Nat} (h : Red l) (x : Nat) : lessened x l = 0 ↔ Span l x := by
  have s := lessened_span l x
  constructor
  · intro e
    rw [e, Nat.xor_zero] at s
    exact s
  · intro hx
    have : Span l (lessened x l) := by
      have := span_xor _ hx s
      rwa [← Nat.xor_assoc, Nat.xor_self, Nat.zero_xor] at this
    exact span_no_top h this fun r hr => lessened_bit h x hr

/-! ### the loop of reduced -/
def red1 (kept : List Nat) (row : Nat) : List Nat :=
  if 0 < lessened row kept then kept.map (fun o => min o (o ^^^ lessened row kept)) ++ [lessened row kept] else kept
theorem min_less1 {o r : Nat} : min o (o ^^^ r) = less1 o r := by
  unfold less1
  split <;> omega
theorem red1_ok {kept : List Nat} (h : Red kept) (row : Nat) : Red (red1 kept row) ∧ ∀ x, Span (red1 kept row) x ↔ Span (row :: kept) x := by
  unfold red1
  by_cases c : 0 < lessened row kept
  · rw [if_pos c]
    have hr : lessened row kept ≠ 0 := Nat.ne_of_gt c
    have e : kept.map (fun o => min o (o ^^^ lessened row kept)) = kept.map (fun o => less1 o (lessened row kept)) := List.map_congr_left fun o _ => min_less1
    rw [e]
    generalize hR : lessened row kept = R at *
    have nb : ∀ {r}, r ∈ kept → R.testBit (top r) = false := fun {r} hr => by rw [← hR]; exact lessened_bit h row hr
    -- a row keeps its greatest bit, and has it as greatest one
    have tp : ∀ {o}, o ∈ kept → top (less1 o R) = top o := fun {o} ho => by
      have b : (less1 o R).testBit (top o) = true := by rw [less1_keep (nb ho)]; exact top_bit (h.1 o ho)
      have z := ne_zero_of_bit b
      have b2 := top_bit z
      rcases Nat.lt_trichotomy (top (less1 o R)) (top o) with q | q | q
      · rw [above_top q] at b
        cases b
      · exact q
      · -- above the row's own greatest bit: less1 is not greater than o
        have lt : o < less1 o R := by
          refine lt_of_testBit' (top (less1 o R)) (above_top q) b2 fun j hj => ?_
          rw [above_top (Nat.lt_trans q hj), above_top hj]
        exact absurd (less1_le (x := o) (r := R)) (by omega)
    constructor
    · refine Red.perm (List.perm_append_comm (l₁ := [R])) ?_
      show Red (R :: kept.map fun o => less1 o R)
      refine Red.cons_iff.mpr ⟨hr, fun b hb => ?_, fun q hq => ?_, ?_⟩
      · obtain ⟨o, ho, rfl⟩ := List.mem_map.mp hb
        rw [tp ho]
        exact ⟨nb ho, less1_bit hr⟩
      · obtain ⟨o, ho, rfl⟩ := List.mem_map.mp hq
        exact ne_zero_of_bit (i := top o) (by rw [less1_keep (nb ho)]; exact top_bit (h.1 o ho))
      · rw [List.pairwise_map]
        refine List.Pairwise.imp_of_mem ?_ h.2
        intro a b ha hb ⟨q1, q2⟩
        rw [tp ha, tp hb, less1_keep (nb hb), less1_keep (nb ha)]
        exact ⟨q1, q2⟩
    · have sR : Span (row :: kept) R := by
        have s := lessened_span kept row
        rw [hR] at s
        have := span_xor _ (span_head (r := row) (l := kept)) (span_tail (r := row) s)
        rwa [← Nat.xor_assoc, Nat.xor_self, Nat.zero_xor] at this
      intro x
      refine span_eq (fun q hq => ?_) (fun q hq => ?_) x
      · rcases List.mem_append.mp hq with hq | hq
        · obtain ⟨o, ho, rfl⟩ := List.mem_map.mp hq
          unfold less1
          split
          · exact span_xor _ (span_tail (span_mem ho)) sR
          · exact span_tail (span_mem ho)
        · rw [List.mem_singleton.mp hq]
          exact sR
      · have sR' : Span (kept.map (fun o => less1 o R) ++ [R]) R := span_mem (List.mem_append_right _ (List.mem_singleton.mpr rfl))
        have sk : ∀ {o}, o ∈ kept → Span (kept.map (fun o => less1 o R) ++ [R]) o := fun {o} ho => by
          have s1 : Span (kept.map (fun o => less1 o R) ++ [R]) (less1 o R) := span_mem (List.mem_append_left _ (List.mem_map.mpr ⟨o, ho, rfl⟩))
          unfold less1 at s1
          split at s1
          · have := span_xor _ s1 sR'
            rwa [Nat.xor_assoc, Nat.xor_self, Nat.xor_zero] at this
          · exact s1
        rcases List.mem_cons.mp hq with rfl | hq
        · have s := lessened_span kept q
          rw [hR] at s
          have s2 := span_sub (fun o ho => sk ho) s
          have := span_xor _ s2 sR'
          rwa [Nat.xor_assoc, Nat.xor_self, Nat.xor_zero] at this
        · exact sk hq
  · rw [if_neg c]
    refine ⟨h, fun x => span_eq (fun q hq => span_tail (span_mem hq)) (fun q hq => ?_) x⟩
    rcases List.mem_cons.mp hq with rfl | hq
    · exact (lessened_zero h q).mp (by omega)
    · exact span_mem hq
theorem red_fold : ∀ (rows kept : List Nat), Red kept → Red (rows.foldl red1 kept) ∧ ∀ x, Span (rows.foldl red1 kept) x ↔ Span (rows ++ kept) x
  | [], kept, h => ⟨h, fun _ => Iff.rfl⟩
  | r :: rows, kept, h => by
    obtain ⟨a, b⟩ := red1_ok h r
    obtain ⟨c, d⟩ := red_fold rows (red1 kept r) a
    refine ⟨c, fun x => (d x).trans ?_⟩
    refine span_eq (fun q hq => ?_) (fun q hq => ?_) x
    · rcases List.mem_append.mp hq with hq | hq
      · exact span_mem (List.mem_append_left _ (List.mem_cons_of_mem _ hq))
      · refine span_sub (fun o ho => ?_) ((b q).mp (span_mem hq))
        rcases List.mem_cons.mp ho with rfl | ho
        · exact span_mem List.mem_cons_self
        · exact span_mem (List.mem_append_right _ ho)
    · rcases List.mem_append.mp hq with hq | hq
      · rcases List.mem_cons.mp hq with rfl | hq
        · exact span_sub (fun o ho => span_mem (List.mem_append_right _ ho)) ((b q).mpr span_head)
        · exact span_mem (List.mem_append_left _ hq)
      · exact span_sub (fun o ho => span_mem (List.mem_append_right _ ho)) ((b q).mpr (span_tail (span_mem hq)))

/-! ### in order: the reduced rows -/
/-- ascending and reduced -/
def Canon (l : List Nat) : Prop := Red l ∧ l.Pairwise (· < ·)
theorem top_lt_of_lt {a b : Nat} (ha : a ≠ 0) (hb : b ≠ 0) (h1 : a.testBit (top b) = false) (h : a < b) : top a < top b := by
  rcases Nat.lt_trichotomy (top a) (top b) with c | c | c
  · exact c
  · rw [← c, top_bit ha] at h1
    cases h1
  · have : b < a := lt_of_top (above_top c) (top_bit ha) fun j hj => by rw [above_top hj, above_top (Nat.lt_trans c hj)]
    omega
theorem lt_of_top_lt {a b : Nat} (h : top a < top b) : a < b := by
  have hb : b ≠ 0 := fun e => by
    rw [e] at h
    simp [top] at h
  exact lt_of_top (above_top h) (top_bit hb) fun j hj => by rw [above_top (Nat.lt_trans h hj), above_top hj]
/-- two that have equal spans are one -/
theorem Canon.ext : ∀ {l m : List Nat}, Canon l → Canon m → (∀ x, Span l x ↔ Span m x) → l = m := by
  intro l m hl hm e
  have mem : ∀ {l m : List Nat}, Canon l → Canon m → (∀ x, Span l x ↔ Span m x) → ∀ {r}, r ∈ l → r ∈ m := by
    intro l m hl hm e r hr
    obtain ⟨q, hq, ht⟩ := span_top hm.1 ((e r).mp (span_mem hr)) (hl.1.1 r hr)
    -- r and q have the same greatest bit; r ^^^ q has none of the greatest bits of m
    have pl := hl.1.2
    have key : r ^^^ q = 0 := by
      refine span_no_top hm.1 (span_xor _ ((e r).mp (span_mem hr)) (span_mem hq)) fun b hb => ?_
      rw [Nat.testBit_xor]
      by_cases hbq : top b = top q
      · have z1 : r.testBit (top b) = true := by rw [hbq, ht]; exact top_bit (hl.1.1 r hr)
        have z2 : q.testBit (top b) = true := by rw [hbq]; exact top_bit (hm.1.1 q hq)
        rw [z1, z2]; rfl
      · -- b's greatest bit is that of a row of l, which is not r
        obtain ⟨r', hr', ht'⟩ := span_top hl.1 ((e b).mpr (span_mem hb)) (hm.1.1 b hb)
        have n1 : r' ≠ r := fun z => hbq (by rw [← ht', z, ht])
        have z1 : r.testBit (top b) = false := by
          rw [← ht']
          have hp : ∀ {l : List Nat}, (l.Pairwise fun a b => a.testBit (top b) = false ∧ b.testBit (top a) = false) → r ∈ l → r' ∈ l → r.testBit (top r') = false := by
            intro l pl
            induction pl with
            | nil => intro h _; cases h
            | cons h p ih =>
              rename_i a l
              intro h1 h2
              rcases List.mem_cons.mp h1 with u1 | h1 <;> rcases List.mem_cons.mp h2 with u2 | h2
              · exact absurd (u2.trans u1.symm) n1
              · rw [u1]; exact (h _ h2).1
              · rw [u2]; exact (h _ h1).2
              · exact ih h1 h2
          exact hp pl hr hr'
        have z2 : q.testBit (top b) = false := by
          have n2 : b ≠ q := fun z => hbq (by rw [z])
          have hp : ∀ {l : List Nat}, (l.Pairwise fun a b => a.testBit (top b) = false ∧ b.testBit (top a) = false) → q ∈ l → b ∈ l → q.testBit (top b) = false := by
            intro l pl
            induction pl with
            | nil => intro h _; cases h
            | cons h p ih =>
              rename_i a l
              intro h1 h2
              rcases List.mem_cons.mp h1 with u1 | h1 <;> rcases List.mem_cons.mp h2 with u2 | h2
              · exact absurd (u2.trans u1.symm) n2
              · rw [u1]; exact (h _ h2).1
              · rw [u2]; exact (h _ h1).2
              · exact ih h1 h2
          exact hp hm.1.2 hq hb
        rw [z1, z2]; rfl
    have : r = q := by
      have := congrArg (· ^^^ q) key
      simp only [Nat.xor_assoc, Nat.xor_self, Nat.xor_zero, Nat.zero_xor] at this
      exact this
    rw [this]; exact hq
  have p : l.Perm m := by
    have nl : l.Nodup := hl.2.imp fun h => Nat.ne_of_lt h
    have nm : m.Nodup := hm.2.imp fun h => Nat.ne_of_lt h
    exact (List.perm_ext_iff_of_nodup nl nm).mpr fun r => ⟨fun h => mem hl hm e h, fun h => mem hm hl (fun x => (e x).symm) h⟩
  exact p.eq_of_pairwise (fun a b _ _ h1 h2 => by omega) hl.2 hm.2
/-! ### plus, and, exclusive or -/
theorem and2 (a b : Nat) : (a &&& b) % 2 = a % 2 * (b % 2) := by
  have h := @Nat.and_mod_two_pow a b 1
  rw [Nat.pow_one] at h
  rw [h]
  rcases Nat.mod_two_eq_zero_or_one a with x | x <;> rcases Nat.mod_two_eq_zero_or_one b with y | y <;> rw [x, y] <;> rfl
theorem xor2 (a b : Nat) : (a ^^^ b) % 2 = (a % 2 + b % 2) % 2 := by
  have h := @Nat.xor_mod_two_pow a b 1
  rw [Nat.pow_one] at h
  rw [h]
  rcases Nat.mod_two_eq_zero_or_one a with x | x <;> rcases Nat.mod_two_eq_zero_or_one b with y | y <;> rw [x, y] <;> rfl
theorem add_xor_and (a : Nat) : ∀ b, a + b = (a ^^^ b) + 2 * (a &&& b) := by
  induction a using Nat.strongRecOn with
  | ind a ih =>
    intro b
    by_cases h : a = 0
    · subst h; simp
    · have i := ih (a / 2) (by omega) (b / 2)
      have e1 : (a ^^^ b) / 2 = a / 2 ^^^ b / 2 := Nat.xor_div_two
      have e2 : (a &&& b) / 2 = a / 2 &&& b / 2 := Nat.and_div_two
      have f1 := xor2 a b
      have f2 := and2 a b
      rw [← e1, ← e2] at i
      generalize a ^^^ b = X at *
      generalize a &&& b = Y at *
      rcases Nat.mod_two_eq_zero_or_one a with x | x <;> rcases Nat.mod_two_eq_zero_or_one b with y | y <;> rw [x, y] at f1 f2 <;> omega
theorem foldl_take {α β : Type} {f : β → α → β} {b : β} {l : List α} {i : Nat} {x : α} (h : l[i]? = some x) : (l.take (i + 1)).foldl f b = f ((l.take i).foldl f b) x := by
  rw [List.take_add_one, h, List.foldl_append]
  rfl
end Xr

/-! Integers that meet others evenly: what a space leaves open of an age. Core Lean alone. -/
set_option autoImplicit false
set_option linter.unusedVariables false
namespace Xr
/-! ### parity of the bits -/
def popc (n : Nat) : Nat := if h : n = 0 then 0 else n % 2 + popc (n / 2)
decreasing_by omega
theorem popc_zero : popc 0 = 0 := by rw [popc]; rfl
theorem popc_pos {n : Nat} (h : n ≠ 0) : popc n = n % 2 + popc (n / 2) := by rw [popc, dif_neg h]
theorem popc_eq (n : Nat) : popc n = n % 2 + popc (n / 2) := by
  by_cases h : n = 0
  · subst h; rw [popc_zero]
  · exact popc_pos h
def par (n : Nat) : Bool := popc n % 2 == 1
theorem par_zero : par 0 = false := by rw [par, popc_zero]; rfl
theorem bne2 {a b : Nat} : ((a + b) % 2 == 1) = ((a % 2 == 1) != (b % 2 == 1)) := by
  rcases Nat.mod_two_eq_zero_or_one a with x | x <;> rcases Nat.mod_two_eq_zero_or_one b with y | y
  · rw [show (a + b) % 2 = 0 by omega, x, y]; rfl
  · rw [show (a + b) % 2 = 1 by omega, x, y]; rfl
  · rw [show (a + b) % 2 = 1 by omega, x, y]; rfl
  · rw [show (a + b) % 2 = 0 by omega, x, y]; rfl
theorem par_eq (n : Nat) : par n = ((n % 2 == 1) != par (n / 2)) := by
  unfold par
  rw [popc_eq n, bne2]
  have : n % 2 % 2 = n % 2 := Nat.mod_mod n 2
  rw [this]
theorem par_xor (x : Nat) : ∀ y, par (x ^^^ y) = (par x != par y) := by
  induction x using Nat.strongRecOn with
  | ind x ih =>
    intro y
    by_cases h : x = 0
    · subst h
      rw [Nat.zero_xor, par_zero]
      cases par y <;> rfl
    · rw [par_eq (x ^^^ y), par_eq x, par_eq y, Nat.xor_div_two, ih (x / 2) (by omega), xor2, bne2]
      have a : x % 2 % 2 = x % 2 := Nat.mod_mod x 2
      have b : y % 2 % 2 = y % 2 := Nat.mod_mod y 2
      rw [a, b]
      cases (x % 2 == 1) <;> cases (y % 2 == 1) <;> cases par (x / 2) <;> cases par (y / 2) <;> rfl
theorem par_pow : ∀ i : Nat, par (2 ^ i) = true
  | 0 => by rw [par_eq]; rw [show (2 ^ 0) / 2 = 0 from rfl, par_zero]; rfl
  | i + 1 => by
    rw [par_eq, show 2 ^ (i + 1) / 2 = 2 ^ i by rw [Nat.pow_succ]; omega, par_pow i, show 2 ^ (i + 1) % 2 = 0 by rw [Nat.pow_succ]; omega]
    rfl
/-- the two meet evenly -/
def Ev (m x : Nat) : Prop := par (m &&& x) = false
theorem Ev.zero (m : Nat) : Ev m 0 := by unfold Ev; rw [Nat.and_zero, par_zero]
theorem Ev.zeroL (x : Nat) : Ev 0 x := by unfold Ev; rw [Nat.zero_and, par_zero]
theorem Ev.xor {m x y : Nat} (a : Ev m x) (b : Ev m y) : Ev m (x ^^^ y) := by
  unfold Ev at *
  rw [Nat.and_xor_distrib_left, par_xor, a, b]; rfl
theorem Ev.xorL {m n x : Nat} (a : Ev m x) (b : Ev n x) : Ev (m ^^^ n) x := by
  unfold Ev at *
  rw [Nat.and_xor_distrib_right, par_xor, a, b]; rfl
theorem Ev.comm {m x : Nat} (a : Ev m x) : Ev x m := by unfold Ev at *; rw [Nat.and_comm]; exact a
theorem Ev.span {m : Nat} {l : List Nat} (h : ∀ r ∈ l, Ev m r) {x : Nat} (hx : Span l x) : Ev m x :=
  span_least (S := Ev m) (Ev.zero m) (fun _ _ a b => a.xor b) h hx
theorem and_pow {m i : Nat} : m &&& 2 ^ i = if m.testBit i then 2 ^ i else 0 := by
  refine Nat.eq_of_testBit_eq fun j => ?_
  rw [Nat.testBit_and, Nat.testBit_two_pow]
  by_cases h : i = j
  · subst h
    cases hm : m.testBit i
    · simp
    · simp
  · simp only [h, decide_false, Bool.and_false]
    split
    · rw [Nat.testBit_two_pow]; simp [h]
    · simp
theorem ev_pow {m i : Nat} : Ev m (2 ^ i) ↔ m.testBit i = false := by
  unfold Ev
  rw [and_pow]
  cases m.testBit i
  · simp [par_zero]
  · simp [par_pow]
/-! ### sums of unlike powers of two -/
theorem add_eq_xor {a b : Nat} (h : a &&& b = 0) : a + b = a ^^^ b := by
  have := add_xor_and a b
  rw [h] at this
  omega
theorem pow_add {s t : Nat} (h : s.testBit t = false) : 2 ^ t + s = 2 ^ t ^^^ s := add_eq_xor (by
  rw [Nat.and_comm, and_pow, h]; rfl)
theorem sum_pow : ∀ {ts : List Nat}, ts.Nodup → ∀ j, ((ts.map (2 ^ ·)).sum).testBit j = decide (j ∈ ts)
  | [], _, j => by simp
  | t :: ts, h, j => by
    rw [List.nodup_cons] at h
    have ih := sum_pow h.2
    rw [List.map_cons, List.sum_cons, pow_add (by rw [ih]; simp [h.1]), Nat.testBit_xor, ih, Nat.testBit_two_pow]
    by_cases e : t = j
    · subst e; simp [h.1]
    · have e' : ¬ j = t := fun z => e z.symm
      simp [e, e']
/-! ### what the rows leave open -/
/-- the row of a free bit -/
def evenRow (rows : List Nat) (b : Nat) : Nat := 2 ^ b + ((rows.filter fun r => r.testBit b).map fun r => 2 ^ top r).sum
def frees (rows : List Nat) (n : Nat) : List Nat := (List.range n).filter fun b => !(rows.map top).contains b
def evens (rows : List Nat) (n : Nat) : List Nat := (frees rows n).map (evenRow rows)
theorem Red.inj {l : List Nat} (h : Red l) : ∀ {a b : Nat}, a ∈ l → b ∈ l → a.testBit (top b) = true → a = b := by
  intro a b ha hb hab
  have p := h.2
  clear h
  induction p with
  | nil => cases ha
  | cons q p ih =>
    rcases List.mem_cons.mp ha with u1 | h1 <;> rcases List.mem_cons.mp hb with u2 | h2
    · rw [u1, u2]
    · rw [u1, (q _ h2).1] at hab; cases hab
    · rw [u2, (q _ h1).2] at hab; cases hab
    · exact ih h1 h2
theorem Red.nodup {l : List Nat} (h : Red l) : l.Nodup := by
  have h1 := h.1
  have p := h.2
  clear h
  induction p with
  | nil => exact .nil
  | cons q p ih =>
    rename_i a l
    refine List.nodup_cons.mpr ⟨fun hm => ?_, ih fun r hr => h1 r (List.mem_cons_of_mem _ hr)⟩
    have := (q a hm).1
    rw [top_bit (h1 a List.mem_cons_self)] at this
    cases this
theorem Red.tops_nodup {l : List Nat} (h : Red l) {p : Nat → Bool} : ((l.filter p).map top).Nodup := by
  refine List.nodup_iff_pairwise_ne.mpr ?_
  rw [List.pairwise_map]
  refine List.Pairwise.imp_of_mem ?_ (List.nodup_iff_pairwise_ne.mp (h.nodup.filter p))
  intro a b ha hb hne e
  refine hne (h.inj (List.mem_filter.mp ha).1 (List.mem_filter.mp hb).1 ?_)
  rw [← e]
  exact top_bit (h.1 a (List.mem_filter.mp ha).1)
theorem evenRow_bit {rows : List Nat} (h : Red rows) {b : Nat} (hb : ∀ r ∈ rows, top r ≠ b) (j : Nat) :
    (evenRow rows b).testBit j = (decide (j = b) || decide (∃ r ∈ rows, r.testBit b = true ∧ top r = j)) := by
  unfold evenRow
  have e : ((rows.filter fun r : Nat => r.testBit b).map fun r => 2 ^ top r) = (((rows.filter fun r : Nat => r.testBit b).map top).map (2 ^ ·)) := by rw [List.map_map]; rfl
  have sb : ∀ j : Nat, ((rows.filter fun r : Nat => r.testBit b).map fun r => 2 ^ top r).sum.testBit j = decide (∃ r ∈ rows, r.testBit b = true ∧ top r = j) := fun j => by
    rw [e, sum_pow h.tops_nodup]
    refine decide_eq_decide.mpr ?_
    constructor
    · intro hm
      obtain ⟨r, hr, e⟩ := List.mem_map.mp hm
      exact ⟨r, (List.mem_filter.mp hr).1, (List.mem_filter.mp hr).2, e⟩
    · rintro ⟨r, hr, q, e⟩
      exact List.mem_map.mpr ⟨r, List.mem_filter.mpr ⟨hr, q⟩, e⟩
  rw [pow_add (by rw [sb]; refine decide_eq_false ?_; rintro ⟨r, hr, _, e⟩; exact hb r hr e), Nat.testBit_xor, sb, Nat.testBit_two_pow]
  by_cases hj : j = b
  · subst hj
    have : ¬ ∃ r ∈ rows, r.testBit j = true ∧ top r = j := by rintro ⟨r, hr, _, e⟩; exact hb r hr e
    simp [this]
  · have hj' : ¬ b = j := fun z => hj z.symm
    simp [hj, hj']
theorem mem_frees {rows : List Nat} {n b : Nat} : b ∈ frees rows n ↔ b < n ∧ ∀ r ∈ rows, top r ≠ b := by
  unfold frees
  rw [List.mem_filter, List.mem_range]
  simp
/-- an even row meets each row evenly -/
theorem evenRow_ev {rows : List Nat} (h : Red rows) {b : Nat} (hb : ∀ r ∈ rows, top r ≠ b) {r : Nat} (hr : r ∈ rows) : Ev (evenRow rows b) r := by
  have key : evenRow rows b &&& r = if r.testBit b then 2 ^ b ^^^ 2 ^ top r else 0 := by
    refine Nat.eq_of_testBit_eq fun j => ?_
    rw [Nat.testBit_and, evenRow_bit h hb]
    by_cases c : r.testBit b = true
    · rw [if_pos c, Nat.testBit_xor, Nat.testBit_two_pow, Nat.testBit_two_pow]
      by_cases j1 : j = b
      · subst j1
        have : ¬ top r = j := hb r hr
        simp [c, this]
      · by_cases j2 : top r = j
        · subst j2
          have e : ∃ q ∈ rows, q.testBit b = true ∧ top q = top r := ⟨r, hr, c, rfl⟩
          have j1' : ¬ b = top r := fun z => j1 z.symm
          simp [e, top_bit (h.1 r hr), j1, j1']
        · have j1' : ¬ b = j := fun z => j1 z.symm
          simp only [j1, j1', j2, decide_false, Bool.false_or, bne_self_eq_false]
          cases hh : r.testBit j with
          | false => rw [Bool.and_false]
          | true =>
            rw [Bool.and_true]
            refine decide_eq_false ?_
            rintro ⟨q, hq, _, e⟩
            rw [← e] at hh
            exact j2 (by rw [h.inj hr hq hh]; exact e)
    · rw [if_neg c]
      simp only [Nat.zero_testBit, Bool.and_eq_false_iff]
      by_cases hh : r.testBit j = true
      · left
        have j1 : ¬ j = b := fun z => c (by rw [← z]; exact hh)
        have j2 : ¬ ∃ q ∈ rows, q.testBit b = true ∧ top q = j := by
          rintro ⟨q, hq, z, e⟩
          rw [← e] at hh
          exact c (by rw [h.inj hr hq hh]; exact z)
        simp [j1, j2]
      · right
        simpa using hh
  unfold Ev
  rw [key]
  split
  · rw [par_xor, par_pow, par_pow]; rfl
  · exact par_zero
theorem lt_of_bits {x n : Nat} (h : ∀ j, n ≤ j → x.testBit j = false) : x < 2 ^ n := Nat.lt_pow_two_of_testBit x fun j hj => h j hj
theorem top_lt {r n : Nat} (h : r < 2 ^ n) (h0 : r ≠ 0) : top r < n := by
  rcases Nat.lt_or_ge (top r) n with c | c
  · exact c
  · have := Nat.testBit_lt_two_pow (x := r) (Nat.lt_of_lt_of_le h (Nat.pow_le_pow_right (by decide) c))
    rw [top_bit h0] at this
    cases this
theorem evenRow_lt {rows : List Nat} (h : Red rows) {b n : Nat} (hb : ∀ r ∈ rows, top r ≠ b) (hn : b < n) (hr : ∀ r ∈ rows, r < 2 ^ n) : evenRow rows b < 2 ^ n :=
  lt_of_bits fun j hj => by
    rw [evenRow_bit h hb]
    have j1 : ¬ j = b := by omega
    have j2 : ¬ ∃ q ∈ rows, q.testBit b = true ∧ top q = j := by
      rintro ⟨q, hq, _, e⟩
      have := top_lt (hr q hq) (h.1 q hq)
      omega
    simp [j1, j2]
/-- evenly with all rows, and no free bit: nothing -/
theorem no_free {rows : List Nat} (h : Red rows) {n m : Nat} (hm : m < 2 ^ n) (he : ∀ r ∈ rows, Ev m r) (hf : ∀ b ∈ frees rows n, m.testBit b = false) : m = 0 := by
  refine Nat.eq_of_testBit_eq fun j => ?_
  rw [Nat.zero_testBit]
  rcases Nat.lt_or_ge j n with c | c
  · by_cases ht : ∃ r ∈ rows, top r = j
    · obtain ⟨r, hr, e⟩ := ht
      have key : m &&& r = if m.testBit j then 2 ^ j else 0 := by
        refine Nat.eq_of_testBit_eq fun i => ?_
        rw [Nat.testBit_and]
        by_cases hi : i = j
        · subst hi
          have : r.testBit i = true := by rw [← e]; exact top_bit (h.1 r hr)
          rw [this, Bool.and_true]
          cases hmi : m.testBit i
          · simp
          · simp [Nat.testBit_two_pow]
        · have z : (m.testBit i && r.testBit i) = false := by
            cases hmi : m.testBit i with
            | false => rfl
            | true =>
              cases hri : r.testBit i with
              | false => rfl
              | true =>
                -- i is no free bit, so a row's greatest; r has it: it is r's own
                exfalso
                have ii : i < n := by
                  rcases Nat.lt_or_ge i n with d | d
                  · exact d
                  · rw [Nat.testBit_lt_two_pow (Nat.lt_of_lt_of_le hm (Nat.pow_le_pow_right (by decide) d))] at hmi
                    cases hmi
                by_cases hfree : ∀ q ∈ rows, top q ≠ i
                · rw [hf i (mem_frees.mpr ⟨ii, hfree⟩)] at hmi
                  cases hmi
                · refine hfree fun q hq eq => ?_
                  rw [← eq] at hri
                  have := h.inj hr hq hri
                  exact hi (by rw [← eq, ← this]; exact e)
          rw [z]
          split
          · rw [Nat.testBit_two_pow]
            have : ¬ j = i := fun z => hi z.symm
            simp [this]
          · simp
      have ev := he r hr
      unfold Ev at ev
      rw [key] at ev
      cases hmj : m.testBit j with
      | false => rfl
      | true =>
        rw [hmj, if_pos rfl, par_pow] at ev
        cases ev
    · exact hf j (mem_frees.mpr ⟨c, fun r hr e => ht ⟨r, hr, e⟩⟩)
  · exact Nat.testBit_lt_two_pow (Nat.lt_of_lt_of_le hm (Nat.pow_le_pow_right (by decide) c))
theorem evens_span {rows : List Nat} (h : Red rows) {n : Nat} (hn : ∀ r ∈ rows, r < 2 ^ n) (m : Nat) : Span (evens rows n) m ↔ m < 2 ^ n ∧ ∀ r ∈ rows, Ev m r := by
  constructor
  · intro hm
    refine span_least (S := fun m => m < 2 ^ n ∧ ∀ r ∈ rows, Ev m r) ⟨Nat.two_pow_pos n, fun r _ => Ev.zeroL r⟩ (fun x y a b => ⟨Nat.xor_lt_two_pow a.1 b.1, fun r hr => (a.2 r hr).xorL (b.2 r hr)⟩) (fun e he => ?_) hm
    obtain ⟨b, hb, rfl⟩ := List.mem_map.mp he
    obtain ⟨h1, h2⟩ := mem_frees.mp hb
    exact ⟨evenRow_lt h h2 h1 hn, fun r hr => evenRow_ev h h2 hr⟩
  · rintro ⟨hm, he⟩
    have key : ∀ (fs : List Nat), (∀ b ∈ fs, b ∈ frees rows n) → ∀ m, m < 2 ^ n → (∀ r ∈ rows, Ev m r) → (∀ b ∈ frees rows n, m.testBit b = true → b ∈ fs) → Span (fs.map (evenRow rows)) m := by
      intro fs
      induction fs with
      | nil =>
        intro _ m hm he hf
        have : m = 0 := no_free h hm he fun b hb => by
          cases q : m.testBit b with
          | false => rfl
          | true => cases hf b hb q
        rw [this]
        exact span_zero _
      | cons b fs ih =>
        intro hfs m hm he hf
        have hb := hfs b List.mem_cons_self
        obtain ⟨b1, b2⟩ := mem_frees.mp hb
        have hfs' : ∀ c ∈ fs, c ∈ frees rows n := fun c hc => hfs c (List.mem_cons_of_mem _ hc)
        have eb : ∀ c ∈ frees rows n, (evenRow rows b).testBit c = decide (c = b) := fun c hc => by
          rw [evenRow_bit h b2]
          have : ¬ ∃ q ∈ rows, q.testBit b = true ∧ top q = c := by
            rintro ⟨q, hq, _, e⟩
            exact (mem_frees.mp hc).2 q hq e
          simp [this]
        by_cases q : m.testBit b = true
        · refine .inr (ih hfs' _ (Nat.xor_lt_two_pow hm (evenRow_lt h b2 b1 hn)) (fun r hr => (he r hr).xorL (evenRow_ev h b2 hr)) fun c hc z => ?_)
          rw [Nat.testBit_xor, eb c hc] at z
          by_cases cb : c = b
          · subst cb
            rw [q] at z
            simp at z
          · simp [cb] at z
            rcases List.mem_cons.mp (hf c hc z) with d | d
            · exact absurd d cb
            · exact d
        · refine .inl (ih hfs' m hm he fun c hc z => ?_)
          rcases List.mem_cons.mp (hf c hc z) with d | d
          · rw [d] at z
            exact absurd z q
          · exact d
    exact key _ (fun _ hb => hb) m hm he fun b hb _ => hb
/-- an age is told exactly if nothing shows it missed -/
theorem told_iff {rows : List Nat} (h : Red rows) {n : Nat} (hn : ∀ r ∈ rows, r < 2 ^ n) {age : Nat} (ha : age < n) : Span rows (2 ^ age) ↔ ∀ m, m < 2 ^ n → (∀ r ∈ rows, Ev m r) → m.testBit age = false := by
  constructor
  · intro hs m hm he
    exact ev_pow.mp (Ev.span he hs)
  · intro hno
    -- the age is no free bit, so it is a row's greatest one, and this row has no other bit
    have hE : ∀ b, b ∈ frees rows n → (evenRow rows b).testBit age = false := fun b hb => by
      obtain ⟨b1, b2⟩ := mem_frees.mp hb
      exact hno _ (evenRow_lt h b2 b1 hn) fun r hr => evenRow_ev h b2 hr
    have nf : ¬ age ∈ frees rows n := fun hf => by
      have := hE age hf
      rw [evenRow_bit h (mem_frees.mp hf).2] at this
      simp at this
    have ht : ∃ r ∈ rows, top r = age := by
      refine Classical.byContradiction fun hc => nf (mem_frees.mpr ⟨ha, fun r hr e => hc ⟨r, hr, e⟩⟩)
    obtain ⟨r, hr, e⟩ := ht
    have : r = 2 ^ age := by
      refine Nat.eq_of_testBit_eq fun j => ?_
      rw [Nat.testBit_two_pow]
      by_cases hj : age = j
      · subst hj
        rw [← e, top_bit (h.1 r hr)]
        simp
      · simp only [hj, decide_false]
        cases q : r.testBit j with
        | false => rfl
        | true =>
          exfalso
          have jn : j < n := by
            rcases Nat.lt_or_ge j n with d | d
            · exact d
            · rw [Nat.testBit_lt_two_pow (Nat.lt_of_lt_of_le (hn r hr) (Nat.pow_le_pow_right (by decide) d))] at q
              cases q
          by_cases hf : ∀ q ∈ rows, top q ≠ j
          · have := hE j (mem_frees.mpr ⟨jn, hf⟩)
            rw [evenRow_bit h hf] at this
            have z : ∃ q ∈ rows, q.testBit j = true ∧ top q = age := ⟨r, hr, q, e⟩
            simp [z] at this
          · refine hf fun p hp ep => ?_
            rw [← ep] at q
            have := h.inj hr hp q
            exact hj (by rw [← e, ← ep, this])
    rw [← this]
    exact span_mem hr
/-! ### the least of what lessened can reach -/
theorem lessened_least {l : List Nat} (h : Red l) {x s : Nat} (hs : Span l s) : lessened x l ≤ x ^^^ s := by
  have q := lessened_span l x
  generalize hy : lessened x l = y at *
  have ts : Span l (x ^^^ y ^^^ s) := span_xor _ q hs
  generalize ht : x ^^^ y ^^^ s = t at *
  have e : x ^^^ s = y ^^^ t := by
    rw [← ht, Nat.xor_assoc x y s, Nat.xor_comm y s, ← Nat.xor_assoc x s y, Nat.xor_comm y, Nat.xor_assoc (x ^^^ s) y y, Nat.xor_self, Nat.xor_zero]
  rw [e]
  by_cases h0 : t = 0
  · rw [h0, Nat.xor_zero]; exact Nat.le_refl _
  · obtain ⟨r, hr, er⟩ := span_top h ts h0
    have b1 : y.testBit (top t) = false := by rw [← er, ← hy]; exact lessened_bit h x hr
    refine Nat.le_of_lt (lt_of_testBit' (top t) b1 (by rw [Nat.testBit_xor, b1, top_bit h0]; rfl) fun j hj => ?_)
    rw [Nat.testBit_xor, above_top hj, Bool.xor_false]
/-! ### those with a bit, and those without -/
def cutBit (age h e : Nat) : Nat := if e.testBit age then e ^^^ h else e
theorem cut_span {age h : Nat} (hh : h.testBit age = true) : ∀ (E : List Nat) {x : Nat}, Span E x → if x.testBit age then Span (E.map (cutBit age h)) (x ^^^ h) else Span (E.map (cutBit age h)) x
  | [], x, hx => by
    have hx : x = 0 := hx
    subst hx
    rw [if_neg (by simp)]
    rfl
  | e :: E, x, hx => by
    rcases hx with hx | hx
    · have := cut_span hh E hx
      split at this
      · rename_i c; rw [if_pos c]; exact .inl this
      · rename_i c; rw [if_neg c]; exact .inl this
    · have ih := cut_span hh E hx
      rw [Nat.testBit_xor] at ih
      cases ce : e.testBit age with
      | false =>
        rw [ce, Bool.xor_false] at ih
        have ec : cutBit age h e = e := by unfold cutBit; rw [ce]; rfl
        cases cx : x.testBit age with
        | true =>
          rw [cx, if_pos rfl] at ih
          rw [if_pos rfl]
          refine .inr ?_
          show Span (E.map (cutBit age h)) (x ^^^ h ^^^ cutBit age h e)
          rw [ec, xor_right_comm]
          exact ih
        | false =>
          rw [cx, if_neg Bool.false_ne_true] at ih
          rw [if_neg Bool.false_ne_true]
          refine .inr ?_
          show Span (E.map (cutBit age h)) (x ^^^ cutBit age h e)
          rw [ec]
          exact ih
      | true =>
        rw [ce] at ih
        have ec : cutBit age h e = e ^^^ h := by unfold cutBit; rw [ce]; rfl
        cases cx : x.testBit age with
        | true =>
          rw [cx] at ih
          rw [if_neg (by decide)] at ih
          rw [if_pos rfl]
          refine .inr ?_
          show Span (E.map (cutBit age h)) (x ^^^ h ^^^ cutBit age h e)
          rw [ec, Nat.xor_comm e h, ← Nat.xor_assoc, Nat.xor_assoc x h h, Nat.xor_self, Nat.xor_zero]
          exact ih
        | false =>
          rw [cx] at ih
          rw [if_pos (by decide)] at ih
          rw [if_neg Bool.false_ne_true]
          refine .inr ?_
          show Span (E.map (cutBit age h)) (x ^^^ cutBit age h e)
          rw [ec, ← Nat.xor_assoc]
          exact ih
/-- the least integer that meets all numbers evenly and has the age; none if no such has it -/
def Least (nums : List Nat) (age : Nat) : Option Nat → Prop
  | none => ∀ m, m < 2 ^ 16 → (∀ x ∈ nums, Ev m x) → m.testBit age = false
  | some m => m < 2 ^ 16 ∧ (∀ x ∈ nums, Ev m x) ∧ m.testBit age = true ∧ ∀ n, n < 2 ^ 16 → (∀ x ∈ nums, Ev n x) → n.testBit age = true → m ≤ n
theorem Least.uniq {nums : List Nat} {age : Nat} {a b : Option Nat} (ha : Least nums age a) (hb : Least nums age b) : a = b := by
  cases a with
  | none =>
    cases b with
    | none => rfl
    | some m => have := ha m hb.1 hb.2.1; rw [hb.2.2.1] at this; cases this
  | some m =>
    cases b with
    | none => have := hb m ha.1 ha.2.1; rw [ha.2.2.1] at this; cases this
    | some n => rw [Nat.le_antisymm (ha.2.2.2 n hb.1 hb.2.1 hb.2.2.1) (hb.2.2.2 m ha.1 ha.2.1 ha.2.2.1)]
theorem ev_of_span {l m : List Nat} (h : ∀ x, Span l x ↔ Span m x) {k : Nat} (e : ∀ x ∈ l, Ev k x) : ∀ x ∈ m, Ev k x := fun x hx => Ev.span e ((h x).mpr (span_mem hx))
theorem Least.span {l m : List Nat} (h : ∀ x, Span l x ↔ Span m x) {age : Nat} {o : Option Nat} (a : Least l age o) : Least m age o := by
  have h' : ∀ x, Span m x ↔ Span l x := fun x => (h x).symm
  cases o with
  | none => exact fun k hk e => a k hk (ev_of_span h' e)
  | some k => exact ⟨a.1, ev_of_span h a.2.1, a.2.2.1, fun n hn e b => a.2.2.2 n hn (ev_of_span h' e) b⟩
/-- what missed does -/
theorem missed_none {rows : List Nat} (h : Red rows) (hn : ∀ r ∈ rows, r < 2 ^ 16) {age : Nat} (he : (evens rows 16).filter (fun e => e.testBit age) = []) : Least rows age none := by
  intro m hm hev
  have hs := (evens_span h hn m).mpr ⟨hm, hev⟩
  have hno : ∀ e ∈ evens rows 16, e.testBit age = false := fun e hm => by
    cases q : e.testBit age with
    | false => rfl
    | true =>
      have : e ∈ (evens rows 16).filter (fun e => e.testBit age) := List.mem_filter.mpr ⟨hm, q⟩
      rw [he] at this
      cases this
  exact span_least (S := fun m => m.testBit age = false) (by simp) (fun x y a b => by rw [Nat.testBit_xor, a, b]; rfl) hno hs
theorem missed_some {rows : List Nat} (h : Red rows) (hn : ∀ r ∈ rows, r < 2 ^ 16) {age x : Nat} (hx : x ∈ evens rows 16) (hb : x.testBit age = true) {W : List Nat} (hW : Red W) (hs : ∀ y, Span W y ↔ Span ((evens rows 16).map (cutBit age x)) y) :
    Least rows age (some (lessened x W)) := by
  have xs : Span (evens rows 16) x := span_mem hx
  have wE : ∀ {y}, Span W y → Span (evens rows 16) y ∧ y.testBit age = false := fun {y} hy => by
    refine span_least (S := fun y => Span (evens rows 16) y ∧ y.testBit age = false) ⟨span_zero _, by simp⟩ (fun a b p q => ⟨span_xor _ p.1 q.1, by rw [Nat.testBit_xor, p.2, q.2]; rfl⟩) (fun r hr => ?_) ((hs y).mp hy)
    obtain ⟨e, he, rfl⟩ := List.mem_map.mp hr
    unfold cutBit
    split
    · rename_i c
      exact ⟨span_xor _ (span_mem he) xs, by rw [Nat.testBit_xor, c, hb]; rfl⟩
    · rename_i c
      exact ⟨span_mem he, by simpa using c⟩
  have sp := lessened_span W x
  obtain ⟨d1, d2⟩ := wE sp
  generalize hy : lessened x W = y at *
  have yE : Span (evens rows 16) y := by
    have := span_xor _ xs d1
    rwa [← Nat.xor_assoc, Nat.xor_self, Nat.zero_xor] at this
  have yb : y.testBit age = true := by
    rw [Nat.testBit_xor, hb] at d2
    cases q : y.testBit age with
    | true => rfl
    | false => rw [q] at d2; cases d2
  obtain ⟨y1, y2⟩ := (evens_span h hn y).mp yE
  refine ⟨y1, y2, yb, fun n h1 h2 h3 => ?_⟩
  have nE := (evens_span h hn n).mpr ⟨h1, h2⟩
  have c := cut_span (h := x) hb (evens rows 16) nE
  rw [if_pos h3] at c
  have := lessened_least hW (x := x) ((hs _).mpr c)
  rw [hy, Nat.xor_comm n x, ← Nat.xor_assoc, Nat.xor_self, Nat.zero_xor] at this
  exact this
end Xr

/-! The greedy search for the least such integer, and the plain one. Core Lean alone. -/
set_option autoImplicit false
set_option linter.unusedVariables false
namespace Xr
/-! ### barred -/
noncomputable def odd1 (n fixed : Nat) : Nat := if par (n &&& fixed) then 1 else 0
noncomputable def lift (free fixed n : Nat) : Nat := 2 * (n &&& free) + odd1 n fixed
def Barred (nums : List Nat) (free fixed : Nat) : Prop := Span (nums.map (lift free fixed)) 1
theorem odd1_lt (n f : Nat) : odd1 n f < 2 := by unfold odd1; split <;> decide
theorem lift_ev {m free fixed n : Nat} (hm : m % 2 = 1) : Ev m (lift free fixed n) ↔ par ((m / 2) &&& (n &&& free)) = par (n &&& fixed) := by
  have o := odd1_lt n fixed
  unfold Ev
  rw [par_eq, and2, Nat.and_div_two, hm]
  have e1 : lift free fixed n % 2 = odd1 n fixed := by unfold lift; omega
  have e2 : lift free fixed n / 2 = n &&& free := by unfold lift; omega
  rw [e1, e2]
  unfold odd1
  cases par (n &&& fixed) <;> cases par (m / 2 &&& (n &&& free)) <;> decide
theorem barred_iff {nums : List Nat} {free fixed : Nat} (hf : free < 2 ^ 16) : ¬ Barred nums free fixed ↔ ∃ f, (∀ j, f.testBit j = true → free.testBit j = true) ∧ ∀ n ∈ nums, Ev (fixed ^^^ f) n := by
  have ev_iff : ∀ {f n : Nat}, Ev (fixed ^^^ f) n ↔ par (f &&& n) = par (n &&& fixed) := fun {f n} => by
    unfold Ev
    rw [Nat.and_xor_distrib_right, par_xor, Nat.and_comm fixed n]
    cases par (n &&& fixed) <;> cases par (f &&& n) <;> decide
  constructor
  · intro hb
    obtain ⟨hr, hs⟩ := red_fold (nums.map (lift free fixed)) [] Red.nil
    rw [List.append_nil] at hs
    have hlt : ∀ r ∈ (nums.map (lift free fixed)).foldl red1 [], r < 2 ^ 17 := fun r hr => by
      refine span_least (S := fun x => x < 2 ^ 17) (by decide) (fun x y a b => Nat.xor_lt_two_pow a b) (fun q hq => ?_) ((hs r).mp (span_mem hr))
      obtain ⟨n, _, rfl⟩ := List.mem_map.mp hq
      have o := odd1_lt n fixed
      have : n &&& free < 2 ^ 16 := Nat.lt_of_le_of_lt Nat.and_le_right hf
      unfold lift
      omega
    have ht := fun z => hb ((hs 1).mp ((told_iff hr hlt (age := 0) (by decide)).mpr z))
    have : ∃ m, m < 2 ^ 17 ∧ (∀ r ∈ (nums.map (lift free fixed)).foldl red1 [], Ev m r) ∧ m.testBit 0 = true := Classical.byContradiction fun hc => ht fun m h1 h2 => by
      cases q : m.testBit 0 with
      | false => rfl
      | true => exact absurd ⟨m, h1, h2, q⟩ hc
    obtain ⟨m, _, h2, h3⟩ := this
    have m2 : m % 2 = 1 := by
      rw [Nat.testBit_zero] at h3
      simpa using h3
    refine ⟨(m / 2) &&& free, fun j hj => ?_, fun n hn => ?_⟩
    · rw [Nat.testBit_and] at hj
      exact (Bool.and_eq_true_iff.mp hj).2
    · have e : Ev m (lift free fixed n) := Ev.span h2 ((hs _).mpr (span_mem (List.mem_map.mpr ⟨n, hn, rfl⟩)))
      rw [lift_ev m2] at e
      rw [ev_iff, ← e, Nat.and_assoc, Nat.and_comm free n]
  · rintro ⟨f, h1, h2⟩ hb
    have m2 : (2 * f + 1) % 2 = 1 := by omega
    have : Ev (2 * f + 1) 1 := by
      refine Ev.span (fun u hu => ?_) hb
      obtain ⟨n, hn, rfl⟩ := List.mem_map.mp hu
      rw [lift_ev m2, show (2 * f + 1) / 2 = f by omega]
      have ff : f &&& (n &&& free) = f &&& n := by
        refine Nat.eq_of_testBit_eq fun j => ?_
        rw [Nat.testBit_and, Nat.testBit_and, Nat.testBit_and]
        cases q : f.testBit j with
        | false => rfl
        | true => rw [h1 j q, Bool.and_true]
      rw [ff]
      exact ev_iff.mp (h2 n hn)
    have z := (ev_pow (i := 0)).mp this
    rw [Nat.testBit_zero] at z
    simp at z
/-! ### bits taken out, put in -/
theorem sub_pow {a j : Nat} (h : a.testBit j = true) : a - 2 ^ j = a ^^^ 2 ^ j := by
  have z : (a ^^^ 2 ^ j).testBit j = false := by rw [Nat.testBit_xor, h, Nat.testBit_two_pow]; simp
  have := pow_add z
  rw [Nat.xor_comm a, ← Nat.xor_assoc, Nat.xor_self, Nat.zero_xor] at this
  rw [Nat.xor_comm a]
  omega
theorem add_pow {a j : Nat} (h : a.testBit j = false) : a + 2 ^ j = a ^^^ 2 ^ j := by
  rw [Nat.add_comm, pow_add h, Nat.xor_comm]
theorem bit_xor_pow {a j i : Nat} : (a ^^^ 2 ^ j).testBit i = if j = i then !a.testBit i else a.testBit i := by
  rw [Nat.testBit_xor, Nat.testBit_two_pow]
  by_cases h : j = i
  · simp [h]
  · simp [h]
theorem div_step (x j : Nat) : x / 2 ^ j = 2 * (x / 2 ^ (j + 1)) + (if x.testBit j then 1 else 0) := by
  have e : x / 2 ^ (j + 1) = x / 2 ^ j / 2 := by rw [Nat.pow_succ, Nat.div_div_eq_div_mul]
  rw [e, Nat.testBit_eq_decide_div_mod_eq]
  by_cases h : x / 2 ^ j % 2 = 1
  · simp only [h, decide_true, if_true]; omega
  · simp only [h, decide_false, Bool.false_eq_true, if_false]; omega
theorem bits_of_div {x y k : Nat} (h : x / 2 ^ k = y / 2 ^ k) {i : Nat} (hi : k ≤ i) : x.testBit i = y.testBit i := by
  have a := Nat.testBit_shiftRight (i := k) (j := i - k) x
  have b := Nat.testBit_shiftRight (i := k) (j := i - k) y
  rw [Nat.shiftRight_eq_div_pow] at a b
  rw [show k + (i - k) = i by omega] at a b
  rw [← a, ← b, h]
/-! ### the greedy search -/
structure GI (nums : List Nat) (age k free fixed : Nat) : Prop where
  free : ∀ j, free.testBit j = decide (j + k < 16 ∧ j ≠ age)
  none : ∀ j, j + k < 16 → j ≠ age → fixed.testBit j = false
  lt : fixed < 2 ^ 16
  has : fixed.testBit age = true
  feas : ∃ m, m < 2 ^ 16 ∧ (∀ x ∈ nums, Ev m x) ∧ ∀ j, ¬ (j + k < 16 ∧ j ≠ age) → m.testBit j = fixed.testBit j
  min : ∀ n, n < 2 ^ 16 → (∀ x ∈ nums, Ev n x) → n.testBit age = true → fixed / 2 ^ (16 - k) ≤ n / 2 ^ (16 - k)
theorem free_lt {nums : List Nat} {age k free fixed : Nat} (g : ∀ j, free.testBit j = decide (j + k < 16 ∧ j ≠ age)) : free < 2 ^ 16 := lt_of_bits fun j hj => by
  rw [g]
  exact decide_eq_false (by omega)
/-- that some m fits, in the words of barred -/
theorem feas_iff {nums : List Nat} {age k free fixed : Nat} (g : ∀ j, free.testBit j = decide (j + k < 16 ∧ j ≠ age)) (hl : fixed < 2 ^ 16) (hn : ∀ j, j + k < 16 → j ≠ age → fixed.testBit j = false) :
    ¬ Barred nums free fixed ↔ ∃ m, m < 2 ^ 16 ∧ (∀ x ∈ nums, Ev m x) ∧ ∀ j, ¬ (j + k < 16 ∧ j ≠ age) → m.testBit j = fixed.testBit j := by
  have fl := free_lt (nums := nums) (fixed := fixed) g
  rw [barred_iff fl]
  constructor
  · rintro ⟨f, h1, h2⟩
    have f16 : f < 2 ^ 16 := lt_of_bits fun j hj => by
      cases q : f.testBit j with
      | false => rfl
      | true =>
        have := h1 j q
        rw [g] at this
        have := of_decide_eq_true this
        omega
    refine ⟨fixed ^^^ f, Nat.xor_lt_two_pow hl f16, h2, fun j hj => ?_⟩
    rw [Nat.testBit_xor]
    cases q : f.testBit j with
    | false => rw [Bool.xor_false]
    | true =>
      have := h1 j q
      rw [g] at this
      exact absurd (of_decide_eq_true this) hj
  · rintro ⟨m, h1, h2, h3⟩
    refine ⟨m ^^^ fixed, fun j hj => ?_, fun n hn' => ?_⟩
    · rw [g]
      refine decide_eq_true (Classical.byContradiction fun c => ?_)
      rw [Nat.testBit_xor, h3 j c] at hj
      simp at hj
    · rw [Nat.xor_comm m, ← Nat.xor_assoc, Nat.xor_self, Nat.zero_xor]
      exact h2 n hn'
theorem GI.start {nums : List Nat} {age : Nat} (ha : age < 16) (h : ¬ Barred nums (65535 - 2 ^ age) (2 ^ age)) : GI nums age 0 (65535 - 2 ^ age) (2 ^ age) := by
  have b : (65535 : Nat).testBit age = true := by
    rw [show (65535 : Nat) = 2 ^ 16 - 1 from rfl, Nat.testBit_two_pow_sub_one]
    exact decide_eq_true ha
  have g : ∀ j, (65535 - 2 ^ age).testBit j = decide (j + 0 < 16 ∧ j ≠ age) := fun j => by
    rw [sub_pow b, bit_xor_pow, show (65535 : Nat) = 2 ^ 16 - 1 from rfl, Nat.testBit_two_pow_sub_one]
    by_cases c : age = j
    · subst c
      simp [ha]
    · have c' : ¬ j = age := fun z => c z.symm
      simp [c, c']
  have l : 2 ^ age < 2 ^ 16 := Nat.pow_lt_pow_right (by decide) ha
  have n : ∀ j, j + 0 < 16 → j ≠ age → (2 ^ age).testBit j = false := fun j _ hj => by
    rw [Nat.testBit_two_pow]
    exact decide_eq_false (fun z => hj z.symm)
  exact ⟨g, n, l, by rw [Nat.testBit_two_pow]; simp, (feas_iff g l n).mp h, fun m hm _ _ => by
    rw [Nat.div_eq_of_lt l]; exact Nat.zero_le _⟩
theorem barred_none {nums : List Nat} {age : Nat} (ha : age < 16) (h : Barred nums (65535 - 2 ^ age) (2 ^ age)) : Least nums age none := by
  intro m hm he
  cases q : m.testBit age with
  | false => rfl
  | true =>
    exfalso
    have b : (65535 : Nat).testBit age = true := by
      rw [show (65535 : Nat) = 2 ^ 16 - 1 from rfl, Nat.testBit_two_pow_sub_one]
      exact decide_eq_true ha
    have g : ∀ j, (65535 - 2 ^ age).testBit j = decide (j + 0 < 16 ∧ j ≠ age) := fun j => by
      rw [sub_pow b, bit_xor_pow, show (65535 : Nat) = 2 ^ 16 - 1 from rfl, Nat.testBit_two_pow_sub_one]
      by_cases c : age = j
      · subst c
        simp [ha]
      · have c' : ¬ j = age := fun z => c z.symm
        simp [c, c']
    have l : 2 ^ age < 2 ^ 16 := Nat.pow_lt_pow_right (by decide) ha
    have n : ∀ j, j + 0 < 16 → j ≠ age → (2 ^ age).testBit j = false := fun j _ hj => by
      rw [Nat.testBit_two_pow]
      exact decide_eq_false (fun z => hj z.symm)
    refine (feas_iff g l n).mpr ⟨m, hm, he, fun j hj => ?_⟩ h
    by_cases c : j = age
    · subst c
      rw [q, Nat.testBit_two_pow]
      simp
    · have : ¬ j < 16 := fun z => hj ⟨by omega, c⟩
      rw [Nat.testBit_lt_two_pow (Nat.lt_of_lt_of_le hm (Nat.pow_le_pow_right (by decide) (by omega))), Nat.testBit_two_pow]
      exact (decide_eq_false (fun z => c z.symm)).symm
/-- the age's own turn -/
theorem GI.skip {nums : List Nat} {age k free fixed : Nat} (G : GI nums age k free fixed) (hk : k < 16) (hj : free.testBit (15 - k) = false) : GI nums age (k + 1) free fixed := by
  have ja : 15 - k = age := by
    have := G.free (15 - k)
    rw [hj] at this
    have := of_decide_eq_false this.symm
    omega
  have eqv : ∀ j, (j + (k + 1) < 16 ∧ j ≠ age) ↔ (j + k < 16 ∧ j ≠ age) := fun j => by omega
  obtain ⟨m, h1, h2, h3⟩ := G.feas
  refine ⟨fun j => ?_, fun j h => G.none j (by omega), G.lt, G.has, ⟨m, h1, h2, fun j hj => h3 j (fun z => hj ((eqv j).mpr z))⟩, fun n hn he hb => ?_⟩
  · rw [G.free]
    exact decide_eq_decide.mpr (eqv j).symm
  · have := G.min n hn he hb
    have e : 16 - k = (16 - (k + 1)) + 1 := by omega
    rw [e] at this
    rw [div_step fixed, div_step n]
    have e2 : 16 - (k + 1) = age := by omega
    rw [e2] at this ⊢
    rw [G.has, hb]
    simp only [if_true]
    omega
theorem GI.take {nums : List Nat} {age k free fixed : Nat} (G : GI nums age k free fixed) (hk : k < 16) (hj : free.testBit (15 - k) = true) :
    (¬ Barred nums (free - 2 ^ (15 - k)) fixed → GI nums age (k + 1) (free - 2 ^ (15 - k)) fixed) ∧ (Barred nums (free - 2 ^ (15 - k)) fixed → GI nums age (k + 1) (free - 2 ^ (15 - k)) (fixed + 2 ^ (15 - k))) := by
  have ja : 15 - k ≠ age := by
    have := G.free (15 - k)
    rw [hj] at this
    exact (of_decide_eq_true this.symm).2
  have fj : fixed.testBit (15 - k) = false := G.none _ (by omega) ja
  have g' : ∀ j, (free - 2 ^ (15 - k)).testBit j = decide (j + (k + 1) < 16 ∧ j ≠ age) := fun j => by
    rw [sub_pow hj, bit_xor_pow, G.free]
    by_cases c : 15 - k = j
    · subst c
      rw [if_pos rfl]
      have : (15 - k + k < 16 ∧ 15 - k ≠ age) := ⟨by omega, ja⟩
      rw [decide_eq_true this]
      symm
      exact decide_eq_false (by omega)
    · rw [if_neg c]
      exact decide_eq_decide.mpr (by omega)
  have n' : ∀ j, j + (k + 1) < 16 → j ≠ age → fixed.testBit j = false := fun j h => G.none j (by omega)
  have e : 16 - k = (16 - (k + 1)) + 1 := by omega
  have ej : 16 - (k + 1) = 15 - k := by omega
  constructor
  · intro nb
    refine ⟨g', n', G.lt, G.has, (feas_iff g' G.lt n').mp nb, fun n hn he hb => ?_⟩
    have := G.min n hn he hb
    rw [e, ej] at this
    rw [ej, div_step fixed, div_step n, fj]
    simp only [Bool.false_eq_true, if_false]
    split <;> omega
  · intro bd
    have fx : fixed + 2 ^ (15 - k) = fixed ^^^ 2 ^ (15 - k) := add_pow fj
    -- whatever fits has the bit
    have must : ∀ m, m < 2 ^ 16 → (∀ x ∈ nums, Ev m x) → (∀ j, ¬ (j + k < 16 ∧ j ≠ age) → m.testBit j = fixed.testBit j) → m.testBit (15 - k) = true := fun m h1 h2 h3 => by
      cases q : m.testBit (15 - k) with
      | true => rfl
      | false =>
        refine absurd bd ((feas_iff g' G.lt n').mpr ⟨m, h1, h2, fun j hj' => ?_⟩)
        by_cases c : j = 15 - k
        · rw [c, q, fj]
        · exact h3 j (by omega)
    rw [fx]
    refine ⟨g', fun j h1 h2 => ?_, Nat.xor_lt_two_pow G.lt (Nat.pow_lt_pow_right (by decide) (by omega)), ?_, ?_, fun n hn he hb => ?_⟩
    · rw [bit_xor_pow, if_neg (by omega)]
      exact n' j h1 h2
    · rw [bit_xor_pow, if_neg ja]
      exact G.has
    · obtain ⟨m, h1, h2, h3⟩ := G.feas
      refine ⟨m, h1, h2, fun j hj' => ?_⟩
      rw [bit_xor_pow]
      by_cases c : 15 - k = j
      · subst c
        rw [if_pos rfl, fj, must m h1 h2 h3]; rfl
      · rw [if_neg c]
        exact h3 j (by omega)
    · have mn := G.min n hn he hb
      rw [e, ej] at mn
      have hi : (fixed ^^^ 2 ^ (15 - k)) / 2 ^ (15 - k + 1) = fixed / 2 ^ (15 - k + 1) := by
        refine Nat.eq_of_testBit_eq fun i => ?_
        have a := Nat.testBit_shiftRight (i := 15 - k + 1) (j := i) (fixed ^^^ 2 ^ (15 - k))
        have b := Nat.testBit_shiftRight (i := 15 - k + 1) (j := i) fixed
        rw [Nat.shiftRight_eq_div_pow] at a b
        rw [a, b, bit_xor_pow, if_neg (by omega)]
      rw [ej, div_step (fixed ^^^ 2 ^ (15 - k)), div_step n, hi, bit_xor_pow, if_pos rfl, fj]
      simp only [Bool.not_false, if_true]
      by_cases q : fixed / 2 ^ (15 - k + 1) = n / 2 ^ (15 - k + 1)
      · have nb : n.testBit (15 - k) = true := must n hn he fun j hj' => by
          by_cases c : j = age
          · rw [c, hb, G.has]
          · exact (bits_of_div q (i := j) (by omega)).symm
        rw [nb]
        simp only [if_true]
        omega
      · have : fixed / 2 ^ (15 - k + 1) < n / 2 ^ (15 - k + 1) := by omega
        split <;> omega
theorem GI.fin {nums : List Nat} {age free fixed : Nat} (G : GI nums age 16 free fixed) : Least nums age (some fixed) := by
  obtain ⟨m, h1, h2, h3⟩ := G.feas
  have : m = fixed := Nat.eq_of_testBit_eq fun j => h3 j (by omega)
  subst this
  exact ⟨h1, h2, G.has, fun n hn he hb => by
    have := G.min n hn he hb
    simpa using this⟩
/-! ### the plain search, over few ages -/
theorem mod_ev {m x b : Nat} (hx : x < 2 ^ b) (h : Ev m x) : Ev (m % 2 ^ b) x := by
  unfold Ev at *
  have : m % 2 ^ b &&& x = m &&& x := by
    refine Nat.eq_of_testBit_eq fun j => ?_
    rw [Nat.testBit_and, Nat.testBit_and, Nat.testBit_mod_two_pow]
    by_cases c : j < b
    · simp [c]
    · rw [Nat.testBit_lt_two_pow (Nat.lt_of_lt_of_le hx (Nat.pow_le_pow_right (by decide) (by omega)))]
      simp
  rw [this]
  exact h
theorem plain_none {nums : List Nat} {age b : Nat} (hb : b ≤ 16) (ha : age < b) (hn : ∀ x ∈ nums, x < 2 ^ b) (h : ∀ m, 2 ^ age ≤ m → m < 2 ^ b → m.testBit age = true → ¬ ∀ x ∈ nums, Ev m x) : Least nums age none := by
  intro m hm he
  cases q : m.testBit age with
  | false => rfl
  | true =>
    exfalso
    have qb : (m % 2 ^ b).testBit age = true := by
      rw [Nat.testBit_mod_two_pow, q]
      simp [ha]
    exact h _ (Nat.ge_two_pow_of_testBit qb) (Nat.mod_lt _ (Nat.two_pow_pos b)) qb fun x hx => mod_ev (hn x hx) (he x hx)
theorem plain_some {nums : List Nat} {age b m : Nat} (hb : b ≤ 16) (ha : age < b) (hn : ∀ x ∈ nums, x < 2 ^ b) (h1 : m < 2 ^ b) (h2 : m.testBit age = true) (h3 : ∀ x ∈ nums, Ev m x)
    (h : ∀ n, 2 ^ age ≤ n → n < m → n.testBit age = true → ¬ ∀ x ∈ nums, Ev n x) : Least nums age (some m) := by
  refine ⟨Nat.lt_of_lt_of_le h1 (Nat.pow_le_pow_right (by decide) hb), h3, h2, fun n hn' he q => ?_⟩
  have qb : (n % 2 ^ b).testBit age = true := by
    rw [Nat.testBit_mod_two_pow, q]
    simp [ha]
  have le : m ≤ n % 2 ^ b := Classical.byContradiction fun c => h _ (Nat.ge_two_pow_of_testBit qb) (by omega) qb fun x hx => mod_ev (hn x hx) (he x hx)
  exact Nat.le_trans le (Nat.mod_le _ _)
theorem least_high {nums : List Nat} {b : Nat} (hb : b < 16) (hn : ∀ x ∈ nums, x < 2 ^ b) : Least nums 15 (some (2 ^ 15)) := by
  refine ⟨by decide, fun x hx => ?_, by decide, fun n _ _ q => Nat.ge_two_pow_of_testBit q⟩
  refine (Ev.comm ?_)
  exact ev_pow.mpr (Nat.testBit_lt_two_pow (Nat.lt_of_lt_of_le (hn x hx) (Nat.pow_le_pow_right (by decide) (by omega))))
end Xr

set_option Elab.async false
set_option linter.all false
set_option maxRecDepth 100000
set_option maxHeartbeats 4000000
namespace Lr
open PySem PySem.Spec PyProof.Rows L2
def topS (i : Nat) : Stmt := PySem.Challenge.pw_laterepair_k10_ticks_refused.main.body.getD i (.Pass ⟨0, 0, 0, 0⟩)
/-! ### integers from 0 on -/
abbrev vi (n : Nat) : V := V.int (n : Int)
def ri (l : List Nat) : List V := l.map vi
theorem bitXor_nat (a b : Nat) : Builtin.bitXor (a : Int) (b : Int) = ((a ^^^ b : Nat) : Int) := by
  have h := Xr.add_xor_and a b
  rw [bitXor_and, bitAnd_pp (Int.natCast_nonneg a) (Int.natCast_nonneg b)]
  simp only [Int.toNat_natCast]
  omega
theorem bitAnd_nat (a b : Nat) : Builtin.bitAnd (a : Int) (b : Int) = ((a &&& b : Nat) : Int) := by
  rw [bitAnd_pp (Int.natCast_nonneg a) (Int.natCast_nonneg b)]
  simp only [Int.toNat_natCast]
theorem ri_get {l : List Nat} {i : Nat} {x : V} (h : (ri l)[i]? = some x) : ∃ n, l[i]? = some n ∧ x = vi n := by
  unfold ri at h
  rw [List.getElem?_map] at h
  cases e : l[i]? with
  | none => rw [e] at h; cases h
  | some n => rw [e] at h; exact ⟨n, rfl, (Option.some.inj h).symm⟩
theorem ri_len (l : List Nat) : (ri l).length = l.length := List.length_map ..
theorem ri_mem {l : List Nat} {i : Nat} {x : V} (h : (ri l)[i]? = some x) : ∃ n, n ∈ l ∧ l[i]? = some n ∧ x = vi n := by
  obtain ⟨n, e, x⟩ := ri_get h
  exact ⟨n, List.mem_of_getElem? e, e, x⟩
theorem same_upd {H : Hp} {p : Addr} {o : HO} (h : H p = none) : Same H (upd H p o) := fun b x e => by
  rw [upd_ne (ne_of_none e h)]
  exact e
theorem same_put {H H' : Hp} {p : Addr} {o : HO} (s : Same H H') (h : H p = none) : Same H (upd H' p o) := fun b x e => by
  rw [upd_ne (ne_of_none e h)]
  exact s b x e
theorem same_tup {K : PySem.W.Frag} {H H' : Hp} {a : Addr} {xs : List V} (e : Same H H') (h : SqT K H a xs) : SqT K H' a xs := by
  rcases h with (h | ⟨o, h⟩) | h
  · exact .inl (.inl (e _ _ h))
  · exact .inl (.inr ⟨o, e _ _ h⟩)
  · exact .inr h
/-- what the top's names stand for -/
structure Nm (mg : Str → Option Value) : Prop where
  len : mg "len" = none
  isi : mg "isinstance" = none
  int : mg "int" = none
  bool : mg "bool" = none
  all : mg "all" = none
  any : mg "any" = none
  abs : mg "abs" = none
  tuple : mg "tuple" = none
  list : mg "list" = none
  range : mg "range" = none
  enum : mg "enumerate" = none
  repr : mg "repr" = none
  ms : ∃ t, mg "MOST_SUMS" = some (.int 6 t)
  ma : ∃ t, mg "MOST_AGE" = some (.int 8 t)
abbrev s_is_integer : Stmt := topS 4
theorem sc_is_integer : FnScope ["value"] ["value"] (defScope s_is_integer) := ⟨rfl, rfl, rfl, by decide +kernel, rfl, by decide +kernel, by decide +kernel⟩
abbrev s_is_within : Stmt := topS 5
theorem sc_is_within : FnScope ["value", "least", "most"] ["value", "least", "most"] (defScope s_is_within) := ⟨rfl, rfl, rfl, by decide +kernel, rfl, by decide +kernel, by decide +kernel⟩
theorem ri_append (a b : List Nat) : ri (a ++ b) = ri a ++ ri b := List.map_append ..
theorem ri_int (l : List Nat) : ri l = (l.map fun n : Nat => (n : Int)).map V.int := by
  unfold ri
  rw [List.map_map]
  rfl
end Lr

set_option Elab.async false
set_option linter.all false
set_option maxRecDepth 100000
set_option maxHeartbeats 4000000
/-! Operators of an own class, methods called by name, static methods, instances made of starred arguments: readings over the hand layer. -/
namespace Ow
open PySem PySem.Spec PyProof.Rows L2
theorem pe_imp {X : Cx} {e : Expr} {t t' : TE} (he : PE X e t) (h : ∀ σ H Q, t' σ H Q → t σ H Q) : PE X e t' := ⟨fun pins s σ H Q I q => he.run pins s σ H Q I (h σ H Q q)⟩
section
variable {X : Cx} {CX : CXT} {pins : List (Addr × Obj)} {σ : L2.St} {H : Hp} {s : Shared} {a C g : Addr} {n : Nat} {sp : Sp} {E : XK}
/-- x op y, both instances of the class at C whose def for op is at g -/
def rBinO (C : Addr) (sp : Sp) (E : XK) : R2 := fun x y H Q => ∃ a dx fs b dy gs, x = .ref a ∧ y = .ref b ∧ H a = some (.ins C dx fs) ∧ H b = some (.ins C dy gs) ∧ sp [x, y] H Q E
theorem op_binO {op : Operator} (hc : PySem.W.selfFirst X.K C = true) (hs : PySem.W.findIn X.K (.ref C) (PySem.dunder op.info.2) = some (some (.ref g))) (hf : PySem.W.isFn X.K (.ref g) = true) (F : FnR X.prog X.w X.K X.mg X.base CX n g sp)
    (hr : Room n X.A) (hx : Passes CX X E) : OpR X (binaryOp op) (rBinO C sp E) := by
  intro pins s σ H x y v u Q I rx ry h
  obtain ⟨a, dx, fs, b, dy, gs, rfl, rfl, ha, hb, q⟩ := h
  cases (show v = Value.ref a from rx)
  cases (show u = Value.ref b from ry)
  obtain ⟨ox, od, J, _⟩ := StX.insC_at (X := X) I (.inr ⟨dx, fs, ha⟩)
  obtain ⟨ox', od', J', _⟩ := StX.insC_at (X := X) I (.inr ⟨dy, gs, hb⟩)
  obtain ⟨m, hF⟩ := I.fr
  refine PySem.W.binop_K (op := op) hF I.ok.mod.kin J J'.type hc hs hf ?_
  refine wpAny_mono (wpAny_call (run_fnR (us := [.ref a, .ref b]) (vs := [.ref a, .ref b]) F hr hx I (.cons rfl (.cons rfl .nil)) q)) (fun w s' z => ?_) fun _ _ x => x
  obtain ⟨z', H', I', rz, qz⟩ := z
  exact SlX.cmpback rz ⟨z', H', I', rz, qz⟩
/-! ### o.m(k = v, ..) -/
def tMethK (C : Addr) (m : Str) (nk : Nat) (sp : Sp) (E : XK) (ta : TE) (tk : TA) : TE := fun σ H Q => ta σ H fun x H1 => ∃ a dx fs, x = .ref a ∧ H1 a = some (.ins C dx fs) ∧ fs.lookup m = none ∧ tk σ H1 fun zs H2 => zs.length = nk ∧ sp (x :: zs) H2 Q E
/-- binds: the instance by position, the rest by name in the def's order -/
def KB1 (K : PySem.W.Frag) (fd : FuncData) (ps ks : List Str) : Prop := ∀ (s : Shared) (u : Value) (ws : List Value), K.In s.heap → ws.length = ks.length → BindsTo s fd ⟨[u], ks.zip ws⟩ (ps.zip (u :: ws))
theorem pe_methK {fd : FuncData} {ps ks : List Str} {m : Str} {k : Nat} {pl : Sem Bool} {o : Expr} {kws : List Keyword} {ta : TE} {tk : TA} {apos pos : Pos} (he : PE X o ta) (c : Cls X.K C) (hm : Meth X.K C m g) (F : FnOk X.prog X.w X.K X.mg X.base CX k g fd ps sp) (hr : Room k X.A) (hb : KB1 X.K fd ps ks) (hx : Passes CX X E)
    (hkw : PK X kws tk) (hall : (backToKw pos (keywordEach kws X.env)).all (·.1.isSome) = true := by rfl) (hks : (backToKw pos (keywordEach kws X.env)).filterMap (·.1) = ks := by rfl)
    (hpl : ((backTo pos (starEach [] X.env)).any (·.1) || (backToKw pos (keywordEach kws X.env)).any (·.1.isNone)) = false := by rfl)
    (ht : eval (.Call (.Attribute o m apos) [] kws pos) X.env = (do
      let ov ← eval o X.env
      standAt apos.atName
      let (f, first) ← holding [ov] (getMethod ov m pl)
      callWith pos f first (backTo pos (starEach [] X.env)) (backToKw pos (keywordEach kws X.env))) := by rfl) :
    PE X (.Call (.Attribute o m apos) [] kws pos) (tMethK C m ks.length sp E ta tk) := by
  refine ⟨fun pins s σ H Q I h => ?_⟩
  refine PySem.W.methodCall_KW (pl := pl) (thn (he.run pins s σ H _ I h) fun u s1 ⟨x, H1, I1, rx, a, dx, fs, ex, ea, l, q⟩ => ?_) ht
  subst ex
  obtain rfl : u = Value.ref a := rx
  refine getmeth_ok I1 ea c hm l ?_
  refine PySem.W.callWith_KW0 (first := [.ref a]) (h₀ := X.base) I.ok.mod.kin hm.kp hall ?_ hpl
  refine thn (hkw.run pos pins s1 σ H1 _ I1 q) fun ws s2 ⟨zs, H2, I2, rz, hl, q2⟩ => ⟨I2.kIn, ?_⟩
  rw [hks]
  have hlw : ws.length = ks.length := by rw [← rz.length]; exact hl
  have r2 : Vals (V.ref a :: zs) (Value.ref a :: ws) := .cons rfl rz
  refine wpAny_call (codeAny_mono (F.run X.A X.stack s2 H2 ⟨[Value.ref a], ks.zip ws⟩ (Value.ref a :: ws) (V.ref a :: zs) Q E hr I2.env0 (hb s2 (.ref a) ws I2.kIn hlw) r2 q2) fun r s' hq => ?_)
  cases r with
  | error e => exact hx pins σ H2 s2 e s' I2 hq
  | ok fl =>
    cases fl with
    | ret u => exact I2.after hq
    | next => exact False.elim hq
    | brk => exact False.elim hq
    | cont => exact False.elim hq
/-! ### C.m(e), m a static method -/
structure SMet (K : PySem.W.Frag) (C : Addr) (mc : Value) (m : Str) (p g : Addr) : Prop where
  at_ : PySem.W.findCls K (.ref C) mc m = some (.get (.builtin "staticmethod.__get__") (.ref p) .none (.ref C))
  rc : ∃ rest, PySem.W.recIn K p "staticmethod" = some (.ref g :: rest)
  kp : PySem.W.keepIn K (.ref g) = true
def tSMeth (C : Addr) (sp : Sp) (E : XK) (ta : TE) (t : TA) : TE := fun σ H Q => ta σ H fun x H1 => x = .ref C ∧ t σ H1 fun vs H2 => sp vs H2 Q E
theorem pe_smeth {m : Str} {k : Nat} {mc : Value} {p : Addr} {pl : Sem Bool} {o e : Expr} {es : List Expr} {ta : TE} {t : TA} {apos pos : Pos} (he : PE X o ta) (r : ClX.CRead X.K C mc) (c : SMet X.K C mc m p g) (F : FnR X.prog X.w X.K X.mg X.base CX k g sp) (hr : Room k X.A) (hx : Passes CX X E) (ha : PA X (e :: es) t)
    (hst : starEach (e :: es) X.env = (false, eval e X.env) :: starEach es X.env := by rfl) (hpl : (backTo pos (starEach es X.env)).any (·.1) = false := by rfl)
    (ht : eval (.Call (.Attribute o m apos) (e :: es) [] pos) X.env = (do
      let ov ← eval o X.env
      standAt apos.atName
      let (f, first) ← holding [ov] (getMethod ov m pl)
      callWith pos f first (backTo pos (starEach (e :: es) X.env)) (backToKw pos (keywordEach [] X.env))) := by rfl) :
    PE X (.Call (.Attribute o m apos) (e :: es) [] pos) (tSMeth C sp E ta t) := by
  refine ⟨fun pins s σ H Q I h => ?_⟩
  refine PySem.W.methodCall_KW (pl := pl) (thn (he.run pins s σ H _ I h) fun u s1 ⟨x, H1, I1, rx, ex, q⟩ => ?_) ht
  subst ex
  obtain rfl : u = Value.ref C := rx
  obtain ⟨rest, hp⟩ := c.rc
  refine PySem.W.method_cls I1.kIn r.ga (PySem.W.cls_bind I1.kIn r.rd c.at_ (wpAny_call (PySem.W.sm_get (s := { s1 with toks := s1.toks + 1 }) I1.kIn hp (PySem.W.handed_on rfl ?_))))
  have I2 : Inv X pins σ H1 { s1 with toks := s1.toks + 1 } := I1.tok _
  refine PySem.W.callWith_K (first := []) (h₀ := X.base) I.ok.mod.kin c.kp (thn (ha.run pos pins _ σ H1 _ I2 q) fun us s3 ⟨vs, H3, I3, rv, q3⟩ => ⟨I3.kIn, ?_⟩) hst hpl
  exact wpAny_call (run_fnR (us := us) (vs := vs) F hr hx I3 rv q3)
end
/-! ### instances made: of no arguments, of a starred one -/
section
variable {X : Cx} {CX : CXT} {k : Nat} {f C : Addr} {sp : Sp} {E : XK} {x : Str} {e : Expr} {te : TE} {p pos sp_ : Pos}
/-- what making an instance of the class at C asks -/
def mkAsk (C : Addr) (sp : Sp) (E : XK) (vs : List V) (H1 : Hp) (Q : VK) : Prop := ∀ x dx, H1 x = Option.none → H1 dx = Option.none → dx ≠ x →
  sp (V.ref x :: vs) (upd (upd H1 dx (.own x)) x (.ins C dx [])) (fun v H2 => v = .non ∧ Q (.ref x) H2) E
theorem pe_makeR0 (M : Mk X.K C f) (F : FnR X.prog X.w X.K X.mg X.base CX k f sp) (hr : Room (k + 1) X.A) (hg : Gl X x) (hm : X.mg x = some (.ref C)) (hx : Passes CX X E) (hdb : (x == ("__debug__" : Str)) = false := by decide) :
    PE X (.Call (.Name x p) [] [] pos) (fun σ H Q => mkAsk C sp E [] H Q) := by
  refine ⟨fun pins s σ H Q I h => ?_⟩
  refine wpAny_Call_Name_kw (ld_glob I hg hm ?_ hdb)
  exact PySem.W.callWith_K0 I.kIn M.kp (StX.run_makeR M F hr hx I .nil h)
theorem pe_makeS1 (M : Mk X.K C f) (F : FnR X.prog X.w X.K X.mg X.base CX k f sp) (hr : Room (k + 1) X.A) (hg : Gl X x) (hm : X.mg x = some (.ref C)) (hx : Passes CX X E) (he : PE X e te) (hd : (x == ("__debug__" : Str)) = false := by decide)
    (hst : starEach [.Starred e sp_] X.env = [(true, eval e X.env)] := by rfl) :
    PE X (.Call (.Name x p) [.Starred e sp_] [] pos) (fun σ H Q => te σ H fun y H1 => ∃ a xs, y = V.ref a ∧ (SqT X.K H1 a xs ∨ SqL X.K H1 a xs) ∧ mkAsk C sp E xs H1 Q) := by
  refine ⟨fun pins s σ H Q I h => ?_⟩
  refine wpAny_Call_Name_kw (ld_glob I hg hm ?_ hd)
  refine PySem.W.callWith_S (h₀ := X.base) I.ok.mod.kin M.kp (thn (he.run pins s σ H _ I h) fun v s1 ⟨y, H1, I1, ry, a, xs, ey, hxs, q⟩ => ?_) hst
  subst ey
  obtain rfl : v = Value.ref a := ry
  exact StX.star_any I1 hxs fun us s2 I2 rv => ⟨I2.kIn, StX.run_makeR M F hr hx I2 rv q⟩
theorem pe_makeRs {es : List Expr} {t : TA} (M : Mk X.K C f) (F : FnR X.prog X.w X.K X.mg X.base CX k f sp) (hr : Room (k + 1) X.A) (hg : Gl X x) (hm : X.mg x = some (.ref C)) (hx : Passes CX X E) (ha : PA X (e :: es) t) (hdb : (x == ("__debug__" : Str)) = false := by decide)
    (he : starEach (e :: es) X.env = (false, eval e X.env) :: starEach es X.env := by rfl) (hpl : (backTo pos (starEach es X.env)).any (·.1) = false := by rfl) : PE X (.Call (.Name x p) (e :: es) [] pos) (fun σ H Q => t σ H fun vs H1 => mkAsk C sp E vs H1 Q) :=
  StX.pe_makeR M F hr hg hm hx ha hdb he hpl
end
end Ow

set_option Elab.async false
set_option linter.all false
set_option maxRecDepth 100000
set_option maxHeartbeats 4000000
namespace Lr
open PySem PySem.Spec PyProof.Rows L2 Ow
/-! ### the pen -/
def ii (l : List Int) : List V := l.map V.int
theorem ii_len (l : List Int) : (ii l).length = l.length := List.length_map ..
theorem ri_ii (l : List Nat) : ri l = ii (l.map fun n : Nat => (n : Int)) := ri_int l
/-- a pen at a: from at most n draws -/
def PenAt (H : Hp) (a b : Addr) (n : Nat) : Prop := ∃ (ns : List Int) (i : Nat) (g : Int), H a = some (.lst [.ref b, .int (i : Int), .int g]) ∧ H b = some (.lst (ii ns)) ∧ ns.length ≤ 63 ∧ i ≤ n
/-- all stays but what stands at a -/
def Kept (a : Addr) (H H' : Hp) : Prop := ∀ c o, c ≠ a → H c = some o → H' c = some o
theorem Kept.trans {a : Addr} {H H1 H2 : Hp} (x : Kept a H H1) (y : Kept a H1 H2) : Kept a H H2 := fun c o n h => y c o n (x c o n h)
theorem Kept.refl (a : Addr) (H : Hp) : Kept a H H := fun _ _ _ h => h
theorem Same.kept {a : Addr} {H H' : Hp} (s : Same H H') : Kept a H H' := fun c o _ h => s c o h
theorem PenAt.same {H H' : Hp} {a b : Addr} {n : Nat} (p : PenAt H a b n) (s : Same H H') : PenAt H' a b n := by
  obtain ⟨ns, i, g, h1, h2, h3⟩ := p
  exact ⟨ns, i, g, s _ _ h1, s _ _ h2, h3⟩
theorem PenAt.mono {H : Hp} {a b : Addr} {n m : Nat} (p : PenAt H a b n) (h : n ≤ m) : PenAt H a b m := by
  obtain ⟨ns, i, g, h1, h2, h3, h4⟩ := p
  exact ⟨ns, i, g, h1, h2, h3, Nat.le_trans h4 h⟩
theorem kept_upd {a : Addr} {H : Hp} {o : HO} : Kept a H (upd H a o) := fun c o' n h => by
  rw [upd_ne n]
  exact h
theorem pen_ne {H : Hp} {a b c : Addr} {ns : List Int} {v w : V} (h1 : H a = some (.lst [.ref c, v, w])) (h2 : H b = some (.lst (ii ns))) : b ≠ a := by
  rintro rfl
  rw [h1] at h2
  have e : [V.ref c, v, w] = ii ns := by
    injection h2 with e
    injection e
  cases ns with
  | nil => cases e
  | cons x xs => cases e
theorem dp_ints {K : PySem.W.Frag} {H : Hp} : ∀ ns : List Int, DpAll K H (ii ns) (ns.map PyData.int)
  | [] => .nil
  | n :: ns => .cons (.int n) (dp_ints ns)
theorem canlay_ints : ∀ ns : List Int, PyData.canLayAll0 (ns.map PyData.int) = true
  | [] => by simp [PyData.canLayAll0]
  | n :: ns => by simp [PyData.canLayAll0, PyData.canLay0, canlay_ints ns]
theorem depth_ints : ∀ ns : List Int, PyData.depthAll (ns.map PyData.int) ≤ 1 := by
  intro ns
  induction ns with
  | nil => simp [PyData.depthAll]
  | cons n ns ih => simp [PyData.depthAll, PyData.depth]; omega
end Lr

set_option Elab.async false
set_option linter.all false
set_option maxRecDepth 100000
set_option maxHeartbeats 4000000
namespace Lr
open PySem PySem.Spec PyProof.Rows L2 Ow
section
variable {P : Program} {w : World} {K : PySem.W.Frag} {mg : Str → Option Value} {base : Heap}
abbrev s_draw : Stmt := topS 31
theorem sc_draw : FnScope ["_law_pen_here", "_law_many", "_law_digit", "_law_at", "_law_cell", "_law_great", "_law_mixed"] ["_law_pen_here", "_law_many"] (defScope s_draw) := ⟨rfl, rfl, rfl, by decide +kernel, rfl, by decide +kernel, by decide +kernel⟩
def spDraw : Sp := fun vs H Q _ => ∃ (a b : Addr) (m n : Nat), vs = [.ref a, vi m] ∧ PenAt H a b n ∧ n ≤ 1000 ∧ 0 < m ∧ m ≤ 2 ^ 20 ∧ ∀ (d : Nat) (H' : Hp), d < m → PenAt H' a b (n + 1) → Kept a H H' → Q (vi d) H'
theorem modv (x : Int) {m : Nat} (h : 0 < m) : ∃ d : Nat, d < m ∧ x % (m : Int) = (d : Int) := by
  refine ⟨(x % (m : Int)).toNat, ?_, ?_⟩
  · have h1 := Int.emod_nonneg x (by omega : (m : Int) ≠ 0)
    have h2 := Int.emod_lt_of_pos x (by omega : (0 : Int) < (m : Int))
    omega
  · have h1 := Int.emod_nonneg x (by omega : (m : Int) ≠ 0)
    omega
theorem cp1 (x : Int) {i : Nat} (h : i ≤ 1000) : CPow (x % 2147483563 + 74290 * (i : Int) + 3670) 5 := by
  refine ⟨by decide, by decide, ?_⟩
  show _ < 18446744073709551616
  omega
theorem mulB {y : Int} {i : Nat} (h0 : 0 ≤ y) (h1 : y < 2147483629) (h : i ≤ 1000) : 0 ≤ y * (2 * (i : Int) + 341) ∧ y * (2 * (i : Int) + 341) ≤ 2147483629 * 2973 ∧ 0 ≤ 46010 * (i : Int) * (i : Int) ∧ 46010 * (i : Int) * (i : Int) ≤ 46010000 * 1000 := by
  refine ⟨Int.mul_nonneg h0 (by omega), Int.mul_le_mul (by omega) (by omega) (by omega) (by omega), Int.mul_nonneg (by omega) (by omega), Int.mul_le_mul (by omega) (by omega) (by omega) (by omega)⟩
theorem cp2 {y : Int} {i : Nat} (h0 : 0 ≤ y) (h1 : y < 2147483629) (h : i ≤ 1000) : CPow (y * (2 * (i : Int) + 341) + 46010 * (i : Int) * (i : Int) + 13) 3 := by
  refine ⟨by decide, by decide, ?_⟩
  obtain ⟨a, b, c, d⟩ := mulB h0 h1 h
  show _ < 18446744073709551616
  omega
theorem ok_draw {f : Addr} {fd : FuncData} (F : Fun K "_law_draw" "_law_draw" s_draw f fd) (T : Nm mg) : FnOk P w K mg base CX0 1 f fd ["_law_pen_here", "_law_many"] spDraw := by
  refine F.ok sc_draw (fun vs H Q E h => ?_) (fun cdv A outer s H vs Q E hr h => ?_)
  · obtain ⟨a, b, m, n, rfl, _⟩ := h
    rfl
  · obtain ⟨a, b, m, n, rfl, ⟨ns, i, g, ha, hb, hn, hi⟩, hn1, m0, m1, q⟩ := h
    have hu := hr.units
    refine ⟨_, (pss_cons (ps_if (pt_cmpR op_gt (pe_ix ix_list (pv 0) pe_int (fun _ _ => rfl)) pe_int (nomark _)) (pss_cons (ps_set (i := 2) sc_draw.nd rfl (Or.inl rfl) (pe_op op_mod (pe_callTy call_int1 (by rfl) T.int PyProof.Rows.boot_int (pa_cons (pe_ix ix_list (pv 0) pe_int (fun _ _ => rfl)) pa_nil)) (pv 1)))
    (pss_cons (ps_asg (pe_op op_fdiv (pe_callTy call_int1 (by rfl) T.int PyProof.Rows.boot_int (pa_cons (pe_ix ix_list (pv 0) pe_int (fun _ _ => rfl)) pa_nil)) (pv 1)) (pg_sub (pv 0) pe_int set_list))
    (pss_one (ps_ret (pv 2))))) pss_nil)
    (pss_cons (ps_set (i := 3) sc_draw.nd rfl (Or.inl rfl) (pe_ix ix_list (pv 0) pe_int (fun _ _ => rfl)))
    (pss_cons (ps_asg (pe_op op_add (pv 3) pe_int) (pg_sub (pv 0) pe_int set_list))
    (pss_cons (ps_set (i := 4) sc_draw.nd rfl (Or.inl rfl) (pe_op op_add (pe_op op_mul pe_int (pv 3)) pe_int))
    (pss_cons (ps_if (pt_cmpR (op_neD hu) (pe_ix ix_list (pv 0) pe_int (fun _ _ => rfl)) (pe_lst pa_nil) (nomark _)) (pss_one (ps_set (i := 4) sc_draw.nd rfl (Or.inl rfl) (pe_ix ix_list (pe_ix ix_list (pv 0) pe_int (fun _ _ => rfl)) (pe_op op_mod (pe_callTy call_int1 (by rfl) T.int PyProof.Rows.boot_int (pa_cons (pv 3) pa_nil)) (pe_callB call_len_seq (by rfl) T.len PySem.boot_len (pa_cons (pe_ix ix_list (pv 0) pe_int (fun _ _ => rfl)) pa_nil))) (fun _ _ => rfl)))) pss_nil)
    (pss_cons (ps_if (PW.pt (pw_and (pt_cmpR op_lt (pv 3) (pe_callB call_len_seq (by rfl) T.len PySem.boot_len (pa_cons (pe_ix ix_list (pv 0) pe_int (fun _ _ => rfl)) pa_nil)) (nomark _)) (pw_and1 (pt_cmpR op_ge (pe_callB call_abs (by rfl) T.abs PyProof.Rows.boot_abs (pa_cons (pv 4) pa_nil)) (pe_op op_pow pe_int pe_int) (nomark _))))) (pss_cons (ps_set (i := 5) sc_draw.nd rfl (Or.inl rfl) (pe_op op_add (pe_op op_mul pe_int (pe_op op_sub (pe_callB call_abs (by rfl) T.abs PyProof.Rows.boot_abs (pa_cons (pv 4) pa_nil)) (pe_op op_pow pe_int pe_int))) (pe_callTy call_int1 (by rfl) T.int PyProof.Rows.boot_int (pa_cons (pe_cmpR op_lt (pv 4) pe_int (nomark _)) pa_nil))))
    (pss_cons (ps_asg (pe_op op_fdiv (pe_callTy call_int1 (by rfl) T.int PyProof.Rows.boot_int (pa_cons (pv 5) pa_nil)) (pv 1)) (pg_sub (pv 0) pe_int set_list))
    (pss_one (ps_ret (pe_op op_mod (pe_callTy call_int1 (by rfl) T.int PyProof.Rows.boot_int (pa_cons (pv 5) pa_nil)) (pv 1)))))) pss_nil)
    (pss_cons (ps_set (i := 6) sc_draw.nd rfl (Or.inl rfl) (pe_op op_mod (pe_callTy call_int1 (by rfl) T.int PyProof.Rows.boot_int (pa_cons (pe_op op_pow (pe_op op_add (pe_op op_add (pe_op op_mod (pe_callTy call_int1 (by rfl) T.int PyProof.Rows.boot_int (pa_cons (pv 4) pa_nil)) pe_int) (pe_op op_mul pe_int (pv 3))) pe_int) pe_int) pa_nil)) pe_int))
    (pss_cons (ps_set (i := 6) sc_draw.nd rfl (Or.inl rfl) (pe_op op_mod (pe_callTy call_int1 (by rfl) T.int PyProof.Rows.boot_int (pa_cons (pe_op op_pow (pe_op op_add (pe_op op_add (pe_op op_mul (pv 6) (pe_op op_add (pe_op op_mul pe_int (pv 3)) pe_int)) (pe_op op_mul (pe_op op_mul pe_int (pv 3)) (pv 3))) pe_int) pe_int) pa_nil)) pe_int))
    (pss_one (ps_ret (pe_op op_mod (pe_callTy call_int1 (by rfl) T.int PyProof.Rows.boot_int (pa_cons (pe_op op_fdiv (pv 6) pe_int) pa_nil)) (pv 1)))))))))))), ?_⟩
    have sq : ∀ {H' : Hp} {v w : V}, H' a = some (.lst [.ref b, v, w]) → SqL K H' a [.ref b, v, w] := fun h => .of h
    refine ⟨_, rfl, a, _, _, .int g, rfl, rfl, .of ha, at_of (j := 2) rfl rfl, _, _, rfl, rfl, _, rfl, ?_⟩
    refine ite2 (fun c => ?_) (fun c => ?_)
    · refine ⟨_, rfl, a, _, _, .int g, rfl, rfl, .of ha, at_of (j := 2) rfl rfl, .inl ⟨_, rfl, _, rfl, _, _, rfl, rfl, ?_, ?_⟩⟩
      · show (0 : Int) < (m : Int)
        omega
      · refine ⟨_, rfl, a, _, _, .int g, rfl, rfl, .of ha, at_of (j := 2) rfl rfl, .inl ⟨_, rfl, _, rfl, _, _, rfl, rfl, ?_, ?_⟩⟩
        · exact ⟨by omega, by omega⟩
        · refine ⟨_, rfl, a, _, _, 2, rfl, rfl, ha, rfl, ?_⟩
          obtain ⟨d, hd, ed⟩ := modv g m0
          refine ⟨_, rfl, ?_⟩
          show Q (V.int (g % (m : Int))) _
          rw [ed]
          exact q d _ hd ⟨ns, i, _, upd_same, by rw [upd_ne (pen_ne ha hb)]; exact hb, hn, by omega⟩ kept_upd
    · refine ⟨_, rfl, a, _, _, .int i, rfl, rfl, .of ha, at_of (j := 1) rfl rfl, ?_⟩
      refine ⟨_, rfl, _, _, rfl, rfl, _, rfl, a, _, _, 1, rfl, rfl, ha, rfl, ?_⟩
      have h1 : (upd H a (HO.lst ([V.ref b, V.int (i : Int), V.int g].set 1 (V.int ((i : Int) + 1))))) a = some (HO.lst [V.ref b, V.int ((i + 1 : Nat) : Int), V.int g]) := by
        rw [upd_same]
        rfl
      have hb1 : (upd H a (HO.lst ([V.ref b, V.int (i : Int), V.int g].set 1 (V.int ((i : Int) + 1))))) b = some (HO.lst (ii ns)) := by
        rw [upd_ne (pen_ne ha hb)]
        exact hb
      have k1 : Kept a H (upd H a (HO.lst ([V.ref b, V.int (i : Int), V.int g].set 1 (V.int ((i : Int) + 1))))) := kept_upd
      show (fun H3 : Hp => _) _
      generalize (upd H a (HO.lst ([V.ref b, V.int (i : Int), V.int g].set 1 (V.int ((i : Int) + 1))))) = H1 at *
      refine ⟨_, rfl, _, _, rfl, rfl, .inl ⟨by decide, by decide⟩, _, _, rfl, rfl, ?_⟩
      refine ⟨_, rfl, a, _, _, .ref b, rfl, rfl, .of h1, at_of (j := 0) rfl rfl, Nat.zero_le _, fun o no => ?_⟩
      have oa : a ≠ o := ne_of_none h1 no
      have ob : b ≠ o := ne_of_none hb1 no
      have h2 : (upd H1 o (.lst [])) a = _ := (upd_ne oa).trans h1
      have hb2 : (upd H1 o (.lst [])) b = _ := (upd_ne ob).trans hb1
      have k2 : Kept a H (upd H1 o (.lst [])) := k1.trans (Same.kept (same_upd no))
      refine ⟨.list (ns.map PyData.int), .list [], .lst (.of hb2) (dp_ints ns), .lst (.of upd_same) .nil, ?_, rfl, _, rfl, ?_⟩
      · refine Bool.and_eq_true_iff.mpr ⟨?_, decide_eq_true ?_⟩
        · show PyData.canLay0 (.list _) = true
          rw [PyData.canLay0]
          exact canlay_ints ns
        · show PyData.depth (.list _) ≤ 64
          rw [PyData.depth]
          have := depth_ints ns
          omega
      generalize upd H1 o (.lst []) = H2 at *
      have cp : CPow 10 18 := ⟨by decide, by decide, by decide⟩
      have i1 : i ≤ 1000 := Nat.le_trans hi hn1
      have cm : ∀ x : Int, CMul 46010 x ∧ CMul 74290 x ∧ CMul 2 x := fun x => ⟨.inl ⟨by decide, by decide⟩, .inl ⟨by decide, by decide⟩, .inl ⟨by decide, by decide⟩⟩
      have pos5 : (0 : Int) < (m : Int) := by omega
      have dv : CDiv 0 (m : Int) := ⟨by omega, by omega⟩
      have fin : ∀ (x : Int) (H3 : Hp), PenAt H3 a b (n + 1) → Kept a H H3 → Q (.int (x % (m : Int))) H3 := fun x H3 p k => by
        obtain ⟨d, hd, ed⟩ := modv x m0
        rw [ed]
        exact q d H3 hd p k
      have pen : PenAt H2 a b (n + 1) := ⟨ns, i + 1, g, h2, hb2, hn, by omega⟩
      have ba : b ≠ a := pen_ne h2 hb2
      refine ite2 (fun c2 => ?_) (fun c2 => ?_)
      have nz : 0 < ns.length := by
        cases ns with
        | nil =>
          have : (!(PyData.list (List.map PyData.int [])).eqv (PyData.list [])) = true := c2
          exact absurd this (by decide)
        | cons x xs => exact Nat.succ_pos _
      have lt : i % ns.length < ns.length := Nat.mod_lt _ nz
      have gz : (ii ns)[i % ns.length]? = some (V.int ns[i % ns.length]) := by
        unfold ii
        rw [List.getElem?_map, List.getElem?_eq_getElem lt]
        rfl
      refine ⟨_, rfl, a, _, _, .ref b, rfl, rfl, .of h2, at_of (j := 0) rfl rfl, _, rfl, .inl ⟨_, rfl, _, rfl, a, _, _, .ref b, rfl, rfl, .of h2, at_of (j := 0) rfl rfl, b, _, rfl, .inl (.of hb2), _, _, rfl, rfl, ?_, ?_⟩⟩
      · show (0 : Int) < (((ii ns).length : Nat) : Int)
        rw [ii_len]
        omega
      refine ⟨b, ii ns, _, _, rfl, rfl, .of hb2, at_of (j := i % ns.length) ?_ gz, ?_⟩
      · show (i : Int) % (((ii ns).length : Nat) : Int) = _
        rw [ii_len]
        exact (Int.natCast_emod i ns.length).symm
      all_goals
        refine ⟨_, rfl, _, rfl, a, _, _, .ref b, rfl, rfl, .of h2, at_of (j := 0) rfl rfl, b, _, rfl, .inl (.of hb2), _, _, rfl, rfl, _, rfl, ?_⟩
      all_goals
        refine ite2 (fun c3 => ?_) (fun c3 => ?_)
      all_goals first
        | refine ⟨_, rfl, _, rfl, _, _, rfl, rfl, cp, _, _, rfl, rfl, _, rfl, ?_⟩
          refine ite2 (fun c4 => ?_) (fun c4 => ?_)
          · refine ⟨_, rfl, _, rfl, _, _, rfl, rfl, cp, _, _, rfl, rfl, _, _, rfl, rfl, (cm _).2.2, _, rfl, _, _, rfl, rfl, .inr ⟨_, rfl, _, _, rfl, rfl, ?_⟩⟩
            refine ⟨_, rfl, .inl ⟨_, rfl, _, rfl, _, _, rfl, rfl, dv, _, rfl, a, _, _, 2, rfl, rfl, h2, rfl, ?_⟩⟩
            refine ⟨_, rfl, .inl ⟨_, rfl, _, rfl, _, _, rfl, rfl, pos5, ?_⟩⟩
            exact fin _ _ ⟨ns, i + 1, _, upd_same, by rw [upd_ne ba]; exact hb2, hn, by omega⟩ (k2.trans kept_upd)
          skip
        | skip
      all_goals
        have y0 : ∀ x : Int, 0 ≤ x % 2147483629 ∧ x % 2147483629 < 2147483629 := fun x => by omega
        refine ⟨_, rfl, .inl ⟨_, rfl, _, _, rfl, rfl, (by show (0 : Int) < 2147483563; decide), _, rfl, _, _, rfl, rfl, (cm _).2.1, _, _, rfl, rfl, _, _, rfl, rfl, _, _, rfl, rfl, cp1 _ i1, .inl ⟨_, rfl, _, _, rfl, rfl, (by show (0 : Int) < 2147483629; decide), ?_⟩⟩⟩
        refine ⟨_, rfl, _, rfl, _, _, rfl, rfl, (cm _).2.2, _, _, rfl, rfl, _, _, rfl, rfl, .inl ⟨?_, ?_⟩, _, rfl, _, _, rfl, rfl, (cm _).1, _, rfl, _, _, rfl, rfl, .inl ⟨?_, ?_⟩, _, _, rfl, rfl, _, _, rfl, rfl, _, _, rfl, rfl, cp2 (y0 _).1 (y0 _).2 i1, .inl ⟨_, rfl, _, _, rfl, rfl, (by show (0 : Int) < 2147483587; decide), ?_⟩⟩
        · exact Int.lt_of_lt_of_le (by decide) (y0 _).1
        · exact Int.lt_trans (y0 _).2 (by decide)
        · omega
        · omega
        refine ⟨_, rfl, _, _, rfl, rfl, ⟨by decide, by decide⟩, .inl ⟨_, rfl, _, rfl, _, _, rfl, rfl, pos5, ?_⟩⟩
        exact fin _ _ pen k2
end
end Lr

set_option Elab.async false
set_option linter.all false
set_option maxRecDepth 100000
set_option maxHeartbeats 4000000
namespace Lr
open PySem PySem.Spec PyProof.Rows L2 Ow
section
variable {P : Program} {w : World} {K : PySem.W.Frag} {mg : Str → Option Value} {base : Heap}
abbrev s_pen : Stmt := topS 30
theorem sc_pen : FnScope ["_law_script"] ["_law_script"] (defScope s_pen) := ⟨rfl, rfl, rfl, by decide +kernel, rfl, by decide +kernel, by decide +kernel⟩
def spPen (K : PySem.W.Frag) : Sp := fun vs H Q _ => ∃ (a : Addr) (ns : List Int), vs = [.ref a] ∧ SqL K H a (ii ns) ∧ ns.length ≤ 63 ∧ ∀ (p b : Addr) (H' : Hp), PenAt H' p b 0 → Same H H' → H p = none → Q (.ref p) H'
theorem cut_ii (ns : List Int) (lo hi : Option Int) : ∃ ms, cutV (ii ns) lo hi = ii ms ∧ ms.length ≤ ns.length := by
  refine ⟨((ns.drop (HT.sIx (ii ns).length 0 lo)).take (HT.sIx (ii ns).length (ii ns).length hi - HT.sIx (ii ns).length 0 lo)), ?_, ?_⟩
  · unfold cutV ii
    rw [List.map_take, List.map_drop]
  · rw [List.length_take, List.length_drop]
    omega
theorem ok_pen {f : Addr} {fd : FuncData} (F : Fun K "_law_pen" "_law_pen" s_pen f fd) (T : Nm mg) : FnOk P w K mg base CX0 1 f fd ["_law_script"] (spPen K) := by
  refine F.ok sc_pen (fun vs H Q E h => ?_) (fun cdv A outer s H vs Q E hr h => ?_)
  · obtain ⟨a, ns, rfl, _⟩ := h
    rfl
  · obtain ⟨a, ns, rfl, hS, hl, q⟩ := h
    refine ⟨_, pss_one (ps_ret (pe_lst (pa_cons (pe_callTy call_list_of (by rfl) T.list PyProof.Rows.boot_list (pa_cons (pe_slice sl_list (pv 0) po_none (po_some pe_int)) pa_nil)) (pa_cons pe_int (pa_cons pe_int pa_nil))))), ?_⟩
    obtain ⟨ms, em, lm⟩ := cut_ii ns none (some 63)
    refine ⟨_, rfl, _, rfl, a, _, rfl, hS, fun p np => ?_⟩
    refine ⟨p, _, rfl, .inl (.of upd_same), fun p2 np2 => ?_⟩
    have e12 : p ≠ p2 := ne_of_none upd_same np2
    have nq : H p2 = none := by
      rw [upd_ne (Ne.symm e12)] at np2
      exact np2
    refine ⟨small1000 (by show 3 ≤ 1000; omega) |> Nat.le_of_lt, fun p3 np3 => ?_⟩
    have e23 : p2 ≠ p3 := ne_of_none upd_same np3
    have nr : (upd H p (.lst (cutV (ii ns) none (some 63)))) p3 = none := by
      rw [upd_ne (Ne.symm e23)] at np3
      exact np3
    have e13 : p ≠ p3 := ne_of_none upd_same nr
    have n3 : H p3 = none := by
      rw [upd_ne (Ne.symm e13)] at nr
      exact nr
    refine q p3 p2 _ ⟨ms, 0, 0, upd_same, ?_, by omega, Nat.le_refl _⟩ (same_put (same_put (same_upd np) nq) n3) n3
    rw [upd_ne e23, upd_same, em]
abbrev s_pick : Stmt := topS 32
theorem sc_pick : FnScope ["_law_pen_here", "_law_some"] ["_law_pen_here", "_law_some"] (defScope s_pick) := ⟨rfl, rfl, rfl, by decide +kernel, rfl, by decide +kernel, by decide +kernel⟩
def spPick : Sp := fun vs H Q _ => ∃ (a b p : Addr) (n : Nat) (l : List Nat), vs = [.ref a, .ref p] ∧ PenAt H a b n ∧ n ≤ 1000 ∧ H p = some (.lst (ri l)) ∧ 0 < l.length ∧ l.length ≤ 1000 ∧ ∀ (x : Nat) (H' : Hp), x ∈ l → PenAt H' a b (n + 1) → Kept a H H' → Q (vi x) H'
theorem ok_pick {f fD : Addr} {fd fdD : FuncData} (F : Fun K "_law_pick" "_law_pick" s_pick f fd) (FD : Fun K "_law_draw" "_law_draw" s_draw fD fdD) (bD : Binds K fdD ["_law_pen_here", "_law_many"] []) (gD : mg "_law_draw" = some (.ref fD)) (T : Nm mg) :
    FnOk P w K mg base CX0 2 f fd ["_law_pen_here", "_law_some"] spPick := by
  have GD : FnOk P w K mg base CX0 1 fD fdD ["_law_pen_here", "_law_many"] spDraw := ok_draw FD T
  refine F.ok sc_pick (fun vs H Q E h => ?_) (fun cdv A outer s H vs Q E hr h => ?_)
  · obtain ⟨a, b, p, n, l, rfl, _⟩ := h
    rfl
  · obtain ⟨a, b, p, n, l, rfl, hp, hn, hl, l0, l1, q⟩ := h
    refine ⟨_, pss_one (ps_ret (pe_ix ix_list (pv 1) (pe_call GD hr rfl gD FD.kp bD .nil pass0 (pa_cons (pv 0) (pa_cons (pe_callB call_len_seq (by rfl) T.len PySem.boot_len (pa_cons (pv 1) pa_nil)) pa_nil))) (fun _ _ => rfl))), ?_⟩
    have hp' := hp
    obtain ⟨ns, i, g, ha, hb, _⟩ := hp'
    have pa : p ≠ a := pen_ne ha (by rw [← ri_ii]; exact hl)
    refine ⟨_, rfl, _, rfl, _, rfl, p, _, rfl, .inl (.of hl), a, b, l.length, n, ?_, hp, hn, l0, by omega, fun d H' hd p' k => ?_⟩
    · rw [ri_len]
      rfl
    refine ⟨p, _, _, _, rfl, rfl, .of (k _ _ pa hl), at_of (j := d) rfl ?_, q l[d] H' (List.getElem_mem hd) p' k⟩
    unfold ri
    rw [List.getElem?_map, List.getElem?_eq_getElem hd]
    rfl
end
end Lr

set_option Elab.async false
set_option linter.all false
set_option maxRecDepth 100000
set_option maxHeartbeats 4000000
namespace Lr
open PySem PySem.Spec PyProof.Rows L2 Ow
section
variable {P : Program} {w : World} {K : PySem.W.Frag} {mg : Str → Option Value} {base : Heap}
/-! ### the checks and tells, for any value -/
/-- a value that is no integer (a bool is none) -/
def NoInt (K : PySem.W.Frag) (H : Hp) (v : V) : Prop := ∃ (t : Value) (b : Bool), TyX K H v t ∧ PySem.W.kitOne K t (.type "int") = some b ∧ (b = true → PySem.W.kitOne K t (.type "bool") = some true)
theorem noInt_non {H : Hp} : NoInt K H .non := ⟨_, false, .base .non, kit_ty (by decide +kernel), fun z => nomatch z⟩
theorem noInt_bl {H : Hp} (b : Bool) : NoInt K H (.bl b) := ⟨_, true, .base (.bl b), kit_ty (by decide +kernel), fun _ => kit_ty (by decide +kernel)⟩
theorem noInt_str {H : Hp} (x : Str) : NoInt K H (.str x) := ⟨_, false, .base (.str x), kit_ty (by decide +kernel), fun z => nomatch z⟩
theorem noInt_tup {H : Hp} {a : Addr} {xs : List V} (h : H a = some (.tup xs)) : NoInt K H (.ref a) := ⟨_, false, .base (.tup h), kit_ty (by decide +kernel), fun z => nomatch z⟩
theorem noInt_lst {H : Hp} {a : Addr} {xs : List V} (h : H a = some (.lst xs)) : NoInt K H (.ref a) := ⟨_, false, .base (.lst h), kit_ty (by decide +kernel), fun z => nomatch z⟩
/-- a value as the checks take it: an integer, or no integer -/
inductive Arg (K : PySem.W.Frag) (H : Hp) : V → Option Int → Prop
  | int (i : Int) : Arg K H (.int i) (some i)
  | no {v : V} (h : NoInt K H v) : Arg K H v none
def spIsIntV (K : PySem.W.Frag) : Sp := fun vs H Q _ => ∃ (v : V) (o : Option Int), vs = [v] ∧ Arg K H v o ∧ Q (.bl o.isSome) H
theorem ok_isIntV {f : Addr} {fd : FuncData} (F : Fun K "is_integer" "is_integer" s_is_integer f fd) (T : Nm mg) : FnOk P w K mg base CX0 1 f fd ["value"] (spIsIntV K) := by
  refine F.ok sc_is_integer (fun vs H Q E h => ?_) (fun cdv A outer s H vs Q E hr h => ?_)
  · obtain ⟨v, o, rfl, _⟩ := h
    rfl
  · obtain ⟨v, o, rfl, g, q⟩ := h
    refine ⟨_, pss_one (ps_ret (pe_and (pe_callB call_isi (by rfl) T.isi boot_isinstance (pa_cons (pv 0) (pa_cons (pe_bltn (v := .ty "int") (by rfl) T.int PyProof.Rows.boot_int rfl) pa_nil)))
      (pe_one (pe_not (pe_callB call_isi (by rfl) T.isi boot_isinstance (pa_cons (pv 0) (pa_cons (pe_bltn (v := .ty "bool") (by rfl) T.bool PyProof.Rows.boot_bool rfl) pa_nil))))))), ?_⟩
    cases g with
    | int i =>
      refine ⟨_, rfl, _, _, _, _, true, rfl, .ty "int", .base (.int i), kit_ty (by decide +kernel), true, rfl, iteT ?_⟩
      exact ⟨_, rfl, _, _, _, _, false, rfl, .ty "bool", .base (.int i), kit_ty (by decide +kernel), false, rfl, q⟩
    | no h =>
      obtain ⟨t, b, ty, k1, k2⟩ := h
      refine ⟨_, rfl, _, _, _, _, b, rfl, .ty "int", ty, k1, b, rfl, ?_⟩
      cases b with
      | false => exact iteF q
      | true => exact iteT ⟨_, rfl, _, _, _, _, true, rfl, .ty "bool", ty, k2 rfl, true, rfl, q⟩
def within? (lo hi : Int) : Option Int → Bool
  | none => false
  | some i => decide (lo ≤ i ∧ i ≤ hi)
def spWithinV (K : PySem.W.Frag) : Sp := fun vs H Q _ => ∃ (v : V) (o : Option Int) (lo hi : Int), vs = [v, .int lo, .int hi] ∧ Arg K H v o ∧ Q (.bl (within? lo hi o)) H
theorem ok_withinV {f fI : Addr} {fd fdI : FuncData} (F : Fun K "is_within" "is_within" s_is_within f fd) (FI : Fun K "is_integer" "is_integer" s_is_integer fI fdI) (bI : Binds K fdI ["value"] []) (gI : mg "is_integer" = some (.ref fI)) (T : Nm mg) :
    FnOk P w K mg base CX0 2 f fd ["value", "least", "most"] (spWithinV K) := by
  have GI : FnOk P w K mg base CX0 1 fI fdI ["value"] (spIsIntV K) := ok_isIntV FI T
  refine F.ok sc_is_within (fun vs H Q E h => ?_) (fun cdv A outer s H vs Q E hr h => ?_)
  · obtain ⟨v, o, lo, hi, rfl, _⟩ := h
    rfl
  · obtain ⟨v, o, lo, hi, rfl, g, q⟩ := h
    refine ⟨_, pss_one (ps_ret (pe_and (pe_call GI hr rfl gI FI.kp bI .nil pass0 (pa_cons (pv 0) pa_nil)) (pe_one (pe_chain op_le op_le (pv 1) (pv 0) (pv 2))))), ?_⟩
    cases g with
    | no h => exact ⟨_, rfl, v, none, rfl, .no h, false, rfl, iteF q⟩
    | int i =>
      refine ⟨_, rfl, _, some i, rfl, .int i, true, rfl, iteT ?_⟩
      refine ⟨_, rfl, _, rfl, _, _, rfl, rfl, _, rfl, ?_⟩
      by_cases c : lo ≤ i
      · rw [decide_eq_true c]
        refine iteT ⟨_, rfl, _, _, rfl, rfl, ?_⟩
        have e : within? lo hi (some i) = decide (i ≤ hi) := by simp [within?, c]
        rw [e] at q
        exact q
      · rw [decide_eq_false c]
        refine iteF ?_
        have e : within? lo hi (some i) = false := by simp [within?, c]
        rw [e] at q
        exact q
end
end Lr

set_option Elab.async false
set_option linter.all false
set_option maxRecDepth 100000
set_option maxHeartbeats 4000000
/-! ==, != by an own __eq__: readings over the hand layer. -/
namespace Ow
open PySem PySem.Spec PyProof.Rows L2
section
variable {X : Cx} {CX : CXT} {pins : List (Addr × Obj)} {σ : L2.St} {H : Hp} {s : Shared} {a C g : Addr} {n : Nat} {sp : Sp} {E : XK}
/-- x == y (or another comparison with its own def), both instances of the class at C -/
theorem op_cmpO {op : CmpOp} (hop : ∀ a b, compareOp op a b = richCompare op a b) (hs : PySem.W.findIn X.K (.ref C) (cmpInfo op).2.1 = some (some (.ref g))) (hf : PySem.W.isFn X.K (.ref g) = true)
    (F : FnR X.prog X.w X.K X.mg X.base CX n g sp) (hr : Room n X.A) (hx : Passes CX X E) : OpR X (compareOp op) (rBinO C sp E) := by
  intro pins s σ H x y v u Q I rx ry h
  obtain ⟨a, dx, fs, b, dy, gs, rfl, rfl, ha, hb, q⟩ := h
  cases (show v = Value.ref a from rx)
  cases (show u = Value.ref b from ry)
  obtain ⟨ox, od, J, _⟩ := StX.insC_at (X := X) I (.inr ⟨dx, fs, ha⟩)
  obtain ⟨ox', od', J', _⟩ := StX.insC_at (X := X) I (.inr ⟨dy, gs, hb⟩)
  obtain ⟨m, hF⟩ := I.fr
  rw [hop]
  refine PySem.W.cmp_K (op := op) (tb := .ref C) hr.units0 hF I.ok.mod.kin J J'.type (by simp [PySem.W.notFirst]) hs hf ?_
  refine wpAny_mono (wpAny_call (run_fnR (us := [.ref a, .ref b]) (vs := [.ref a, .ref b]) F hr hx I (.cons rfl (.cons rfl .nil)) q)) (fun w s' z => ?_) fun _ _ x => x
  obtain ⟨z', H', I', rz, qz⟩ := z
  exact SlX.cmpback rz ⟨z', H', I', rz, qz⟩
/-- what != asks of a class with its own == and without an own != -/
structure NeC (K : PySem.W.Frag) (C g : Addr) : Prop where
  eq : PySem.W.findIn K (.ref C) "__eq__" = some (some (.ref g))
  fn : PySem.W.isFn K (.ref g) = true
  ne : PySem.W.findIn K (.ref C) "__ne__" = some (some (.builtin "object.__ne__"))
  ob : PySem.W.mroIn K C (.type "object") = some true
theorem bound_ne {K : PySem.W.Frag} {M : Model} {A : Around} {E : Value → Shared → Prop} {s : Shared} {x C : Addr} {ox : Obj} {od : Option Obj} {args : List Value} {Q : Option Value → Shared → Prop} (Xk : K.In s.heap) (I : PySem.W.InstAt s.heap x ox C od)
    (hs : PySem.W.findIn K (.ref C) "__ne__" = some (some (.builtin "object.__ne__")))
    (h : wpAny M A (call (.builtin "object.__ne__") (.ref x :: args)) (fun v => Q (some v)) E s) : wpAny M A (callSpecialIfBound? (.ref x) "__ne__" args) Q E s := by
  unfold callSpecialIfBound? bindSpecialIfBound?
  refine wpAny_holding (wpAny_bind (wpAny_bind (wpAny_bind (I.type.here ((PySem.W.looks_findIn Xk hs).here ?_)))))
  have hb := PySem.F.cmp_object.ne.bind (.ref x)
  simp only [hb]
  refine wpAny_bind (wpAny_askSetting (wpAny_ite ?_))
  have last : wpAny M A (call (.builtin "object.__ne__") ([.ref x] ++ args) >>= fun r => pure (some r)) Q E s :=
    wpAny_bind (wpAny_mono h (fun r s' z => wpAny_pure z) fun _ _ z => z)
  split
  · exact wpAny_bind (wpAny_pure (wpAny_pure last))
  · exact wpAny_tryCatch (wpAny_bind (wpAny_pure (wpAny_pure last)))
/-- x != y -/
def rNeO (C : Addr) (sp : Sp) (E : XK) : R2 := fun x y H Q => ∃ a dx fs b dy gs, x = .ref a ∧ y = .ref b ∧ H a = some (.ins C dx fs) ∧ H b = some (.ins C dy gs) ∧ sp [x, y] H (fun v H' => ∃ k, v = .bl k ∧ Q (.bl (!k)) H') E
theorem op_neO (c : NeC X.K C g) (F : FnR X.prog X.w X.K X.mg X.base CX n g sp) (hr : Room (n + 1) X.A) (hx : Passes CX X E) : OpR X (compareOp .NotEq) (rNeO C sp E) := by
  intro pins s σ H x y v u Q I rx ry h
  obtain ⟨a, dx, fs, b, dy, gs, rfl, rfl, ha, hb, q⟩ := h
  cases (show v = Value.ref a from rx)
  cases (show u = Value.ref b from ry)
  obtain ⟨ox, od, J, _⟩ := StX.insC_at (X := X) I (.inr ⟨dx, fs, ha⟩)
  obtain ⟨ox', od', J', _⟩ := StX.insC_at (X := X) I (.inr ⟨dy, gs, hb⟩)
  have hr1 : Room n X.A.in1 := hr.in1
  have body : wpAny (model X.prog X.w) X.A.in1 (call (.ref g) [.ref a, .ref b]) (EP X pins σ fun v H' => ∃ k, v = .bl k ∧ Q (.bl (!k)) H') X.xe s :=
    wpAny_call (SlX.run_at (us := [.ref a, .ref b]) (ws := [.ref a, .ref b]) F hr1 I.env0.in1 hx I (.cons rfl (.cons rfl .nil)) q)
  have entry : wpAny (model X.prog X.w) X.A.in1 (Builtin.«object.__ne__» ⟨[.ref a, .ref b], []⟩) (fun fin s' => ∃ k, fin = .done (.ret (.bool k)) ∧ EP X pins σ Q (.bool k) s') X.xe s := by
    unfold Builtin.«object.__ne__»
    repeat (first
      | with_reducible refine wpAny_cRoomFor hr1.units0 ?_
      | (refine wpAny_bind (m := callSpecialIfBound? (.ref a) (Str.ofString "__eq__") [.ref b])
          (PySem.W.ifBound_K I.kIn J c.eq c.fn (wpAny_mono body (fun r s' hr => by
            obtain ⟨z, H', I', rz, k, ek, qk⟩ := hr
            subst ek
            cases (show r = Value.bool k from rz)
            repeat (first | exact ⟨_, rfl, .bl (!k), H', I', rfl, qk⟩ | exact wpAny_pure ⟨_, rfl, .bl (!k), H', I', rfl, qk⟩ | exact wpAny_truthy_bool ⟨_, rfl, .bl (!k), H', I', rfl, qk⟩ | (refine wpAny_bind (m := truthy (.bool _)) (wpAny_truthy_bool ?_)) | wp_step)) fun _ _ e => e)))
      | wp_step)
  have called : wpAny (model X.prog X.w) X.A (call (.builtin "object.__ne__") [.ref a, .ref b]) (fun r s' => ∃ k, r = .bool k ∧ EP X pins σ Q (.bool k) s') X.xe s := by
    refine wpAny_call (codeAny_call_builtin PySem.F.cmp_object.ne.plain PySem.F.cmpEntry_ne (PySem.W.check_slot PySem.F.cmpKind_ne PySem.F.cmpSplit_ne (J.type.andThen (PySem.W.looks_mroIn I.kIn c.ob)) (PySem.F.cmpArgs_ne _ _) (wpAny_mono entry (fun fin s' z => ?_) fun _ _ z => z)))
    obtain ⟨k, rfl, z⟩ := z
    exact ⟨k, rfl, z⟩
  show wpAny (model X.prog X.w) X.A (richCompare .NotEq (.ref a) (.ref b)) _ _ s
  unfold richCompare
  simp only [oneThing_ref]
  refine wpAny_holding (wpAny_bind (wpAny_cRoomFor hr.units0 ?_))
  refine wpAny_bind (J.type.here (wpAny_bind (J'.type.here ?_)))
  rw [if_neg (by simp)]
  refine wpAny_bind (wpAny_pure ?_)
  rw [if_neg (by simp)]
  refine wpAny_bind (m := tryCompare (.ref a) (cmpInfo .NotEq).2.1 (.ref b)) ?_
  unfold tryCompare
  refine wpAny_bind (m := callSpecialIfBound? (.ref a) (Str.ofString "__ne__") [.ref b]) (bound_ne I.kIn J c.ne (wpAny_mono called (fun r s' z => ?_) fun _ _ z => z))
  obtain ⟨k, rfl, z⟩ := z
  first
    | exact wpAny_pure (wpAny_pure z)
    | exact wpAny_pure z
end
end Ow

set_option Elab.async false
set_option linter.all false
set_option maxRecDepth 100000
set_option maxHeartbeats 4000000
/-! len(x), e in x by own methods: readings over the hand layer. -/
namespace Ow
open PySem PySem.Spec PyProof.Rows L2
section
variable {X : Cx} {CX : CXT} {C g : Addr} {n : Nat} {sp : Sp} {E : XK}
def rLenO (C : Addr) (sp : Sp) (E : XK) : List V → Hp → VK → Prop := fun xs H Q => ∃ a dx fs, xs = [V.ref a] ∧ H a = some (.ins C dx fs) ∧ sp [.ref a] H (fun v H' => ∃ i : Nat, v = .int (i : Int) ∧ i < 1000000 ∧ Q v H') E
theorem call_lenO (hs : PySem.W.findIn X.K (.ref C) "__len__" = some (some (.ref g))) (hf : PySem.W.isFn X.K (.ref g) = true) (F : FnR X.prog X.w X.K X.mg X.base CX n g sp) (hr : Room (n + 1) X.A) (hx : Passes CX X E) : CallR X (.builtin "len") (rLenO C sp E) := by
  intro pins s σ H xs us Q I r h
  obtain ⟨a, dx, fs, rfl, ha, q⟩ := h
  obtain ⟨u, rfl, ru⟩ := r.one
  cases (show u = Value.ref a from ru)
  obtain ⟨ox, od, J, _⟩ := StX.insC_at (X := X) I (.inr ⟨dx, fs, ha⟩)
  obtain ⟨m, hF⟩ := I.fr
  have hr1 : Room n X.A.in1 := hr.in1
  refine PySem.W.len_K hF I.ok.mod.kin J hs hf (wpAny_mono (wpAny_call (SlX.run_at (us := [.ref a]) (ws := [.ref a]) F hr1 I.env0.in1 hx I (.cons rfl .nil) q)) (fun w s' z => ?_) fun _ _ e => e)
  obtain ⟨z', H', I', rz, i, ei, hi, qz⟩ := z
  subst ei
  obtain ⟨t, e⟩ := (show ∃ t, w = Value.int (i : Int) t from rz)
  subst e
  exact ⟨⟨by omega, by omega⟩, .int (i : Int), H', I'.tok _, ⟨_, rfl⟩, qz⟩
/-- e in x -/
def rInO (C : Addr) (sp : Sp) (E : XK) : R2 := fun x y H Q => ∃ a dx fs, y = V.ref a ∧ H a = some (.ins C dx fs) ∧ sp [.ref a, x] H (fun v H' => ∃ k, v = .bl k ∧ Q (.bl k) H') E
theorem op_inO (hs : PySem.W.findIn X.K (.ref C) "__contains__" = some (some (.ref g))) (hf : PySem.W.isFn X.K (.ref g) = true) (F : FnR X.prog X.w X.K X.mg X.base CX n g sp) (hr : Room n X.A) (hx : Passes CX X E) : OpR X (compareOp .In) (rInO C sp E) := by
  intro pins s σ H x y v u Q I rx ry h
  obtain ⟨a, dx, fs, rfl, ha, q⟩ := h
  cases (show u = Value.ref a from ry)
  obtain ⟨ox, od, J, _⟩ := StX.insC_at (X := X) I (.inr ⟨dx, fs, ha⟩)
  obtain ⟨m, hF⟩ := I.fr
  refine PySem.W.in_K hF I.ok.mod.kin J hs hf (wpAny_mono (wpAny_call (SlX.run_at (us := [.ref a, v]) (ws := [.ref a, x]) F hr I.env0 hx I (.cons rfl (.cons rx .nil)) q)) (fun w s' z => ?_) fun _ _ e => e)
  obtain ⟨z', H', I', rz, k, ek, qz⟩ := z
  subst ek
  cases (show w = Value.bool k from rz)
  exact wpAny_truthy_bool ⟨.bl k, H', I', rfl, qz⟩
end
end Ow

set_option Elab.async false
set_option linter.all false
set_option maxRecDepth 100000
set_option maxHeartbeats 4000000
/-! A walk over an instance whose __iter__ gives an iterator over a tuple. -/
namespace Ow
open PySem PySem.Spec PyProof.Rows L2
section
variable {prog : Program} {w : World} {A : Around} {E : Value → Shared → Prop} {s : Shared} {l : Addr} {items : Array Value}
theorem iter_tup {Q : Value → Shared → Prop} (hl : s.heap.IsTuple l items) (h : Q (.ref s.heap.objs.size) { s with heap := s.heap.push { cls := .type "tuple_iterator", data := .fields #[.ref l, .int 0 0] } }) : wpAny (model prog w) A (call (.builtin "iter") [.ref l]) Q E s := by
  have en := PySem.W.kdk_entry_iter
  refine Calls.call_function_entry (s := s) (by decide +kernel) (by decide +kernel) en (PySem.W.kdk_args_iter (.ref l)) ?_
  unfold Builtin.«iter»
  refine wpAny_bind (m := someArgs "iter" 1 2 ⟨[.ref l], []⟩) (wpAny_of_eq (a := [Value.ref l]) (by first | rfl | kernel_rfl) ?_)
  show wpAny (model prog w) _ (pyIter (.ref l) >>= fun z => ret z) _ _ s
  refine wpAny_bind (wpAny_pyIter_tuple hl ?_)
  exact wpAny_pure ⟨_, rfl, h⟩
end
/-- an iterator over the tuple at t stands at it, at its beginning -/
def ItT (t it : Addr) : HO := .ext fun h => h.IsTupleIter it t 0
section
variable {X : Cx}
/-- iter(t), a tuple -/
def rIterT (K : PySem.W.Frag) (n : Nat) : List V → Hp → VK → Prop := fun xs H Q => ∃ (t : Addr) (zs : List V), xs = [.ref t] ∧ SqT K H t zs ∧ ∀ it, H it = Option.none → n ≤ it → Q (.ref it) (upd H it (ItT t it))
theorem call_iterT : CallR X (.builtin "iter") (rIterT X.K X.s_0.heap.objs.size) := by
  intro pins s σ H xs us Q I r h
  obtain ⟨t, zs, rfl, hq, q⟩ := h
  obtain ⟨u, rfl, ru⟩ := vals1 r
  cases ru
  obtain ⟨its, rv, p, hz⟩ := I.tuple hq
  refine iter_tup (show s.heap.IsTuple t its.toArray from p) ?_
  have st : (s.heap.push { cls := .type "tuple_iterator", data := .fields #[.ref t, .int 0 0] }).IsTupleIter s.heap.objs.size t 0 := ⟨_, Heap.get?_push_size _ rfl, rfl, rfl⟩
  refine ⟨.ref s.heap.objs.size, _, I.laid (t' := s.toks) (o := ItT t s.heap.objs.size) (fun b u e => Heap.get?_push_of_some _ e) (Nat.le_refl _) ⟨st, ⟨_, Heap.get?_push_size _ rfl⟩, fun h1 h2 z k => ?_⟩, rfl, q _ (I.hok.fresh (Nat.le_refl _)) I.sz⟩
  exact z.at fun o e => k o e
end
/-- a def with one parameter, called at this state: what its body's reading gives -/
theorem run_here {CX : CXT} {P : Program} {w : World} {K : PySem.W.Frag} {mg : Str → Option Value} {base : Heap} {k : Nat} {f : Addr} {fd : FuncData} {x q : Str} {st : Stmt} {N ps : List Str} {A : Around} {outer : List Env} {s : Shared} {H : Hp} {us : List Value} {vs : List V} {R : V → Hp → Shared → Prop} {E : XK}
    (F : L2.Fun K x q st f fd) (S : FnScope N ps (defScope st)) (hl : vs.length = ps.length) (hr : Room (k + 1) A) (e0 : Env0 P w K mg base A outer s H) (hb : BindsTo s fd ⟨us, []⟩ (ps.zip us)) (r : Vals vs us)
    (body : ∀ cdv : Value, Room k (A.deeper (envOfC q (defScope st) s.heap.objs.size f cdv)) → ∃ t, PSs (cxOf CX P w K mg base N q (defScope st) f cdv A outer s H E).nox (defBody st) t ∧ t { nx := fun _ _ => False, rt := fun v H' => ∀ (pins : List (Addr × Obj)) (σ : L2.St) (s' : Shared), Inv (cxOf CX P w K mg base N q (defScope st) f cdv A outer s H E).nox pins σ H' s' → R v H' s' } (start N vs) H) :
    codeAny (model P w) A (.call (.ref f) ⟨us, []⟩) (fun r s' => ∃ v u H', r = .ok (.ret u) ∧ RelV v u ∧ R v H' s') s := by
  obtain ⟨oc, od, kV, doc, pm, an, cdv, ct, osl, rfl, lk, hcd⟩ := F.ex
  have Xin : K.In s.heap := e0.mod.kin.keeps fun b o z => (e0.bs b o z).1
  have free : s.heap.NoLimit := e0.mod.nolimit.keeps fun b o z => (e0.bs b o z).1
  have kinds : ∀ y ∈ ps.zip us, (defScope st).names.lookup y.1 = some .local ∨ ((defScope st).names.lookup y.1 = some .cell ∧ ((cellsFrom (s.heap.objs.size + 1) (defScope st).names []).lookup y.1).isSome = true) := by
    rintro ⟨n, v⟩ hy
    rcases S.par n (List.of_mem_zip hy).1 with z | z
    · exact .inl z
    · exact .inr ⟨z, PySem.W.cellsFrom_some _ _ _ (.inl z)⟩
  refine codeAny_call_function hr.depth (Xin _ _ lk) rfl S.co S.gen rfl (PySem.W.codeRec_of Xin hcd) (hb _ _ _ _ ?_)
  refine wpAny_newFunctionEnv_cells S.kind kinds fun env he s1 z => ?_
  subst he
  refine ⟨free.keeps z.toInCall.keep, codeAny_func ?_⟩
  obtain ⟨t, ht, hq⟩ := body cdv (hr.deeper _)
  have J := inv_start (CX := CX) (E := E) S hr.hd e0 hl r z
  refine wpAny_mono (ht.run [] s1 (start N vs) H _ (J.wish _) hq) (fun fl s' hs => ?_) fun e s' hs => False.elim hs
  cases fl with
  | ret u =>
    obtain ⟨v, σ', H', I', rv, hR⟩ := hs
    exact ⟨v, u, H', rfl, rv, hR _ _ _ I'⟩
  | next =>
    obtain ⟨_, _, _, z⟩ := hs
    exact z.elim
  | brk =>
    obtain ⟨_, _, _, z⟩ := hs
    exact z.elim
  | cont =>
    obtain ⟨_, _, _, z⟩ := hs
    exact z.elim
/-! ### the walk -/
/-- what the class's __iter__ does with an instance: a new iterator over the tuple that its field holds -/
def ItRun (P : Program) (w : World) (K : PySem.W.Frag) (mg : Str → Option Value) (base : Heap) (k : Nat) (C g : Addr) (nm : Str) : Prop := ∀ (A : Around) (outer : List Env) (s : Shared) (H : Hp) (a dx t : Addr) (zs : List V), Room k A → Env0 P w K mg base A outer s H →
  H a = some (.ins C dx [(nm, V.ref t)]) → SqT K H t zs →
  codeAny (model P w) A (.call (.ref g) ⟨[.ref a], []⟩) (fun r s' => ∃ it : Addr, r = .ok (.ret (.ref it)) ∧ s.heap.objs.size ≤ it ∧ s'.heap.IsTupleIter it t 0 ∧ CE outer P w H s (fun v H' => v = .ref it ∧ H' = H) (.ref it) s') s
theorem it_run {P : Program} {w : World} {K : PySem.W.Frag} {mg : Str → Option Value} {base : Heap} {C g : Addr} {fd : FuncData} {st : Stmt} {q nm : Str} (F : L2.Fun K "__iter__" q st g fd) (S : FnScope ["self"] ["self"] (defScope st)) (b : Binds K fd ["self"] []) (cl : Cls K C) (nR : NoAttr K C nm)
    (body : ∀ (cdv : Value) (A : Around) (outer : List Env) (s : Shared) (H : Hp), PSs (cxOf CX0 P w K mg base ["self"] q (defScope st) g cdv A outer s H E0).nox (defBody st) (tRet (tCB (rIterT K s.heap.objs.size) (tCons (tFld K (tVar 0) nm) tNil)))) : ItRun P w K mg base 1 C g nm := by
  intro A outer s H a dx t zs hr e0 ha ht
  have hb : BindsTo s fd ⟨[.ref a], []⟩ ([("self" : Str)].zip [Value.ref a]) := b s [.ref a] (e0.mod.kin.keeps fun c o z => (e0.bs c o z).1) rfl
  refine codeAny_mono (run_here (CX := CX0) (k := 0) (E := E0) (vs := [V.ref a]) (R := fun v H' s' => ∃ it, v = .ref it ∧ s.heap.objs.size ≤ it ∧ s'.heap.IsTupleIter it t 0 ∧ CE outer P w H s (fun v H' => v = .ref it ∧ H' = H) (.ref it) s') F S rfl hr e0 hb (.cons rfl .nil) fun cdv _ => ⟨_, body cdv A outer s H, ?_⟩) fun r s' z => ?_
  · refine ⟨_, rfl, a, C, dx, _, _, rfl, ha, cl, nR, by simp [List.lookup], t, zs, rfl, ht, fun it nit hit pins σ s' I => ⟨it, rfl, hit, ?_, ?_⟩⟩
    · exact (I.hok it _ upd_same).1
    · have I2 := ItX.inv_drop (φ := fun h => h.IsTupleIter it t 0) I upd_same
      rw [ItX.dropH_upd nit] at I2
      exact ⟨.ref it, H, I2.os, I2.bare, I2.base, I2.hok, rfl, rfl, rfl⟩
  · obtain ⟨v, u, H', rfl, ru, it, rfl, h1, h2, h3⟩ := z
    cases (show u = Value.ref it from ru)
    exact ⟨it, rfl, h1, h2, h3⟩
section
variable {X : Cx} {tg : Expr} {C g : Addr} {k : Nat} {nm : Str}
/-- an instance of the class at C walked: the items of the tuple in its field -/
def iOwn (K : PySem.W.Frag) (C : Addr) (nm : Str) (tl : TE) : TI := fun σ H R => tl σ H fun x H1 => ∃ a dx t, x = V.ref a ∧ H1 a = some (.ins C dx [(nm, V.ref t)]) ∧ (∃ zs, SqT K H1 t zs) ∧ R (Itt K t) H1
theorem pi_own {l : Expr} {tl : TE} (hs : PySem.W.findIn X.K (.ref C) "__iter__" = some (some (.ref g))) (hf : PySem.W.isFn X.K (.ref g) = true) (G : ItRun X.prog X.w X.K X.mg X.base k C g nm) (hr : Room k X.A) (hl : PE X l tl) : PI X tg l (iOwn X.K C nm tl) := by
  refine ⟨fun pins s σ H R I h => ?_⟩
  refine thn (hl.run pins s σ H _ I h) fun v s1 ⟨x, H1, I1, r1, a, dx, t, ex, ha, ⟨zs, ht⟩, q⟩ => ?_
  subst ex
  cases (show v = Value.ref a from r1)
  obtain ⟨ox, od, J, _⟩ := StX.insC_at (X := X) I1 (.inr ⟨dx, _, ha⟩)
  have called : wpAny (model X.prog X.w) X.A (call (.ref g) [.ref a]) (fun r s' => ∃ it : Addr, r = .ref it ∧ s1.heap.objs.size ≤ it ∧ s'.heap.IsTupleIter it t 0 ∧ CE X.stack X.prog X.w H1 s1 (fun v H' => v = .ref it ∧ H' = H1) (.ref it) s') X.xe s1 := by
    refine wpAny_call (codeAny_mono (G X.A X.stack s1 H1 a dx t zs hr I1.env0 ha ht) fun r s' z => ?_)
    obtain ⟨it, rfl, z1, z2, z3⟩ := z
    exact ⟨it, rfl, z1, z2, z3⟩
  obtain ⟨m, hF⟩ := I1.fr
  refine PySem.W.owit_iter hF I1.ok.mod.kin J hs hf (wpAny_mono called (fun r s' z => ?_) fun _ _ z => z)
  obtain ⟨it, rfl, z1, z2, z3⟩ := z
  unfold PySem.W.OwitIt
  refine wpAny_specialOf z2.typeIs PySem.F.slot_tuple_iterator_next.lookup ?_
  obtain ⟨v, H', I2, rv, ev, eH⟩ := I1.after z3
  subst eH
  refine ⟨it, [it], _, _, H', rfl, I2, turn_tuple t it, z2, fun b hb => ?_, q⟩
  obtain rfl := List.mem_singleton.mp hb
  exact I1.fpOk z1 (I1.hok.fresh z1)
end
end Ow

set_option Elab.async false
set_option linter.all false
set_option maxRecDepth 100000
set_option maxHeartbeats 4000000
/-! Defs that are called while no repr is under way: their promise, their body, their call, the law's end; repr of data of any depth. -/
namespace Og
open PySem PySem.Spec PyProof.Rows L2 Ow
/-- the promise of a def at a state under which no repr is under way -/
structure FnG (P : Program) (w : World) (K : PySem.W.Frag) (mg : Str → Option Value) (base : Heap) (CX : CXT) (k : Nat) (f : Addr) (fd : FuncData) (ps : List Str) (sp : Sp) : Prop where
  len : ∀ {vs H Q E}, sp vs H Q E → vs.length = ps.length
  go : ∀ {A : Around} {outer : List Env} {s : Shared} {H : Hp} {ar : Args} {us : List Value} {vs : List V} {Q : VK} {E : XK}, Room k A → A.guards = some [] → Env0 P w K mg base A outer s H → BindsTo s fd ar (ps.zip us) → Vals vs us →
    sp vs H Q E → codeAny (model P w) A (.call (.ref f) ar) (CR CX outer P w H s Q E) s
section
variable {P : Program} {w : World} {K : PySem.W.Frag} {mg : Str → Option Value} {base : Heap} {CX : CXT} {j k : Nat} {f : Addr} {fd : FuncData} {ps : List Str} {sp sp' : Sp}
theorem FnG.of (F : FnOk P w K mg base CX k f fd ps sp) : FnG P w K mg base CX k f fd ps sp := ⟨fun h => F.len _ _ _ _ h, fun hr _ e0 hb r h => F.run _ _ _ _ _ _ _ _ _ hr e0 hb r h⟩
theorem FnG.mono (F : FnG P w K mg base CX j f fd ps sp) (h : j ≤ k) : FnG P w K mg base CX k f fd ps sp := ⟨F.len, fun hr => F.go (hr.mono h)⟩
theorem FnG.imp (F : FnG P w K mg base CX k f fd ps sp) (h : ∀ vs H Q E, sp' vs H Q E → sp vs H Q E) : FnG P w K mg base CX k f fd ps sp' := ⟨fun q => F.len (h _ _ _ _ q), fun hr hg e0 hb r q => F.go hr hg e0 hb r (h _ _ _ _ q)⟩
/-- a def's body, run at this state -/
theorem run_gen {x q : Str} {st : Stmt} {N : List Str} {A : Around} {outer : List Env} {s : Shared} {H : Hp} {ar : Args} {us : List Value} {vs : List V} {Q : VK} {E : XK}
    (F : L2.Fun K x q st f fd) (S : FnScope N ps (defScope st)) (hl : vs.length = ps.length) (hr : Room (k + 1) A) (e0 : Env0 P w K mg base A outer s H) (hb : BindsTo s fd ar (ps.zip us)) (r : Vals vs us)
    (body : ∀ cdv : Value, Room k (A.deeper (envOfC q (defScope st) s.heap.objs.size f cdv)) → ∃ t, PSs (cxOf CX P w K mg base N q (defScope st) f cdv A outer s H E) (defBody st) t ∧ t { nx := fun _ H' => Q .non H', rt := Q } (start N vs) H) :
    codeAny (model P w) A (.call (.ref f) ar) (CR CX outer P w H s Q E) s := by
  obtain ⟨oc, od, kV, doc, pm, an, cdv, ct, osl, rfl, lk, hcd⟩ := F.ex
  have Xin : K.In s.heap := e0.mod.kin.keeps fun b o z => (e0.bs b o z).1
  have free : s.heap.NoLimit := e0.mod.nolimit.keeps fun b o z => (e0.bs b o z).1
  have kinds : ∀ y ∈ ps.zip us, (defScope st).names.lookup y.1 = some .local ∨ ((defScope st).names.lookup y.1 = some .cell ∧ ((cellsFrom (s.heap.objs.size + 1) (defScope st).names []).lookup y.1).isSome = true) := by
    rintro ⟨n, v⟩ hy
    rcases S.par n (List.of_mem_zip hy).1 with z | z
    · exact .inl z
    · exact .inr ⟨z, PySem.W.cellsFrom_some _ _ _ (.inl z)⟩
  refine codeAny_call_function hr.depth (Xin _ _ lk) rfl S.co S.gen rfl (PySem.W.codeRec_of Xin hcd) (hb _ _ _ _ ?_)
  refine wpAny_newFunctionEnv_cells S.kind kinds fun env he s1 z => ?_
  subst he
  refine ⟨free.keeps z.toInCall.keep, codeAny_func ?_⟩
  obtain ⟨t, ht, hq⟩ := body cdv (hr.deeper _)
  have J := inv_start (CX := CX) (E := E) S hr.hd e0 hl r z
  have fin : ∀ {σ' : L2.St} {H' : Hp} {v : V} {u : Value} {s' : Shared}, Inv (cxOf CX P w K mg base N q (defScope st) f cdv A outer s H E) [] σ' H' s' → RelV v u → Q v H' → CE outer P w H s Q u s' :=
    fun J2 rv y => ⟨_, _, J2.os, J2.bare, J2.base, J2.hok, rv, y⟩
  refine wpAny_mono (ht.run [] s1 (start N vs) H _ J hq) (fun fl s' hs => ?_) fun e s' hs => hs
  cases fl with
  | ret u =>
    obtain ⟨v, σ', H', J2, rv, y⟩ := hs
    exact fin J2 rv y
  | next =>
    obtain ⟨σ', H', J2, y⟩ := hs
    exact fin (v := V.non) (u := Value.none) J2 rfl y
  | brk =>
    obtain ⟨_, _, _, z⟩ := hs
    exact z.elim
  | cont =>
    obtain ⟨_, _, _, z⟩ := hs
    exact z.elim
/-- the rule for a def of which nothing is let out -/
theorem okG {x q : Str} {st : Stmt} {N : List Str} (F : L2.Fun K x q st f fd) (S : FnScope N ps (defScope st)) (len : ∀ vs H Q E, sp vs H Q E → vs.length = ps.length)
    (body : ∀ (cdv : Value) (A : Around) (outer : List Env) (s : Shared) (H : Hp) (vs : List V) (Q : VK) (E : XK), Room k (A.deeper (envOfC q (defScope st) s.heap.objs.size f cdv)) → A.guards = some [] → sp vs H Q E →
      ∃ t, PSs (cxOf CX P w K mg base N q (defScope st) f cdv A outer s H E).nox (defBody st) t ∧ t { nx := fun _ H' => Q .non H', rt := Q } (start N vs) H) : FnG P w K mg base CX (k + 1) f fd ps sp :=
  ⟨fun h => len _ _ _ _ h, fun hr hg e0 hb r h => run_gen F S (len _ _ _ _ h) hr e0 hb r fun cdv hr2 => by
    obtain ⟨t, ht, hq⟩ := body cdv _ _ _ _ _ _ _ hr2 hg h
    exact ⟨t, ht.nox, hq⟩⟩
/-- .. for a def that may raise -/
theorem okGX {x q : Str} {st : Stmt} {N : List Str} (F : L2.Fun K x q st f fd) (S : FnScope N ps (defScope st)) (len : ∀ vs H Q E, sp vs H Q E → vs.length = ps.length)
    (body : ∀ (cdv : Value) (A : Around) (outer : List Env) (s : Shared) (H : Hp) (vs : List V) (Q : VK) (E : XK), Room k (A.deeper (envOfC q (defScope st) s.heap.objs.size f cdv)) → A.guards = some [] → sp vs H Q E →
      ∃ t, PSs (cxOf CX P w K mg base N q (defScope st) f cdv A outer s H E) (defBody st) t ∧ t { nx := fun _ H' => Q .non H', rt := Q } (start N vs) H) : FnG P w K mg base CX (k + 1) f fd ps sp :=
  ⟨fun h => len _ _ _ _ h, fun hr hg e0 hb r h => run_gen F S (len _ _ _ _ h) hr e0 hb r fun cdv hr2 => body cdv _ _ _ _ _ _ _ hr2 hg h⟩
end
section
variable {X : Cx} {CX : CXT} {k : Nat} {f : Addr} {fd : FuncData} {ps : List Str} {sp : Sp} {dvs : List V} {ds : List Value} {E : XK} {x : Str} {p pos : Pos} {e : Expr} {es : List Expr} {t : TA}
theorem pe_callG (F : FnG X.prog X.w X.K X.mg X.base CX k f fd ps sp) (hr : Room k X.A) (hG : X.A.guards = some []) (hg : Gl X x) (hm : X.mg x = some (.ref f)) (hk : PySem.W.keepIn X.K (.ref f) = true) (hb : Binds X.K fd ps ds) (hd : Vals dvs ds) (hx : Passes CX X E)
    (ha : PA X (e :: es) t) (hdb : (x == ("__debug__" : Str)) = false := by decide) (he : starEach (e :: es) X.env = (false, eval e X.env) :: starEach es X.env := by rfl) (hpl : (backTo pos (starEach es X.env)).any (·.1) = false := by rfl) :
    PE X (.Call (.Name x p) (e :: es) [] pos) (tCall sp dvs E t) := by
  refine ⟨fun pins s σ H Q I h => wpAny_Call_Name_kw (ld_glob I hg hm ?_ hdb)⟩
  refine PySem.W.callWith_K (h₀ := X.base) I.ok.mod.kin hk (thn (ha.run pos pins s σ H _ I h) fun us s1 ⟨vs, H1, J, r, q⟩ => ⟨J.kIn, ?_⟩) he hpl
  have rr : Vals (vs ++ dvs) (us ++ ds) := r.append hd
  have ll : (us ++ ds).length = ps.length := rr.length.symm.trans (F.len q)
  refine wpAny_call (codeAny_mono (F.go hr hG J.env0 (hb s1 us J.kIn ll) rr q) fun z s' hq => ?_)
  cases z with
  | error e => exact hx pins σ H1 s1 e s' J hq
  | ok fl =>
    cases fl with
    | ret u => exact J.after hq
    | next => exact hq.elim
    | brk => exact hq.elim
    | cont => exact hq.elim
/-- repr(x), x data of any depth without dicts -/
def rRepr (K : PySem.W.Frag) : List V → Hp → VK → Prop := fun xs H Q => ∃ (x : V) (d : PyData), xs = [x] ∧ Dp K H x d ∧ d.showable = true ∧ d.depth ≤ 20 ∧ d.shown.length ≤ sizeLine ∧ Q (.str d.shown) H
theorem dp_noDict {K : PySem.W.Frag} {H : Hp} : ∀ (d : PyData) {v : V}, Dp K H v d → d.hasDict = false := by
  intro d v h
  refine Dp.rec (motive_1 := fun v d _ => d.hasDict = false) (motive_2 := fun vs ds _ => PyData.hasDictAll ds = false) ?_ ?_ ?_ ?_ ?_ ?_ ?_ ?_ h
  · rfl
  · intro b; rfl
  · intro i; rfl
  · intro x; rfl
  · intro a xs ds h1 h2 ih
    simpa only [PyData.hasDict] using ih
  · intro a xs ds h1 h2 ih
    simpa only [PyData.hasDict] using ih
  · rfl
  · intro v vs d ds h1 h2 i1 i2
    simp only [PyData.hasDictAll, i1, i2, Bool.or_self]
theorem call_reprD (hG : X.A.guards = some []) (hu : X.A.units + 64 < cLine) : CallR X (.builtin "repr") (rRepr X.K) := by
  intro pins s σ H xs us Q I r h
  obtain ⟨x, d, rfl, hd, hs, hdep, hsz, q⟩ := h
  obtain ⟨u, rfl, ru⟩ := r.one
  obtain ⟨as, R⟩ := Dp.reads I d x u hd ru
  have fin : ∀ (h' : Heap) (t : Tok) (tk : Tok), (∀ b o, s.heap.get? b = some o → h'.get? b = some o) → EP X pins σ Q (.str d.shown t) { s with heap := h', toks := tk } := fun h' t tk hk => ⟨.str _, H, I.kept hk, ⟨_, rfl⟩, q⟩
  have same : EP X pins σ Q (.str d.shown s.toks) { s with toks := s.toks + 1 } := ⟨.str _, H, I.tok _, ⟨_, rfl⟩, q⟩
  cases R with
  | none => exact PySem.P.repr_of_none same
  | bool b => exact PySem.P.repr_of_bool same
  | int i t => exact PySem.P.repr_of_int (by simpa [PyData.showable] using hs) same
  | str x t => exact PySem.P.repr_of_str same hsz
  | list a b c d' => exact repr_of_reads' (Reads.list a b c d') hs (fun z => by rw [dp_noDict _ hd] at z; cases z) hG (by omega) (fun _ _ e => e) (fun h' u tk hk => fin h' u tk hk) hsz
  | tuple a b c d' => exact repr_of_reads' (Reads.tuple a b c d') hs (fun z => by rw [dp_noDict _ hd] at z; cases z) hG (by omega) (fun _ _ e => e) (fun h' u tk hk => fin h' u tk hk) hsz
  | dict a b c d' e => cases hd
end
/-! ### the law's end -/
section
variable {P : Program} {w : World} {K : PySem.W.Frag} {mg mb : Str → Option Value} {CX : CXT} {k : Nat} {fa a : Addr} {fd : FuncData} {x : Str} {sp : Sp} {s0 : Shared} {vs : List Value} {ns : List Int}
/-- the law's call at a heap in which at most the script is tracked -/
theorem end_at {H : Hp} (Ki : K.In s0.heap) (g1 : s0.heap.Ns mainGlobals mg) (g2 : s0.heap.Ns builtinsNs mb) (g3 : ∀ x : Str, x ≠ "__name__" → mb x = bootBuiltins x) (g4 : s0.heap.NoLimit) (g5 : s0.gens = #[])
    (ea : s0.heap.get? a = some { cls := .type "list", data := .seq vs.toArray }) (hr : Room k callerA) (F : ∀ base : Heap, K.In base → base.Ns mainGlobals mg → FnG P w K mg base CX k fa fd [x] sp)
    (hb : ∀ (s : Shared) (u : Value), BindsTo s fd ⟨[u], []⟩ [(x, u)]) (hO : Only H) (only : ∀ b, H b ≠ none → b = a) (own : H a ≠ none → K.lookup a = none) (hok : HOk P w H s0.heap) (hs : sp [.ref a] H (fun v _ => v = .bl true) fun _ _ _ => False)
    (hX : ∀ e s', CX [] H s0 (fun _ _ _ => False) e s' → False) :
    codeAny (model P w) callerA (.call (.ref fa) ⟨[.ref a], []⟩) (fun r s' => r = .ok (.ret (.bool true)) ∧ OldK s0.heap s'.heap ∧ s'.os = s0.os ∧ AllBare s'.gens) s0 := by
  -- what is tracked is the script, a list: no dict
  have dfree : ∀ {b : Addr} {o : Obj} {es : Array DictEntry} {ep : Nat}, s0.heap.get? b = some o → o.data = .dict es ep → H b = none := by
    intro b o es ep e1 e2
    rcases Option.eq_none_or_eq_some (H b) with z | ⟨y, z⟩
    · exact z
    · obtain rfl := only b (by rw [z]; exact Option.some_ne_none _)
      rw [ea] at e1
      cases e1
      exact nomatch e2
  have names : ∀ {b : Addr} {m : Str → Option Value}, s0.heap.Ns b m → (hidT s0.heap H).Ns b m := by
    rintro b m ⟨o, es, ep, e1, e2, r⟩
    exact ⟨o, es, ep, hidT_get e1 (dfree e1 e2), e2, r⟩
  have Kb : K.In (hidT s0.heap H) := fun b o e => hidT_get (Ki b o e) (by
    rcases Option.eq_none_or_eq_some (H b) with z | ⟨y, z⟩
    · exact z
    · obtain rfl := only b (by rw [z]; exact Option.some_ne_none _)
      rw [own (by rw [z]; exact Option.some_ne_none _)] at e
      cases e)
  obtain ⟨mc, l1, l2⟩ := g4
  have M : Mod K mg (hidT s0.heap H) := ⟨Kb, names g1, ⟨mb, names g2, g3⟩, ⟨mc, names l1, l2⟩⟩
  have e0 : Env0 P w K mg (hidT s0.heap H) callerA [] s0 H := by
    refine ⟨rfl, M, fun b o e => of_hidT e, Nat.le_of_eq (hidT_size _ _), trivial, fun b z => ?_, hok, .of_eq g5⟩
    cases (show b ∈ ([] : List Addr) from z)
  refine codeAny_mono ((F _ Kb (names g1)).go (us := [.ref a]) (vs := [.ref a]) hr rfl e0 (hb s0 (.ref a)) (.cons (show RelV (.ref a) (.ref a) from rfl) .nil) hs) fun r s' z => ?_
  cases r with
  | error e => exact (hX e s' z).elim
  | ok fl =>
    cases fl with
    | ret u =>
      obtain ⟨v, H', os, bare, un, hok', ru, y⟩ := z
      obtain rfl : v = .bl true := y
      cases (show u = Value.bool true from ru)
      refine ⟨rfl, OldK.of_keep fun b o e => ?_, os, bare⟩
      rcases hO b with y | ⟨ob, xs, y⟩
      · exact un.keep b o e y (fun q => nomatch (show b ∈ ([] : List Addr) from q)) (by simp)
      · have e1 := (hok b _ y).1
        have e2 := (hok' b _ (un.frzs b ob _ y)).1
        rw [e] at e1
        cases e1
        exact e2
    | next => exact z.elim
    | brk => exact z.elim
    | cont => exact z.elim
theorem end_call (Ki : K.In s0.heap) (g1 : s0.heap.Ns mainGlobals mg) (g2 : s0.heap.Ns builtinsNs mb) (g3 : ∀ x : Str, x ≠ "__name__" → mb x = bootBuiltins x) (g4 : s0.heap.NoLimit) (g5 : s0.gens = #[])
    (ea : s0.heap.get? a = some { cls := .type "list", data := .seq vs.toArray }) (hi : IntsAre vs ns) (hl : ns.length ≤ sizeLine) (hr : Room k callerA) (F : ∀ base : Heap, K.In base → base.Ns mainGlobals mg → FnG P w K mg base CX k fa fd [x] sp)
    (hb : ∀ (s : Shared) (u : Value), BindsTo s fd ⟨[u], []⟩ [(x, u)]) (hs : ∀ H : Hp, Only H → SqL K H a (ns.map V.int) → sp [.ref a] H (fun v _ => v = .bl true) fun _ _ _ => False)
    (hX : ∀ H e s', CX [] H s0 (fun _ _ _ => False) e s' → False) :
    codeAny (model P w) callerA (.call (.ref fa) ⟨[.ref a], []⟩) (fun r s' => r = .ok (.ret (.bool true)) ∧ OldK s0.heap s'.heap ∧ s'.os = s0.os ∧ AllBare s'.gens) s0 := by
  have rv : Vals (ns.map V.int) vs := vals_ints hi
  rcases Option.eq_none_or_eq_some (K.lookup a) with kn | ⟨o, kn⟩
  · -- the script is tracked, as an object that nothing changes
    have at_a : (fun b => if b = a then some (HO.frz { cls := .type "list", data := .seq vs.toArray } (.lst (ns.map V.int))) else none : Hp) a = some (.frz { cls := .type "list", data := .seq vs.toArray } (.lst (ns.map V.int))) := if_pos rfl
    have off : ∀ b, b ≠ a → (fun b => if b = a then some (HO.frz { cls := .type "list", data := .seq vs.toArray } (.lst (ns.map V.int))) else none : Hp) b = none := fun b h => if_neg h
    generalize (fun b => if b = a then some (HO.frz { cls := .type "list", data := .seq vs.toArray } (.lst (ns.map V.int))) else none : Hp) = H at at_a off
    have oo : Only H := fun b => by
      by_cases h : b = a
      · subst h
        exact .inr ⟨_, _, at_a⟩
      · exact .inl (off b h)
    refine end_at Ki g1 g2 g3 g4 g5 ea hr F hb oo (fun b h => Classical.byContradiction fun n => h (off b n)) (fun _ => kn) (fun b u z => ?_) (hs H oo (.inl (.inr ⟨_, at_a⟩))) (hX H)
    by_cases h : b = a
    · subst h
      rw [at_a] at z
      cases z
      exact ⟨ea, by rw [List.length_map]; exact hl, vs, _, rv, ea⟩
    · rw [off b h] at z
      cases z
  · -- the script is an object of the module
    have e := Ki a o kn
    rw [ea] at e
    cases e
    have oo : Only (fun _ => none) := fun _ => .inl rfl
    refine end_at Ki g1 g2 g3 g4 g5 ea hr F hb oo (fun b h => (h rfl).elim) (fun h => (h rfl).elim) (fun b u z => nomatch (show (none : Option HO) = some u from z)) (hs _ oo (.inr ⟨_, vs.toArray, _, kn, rfl, rfl, rfl, ?_, by simpa using rv⟩)) (hX _)
    rw [List.size_toArray, ← rv.length, List.length_map]
    exact hl
end
/-- the end: what the law's def promises, at each heap that the top leaves -/
theorem walk_end {l : PySem.W.OpenLaw} {n k : Nat} {q : Program} {loose : List Str} {XP : (Str → Option Value) → Heap → Prop} {YP : World → Heap → Prop} {d : DefRec} {CX : CXT} {x : Str} (most : l.most = some n) (lt : n ≤ sizeLine) (nod : d.params.defaults = []) (room : Room k callerA)
    (F : ∀ (w : World) (mg : Str → Option Value) (fa : Addr) (h : Heap), YP w h → h.Ns mainGlobals mg → mg d.name = some (.ref fa) → ∃ (K : PySem.W.Frag) (fd : FuncData) (sp : Sp), K.In h ∧ (∀ (s : Shared) (u : Value), BindsTo s fd ⟨[u], []⟩ [(x, u)]) ∧
      (∀ (H : Hp) (a : Addr) (ns : List Int), ns.length ≤ n → Only H → SqL K H a (ns.map V.int) → sp [.ref a] H (fun v _ => v = .bl true) fun _ _ _ => False) ∧ ∀ base : Heap, K.In base → base.Ns mainGlobals mg → FnG l.prog w K mg base CX k fa fd [x] sp)
    (hX : ∀ (H : Hp) (s : Shared) (e : Value) (s' : Shared), CX [] H s (fun _ _ _ => False) e s' → False) : PySem.W.WalkO q loose XP YP l.row.toRowW d [] (fun f vs => PySem.call f vs) := by
  refine Att.attach_call most nod fun w s₀ s1 mg mb fa o pm cd doc a vs ns G Y z1 z2 z3 z4 obj its short gens => ?_
  obtain ⟨K, fd, sp, Ki, bd, pr, fn⟩ := F w mg fa _ Y G.T.g z4
  exact end_call Ki G.T.g G.T.b G.T.builtins G.T.nolimit gens obj its (Nat.le_trans short lt) room fn bd (fun H o q => pr H a ns short o q) fun H e s' => hX H s1 e s'
end Og

set_option Elab.async false
set_option linter.all false
set_option maxRecDepth 100000
set_option maxHeartbeats 4000000
/-! A caught exception that stays a value behind its handler: tracked, asked by isinstance, its fields read. -/
namespace Oe
open PySem PySem.Spec PyProof.Rows L2
/-- at a: an exception object of the class cls, its dict at d -/
def ExK (cls : Value) (d : Option Addr) (a : Addr) : HO := .ext fun h => ∃ (oe : Obj) (vs : Array Value), h.get? a = some oe ∧ Zc cls d oe ∧ oe.data = .fields vs
theorem exK_ok {P : Program} {w : World} {H : Hp} {h : Heap} {a : Addr} {cls : Value} {d : Option Addr} {oe : Obj} {vs : Array Value} (e : h.get? a = some oe) (z : Zc cls d oe) (hd : oe.data = .fields vs) : ObjOk P w H h a (ExK cls d a) :=
  ⟨⟨oe, vs, e, z, hd⟩, ⟨oe, e⟩, fun _ _ ⟨o, v, q, r⟩ k => ⟨o, v, k o q, r⟩⟩
section
variable {X : Cx} {pins : List (Addr × Obj)} {σ : L2.St} {H : Hp} {s : Shared}
theorem Inv.track {a : Addr} {cls : Value} {d : Option Addr} {oe : Obj} {vs : Array Value} (I : Inv X pins σ H s) (he : s.heap.get? a = some oe) (hz : Zc cls d oe) (hd : oe.data = .fields vs) (na : H a = none) (n0 : X.s_0.heap.get? a = none) (nL : a ≠ X.env.locals)
    (nc : ∀ y c, X.env.cells.lookup y = some c → c ≠ a) (np : ∀ p ∈ X.pn ++ pins, p.1 ≠ a) : Inv X pins σ (upd H a (ExK cls d a)) s := by
  have ne0 : ∀ b o, X.s_0.heap.get? b = some o → b ≠ a := fun b o e z => by
    rw [z, n0] at e
    cases e
  refine ⟨I.ok, I.os, I.bare, ⟨I.base.keep, I.base.slot, fun b o e n hq => ?_, I.base.there, fun b xs e => ?_, fun b o u e => ?_, fun b ps e => ?_⟩, I.loc, I.cell, ?_, fun x c e => ?_, fun p hp => ?_, I.hok.laidN (fun _ _ q => q) na (exK_ok he hz hd), I.len⟩
  · rw [upd_ne (ne0 b o e)]
    exact I.base.free b o e n hq
  · have q := I.base.tups b xs e
    rw [upd_ne (ne_of_none q na)]
    exact q
  · have q := I.base.frzs b o u e
    rw [upd_ne (ne_of_none q na)]
    exact q
  · obtain ⟨m, q⟩ := I.base.tbls b ps e
    exact ⟨m, by rw [upd_ne (ne_of_none q na)]; exact q⟩
  · rw [upd_ne (Ne.symm nL)]
    exact I.free
  · rw [upd_ne (nc x c e)]
    exact I.freeC x c e
  · obtain ⟨e, n, ne, nf, d⟩ := I.pin p hp
    exact ⟨e, by rw [upd_ne (np p hp)]; exact n, ne, nf, d⟩
end
/-- what 'except x as n: m = n' wishes of an exception of the body: x's class takes it, slot j is m's, and the exception stays a value -/
def wHeld (K : PySem.W.Frag) (c : Value) (i j n : Nat) (D : Ends) : WX := fun cls d σ H =>
  PySem.W.exmOne K cls c = some true ∧ ∀ a, H a = none → σ.length = n → D.nx (((σ.set i (some (.ref a))).set j (some (.ref a))).set i none) (upd H a (ExK cls d a))
section
variable {X : Cx} {x n m : Str} {c : Value} {i j : Nat} {body : List Stmt} {q1 q2 q3 np pos pos' : Pos} {tb : WX → TS}
/-- try: body / except x as n: m = n, every exception of the body one that x takes -/
theorem ps_try_held (hex : X.ex = []) (hs : X.stack = X.env :: X.outer) (hf : X.env.frame = some X.env.locals) (hN : X.N.Nodup) (hi : X.N[i]? = some n) (hj : X.N[j]? = some m) (hln : X.env.kindOf n = some .local) (hlm : X.env.kindOf m = some .local) (hc : Names X x c)
    (hb : ∀ (W : WX) (pn : List (Addr × Obj)) (xe : Value → Shared → Prop), Takes (X.tr pn xe) W → PassesOwn (model X.prog X.w) X.A X.env xe → PSs (X.tr pn xe) body (tb W))
    (hsu : ∀ (a : Addr) (oe : Obj) (pn : List (Addr × Obj)), PSs (X.suite a ((a, oe) :: pn)) [.Assign [.Name m q1] (.Name n q2) q3] (tAsg (tVar i) (gName j))) :
    PS X (.Try body [.ExceptHandler (some (.Name x np)) (some n) [.Assign [.Name m q1] (.Name n q2) q3] pos'] [] [] pos) (fun D σ H => tb (wHeld X.K c i j X.N.length D) D σ H) := by
  refine ⟨fun pins s σ H D I h => ?_⟩
  have ok := I.ok
  have hfr : X.A.frames = some (X.env :: X.outer) := by rw [ok.frames, hs]
  refine wpAny_Try_except ?_
  let land : Value → Shared → Prop := fun e t => wpAny (model X.prog X.w) X.A (noteFrame e X.env) (fun _ t2 => wpAny (model X.prog X.w) X.A (setFlight e none) (fun _ t3 =>
    wpAny (model X.prog X.w) X.A (handleBy e X.env [.ExceptHandler (some (.Name x np)) (some n) [.Assign [.Name m q1] (.Name n q2) q3] pos']) (SP X pins D) X.xe t3) X.xe t2) X.xe t
  have tk : Takes (X.tr (X.pn ++ pins) land) (wHeld X.K c i j X.N.length D) := fun u s' xx => ?caught
  refine wpAny_mono ((hb (wHeld X.K c i j X.N.length D) (X.pn ++ pins) land tk PassesOwn.looking).run [] s σ H D (I.toTry _) h) (fun f s1 hsp => ?through) (fun e s1 he => he)
  case through =>
    cases f with
    | next => exact hsp.elim fun σ' z => z.elim fun H' y => wpAny_execs_nil ⟨σ', H', y.1.ofTry ok, y.2⟩
    | brk => exact hsp.elim fun σ' z => z.elim fun H' y => ⟨σ', H', y.1.ofTry ok, y.2⟩
    | cont => exact hsp.elim fun σ' z => z.elim fun H' y => ⟨σ', H', y.1.ofTry ok, y.2⟩
    | ret u => exact hsp.elim fun v z => z.elim fun σ' y => y.elim fun H' x => ⟨v, σ', H', x.1.ofTry ok, x.2⟩
  case caught =>
    obtain ⟨a, B, sI, pins', σ', H', cls, d, rfl, J', nb, up, sky, na, os, ag, hx1, hyes⟩ := xx
    have J : Inv X pins σ' H' sI := J'.ofTry ok
    rw [show X.stack = X.env :: X.outer from hs] at nb
    show land (.ref a) s'
    refine Sky.land Zc.steady hfr hf (show Sky B (X.env :: X.outer) a (Zc cls d) X.env.locals s'.heap by rw [← hs]; exact sky) fun h3 fl3 up3 => ?_
    -- where the exception lies: no frame, not there at the entry
    have far : ∀ {h : Heap}, HandSPX.FlyingZ B (X.env :: X.outer) a (Zc cls d) h → a ∉ frs (X.env :: X.outer) := fun fl hm => by
      obtain ⟨oe, vs, e, _, dd⟩ := fl.there
      obtain ⟨_, o', e', hnf⟩ := fl.2.2.1.mem hm
      rw [e] at e'
      cases e'
      exact hnf _ dd
    have nfr := far fl3
    have nL : a ≠ X.env.locals := fun z => nfr (List.mem_filterMap.mpr ⟨X.env, List.mem_cons_self, by rw [hf, z]⟩)
    have nF : a ∉ X.fs := fun hm => by
      obtain ⟨e, he, q⟩ := List.mem_filterMap.mp hm
      exact nfr (List.mem_filterMap.mpr ⟨e, List.mem_cons_of_mem _ he, q⟩)
    have s0 : sI.heap.get? a = none := by
      cases z : sI.heap.get? a with
      | none => rfl
      | some o =>
        have z2 := nb a o z nfr
        rw [fl3.2.1] at z2
        cases z2
    have gone : ∀ {b : Addr} {o : Obj}, sI.heap.get? b = some o → b ≠ a := fun {b o} e z => by
      rw [z, s0] at e
      cases e
    have n0 : X.s_0.heap.get? a = none := by
      cases z : X.s_0.heap.get? a with
      | none => rfl
      | some o =>
        obtain ⟨o', z2⟩ := J.base.there a o z (by rw [hex]; exact fun z => nomatch z)
        exact absurd rfl (gone z2)
    obtain ⟨oe3, vs3, he3, hz3, hd3⟩ := fl3.there
    have back : ∀ {h4 : Heap}, HandSPX.FlyingZ B (X.env :: X.outer) a (Zc cls d) h4 → sI.heap.UpToSlots h4 → Inv X pins σ' H' { s' with heap := h4 } := fun fl u => J.landed (by rw [hs]; exact nb) fl.1 u os ag
    have J3 := back fl3 (up.trans up3)
    have S3 := J3.suite he3 hd3 na nL nF
    -- the class fits
    refine wpAny_handleBy_cons (codeAny_handlers_test ?_) (by intro q; cases q)
    have LT : PySem.W.Looks (model X.prog X.w) h3 (typeOf (.ref a)) cls := fun A Q E s k q => wpAny_typeOf_ref (k _ _ he3) (by rw [hz3.1]; exact q)
    have fits := PySem.W.exm_one (M := model X.prog X.w) J3.kIn LT hx1
    have named : ∀ {Q E : Value → Shared → Prop}, Q c { s' with heap := h3 } → wpAny (model X.prog X.w) (X.A.mark (some (.ref a))) (eval (.Name x np) X.env) Q E { s' with heap := h3 } := fun {Q E} q => by
      obtain ⟨hg, hdbg, hm | ⟨hm, hv, hnn⟩⟩ := hc
      · exact ld_glob (X := X.suite a ((a, oe3) :: (X.pn ++ pins))) S3 hg hm q hdbg
      · exact ld_blt (X := X.suite a ((a, oe3) :: (X.pn ++ pins))) S3 hg hm hv q hnn hdbg
    refine named (fits.here (codeAny_handlers_suite_as (HandSPX.lands_againZ fl3 fun h4 fl4 up4 => ?_)))
    obtain ⟨oe4, vs4, he4, hz4, hd4⟩ := fl4.there
    have S4 := (back fl4 ((up.trans up3).trans up4)).suite he4 hd4 na nL nF
    refine store_ok (X := X.suite a ((a, oe4) :: (X.pn ++ pins))) (v := .ref a) S4 hN hi (.inl hln) rfl (fun s5 S5 => ?_) (.inr hln)
    refine wpAny_mono ((hsu a oe4 (X.pn ++ pins)).run [] s5 _ H' { nx := fun σ6 H6 => σ6 = (σ'.set i (some (.ref a))).set j (some (.ref a)) ∧ H6 = H', rt := fun _ _ => False, bk := fun _ _ => False, ct := fun _ _ => False } S5 ?_) (fun f s6 hsp => ?_) (fun _ _ z => False.elim z)
    · have li : i < σ'.length := by
        rw [J.len]
        exact (List.getElem?_eq_some_iff.mp hi).1
      exact ⟨.ref a, List.getElem?_set_self li, rfl, rfl⟩
    cases f with
    | brk => exact hsp.elim fun _ z => z.elim fun _ y => y.2.elim
    | cont => exact hsp.elim fun _ z => z.elim fun _ y => y.2.elim
    | ret u => exact hsp.elim fun _ w => w.elim fun _ z => z.elim fun _ y => y.2.2.elim
    | next =>
      obtain ⟨σ6, H6, S6, rfl, rfl⟩ := hsp
      have hp6 := S6.pin (a, oe4) (List.mem_append_left _ List.mem_cons_self)
      have T6 := Inv.track (S6.unsuite ok) hp6.1 hz4 hd4 na n0 nL (fun y c e => (J.cell y c e).elim fun v z => z.elim fun o z2 => gone z2.1) fun p hp => gone (J.pin p hp).1
      exact gone_ok T6 hN hi hln fun s7 J7 => ⟨_, _, J7, hyes a na J.len⟩
end
/-! ### isinstance of it, a field of it -/
section
variable {X : Cx}
/-- isinstance(x, c), x an exception value of the own class D -/
def rIsX (K : PySem.W.Frag) : List V → Hp → VK → Prop := fun xs H Q => ∃ (a D : Addr) (d : Option Addr) (c : V) (cv : Value) (b : Bool), xs = [.ref a, c] ∧ H a = some (ExK (.ref D) d a) ∧ (∀ dd, d = some dd → ∃ fs, H dd = some (.xd fs)) ∧ L2.ExcC K D ∧ (∀ u, RelV c u → u = cv) ∧ PySem.W.kitOne K (.ref D) cv = some b ∧ Q (.bl b) H
theorem exK_at {P : Program} {w : World} {H : Hp} {h : Heap} {a : Addr} {cls : Value} {d : Option Addr} (hok : HOk P w H h) (he : H a = some (ExK cls d a)) : ∃ (oe : Obj) (vs : Array Value), h.get? a = some oe ∧ Zc cls d oe ∧ oe.data = .fields vs := by
  have x : ObjOk P w H h a (.ext fun h => ∃ (oe : Obj) (vs : Array Value), h.get? a = some oe ∧ Zc cls d oe ∧ oe.data = .fields vs) := hok a _ he
  exact x.1
/-- the object of a dict of an exception -/
theorem xd_obj {P : Program} {w : World} {H : Hp} {h : Heap} {dd : Addr} {fs : List (Str × V)} (hok : HOk P w H h) (e : H dd = some (.xd fs)) : ∃ mA, h.Ns1 dd mA ∧ ∀ f, RelO (fs.lookup f) (mA f) := by
  have hx : ObjOk P w H h dd (.xd fs) := hok dd _ e
  obtain ⟨mA, hns, hr⟩ := hx
  exact ⟨mA, hns, hr⟩
theorem exK_inst {P : Program} {w : World} {H : Hp} {h : Heap} {a D : Addr} {d : Option Addr} (hok : HOk P w H h) (he : H a = some (ExK (.ref D) d a)) (hd : ∀ dd, d = some dd → ∃ fs, H dd = some (.xd fs)) : ∃ oe od, PySem.W.InstAt h a oe D od := by
  obtain ⟨oe, vs, e1, hz, e2⟩ := exK_at hok he
  cases d with
  | none => exact ⟨oe, none, e1, hz.1, by unfold PySem.W.notCls; rw [e2] <;> rfl, by rw [hz.2]; trivial⟩
  | some dd =>
    obtain ⟨fs, ed⟩ := hd dd rfl
    obtain ⟨mA, hns, _⟩ := xd_obj hok ed
    obtain ⟨od, es, ep, ho, _⟩ := hns
    exact ⟨oe, some od, e1, hz.1, by unfold PySem.W.notCls; rw [e2] <;> rfl, by rw [hz.2]; exact ho⟩
theorem call_isX : CallR X (.builtin "isinstance") (rIsX X.K) := by
  intro pins s σ H xs us Q I r h
  obtain ⟨a, D, d, c, cv, b, rfl, he, hd, C, hcv, e, q⟩ := h
  cases r with
  | cons rx rr =>
    cases rr with
    | cons rt rr =>
      cases rr
      cases rx
      have ec := hcv _ rt
      subst ec
      obtain ⟨oe, od, J⟩ := exK_inst I.hok he hd
      have hcl : (PySem.W.clsIn X.K D).isSome = true := by
        obtain ⟨cd, hc, _⟩ := PySem.W.any_some C.hd
        rw [hc]
        rfl
      exact PySem.W.kia_one (PySem.W.kitx_exc hcl C.hg C.hk C.hs C.ha C.hn C.ht C.hm) I.kIn J e (fun z => nomatch z) fun tk => ⟨.bl b, H, I.kept (t' := tk) fun _ _ z => z, rfl, q⟩
/-- x.f, x an exception value of the own class C -/
def tXk (K : PySem.W.Frag) (f : Str) (te : TE) : TE := fun σ H Q => te σ H fun x H1 => ∃ (a C dd : Addr) (fs : List (Str × V)) (v : V), x = .ref a ∧ H1 a = some (ExK (.ref C) (some dd) a) ∧ H1 dd = some (.xd fs) ∧ XfC K C ∧ PySem.W.findIn K (.ref C) f = some none ∧ fs.lookup f = some v ∧ Q v H1
theorem pe_xk {e : Expr} {te : TE} {pos : Pos} {n : Str} (he : PE X e te) (hb : attributeBase e n X.env (eval e X.env) = eval e X.env := by rfl) : PE X (.Attribute e n pos) (tXk X.K n te) := by
  refine ⟨fun pins s σ H Q I h => ?_⟩
  refine attr_of hb (thn (he.run pins s σ H _ I h) fun u s1 hh => ?_)
  obtain ⟨x, H1, I1, rx, a, C, dd, fs, v, ex, ea, ed, T, hno, l, q⟩ := hh
  subst ex
  obtain rfl : u = Value.ref a := rx
  obtain ⟨oe, vs, e1, hz, e2⟩ := exK_at I1.hok ea
  obtain ⟨mA, hns, hr⟩ := xd_obj I1.hok ed
  obtain ⟨od, ho, hl⟩ := lookIn_ns hns
  obtain ⟨u, hu, ru⟩ := RelO.some_of (v := v) (o := mA n) (by rw [← l]; exact hr n)
  have J : PySem.W.InstAt s1.heap a oe C (some od) := ⟨e1, hz.1, by unfold PySem.W.notCls; rw [e2] <;> rfl, by rw [hz.2]; exact ho⟩
  exact HandSPX.exc_get I1.kIn J T.ga T.gg T.exC (PySem.W.findObj_own T.hdC hno rfl (by rw [hl, hu])) (handed_of ru) ⟨v, H1, I1.tok _, ru, q⟩
end
end Oe

set_option Elab.async false
set_option linter.all false
set_option maxRecDepth 100000
set_option maxHeartbeats 4000000
/-! A def with one parameter, a star parameter and one keyword-only parameter with a default; making an instance by such an __init__. -/
namespace Ow
open PySem PySem.Spec PyProof.Rows L2
section
variable {CX : CXT} {P : Program} {w : World} {K : PySem.W.Frag} {mg : Str → Option Value} {base : Heap} {k : Nat} {f : Addr}
/-- what such a def keeps, its keyword given (kw = some ..) or not: sp is told self, the keyword's value, the star's tuple -/
structure FnM (P : Program) (w : World) (K : PySem.W.Frag) (mg : Str → Option Value) (base : Heap) (CX : CXT) (k : Nat) (f : Addr) (mk : Str) (dv : V) (sp : Sp) : Prop where
  kw : ∀ (A : Around) (outer : List Env) (s : Shared) (H : Hp) (a m : Value) (us : List Value) (va vm : V) (vs : List V) (Q : VK) (E : XK), Room k A → Env0 P w K mg base A outer s H → RelV va a → RelV vm m → Vals vs us → vs.length ≤ sizeLine →
    (∀ p, H p = none → sp [va, vm, .ref p] (upd H p (.tup vs)) Q E) → codeAny (model P w) A (.call (.ref f) ⟨a :: us, [(mk, m)]⟩) (CR CX outer P w H s Q E) s
  no : ∀ (A : Around) (outer : List Env) (s : Shared) (H : Hp) (a : Value) (us : List Value) (va : V) (vs : List V) (Q : VK) (E : XK), Room k A → Env0 P w K mg base A outer s H → RelV va a → Vals vs us → vs.length ≤ sizeLine →
    (∀ p, H p = none → sp [va, dv, .ref p] (upd H p (.tup vs)) Q E) → codeAny (model P w) A (.call (.ref f) ⟨a :: us, []⟩) (CR CX outer P w H s Q E) s
theorem fnM_of {name qual : Str} {params : Arguments} {body : List Stmt} {scope : Scope} {dV kV doc pm cdv ct oc : Value} {an od : Option Addr} {osl : Array (Option Value)} {N : List Str} {sp : Sp} {p1 mk pv : Str} {dv : V} {du : Value} {D : Addr}
    (lk : K.lookup f = some ⟨oc, od, .func (PySem.W.fnOf name qual params body scope dV kV doc pm an cdv ct), osl⟩) (hcd : PySem.W.codeIn K cdv qual = true) (S : FnScope N [p1, mk, pv] scope) (hCX : StX.CXUp CX)
    (hk : ∀ (a m : Value) (rest : List Value), bindArgs (PySem.W.fnOf name qual params body scope dV kV doc pm an cdv ct) ⟨a :: rest, [(mk, m)]⟩ = (newTuple rest >>= fun t => pure [(p1, a), (mk, m), (pv, t)]))
    (hd : PySem.W.nsIn K D mk = some (some du)) (rd : RelV dv du)
    (hn : ∀ (a : Value) (rest : List Value), ∃ (β γ : Type) (k1 : Option Value → Sem β) (k2 : β → Sem γ) (k3 : γ → Sem (List (Str × Value))) (b : β), bindArgs (PySem.W.fnOf name qual params body scope dV kV doc pm an cdv ct) ⟨a :: rest, []⟩ = ((nsGet D mk >>= k1) >>= k2) >>= k3 ∧ k1 (some du) = pure b ∧ (k2 b >>= k3) = (newTuple rest >>= fun t => pure [(p1, a), (mk, du), (pv, t)]))
    (hbody : ∀ (A : Around) (outer : List Env) (s : Shared) (H : Hp) (vs : List V) (Q : VK) (E : XK), Room k (A.deeper (envOfC qual scope s.heap.objs.size f cdv)) → sp vs H Q E →
      ∃ t, PSs (cxOf CX P w K mg base N qual scope f cdv A outer s H E) body t ∧ t { nx := fun _ H' => Q .non H', rt := Q } (start N vs) H) : FnM P w K mg base CX (k + 1) f mk dv sp := by
  have core : ∀ (A : Around) (outer : List Env) (s : Shared) (H : Hp) (a m : Value) (us : List Value) (va vm : V) (vs : List V) (Q : VK) (E : XK) (args : Args), Room (k + 1) A → Env0 P w K mg base A outer s H → RelV va a → RelV vm m → Vals vs us → vs.length ≤ sizeLine →
      (∀ p, H p = none → sp [va, vm, .ref p] (upd H p (.tup vs)) Q E) →
      (∀ (A' : Around) (Ex : Value → Shared → Prop) (Q' : List (Str × Value) → Shared → Prop), wpAny (model P w) A' (newTuple us >>= fun t => pure [(p1, a), (mk, m), (pv, t)]) Q' Ex s → wpAny (model P w) A' (bindArgs (PySem.W.fnOf name qual params body scope dV kV doc pm an cdv ct) args) Q' Ex s) →
      codeAny (model P w) A (.call (.ref f) args) (CR CX outer P w H s Q E) s := by
    intro A outer s H a m us va vm vs Q E args hr e0 ra rm r hz hq hb
    have hn : H s.heap.objs.size = Option.none := e0.hok.fresh (Nat.le_refl _)
    have hl2 : us.length ≤ sizeLine := by rw [← r.length]; exact hz
    refine StX.run_bnd lk hcd S hr e0 (G := fun xs H2 => ∃ p, H p = Option.none ∧ xs = [va, vm, V.ref p] ∧ H2 = upd H p (.tup vs)) (fun A' Ex Q' h => ?_) fun s2 H2 xs ⟨p, hp, ex, eH⟩ hr' => ?_
    · refine hb A' Ex Q' ?_
      refine wpAny_bind (wpAny_newTuple (wpAny_pure ?_) hl2)
      have new : ObjOk P w (upd H s.heap.objs.size (.tup vs)) (s.heap.push ({ cls := .type "tuple", data := .seq us.toArray } : Obj)) s.heap.objs.size (.tup vs) := ⟨hz, us, r, ⟨_, Heap.get?_push_size _ rfl, rfl, _, rfl⟩⟩
      have un := StX.un_laid (fs := frs outer) (s := s) (o := ({ cls := .type "tuple", data := .seq us.toArray } : Obj)) (u := .tup vs) hn
      exact h _ _ [va, vm, V.ref s.heap.objs.size] [a, m, Value.ref s.heap.objs.size] (StX.env0_laid e0 new) un rfl (fun e s' => hCX outer s H _ _ E e s' un (fun b o q => Heap.get?_push_of_some _ q) rfl) (.cons ra (.cons rm (.cons rfl .nil))) rfl ⟨_, hn, rfl, rfl⟩
    · subst ex eH
      exact hbody A outer s2 _ _ Q E hr' (hq p hp)
  refine ⟨fun A outer s H a m us va vm vs Q E hr e0 ra rm r hz hq => core A outer s H a m us va vm vs Q E _ hr e0 ra rm r hz hq fun A' Ex Q' h => ?_, fun A outer s H a us va vs Q E hr e0 ra r hz hq => core A outer s H a du us va dv vs Q E _ hr e0 ra rd r hz hq fun A' Ex Q' h => ?_⟩
  · rw [hk]
    exact h
  · obtain ⟨β, γ, k1, k2, k3, b, e1, e2, e3⟩ := hn a us
    have KX : K.In s.heap := e0.mod.kin.keeps fun b o e => (e0.bs b o e).1
    have l1 : PySem.W.Looks (model P w) s.heap (nsGet D mk >>= k1) b := (PySem.W.looks_nsIn KX hd).andThen (PySem.W.Looks.of_pure e2)
    rw [e1, bind_assoc]
    exact wpAny_bind (l1.here (by rw [e3]; exact h))
end
def mkAskM (C : Addr) (sp : Sp) (E : XK) (vm : V) (vs : List V) (H : Hp) (Q : VK) : Prop := vs.length ≤ sizeLine ∧ ∀ x dx, H x = none → H dx = none → dx ≠ x → ∀ p, (upd (upd H dx (.own x)) x (.ins C dx [])) p = none →
  sp [.ref x, vm, .ref p] (upd (upd (upd H dx (.own x)) x (.ins C dx [])) p (.tup vs)) (fun v H2 => v = .non ∧ Q (.ref x) H2) E
section
variable {X : Cx} {CX : CXT} {k : Nat} {f C : Addr} {sp : Sp} {E : XK} {x mk : Str} {dv : V} {p pos : Pos} {e : Expr} {es : List Expr} {kws : List Keyword} {t tk : TA}
theorem run_makeM {pins : List (Addr × Obj)} {σ : L2.St} {H : Hp} {s : Shared} {Q : VK} {us : List Value} {vs : List V} {m : Value} {vm : V} (M : Mk X.K C f) (F : FnM X.prog X.w X.K X.mg X.base CX k f mk dv sp) (hr : Room (k + 1) X.A) (hx : Passes CX X E) (I : Inv X pins σ H s) (r : Vals vs us) (rm : RelV vm m)
    (h : mkAskM C sp E vm vs H Q) : wpAny (model X.prog X.w) X.A (call (.ref C) us [(mk, m)]) (EP X pins σ Q) X.xe s := by
  have hq := h.2 (s.heap.objs.size + 1) s.heap.objs.size (I.hok.fresh (Nat.le_succ _)) (I.hok.fresh (Nat.le_refl _)) (Nat.ne_of_lt (Nat.lt_succ_self _))
  have I2 := Inv.made (C := C) I
  refine wpAny_call (make_map (f := f) I.kIn M.makes M.init (beq_iff_eq.mp M.fn) (codeAny_mono (F.kw _ X.stack _ _ (Value.ref (s.heap.objs.size + 1)) m us (V.ref (s.heap.objs.size + 1)) vm vs _ E (hr.make C us [(mk, m)]) (I2.env0.make C us [(mk, m)]) rfl rm r h.1 hq) fun r s' hq' => ?_))
  cases r with
  | error e => exact hx pins σ _ _ e s' I2 hq'
  | ok fl =>
    cases fl with
    | ret u =>
      obtain ⟨v, H', I3, rv, ev, q3⟩ := I2.after hq'
      subst ev
      exact ⟨rv, ⟨V.ref (s.heap.objs.size + 1), H', I3, rfl, q3⟩⟩
    | next => exact False.elim hq'
    | brk => exact False.elim hq'
    | cont => exact False.elim hq'
theorem run_makeN {pins : List (Addr × Obj)} {σ : L2.St} {H : Hp} {s : Shared} {Q : VK} {us : List Value} {vs : List V} (M : Mk X.K C f) (F : FnM X.prog X.w X.K X.mg X.base CX k f mk dv sp) (hr : Room (k + 1) X.A) (hx : Passes CX X E) (I : Inv X pins σ H s) (r : Vals vs us)
    (h : mkAskM C sp E dv vs H Q) : wpAny (model X.prog X.w) X.A (call (.ref C) us) (EP X pins σ Q) X.xe s := by
  have hq := h.2 (s.heap.objs.size + 1) s.heap.objs.size (I.hok.fresh (Nat.le_succ _)) (I.hok.fresh (Nat.le_refl _)) (Nat.ne_of_lt (Nat.lt_succ_self _))
  have I2 := Inv.made (C := C) I
  refine wpAny_call (make_map (f := f) I.kIn M.makes M.init (beq_iff_eq.mp M.fn) (codeAny_mono (F.no _ X.stack _ _ (Value.ref (s.heap.objs.size + 1)) us (V.ref (s.heap.objs.size + 1)) vs _ E (hr.make C us []) (I2.env0.make C us []) rfl r h.1 hq) fun r s' hq' => ?_))
  cases r with
  | error e => exact hx pins σ _ _ e s' I2 hq'
  | ok fl =>
    cases fl with
    | ret u =>
      obtain ⟨v, H', I3, rv, ev, q3⟩ := I2.after hq'
      subst ev
      exact ⟨rv, ⟨V.ref (s.heap.objs.size + 1), H', I3, rfl, q3⟩⟩
    | next => exact False.elim hq'
    | brk => exact False.elim hq'
    | cont => exact False.elim hq'
def tMakeM (C : Addr) (sp : Sp) (E : XK) (t tk : TA) : TE := fun σ H Q => t σ H fun vs H1 => tk σ H1 fun zs H2 => ∃ vm, zs = [vm] ∧ mkAskM C sp E vm vs H2 Q
/-- C(e, .., mk = v) -/
theorem pe_makeM (M : Mk X.K C f) (F : FnM X.prog X.w X.K X.mg X.base CX k f mk dv sp) (hr : Room (k + 1) X.A) (hg : Gl X x) (hm : X.mg x = some (.ref C)) (hx : Passes CX X E) (ha : PA X (e :: es) t) (hkw : PK X kws tk)
    (hall : (backToKw pos (keywordEach kws X.env)).all (·.1.isSome) = true := by rfl) (hks : (backToKw pos (keywordEach kws X.env)).filterMap (·.1) = [mk] := by rfl) (hdb : (x == ("__debug__" : Str)) = false := by decide)
    (he : starEach (e :: es) X.env = (false, eval e X.env) :: starEach es X.env := by rfl) (hpl : ((backTo pos (starEach (e :: es) X.env)).any (·.1) || (backToKw pos (keywordEach kws X.env)).any (·.1.isNone)) = false := by rfl) :
    PE X (.Call (.Name x p) (e :: es) kws pos) (tMakeM C sp E t tk) := by
  refine ⟨fun pins s σ H Q I h => ?_⟩
  refine wpAny_Call_Name_kw (ld_glob I hg hm ?_ hdb)
  refine PySem.W.callWith_KW (h₀ := X.base) I.ok.mod.kin M.kp hall (thn (ha.run pos pins s σ H _ I h) fun us s1 ⟨vs, H1, I1, r, q⟩ => ?_) hpl he
  refine thn (hkw.run pos pins s1 σ H1 _ I1 q) fun ws s2 ⟨zs, H2, I2, rz, vm, ez, q2⟩ => ⟨I2.kIn, ?_⟩
  subst ez
  cases rz with
  | cons rm rn =>
    cases rn
    rw [hks]
    exact run_makeM M F hr hx I2 r rm q2
/-- C(mk = v) -/
theorem pe_makeM0 (M : Mk X.K C f) (F : FnM X.prog X.w X.K X.mg X.base CX k f mk dv sp) (hr : Room (k + 1) X.A) (hg : Gl X x) (hm : X.mg x = some (.ref C)) (hx : Passes CX X E) (hkw : PK X kws tk)
    (hall : (backToKw pos (keywordEach kws X.env)).all (·.1.isSome) = true := by rfl) (hks : (backToKw pos (keywordEach kws X.env)).filterMap (·.1) = [mk] := by rfl) (hdb : (x == ("__debug__" : Str)) = false := by decide)
    (hpl : ((backTo pos (starEach [] X.env)).any (·.1) || (backToKw pos (keywordEach kws X.env)).any (·.1.isNone)) = false := by rfl) :
    PE X (.Call (.Name x p) [] kws pos) (tMakeM C sp E tNil tk) := by
  refine ⟨fun pins s σ H Q I h => ?_⟩
  refine wpAny_Call_Name_kw (ld_glob I hg hm ?_ hdb)
  refine PySem.W.callWith_KW0 (h₀ := X.base) I.ok.mod.kin M.kp hall ?_ hpl
  refine thn (hkw.run pos pins s σ H _ I h) fun ws s2 ⟨zs, H2, I2, rz, vm, ez, q2⟩ => ⟨I2.kIn, ?_⟩
  subst ez
  cases rz with
  | cons rm rn =>
    cases rn
    rw [hks]
    exact run_makeM (us := []) (vs := []) M F hr hx I2 .nil rm q2
/-- C(e, ..), the keyword left out -/
theorem pe_makeMn (M : Mk X.K C f) (F : FnM X.prog X.w X.K X.mg X.base CX k f mk dv sp) (hr : Room (k + 1) X.A) (hg : Gl X x) (hm : X.mg x = some (.ref C)) (hx : Passes CX X E) (ha : PA X (e :: es) t) (hdb : (x == ("__debug__" : Str)) = false := by decide)
    (he : starEach (e :: es) X.env = (false, eval e X.env) :: starEach es X.env := by rfl) (hpl : (backTo pos (starEach es X.env)).any (·.1) = false := by rfl) : PE X (.Call (.Name x p) (e :: es) [] pos) (fun σ H Q => t σ H fun vs H1 => mkAskM C sp E dv vs H1 Q) := by
  refine ⟨fun pins s σ H Q I h => ?_⟩
  refine wpAny_Call_Name_kw (ld_glob I hg hm ?_ hdb)
  refine PySem.W.callWith_K (h₀ := X.base) I.ok.mod.kin M.kp (thn (ha.run pos pins s σ H _ I h) fun us s1 ⟨vs, H1, I1, r, q⟩ => ⟨I1.kIn, ?_⟩) he hpl
  exact run_makeN M F hr hx I1 r q
end
end Ow

set_option Elab.async false
set_option linter.all false
set_option maxRecDepth 100000
set_option maxHeartbeats 4000000
namespace Lr
open PySem PySem.Spec PyProof.Rows L2 Ow Og Oe
/-! ### ages, sums -/
def ascI : List Int → Bool
  | a :: b :: r => decide (a < b) && ascI (b :: r)
  | _ => true
theorem asc_all : ∀ ns : List Int, ((List.range (ns.length - 1)).map fun i => decide (ns.getD i 0 < ns.getD (i + 1) 0)).all id = ascI ns
  | [] => rfl
  | [_] => rfl
  | a :: b :: r => by
    have ih := asc_all (b :: r)
    rw [ascI, ← ih]
    have e : (a :: b :: r).length - 1 = ((b :: r).length - 1) + 1 := by simp
    rw [e, List.range_succ_eq_map, List.map_cons, List.all_cons, List.map_map]
    rfl
/-- a value as is_sum takes it: a tuple of items as the checks take them, or no tuple -/
inductive SmV (K : PySem.W.Frag) (H : Hp) : V → Option (List (Option Int)) → Prop
  | tup {a : Addr} {xs : List V} {os : List (Option Int)} (h : H a = some (.tup xs)) (l : xs.length = os.length) (ar : ∀ (j : Nat) (v : V), xs[j]? = some v → ∃ o, os[j]? = some o ∧ ∀ H', Same H H' → Arg K H' v o) (hl : xs.length ≤ 1000) : SmV K H (.ref a) (some os)
  | no {v : V} {t : Value} (ty : ∀ H', Same H H' → TyX K H' v t) (k : PySem.W.kitOne K t (.type "tuple") = some false) : SmV K H v none
theorem SmV.same {K : PySem.W.Frag} {H H' : Hp} {v : V} {o : Option (List (Option Int))} (h : SmV K H v o) (s : Same H H') : SmV K H' v o := by
  cases h with
  | tup h l ar hl => exact .tup (s _ _ h) l (fun j v e => by
      obtain ⟨o, h1, h2⟩ := ar j v e
      exact ⟨o, h1, fun H2 s2 => h2 H2 (s.trans s2)⟩) hl
  | no ty k => exact .no (fun H2 s2 => ty H2 (s.trans s2)) k
def isSum : Option (List (Option Int)) → Bool
  | none => false
  | some os => !os.isEmpty && (os.all (within? 0 8) && ascI (os.filterMap id))
section
variable {P : Program} {w : World} {K : PySem.W.Frag} {mg : Str → Option Value} {base : Heap}
abbrev s_is_age : Stmt := topS 6
theorem sc_is_age : FnScope ["value"] ["value"] (defScope s_is_age) := ⟨rfl, rfl, rfl, by decide +kernel, rfl, by decide +kernel, by decide +kernel⟩
def spAgeV (K : PySem.W.Frag) : Sp := fun vs H Q _ => ∃ (v : V) (o : Option Int), vs = [v] ∧ Arg K H v o ∧ Q (.bl (within? 0 8 o)) H
theorem ok_ageV {f fW fI : Addr} {fd fdW fdI : FuncData} (F : Fun K "is_age" "is_age" s_is_age f fd) (FW : Fun K "is_within" "is_within" s_is_within fW fdW) (bW : Binds K fdW ["value", "least", "most"] []) (gW : mg "is_within" = some (.ref fW)) (FI : Fun K "is_integer" "is_integer" s_is_integer fI fdI) (bI : Binds K fdI ["value"] []) (gI : mg "is_integer" = some (.ref fI)) (T : Nm mg) :
    FnOk P w K mg base CX0 3 f fd ["value"] (spAgeV K) := by
  have GW : FnOk P w K mg base CX0 2 fW fdW ["value", "least", "most"] (spWithinV K) := ok_withinV FW FI bI gI T
  obtain ⟨tb, gA⟩ := T.ma
  refine F.ok sc_is_age (fun vs H Q E h => ?_) (fun cdv A outer s H vs Q E hr h => ?_)
  · obtain ⟨v, o, rfl, _⟩ := h
    rfl
  · obtain ⟨v, o, rfl, g, q⟩ := h
    refine ⟨_, (pss_one (ps_ret (pe_call GW hr rfl gW FW.kp bW .nil pass0 (pa_cons (pv 0) (pa_cons pe_int (pa_cons (pe_glob (v := .int 8) rfl gA ⟨_, rfl⟩) pa_nil)))))), ?_⟩
    exact ⟨_, rfl, v, o, 0, 8, rfl, g, q⟩
abbrev s_is_ascending : Stmt := topS 7
theorem sc_is_ascending : FnScope ["values", "at"] ["values"] (defScope s_is_ascending) := ⟨rfl, rfl, rfl, by decide +kernel, rfl, by decide +kernel, by decide +kernel⟩
def spAsc (K : PySem.W.Frag) : Sp := fun vs H Q _ => ∃ (a : Addr) (ns : List Int), vs = [.ref a] ∧ SqT K H a (ns.map V.int) ∧ ns.length ≤ 1000 ∧ ∀ H', Same H H' → Q (.bl (ascI ns)) H'
theorem ok_asc {f : Addr} {fd : FuncData} (F : Fun K "is_ascending" "is_ascending" s_is_ascending f fd) (T : Nm mg) : FnOk P w K mg base CX0 1 f fd ["values"] (spAsc K) := by
  refine F.ok sc_is_ascending (fun vs H Q E h => ?_) (fun cdv A outer s H vs Q E hr h => ?_)
  · obtain ⟨a, ns, rfl, _⟩ := h
    rfl
  · obtain ⟨a, ns, rfl, ha, hl, q⟩ := h
    refine ⟨_, (pss_one (ps_ret (pe_callB (cr_all rfl) (by rfl) T.all PyProof.Rows.boot_all (pa_cons (pe_lc (own := [("at", 1)]) (g := (gName 1)) (tt := tYes) (te := tOp (rI0 fun i j => .bl (decide (i < j))) (tOp (rIxT K) (tVar 0) (tOp (rI0 fun i j => .int (i - j)) (tVar 1) (tC (.int 1)))) (tOp (rIxT K) (tVar 0) (tVar 1))) rfl sc_is_ascending.nd (pi_range2 rfl T.range (pa_cons pe_int (pa_cons (pe_callB call_len_seq (by rfl) T.len boot_len (pa_cons (pv 0) pa_nil)) pa_nil))) (blkOk_by (by kernel_rfl)) (fun _ _ _ _ _ => pg_name (i := 1) sc_is_ascending.nd rfl (Or.inl rfl)) (fun _ _ _ _ _ => pts_nil) (fun _ _ _ _ _ => (by exact pe_cmpR op_lt (pe_ix ix_tup (pv 0) (pe_op op_sub (pv 1) pe_int) (fun _ _ => rfl)) (pe_ix ix_tup (pv 0) (pv 1) (fun _ _ => rfl)) (nomark _)))) pa_nil)))), ?_⟩
    refine ⟨_, rfl, a, _, rfl, .inr ha, 1, _, rfl, ⟨by decide, by decide, by rw [List.length_map]; omega, by rw [List.length_map]; omega⟩, fun D nD => ?_⟩
    have en : ((((ns.map V.int).length : Nat) : Int) - 1).toNat = ns.length - 1 := by
      rw [List.length_map]
      omega
    rw [en]
    refine lc_range (lo := 1) (n := ns.length - 1) (fun j H3 => Same H H3 ∧ H3 D = some (.lst (((List.range j).map fun i => decide (ns.getD i 0 < ns.getD (i + 1) 0)).map V.bl))) ⟨same_upd nD, upd_same⟩ ?_ ?_
    · rintro j H3 hj ⟨s3, e3⟩
      have h1 : j < ns.length := by omega
      have h2 : j + 1 < ns.length := by omega
      have g1 : (ns.map V.int)[j]? = some (V.int (ns.getD j 0)) := by
        rw [List.getElem?_map, List.getElem?_eq_getElem h1, List.getD_eq_getElem?_getD, List.getElem?_eq_getElem h1]
        rfl
      have g2 : (ns.map V.int)[j + 1]? = some (V.int (ns.getD (j + 1) 0)) := by
        rw [List.getElem?_map, List.getElem?_eq_getElem h2, List.getD_eq_getElem?_getD, List.getElem?_eq_getElem h2]
        rfl
      have i1 : ((1 : Int) + (j : Int) - 1) = ((j : Nat) : Int) := by omega
      have i2 : ((1 : Int) + (j : Int)) = ((j + 1 : Nat) : Int) := by omega
      have ha3 := same_tup s3 ha
      refine ⟨rfl, _, rfl, _, rfl, _, _, rfl, rfl, a, _, _, _, rfl, rfl, ha3, by rw [i1]; exact atI_nat g1, _, rfl, _, rfl, a, _, _, _, rfl, rfl, ha3, by rw [i2]; exact atI_nat g2, _, _, rfl, rfl, _, e3, ?_, same_put s3 nD, ?_⟩
      · rw [List.length_map, List.length_map, List.length_range]
        exact small1000 (by omega)
      · rw [upd_same, List.range_succ, List.map_append, List.map_append]
        rfl
    · rintro H3 ⟨s3, e3⟩
      refine ⟨D, _, rfl, .of e3, ?_⟩
      rw [asc_all]
      exact q H3 s3
end
end Lr

set_option Elab.async false
set_option linter.all false
set_option maxRecDepth 100000
set_option maxHeartbeats 4000000
/-! enumerate over a tuple; x in a tuple, items data of any depth. -/
namespace PySem
open Sem (wp)
open AutoSeq1 (wpAny_loadPart')
set_option maxHeartbeats 8000000 in
theorem meets_enumerate_newT (l : Addr) (items : Array Value) (n : Nat) (dct : Option Addr) (sl : Array (Option Value)) :
    Meets (Builtin.«enumerate.__new__» ⟨[.type "enumerate", .ref l], []⟩) (fun _ R s => s.heap.get? l = some { cls := .type "tuple", dict := dct, data := .seq items n, slots := sl } ∧
      R (.ok (.ret (.ref (s.heap.push { cls := .type "tuple_iterator", data := .fields #[.ref l, .int 0 0] }).objs.size)))
        { s with heap := (s.heap.push { cls := .type "tuple_iterator", data := .fields #[.ref l, .int 0 0] }).push { cls := .type "enumerate", data := .fields #[.none, .bool false, .ref s.heap.objs.size, rawInt 0, .none, .none] } }) :=
  .of_wp fun prog w A R s h => by
    obtain ⟨hp, g, d, tk, os⟩ := s; obtain ⟨hl, h⟩ := h
    have hsub := sub_enumerate
    have hL : Heap.IsTuple (Shared.heap ⟨hp, g, d, tk, os⟩) l items := ⟨_, hl, rfl, n, rfl⟩
    wp_walk using wpAny_loadPart' hl
    refine wpAny_stack_any fun st => wpAny_pure ?_
    split
    · rename_i c _ _ _ _ _
      cases (c == Value.type "enumerate")
      · wp_walk using wpAny_loadPart' hl, wpAny_pyIter_tuple hL
        exact ⟨_, rfl, h⟩
      · wp_walk using wpAny_loadPart' hl, wpAny_pyIter_tuple hL
        exact ⟨_, rfl, h⟩
    · wp_walk using wpAny_loadPart' hl, wpAny_pyIter_tuple hL
      exact ⟨_, rfl, h⟩
section
variable {prog : Program} {w : World} {A : Around} {E : Value → Shared → Prop} {s : Shared}
theorem call_enumerate_tuple {l : Addr} {items : Array Value} {Q : Value → Shared → Prop} (hL : s.heap.IsTuple l items)
    (h : ∀ h', IsEnum h' (s.heap.objs.size + 1) s.heap.objs.size 0 .none → h'.IsTupleIter s.heap.objs.size l 0 → h'.objs.size = s.heap.objs.size + 2 →
      (∀ b o, s.heap.get? b = some o → h'.get? b = some o) → Q (.ref (s.heap.objs.size + 1)) { s with heap := h' }) :
    wpAny (model prog w) A (call (.type "enumerate") [.ref l]) Q E s := by
  obtain ⟨⟨c, dct, dt, sl⟩, hl, hc, n, hd⟩ := hL
  replace hc : c = .type "tuple" := hc
  replace hd : dt = .seq items n := hd
  subst hc hd
  refine callType_new F.called_enumerate (by decide) (F.typeCall_enumerate_1 _) (F.newCall_enumerate_1 _) (fun obj => F.args_object_init_2 obj _) F.entry_enumerate_new
    (meets_enumerate_newT l items n dct sl) ⟨hl, ?_⟩
  have hz : (s.heap.push { cls := .type "tuple_iterator", data := .fields #[.ref l, .int 0 0] }).objs.size = s.heap.objs.size + 1 := Heap.size_push ..
  show _ ∧ _
  rw [hz]
  have he : IsEnum ((s.heap.push { cls := .type "tuple_iterator", data := .fields #[.ref l, .int 0 0] }).push
      { cls := .type "enumerate", data := .fields #[.none, .bool false, .ref s.heap.objs.size, rawInt 0, .none, .none] }) (s.heap.objs.size + 1) s.heap.objs.size 0 .none := by
    have := Heap.get?_push_size (s.heap.push { cls := .type "tuple_iterator", data := .fields #[.ref l, .int 0 0] })
      (o := { cls := .type "enumerate", data := .fields #[.none, .bool false, .ref s.heap.objs.size, rawInt 0, .none, .none] }) rfl
    rw [hz] at this; exact this
  refine ⟨⟨_, he, rfl⟩, h _ he ⟨_, Heap.get?_push_of_some _ (Heap.get?_push_size _ rfl), rfl, rfl⟩ (by rw [Heap.size_push, hz]) fun b o x => Heap.get?_push_of_some _ (Heap.get?_push_of_some _ x)⟩
end
end PySem
namespace L2
open PySem PySem.Spec PyProof.Rows
/-- the tuple at a, each item in a new pair -/
def IteT (K : PySem.W.Frag) (a : Addr) : It :=
  ⟨fun i H => ∃ (xs : List V) (x : V), SqT K H a xs ∧ xs[i]? = some x, fun i H v H' => ∃ T x, v = .ref T ∧ H T = none ∧ H' = upd H T (.tup [.int (i : Nat), x]) ∧ ∀ xs, SqT K H a xs → xs[i]? = some x, fun i H => ∃ xs : List V, SqT K H a xs ∧ xs.length ≤ i⟩
theorem turn_enumT {P : Program} {w : World} {K : PySem.W.Frag} {elts : List Expr} {kk : Nat} {tpos : Pos} (a e it : Addr) :
    Turn P w K (.Tuple elts kk tpos) (IteT K a) [e, it] e (fun i h => (∃ old, IsEnum h e it ((i : Nat) : Int) old) ∧ h.IsTupleIter it a i ∧ e ≠ it) where
  mem := by simp
  obj := fun i h st b hb => by
    obtain ⟨⟨old, he⟩, ⟨o, ho, hc, hd⟩, _⟩ := st
    have e' : b = e ∨ b = it := by simpa using hb
    rcases e' with z | z
    · rw [z]; exact ⟨_, he, fun v q => nomatch q⟩
    · rw [z]; exact ⟨o, ho, fun v q => by rw [hd] at q; cases q⟩
  keep := fun i h h' st k => let ⟨⟨old, he⟩, hi, hne⟩ := st; ⟨⟨old, k e (by simp) _ he⟩, hi.at fun o q => k it (by simp) o q, hne⟩
  item := by
    intro X hP hw hK hc i pins s σ H E I hf st hg
    subst hP hw hK
    obtain ⟨⟨old, he⟩, hit, hne⟩ := st
    obtain ⟨xs, x, hq, hx⟩ := hg
    obtain ⟨its, rv, p, hz⟩ := I.tuple hq
    obtain ⟨u, hu, ru⟩ := rv.get hx
    have hel : e < s.heap.objs.size := Heap.lt_size he
    have hil : it < s.heap.objs.size := by obtain ⟨_, q, _⟩ := hit; exact Heap.lt_size q
    have hT0 : s.heap.IsTuple a its.toArray := p
    have nea : ∀ b ∈ [e, it], a ≠ b := fun b hb z => by
      obtain ⟨o, ho, c, _⟩ := hT0
      rw [z] at ho
      have e' : b = e ∨ b = it := by simpa using hb
      rcases e' with q | q
      · rw [q, he] at ho
        cases ho
        exact absurd (Value.type.inj c) (by decide)
      · rw [q] at ho
        obtain ⟨o2, h2, c2, _⟩ := hit
        rw [h2] at ho
        cases ho
        rw [c2] at c
        exact absurd (Value.type.inj c) (by decide)
    refine wpAny_pyNext_enum_itemD (Draws.tuple (A := X.A.in1) (show X.A.in1.handled = none from I.ok.hd hc) it a (nea it (by simp)) its.toArray) he ⟨hit, hT0⟩ (by
      have := (List.getElem?_eq_some_iff.mp hu).1
      simpa using this) hne (by
        intro z
        have e' : e = it ∨ e = a := by simpa using z
        rcases e' with q | q
        · exact hne q
        · exact nea e (by simp) q.symm) fun x' h' tk hx' ho st' hT hsz hk => ?_
    have ex : x' = u := by
      have h1 : its.toArray[i]? = some x' := hx'
      have h2 : its.toArray[i]? = some u := by simpa using hu
      rw [h1] at h2
      exact Option.some.inj h2
    subst ex
    refine ⟨_, rfl, wpAny_letOwnedTupleGo_enum (s := { s with heap := h', toks := tk + 1 }) ho fun h'' he' sb => ?_⟩
    have hT2 : h''.get? s.heap.objs.size = some { cls := .type "tuple", data := .seq #[.int i tk, x'] } := (sb.2 _ (Nat.ne_of_gt hel)).trans hT
    have new : ObjOk X.prog X.w (upd H s.heap.objs.size (.tup [.int (i : Nat), x])) h'' s.heap.objs.size (.tup [.int (i : Nat), x]) :=
      ⟨by show 2 ≤ sizeLine; decide, [.int i tk, x'], .cons ⟨_, rfl⟩ (.cons ru .nil), ⟨_, hT2, rfl, _, rfl⟩⟩
    have I1 : Inv X pins σ (upd H s.heap.objs.size (.tup [.int (i : Nat), x])) { s with heap := h'', toks := tk + 1 } :=
      I.turnedNew (ch := [e, it]) (fun b ob hb q => (sb.2 b (fun z => hb (by simp [z]))).trans (hk b ob (fun z => hb (by simp [z])) (fun z => hb (by simp [z])) q)) hf (Nat.le_refl _) new
    refine ⟨.ref s.heap.objs.size, _, I1, rfl, ⟨_, x, rfl, I.hok.fresh (Nat.le_refl _), rfl, fun ys hy => by rw [I.tuple_inj hy hq]; exact hx⟩, ⟨⟨x', ?_⟩, st'.1.at fun o q => (sb.2 it (Ne.symm hne)).trans q, hne⟩, fun b hb => ?_⟩
    · have e1 : ((i + 1 : Nat) : Int) = (i : Int) + 1 := by omega
      rw [e1]; exact he'
    · have hb' : b < s.heap.objs.size := by
        have e' : b = e ∨ b = it := by simpa using hb
        rcases e' with z | z
        · rw [z]; exact hel
        · rw [z]; exact hil
      rw [upd_ne (Nat.ne_of_lt hb')]
      exact (hf b hb).1
  done := by
    intro X hP hw hK hc i pins s σ H E I hf st hg
    subst hP hw hK
    obtain ⟨⟨old, he⟩, hit, hne⟩ := st
    obtain ⟨xs, hq, hx⟩ := hg
    obtain ⟨its, rv, p, hz⟩ := I.tuple hq
    obtain ⟨f0, f1, f2, f3, f4, f5⟩ := hf it (by simp)
    have hl := rv.length
    have hT : s.TypeIs (.ref e) "enumerate" := ⟨_, he, rfl⟩
    unfold pyNext
    refine wpAny_bind (wpAny_attempt (wpAny_callSpecial?_slot (name := Str.ofString "__next__") hT F.slot_enumerate_next
      (wpAny_call_entry F.slot_enumerate_next hT F.entry_enumerate_next ?_ (F.args_enumerate_next_1 _))))
    show wpAny _ _ (field (.ref e) 2 >>= _) _ _ _
    refine wpAny_bind (wpAny_field he rfl (x := .ref it) rfl ?_)
    refine wpAny_bind (wpAny_nextOf_tuple_end (A := X.A.in1) (show X.A.in1.handled = none from I.ok.hd hc) hit (show s.heap.IsTuple a its.toArray from p) (by simp; omega) fun h' x he' hx' => ?_)
    obtain ⟨o, ho, hc'⟩ := hx'
    refine wpAny_bind (wpAny_isInstance (T := "StopIteration") (b := true) ⟨o, ho, hc'⟩ isSubtype_stop ?_)
    exact wpAny_pure ⟨rfl, I.turned (t' := s.toks) (fun b o hb q => he' b o hb q) f0 f1 f3 f4 f5⟩
  self := fun A i s Q E st h => let ⟨⟨_, he⟩, _⟩ := st; wpAny_pyIter_enum he h
def iEnumT (K : PySem.W.Frag) (ta : TA) : TI := fun σ H R => ta σ H fun vs H1 => ∃ a xs, vs = [.ref a] ∧ SqT K H1 a xs ∧ R (IteT K a) H1
theorem pi_enumT {X : Cx} {e : Expr} {ta : TA} {p pos tpos : Pos} {elts : List Expr} {kk : Nat} (hg : Gl X "enumerate") (hm : X.mg "enumerate" = none) (ha : PA X [e] ta) (hs : starEach [e] X.env = [(false, eval e X.env)] := by rfl) :
    PI X (.Tuple elts kk tpos) (.Call (.Name "enumerate" p) [e] [] pos) (iEnumT X.K ta) := by
  refine ⟨fun pins s σ H R I h => ?_⟩
  refine Call_ (ld_blt I hg hm boot_enumerate (PyProof.Rows.callWith_type1 (thn (ha.run pos pins s σ H _ I h) fun us s1 ⟨vs, H1, I1, r1, q1⟩ => ?_) hs rfl))
  obtain ⟨a, xs, ex, hq, q⟩ := q1
  subst ex
  cases r1 with
  | cons r rr =>
    cases rr
    cases r
    obtain ⟨its, rv, p', hz⟩ := I1.tuple hq
    refine call_enumerate_tuple (show s1.heap.IsTuple a its.toArray from p') fun h' he hit hsz hk => wpAny_pyIter_enum he ?_
    have I2 : Inv X pins σ H1 { s1 with heap := h' } := I1.kept (t' := s1.toks) hk
    refine ⟨s1.heap.objs.size + 1, [s1.heap.objs.size + 1, s1.heap.objs.size], _, _, H1, rfl, I2, turn_enumT a (s1.heap.objs.size + 1) s1.heap.objs.size, ⟨⟨.none, he⟩, hit, Nat.succ_ne_self _⟩, fun b hb => ?_, q⟩
    have e' : b = s1.heap.objs.size + 1 ∨ b = s1.heap.objs.size := by simpa using hb
    have hle : s1.heap.objs.size ≤ b := by
      rcases e' with z | z
      · rw [z]; exact Nat.le_add_right _ _
      · rw [z]; exact Nat.le_refl _
    exact I1.fpOk hle (I1.hok.fresh hle)
section
variable {X : Cx}
/-- x in a tuple, items data of any depth -/
def rInT (K : PySem.W.Frag) : R2 := fun x y H Q => ∃ d ds, Dp K H x d ∧ Dp K H y (.tuple ds) ∧ SeqAt.shaped d = true ∧ SeqAt.shaped (.tuple ds) = true ∧ Q (.bl (ds.any fun z => PyData.eqv z d)) H
theorem op_inT (hu : X.A.units + 65 < cLine) : OpR X (compareOp .In) (rInT X.K) := by
  intro pins s σ H x y v u Q I rx ry h
  obtain ⟨d, ds, hd, he, sd, se, q⟩ := h
  obtain ⟨as, r1⟩ := Dp.reads I d x v hd rx
  obtain ⟨bs, r2⟩ := Dp.reads I (.tuple ds) y u he ry
  exact SeqAt.in_tuple_reads r2 r1 (SeqAt.canLay_of_shaped se) (SeqAt.canLay_of_shaped sd) (room_in_shaped sd hu) ⟨.bl _, H, I, rfl, q⟩
end
end L2

set_option Elab.async false
set_option linter.all false
set_option maxRecDepth 100000
set_option maxHeartbeats 4000000
namespace Lr
open PySem PySem.Spec PyProof.Rows L2 Ow Og Oe
theorem eqv_intsB : ∀ a b : List Int, PyData.eqvAll (a.map PyData.int) (b.map PyData.int) = decide (a = b)
  | [], [] => rfl
  | [], _ :: _ => rfl
  | _ :: _, [] => rfl
  | x :: a, y :: b => by
    show (x == y && PyData.eqvAll (a.map PyData.int) (b.map PyData.int)) = _
    rw [eqv_intsB a b]
    by_cases h : x = y
    · subst h
      by_cases k : a = b
      · subst k; simp
      · simp [k]
    · simp [h]
section
variable {P : Program} {w : World} {K : PySem.W.Frag} {mg : Str → Option Value} {base : Heap}
abbrev s_is_sum : Stmt := topS 27
theorem sc_is_sum : FnScope ["value", "age"] ["value"] (defScope s_is_sum) := ⟨rfl, rfl, rfl, by decide +kernel, rfl, by decide +kernel, by decide +kernel⟩
def spSum (K : PySem.W.Frag) : Sp := fun vs H Q _ => ∃ (v : V) (o : Option (List (Option Int))), vs = [v] ∧ SmV K H v o ∧ ∀ H', Same H H' → Q (.bl (isSum o)) H'
theorem os_all : ∀ {os : List (Option Int)} {xs : List V} {H : Hp}, xs.length = os.length → (∀ (j : Nat) (v : V), xs[j]? = some v → ∃ o, os[j]? = some o ∧ ∀ H', Same H H' → Arg K H' v o) → os.all (within? 0 8) = true → xs = (os.filterMap id).map V.int ∧ os = (os.filterMap id).map some
  | [], [], _, _, _, _ => ⟨rfl, rfl⟩
  | o :: os, x :: xs, H, hl, ar, h => by
    rw [List.all_cons, Bool.and_eq_true] at h
    obtain ⟨i1, i2⟩ := os_all (os := os) (xs := xs) (H := H) (by simpa using hl) (fun j v e => ar (j + 1) v (by simpa using e)) h.2
    obtain ⟨o', e1, e2⟩ := ar 0 x rfl
    cases (show o = o' from by simpa using e1)
    cases o with
    | none => exact absurd h.1 (by decide)
    | some i =>
      have a := e2 H (fun _ _ e => e)
      cases a
      exact ⟨by
        show V.int i :: xs = V.int i :: (os.filterMap id).map V.int
        rw [← i1], by
        show some i :: os = some i :: (os.filterMap id).map some
        rw [← i2]⟩
theorem ok_sum {f fA fW fI fS : Addr} {fd fdA fdW fdI fdS : FuncData} (F : Fun K "is_sum" "is_sum" s_is_sum f fd) (FA : Fun K "is_age" "is_age" s_is_age fA fdA) (bA : Binds K fdA ["value"] []) (gA : mg "is_age" = some (.ref fA)) (FW : Fun K "is_within" "is_within" s_is_within fW fdW) (bW : Binds K fdW ["value", "least", "most"] []) (gW : mg "is_within" = some (.ref fW)) (FI : Fun K "is_integer" "is_integer" s_is_integer fI fdI) (bI : Binds K fdI ["value"] []) (gI : mg "is_integer" = some (.ref fI))
    (FS : Fun K "is_ascending" "is_ascending" s_is_ascending fS fdS) (bS : Binds K fdS ["values"] []) (gS : mg "is_ascending" = some (.ref fS)) (T : Nm mg) : FnOk P w K mg base CX0 4 f fd ["value"] (spSum K) := by
  have GA : FnOk P w K mg base CX0 3 fA fdA ["value"] (spAgeV K) := ok_ageV FA FW bW gW FI bI gI T
  have GS : FnOk P w K mg base CX0 1 fS fdS ["values"] (spAsc K) := ok_asc FS T
  refine F.ok sc_is_sum (fun vs H Q E h => ?_) (fun cdv A outer s H vs Q E hr h => ?_)
  · obtain ⟨v, o, rfl, _⟩ := h
    rfl
  · obtain ⟨v, o, rfl, hv, q⟩ := h
    have hr1 : Room 1 _ := hr.mono (by decide)
    refine ⟨_, (pss_cons (ps_if (PW.pt (pw_or (pt_not (pt_val (pe_callB call_isi (by rfl) T.isi boot_isinstance (pa_cons (pv 0) (pa_cons (pe_bltn (v := .ty "tuple") (by rfl) T.tuple PyProof.Rows.boot_tuple rfl) pa_nil))))) (pw_or1 (pt_cmpR op_eq (pe_callB call_len_seq (by rfl) T.len boot_len (pa_cons (pv 0) pa_nil)) pe_int (nomark _))))) (pss_one (ps_ret pe_bl)) pss_nil)
      (pss_one (ps_ret (pe_and (pe_callB (cr_all rfl) (by rfl) T.all PyProof.Rows.boot_all (pa_cons (pe_lc (own := [("age", 1)]) (g := (gName 1)) (tt := tYes) rfl sc_is_sum.nd (by exact pi_tup (pv 0)) (blkOk_by (by kernel_rfl)) (fun _ _ _ _ _ => pg_name (i := 1) sc_is_sum.nd rfl (Or.inl rfl)) (fun _ _ _ _ _ => pts_nil) (fun _ _ _ _ _ => (pe_call GA hr rfl gA FA.kp bA .nil pass0 (pa_cons (pv 1) pa_nil)))) pa_nil)) (pe_one (pe_call GS hr1 rfl gS FS.kp bS .nil pass0 (pa_cons (pv 0) pa_nil))))))), ?_⟩
    cases hv with
    | no ty k => exact ⟨_, rfl, _, _, _, _, false, rfl, .ty "tuple", ty H (fun _ _ e => e), k, false, rfl, iteT (iteT (q H fun _ _ e => e))⟩
    | @tup a xs os h l ar hl =>
      refine ⟨_, rfl, _, _, _, _, true, rfl, .ty "tuple", .base (.tup h), kit_ty (by decide +kernel), true, rfl, iteF ?_⟩
      refine ⟨_, rfl, a, _, rfl, .inr (.of h), by rfl, _, rfl, ?_⟩
      cases hx : xs with
      | nil =>
        rw [hx] at l
        have e : os = [] := List.eq_nil_of_length_eq_zero l.symm
        subst e
        exact iteT (q H fun _ _ e => e)
      | cons x0 xr =>
        rw [← hx]
        have ne : os.isEmpty = false := by
          cases os with
          | nil => rw [hx] at l; simp at l
          | cons _ _ => rfl
        have q' : ∀ H', Same H H' → Q (.bl (os.all (within? 0 8) && ascI (os.filterMap id))) H' := fun H' s' => by
          have := q H' s'
          unfold isSum at this
          simp only [ne, Bool.not_false, Bool.true_and] at this
          exact this
        have nz : ¬ (decide (V.int ((xs.length : Nat) : Int) = V.int 0)) = true := by
          intro z
          have := of_decide_eq_true z
          injection this with this
          rw [hx] at this
          simp at this
          omega
        refine (if_neg nz).mpr ?_
        refine ⟨_, rfl, a, rfl, ⟨_, .of h⟩, fun D nD => ?_⟩
        refine lc_tup (K := K) (a := a) (xs := xs) (fun j H3 => Same H H3 ∧ H3 D = some (.lst (((os.take j).map (within? 0 8)).map V.bl))) ⟨same_upd nD, upd_same⟩ (fun j H3 _ ⟨e, _⟩ => .of (e _ _ h)) ?_ ?_
        · rintro j v H3 hj ⟨s3, e3⟩
          obtain ⟨o, ho, ha⟩ := ar j v hj
          refine ⟨rfl, _, rfl, v, o, rfl, ha H3 s3, _, e3, ?_, same_put s3 nD, ?_⟩
          · rw [List.length_map, List.length_map, List.length_take]
            exact small1000 (by omega)
          · rw [upd_same, List.take_add_one, ho, List.map_append, List.map_append]
            rfl
        · rintro H3 ⟨s3, e3⟩
          rw [l, List.take_length] at e3
          refine ⟨D, _, rfl, .of e3, ?_⟩
          have ea : ((os.map (within? 0 8)).all id) = os.all (within? 0 8) := by rw [List.all_map]; rfl
          rw [ea]
          cases hb : os.all (within? 0 8) with
          | false =>
            rw [hb] at q'
            exact ⟨_, rfl, iteF (q' H3 s3)⟩
          | true =>
            rw [hb] at q'
            obtain ⟨e1, _⟩ := os_all l ar hb
            refine ⟨_, rfl, iteT ⟨_, rfl, a, os.filterMap id, rfl, ?_, ?_, fun H4 s4 => q' H4 (s3.trans s4)⟩⟩
            · rw [← e1]
              exact .of (s3 _ _ h)
            · have := congrArg List.length e1
              rw [List.length_map] at this
              omega
end
end Lr

set_option Elab.async false
set_option linter.all false
set_option maxRecDepth 100000
set_option maxHeartbeats 4000000
namespace Lr
open PySem PySem.Spec PyProof.Rows L2 Ow Og Oe
/-! ### the errors that a tick raises -/
structure ErrC (K : PySem.W.Frag) (mg : Str → Option Value) (nm : Str) (C fI : Addr) (fld : Str) : Prop where
  T : OexC K C
  iC : PySem.W.findIn K (.ref C) "__init__" = some (some (.ref fI))
  tI : PySem.W.typeIn K (.ref fI) = some (.type "function")
  gC : mg nm = some (.ref C)
  no : PySem.W.findIn K (.ref C) fld = some none
/-- raised: a new error of C with these fields, all else as it was -/
def OutF (E : XK) (C : Addr) (fs : List (Str × V)) (H : Hp) : Prop := ∀ (d : Addr) (H' : Hp), Same H H' → H' d = some (.xd fs) → E (.ref C) (some d) H'
theorem OutF.same {E : XK} {C : Addr} {fs : List (Str × V)} {H H1 : Hp} (o : OutF E C fs H) (s : Same H H1) : OutF E C fs H1 := fun d H' s' => o d H' (s.trans s')
def spErr1 (K : PySem.W.Frag) (f : Str) : Sp := fun vs H Q _ => ∃ (a C : Addr) (y : V), vs = [.ref a, y] ∧ OexC K C ∧ PySem.W.findIn K (.ref C) f = some none ∧ H a = some (exo a C none) ∧ ∀ dx, H dx = none → dx ≠ a → Q .non (upd (upd H dx (exd dx [(f, y)])) a (exo a C (some dx)))
def spErr2 (K : PySem.W.Frag) (f g : Str) : Sp := fun vs H Q _ => ∃ (a C : Addr) (y z : V), vs = [.ref a, y, z] ∧ OexC K C ∧ PySem.W.findIn K (.ref C) f = some none ∧ PySem.W.findIn K (.ref C) g = some none ∧ H a = some (exo a C none) ∧
  ∀ dx, H dx = none → dx ≠ a → Q .non (upd (upd (upd H dx (exd dx [(f, y)])) a (exo a C (some dx))) dx (exd dx [(g, z), (f, y)]))
theorem raise1 {K : PySem.W.Frag} {C : Addr} {f : Str} {y : V} {H : Hp} {E Ef : XK} (T : OexC K C) (no : PySem.W.findIn K (.ref C) f = some none) (out : OutF E C [(f, y)] H) : ∀ a, H a = none → spErr1 K f (.ref a :: ([y] ++ [])) (upd H a (exo a C none))
    (fun v H2 => v = .non ∧ ∃ (d : Addr) (fs : List (Str × V)), H2 a = some (exo a C (some d)) ∧ H2 d = some (exd d fs) ∧ H d = none ∧ E (.ref C) (some d) (upd (del H2 a) d (.xd fs))) Ef := by
  intro a na
  refine ⟨a, C, y, rfl, T, no, upd_same, fun dx nd ne => ⟨rfl, dx, [(f, y)], upd_same, by rw [upd_ne ne, upd_same], ?_, out _ _ (fun b o e => ?_) upd_same⟩⟩
  · rw [upd_ne ne] at nd
    exact nd
  · have nd' : H dx = none := by
      rw [upd_ne ne] at nd
      exact nd
    have ba : b ≠ a := ne_of_none e na
    have bd : b ≠ dx := ne_of_none e nd'
    rw [upd_ne bd, del_ne ba, upd_ne ba, upd_ne bd, upd_ne ba]
    exact e
theorem raise2 {K : PySem.W.Frag} {C : Addr} {f g : Str} {y z : V} {H : Hp} {E Ef : XK} (T : OexC K C) (nl : PySem.W.findIn K (.ref C) f = some none) (nw : PySem.W.findIn K (.ref C) g = some none) (out : OutF E C [(g, z), (f, y)] H) : ∀ a, H a = none → spErr2 K f g (.ref a :: ([y, z] ++ [])) (upd H a (exo a C none))
    (fun v H2 => v = .non ∧ ∃ (d : Addr) (fs : List (Str × V)), H2 a = some (exo a C (some d)) ∧ H2 d = some (exd d fs) ∧ H d = none ∧ E (.ref C) (some d) (upd (del H2 a) d (.xd fs))) Ef := by
  intro a na
  refine ⟨a, C, y, z, rfl, T, nl, nw, upd_same, fun dx nd ne => ⟨rfl, dx, _, ?_, upd_same, ?_, out _ _ (fun b o e => ?_) upd_same⟩⟩
  · rw [upd_ne (Ne.symm ne), upd_same]
  · rw [upd_ne ne] at nd
    exact nd
  · have nd' : H dx = none := by
      rw [upd_ne ne] at nd
      exact nd
    have ba : b ≠ a := ne_of_none e na
    have bd : b ≠ dx := ne_of_none e nd'
    rw [upd_ne bd, del_ne ba, upd_ne bd, upd_ne ba, upd_ne bd, upd_ne ba]
    exact e
section
variable {P : Program} {w : World} {K : PySem.W.Frag} {mg : Str → Option Value} {base : Heap}
abbrev s_btI : Stmt := inClass (topS 10) 0
theorem sc_btI : FnScope ["self", "part"] ["self", "part"] (defScope s_btI) := ⟨rfl, rfl, rfl, by decide +kernel, rfl, by decide +kernel, by decide +kernel⟩
theorem ok_btI {f : Addr} {fd : FuncData} (F : Fun K "__init__" "BadTick.__init__" s_btI f fd) : FnOk P w K mg base CX0 1 f fd ["self", "part"] (spErr1 K "part") := by
  refine F.ok sc_btI (fun vs H Q E h => ?_) (fun cdv A outer s H vs Q E hr h => ?_)
  · obtain ⟨a, C, y, rfl, _⟩ := h
    rfl
  · obtain ⟨a, C, y, rfl, T, no, ha, q⟩ := h
    refine ⟨_, pss_one (ps_ost (pv 0) (pv 1)), ?_⟩
    exact ⟨_, rfl, _, rfl, a, C, rfl, T, no, .inl ⟨ha, fun dx nd ne => q dx nd ne⟩⟩
abbrev s_tmI : Stmt := inClass (topS 15) 0
theorem sc_tmI : FnScope ["self", "what", "most"] ["self", "what", "most"] (defScope s_tmI) := ⟨rfl, rfl, rfl, by decide +kernel, rfl, by decide +kernel, by decide +kernel⟩
theorem ok_tmI {f : Addr} {fd : FuncData} (F : Fun K "__init__" "TooMany.__init__" s_tmI f fd) : FnOk P w K mg base CX0 1 f fd ["self", "what", "most"] (spErr2 K "what" "most") := by
  refine F.ok sc_tmI (fun vs H Q E h => ?_) (fun cdv A outer s H vs Q E hr h => ?_)
  · obtain ⟨a, C, y, z, rfl, _⟩ := h
    rfl
  · obtain ⟨a, C, y, z, rfl, T, no, no2, ha, q⟩ := h
    refine ⟨_, pss_cons (ps_ost (pv 0) (pv 1)) (pss_one (ps_ost (pv 0) (pv 2))), ?_⟩
    refine ⟨_, rfl, _, rfl, a, C, rfl, T, no, .inl ⟨ha, fun dx nd ne => ?_⟩⟩
    refine ⟨_, rfl, _, rfl, a, C, rfl, T, no2, .inr ⟨dx, _, upd_same, ?_, (by show 1 ≤ 900; omega), q dx nd ne⟩⟩
    rw [upd_ne ne, upd_same]
end
/-! ### what a tick is made of -/
abbrev Sm := Option (List (Option Int))
/-- the first of these that is no sum or stands among those ahead of it -/
def badAt : List Sm → List Sm → Nat → Option Nat
  | _, [], _ => none
  | seen, o :: r, i => if isSum o = false ∨ o ∈ seen then some i else badAt (seen ++ [o]) r (i + 1)
theorem bad_yes {seen r : List Sm} {o : Sm} {i : Nat} (h : isSum o = false ∨ o ∈ seen) : badAt seen (o :: r) i = some i := by
  rw [badAt, if_pos h]
theorem bad_no {seen r : List Sm} {o : Sm} {i : Nat} (h : ¬ (isSum o = false ∨ o ∈ seen)) : badAt seen (o :: r) i = badAt (seen ++ [o]) r (i + 1) := by
  rw [badAt, if_neg h]
/-- mute, as the checks take it -/
inductive MuV (K : PySem.W.Frag) (H : Hp) : V → Option Bool → Prop
  | bl (b : Bool) : MuV K H (.bl b) (some b)
  | no {v : V} {t : Value} (ty : ∀ H', Same H H' → TyX K H' v t) (k : PySem.W.kitOne K t (.type "bool") = some false) : MuV K H v none
theorem MuV.same {K : PySem.W.Frag} {H H' : Hp} {v : V} {o : Option Bool} (h : MuV K H v o) (s : Same H H') : MuV K H' v o := by
  cases h with
  | bl b => exact .bl b
  | no ty k => exact .no (fun H2 s2 => ty H2 (s.trans s2)) k
def head0 : Sm → Bool
  | some (some i :: _) => decide (i = 0)
  | _ => false
def muteBad (os : List Sm) : Option Bool → Bool
  | none => true
  | some false => false
  | some true => os.any head0
theorem sum_data {K : PySem.W.Frag} {H : Hp} {v : V} {o : Sm} (h : SmV K H v o) (s : isSum o = true) : ∃ (a : Addr) (l : List Int), v = .ref a ∧ o = some (l.map some) ∧ H a = some (.tup (l.map V.int)) ∧ l ≠ [] ∧ l.length ≤ 1000 := by
  cases h with
  | no ty k => cases s
  | @tup a xs os h l ar hl =>
    unfold isSum at s
    simp only [Bool.and_eq_true, Bool.not_eq_true', List.isEmpty_eq_false_iff] at s
    obtain ⟨e1, e2⟩ := os_all l ar s.2.1
    refine ⟨a, os.filterMap id, rfl, by rw [← e2], by rw [← e1]; exact h, ?_, ?_⟩
    · intro z
      rw [z] at e2
      exact s.1 e2
    · have := congrArg List.length e1
      rw [List.length_map] at this
      omega
theorem dp_sum {K : PySem.W.Frag} {H : Hp} {a : Addr} {l : List Int} (h : H a = some (.tup (l.map V.int))) : Dp K H (.ref a) (.tuple (l.map PyData.int)) := .tup (.of h) (by exact dp_ints l)
end Lr

set_option Elab.async false
set_option linter.all false
set_option maxRecDepth 100000
set_option maxHeartbeats 4000000
namespace Lr
open PySem PySem.Spec PyProof.Rows L2 Ow Og Oe
def dat (o : Sm) : PyData := .tuple (((o.getD []).filterMap id).map PyData.int)
theorem all_some : ∀ os : List (Option Int), os.all (within? 0 8) = true → os = (os.filterMap id).map some
  | [], _ => rfl
  | o :: os, h => by
    rw [List.all_cons, Bool.and_eq_true] at h
    have ih := all_some os h.2
    cases o with
    | none => exact absurd h.1 (by decide)
    | some i =>
      show some i :: os = some i :: (os.filterMap id).map some
      rw [← ih]
theorem sum_some {o : Sm} (h : isSum o = true) : ∃ l : List Int, o = some (l.map some) := by
  cases o with
  | none => cases h
  | some os =>
    unfold isSum at h
    simp only [Bool.and_eq_true] at h
    exact ⟨_, congrArg some (all_some os h.2.1)⟩
theorem filt_some (l : List Int) : (l.map some).filterMap id = l := by
  induction l with
  | nil => rfl
  | cons x l ih =>
    show x :: (l.map some).filterMap id = x :: l
    rw [ih]
theorem dat_some (l : List Int) : dat (some (l.map some)) = .tuple (l.map PyData.int) := by
  unfold dat
  rw [Option.getD_some, filt_some]
theorem dat_eqv {o o' : Sm} (h : isSum o = true) (h' : isSum o' = true) : PyData.eqv (dat o') (dat o) = decide (o' = o) := by
  obtain ⟨l, rfl⟩ := sum_some h
  obtain ⟨l', rfl⟩ := sum_some h'
  rw [dat_some, dat_some, PyData.eqv, eqv_intsB]
  refine decide_eq_decide.mpr ⟨fun e => by rw [e], fun e => ?_⟩
  have := congrArg (fun z : Sm => (z.getD []).filterMap id) e
  simpa [filt_some] using this
theorem dat_any {o : Sm} (h : isSum o = true) : ∀ os : List Sm, (∀ x ∈ os, isSum x = true) → ((os.map dat).any fun z => PyData.eqv z (dat o)) = decide (o ∈ os)
  | [], _ => rfl
  | x :: os, hx => by
    rw [List.map_cons, List.any_cons, dat_any h os fun y hy => hx y (List.mem_cons_of_mem _ hy), dat_eqv h (hx x List.mem_cons_self)]
    by_cases e : x = o
    · subst e
      simp
    · have : ¬ o = x := fun z => e z.symm
      simp [e, this]
theorem sh_dats (os : List Sm) : SeqAt.shaped (.tuple (os.map dat)) = true := by
  have c : PyData.canLayAll0 (os.map dat) = true := by
    induction os with
    | nil => simp [PyData.canLayAll0]
    | cons o os ih => simp [PyData.canLayAll0, PyData.canLay0, dat, canlay_ints, ih]
  have d : PyData.depthAll (os.map dat) ≤ 2 := by
    induction os with
    | nil => simp [PyData.depthAll]
    | cons o os ih =>
      have h1 := depth_ints ((o.getD []).filterMap id)
      have ih := ih (by
        simp [PyData.canLayAll0] at c
        exact c.2)
      simp only [List.map_cons, PyData.depthAll, dat, PyData.depth] at *
      omega
  refine Bool.and_eq_true_iff.mpr ⟨?_, decide_eq_true ?_⟩
  · show PyData.canLay0 (.tuple _) = true
    rw [PyData.canLay0]
    exact c
  · show PyData.depth (.tuple _) ≤ 64
    rw [PyData.depth]
    omega
theorem sh_ints (l : List Int) : SeqAt.shaped (.tuple (l.map PyData.int)) = true := by
  refine Bool.and_eq_true_iff.mpr ⟨?_, decide_eq_true ?_⟩
  · show PyData.canLay0 (.tuple _) = true
    rw [PyData.canLay0]
    exact canlay_ints l
  · show PyData.depth (.tuple _) ≤ 64
    rw [PyData.depth]
    have := depth_ints l
    omega
/-- items and how the checks take them -/
def Sms (K : PySem.W.Frag) (H : Hp) (xs : List V) (os : List Sm) : Prop := xs.length = os.length ∧ ∀ (j : Nat) (v : V), xs[j]? = some v → ∃ o, os[j]? = some o ∧ SmV K H v o
theorem Sms.same {K : PySem.W.Frag} {H H' : Hp} {xs : List V} {os : List Sm} (h : Sms K H xs os) (s : Same H H') : Sms K H' xs os := ⟨h.1, fun j v e => by
  obtain ⟨o, h1, h2⟩ := h.2 j v e
  exact ⟨o, h1, h2.same s⟩⟩
theorem dp_sums {K : PySem.W.Frag} {H : Hp} : ∀ {xs : List V} {os : List Sm} (i : Nat), Sms K H xs os → (∀ o ∈ os.take i, isSum o = true) → DpAll K H (xs.take i) ((os.take i).map dat)
  | _, _, 0, _, _ => by
    rw [List.take_zero, List.take_zero]
    exact .nil
  | [], [], i + 1, _, _ => .nil
  | [], _ :: _, _, h, _ => by cases h.1
  | _ :: _, [], _, h, _ => by cases h.1
  | x :: xs, o :: os, i + 1, h, hs => by
    rw [List.take_succ_cons, List.take_succ_cons, List.map_cons]
    obtain ⟨o', e1, e2⟩ := h.2 0 x rfl
    cases (show o = o' from by simpa using e1)
    have so := hs o (by rw [List.take_succ_cons]; exact List.mem_cons_self)
    obtain ⟨a, l, rfl, eo, ha, _, _⟩ := sum_data e2 so
    refine .cons ?_ (dp_sums i ⟨by have := h.1; simpa using this, fun j v e => h.2 (j + 1) v (by simpa using e)⟩ fun y hy => hs y (by rw [List.take_succ_cons]; exact List.mem_cons_of_mem _ hy))
    rw [eo, dat_some]
    exact dp_sum ha
theorem walk_enumT {K : PySem.W.Frag} {a : Addr} {xs : List V} : Walk (IteT K a) xs.length (fun H => SqT K H a xs) (fun i H v H' => ∃ T x, v = .ref T ∧ H T = none ∧ H' = upd H T (.tup [.int (i : Nat), x]) ∧ xs[i]? = some x) :=
  ⟨fun i H hi h => ⟨xs, xs[i], h, List.getElem?_eq_getElem hi⟩, fun H h => ⟨xs, h, Nat.le_refl _⟩, fun i H x H' hi h y => by
    obtain ⟨T, x, e1, e2, e3, e4⟩ := y
    exact ⟨T, x, e1, e2, e3, e4 xs h⟩⟩
theorem cut_tk (xs : List V) {i : Nat} (h : i < xs.length) : cutV xs none (some (i : Int)) = xs.take i := by
  unfold cutV
  rw [HT.sIx_nat, Nat.min_eq_left (by omega)]
  show (List.drop 0 xs).take (i - 0) = _
  rw [List.drop_zero, Nat.sub_zero]
section
variable {P : Program} {w : World} {K : PySem.W.Frag} {mg : Str → Option Value} {base : Heap}
abbrev s_init : Stmt := inClass (topS 28) 0
theorem sc_init : FnScope ["self", "mute", "sums", "at", "ages"] ["self", "mute", "sums"] (defScope s_init) := ⟨rfl, rfl, rfl, by decide +kernel, rfl, by decide +kernel, by decide +kernel⟩
def spTick (K : PySem.W.Frag) (C CB CM : Addr) : Sp := fun vs H Q E => ∃ (x dx p : Addr) (mv : V) (xs : List V) (os : List Sm) (mb : Option Bool), vs = [.ref x, mv, .ref p] ∧ H x = some (.ins C dx []) ∧ H p = some (.tup xs) ∧ xs.length ≤ 100 ∧ Sms K H xs os ∧ MuV K H mv mb ∧
  (∀ i, badAt [] os 0 = some i → OutF E CB [("part", vi i)] H) ∧
  (badAt [] os 0 = none → (6 < xs.length → OutF E CM [("most", .int 6), ("what", .str "sums")] H) ∧ (xs.length ≤ 6 → (muteBad os mb = true → OutF E CB [("part", .str "mute")] H) ∧
    (muteBad os mb = false → ∀ b H3, mb = some b → Same H H3 → Q .non (upd H3 x (.ins C dx [("sums", .ref p), ("mute", .bl b)])))))
/-- what the top's names stand for -/
structure Tk (K : PySem.W.Frag) (mg : Str → Option Value) (C : Addr) : Prop where
  cl : Cls K C
  nS : NoAttr K C "sums"
  nM : NoAttr K C "mute"
  gC : mg "Tick" = some (.ref C)
theorem body_tick {C CB CM f fS fI fM : Addr} {fdS fdI fdM : FuncData} {cdv : Value} {A : Around} {outer : List Env} {s : Shared} {H : Hp} {vs : List V} {Q : VK} {E : XK} {k : Nat} (hk : 4 ≤ k)
    (GS : FnOk P w K mg base CX0 4 fS fdS ["value"] (spSum K)) (kS : PySem.W.keepIn K (.ref fS) = true) (bS : Binds K fdS ["value"] []) (gS : mg "is_sum" = some (.ref fS))
    (FB : FnOk P w K mg base CX0 1 fI fdI ["self", "part"] (spErr1 K "part")) (bB : Binds K fdI ["self", "part"] []) (R : ErrC K mg "BadTick" CB fI "part")
    (FM : FnOk P w K mg base CX0 1 fM fdM ["self", "what", "most"] (spErr2 K "what" "most")) (bM : Binds K fdM ["self", "what", "most"] []) (RM : ErrC K mg "TooMany" CM fM "what") (nm : PySem.W.findIn K (.ref CM) "most" = some none) (T : Nm mg) (S : Tk K mg C)
    (hr : Room k (A.deeper (envOfC "Tick.__init__" (defScope s_init) s.heap.objs.size f cdv))) (h : spTick K C CB CM vs H Q E) :
    ∃ t, PSs (cxOf (L2.CX P w) P w K mg base ["self", "mute", "sums", "at", "ages"] "Tick.__init__" (defScope s_init) f cdv A outer s H E) (defBody s_init) t ∧ t { nx := fun _ H' => Q .non H', rt := Q } (start ["self", "mute", "sums", "at", "ages"] vs) H := by
  obtain ⟨x, dx, p, mv, xs, os, mb, rfl, hx, hp, hl, sms, mu, q1, q2⟩ := h
  obtain ⟨tb, gMS⟩ := T.ms
  have hu : (A.deeper (envOfC "Tick.__init__" (defScope s_init) s.heap.objs.size f cdv)).units + 65 < cLine := by have := hr.un; omega
  have hr4 : Room 4 _ := hr.mono hk
  have hr2 : Room 2 _ := hr.mono (by omega)
  refine ⟨_, (pss_cons (ps_for (passes_of rfl) rfl (pi_enumT rfl T.enum (pa_cons (pv 2) pa_nil)) (pg_tup rfl (pgs_cons (pg_name (i := 3) sc_init.nd rfl (Or.inl rfl)) (pgs_cons (pg_name (i := 4) sc_init.nd rfl (Or.inl rfl)) pgs_nil)))
    (pss_one (ps_if (PW.pt (pw_or (pt_not (pt_val (pe_call GS hr4 rfl gS kS bS .nil pass0 (pa_cons (pv 4) pa_nil)))) (pw_or1 (pt_cmpR (r := rInT K) (op_inT hu) (pv 4) (pe_slice sl_tup (pv 2) po_none (po_some (pv 3))) (by rfl))))) (pss_one (ps_raise rfl (takes_of rfl rfl rfl rfl) (pmk_oex R.T R.iC R.tI FB hr2 bB .nil pass0 rfl R.gC (pa_cons (pv 3) pa_nil)))) pss_nil)))
    (pss_cons (ps_if (pt_cmpR op_gt (pe_callB call_len_seq (by rfl) T.len boot_len (pa_cons (pv 2) pa_nil)) (pe_glob (v := .int 6) rfl gMS ⟨_, rfl⟩) (nomark _)) (pss_one (ps_raise rfl (takes_of rfl rfl rfl rfl) (pmk_oex RM.T RM.iC RM.tI FM hr2 bM .nil pass0 rfl RM.gC (pa_cons pe_str (pa_cons (pe_glob (v := .int 6) rfl gMS ⟨_, rfl⟩) pa_nil))))) pss_nil)
    (pss_cons (ps_if (pt_not (pt_val (pe_callB call_isi (by rfl) T.isi boot_isinstance (pa_cons (pv 1) (pa_cons (pe_bltn (v := .ty "bool") (by rfl) T.bool PyProof.Rows.boot_bool rfl) pa_nil))))) (pss_one (ps_raise rfl (takes_of rfl rfl rfl rfl) (pmk_oex R.T R.iC R.tI FB hr2 bB .nil pass0 rfl R.gC (pa_cons pe_str pa_nil)))) pss_nil)
    (pss_cons (ps_if (PW.pt (pw_and (pt_val (pv 1)) (pw_and1 (pt_val (pe_callB (cr_any rfl) (by rfl) T.any PyProof.Rows.boot_any (pa_cons (pe_lc (own := [("ages", 4)]) (g := (gName 4)) (tt := tYes) (te := tOp rEq (tOp (rIxT K) (tVar 4) (tC (.int 0))) (tC (.int 0))) rfl sc_init.nd (by exact pi_tup (pv 2)) (blkOk_by (by kernel_rfl)) (fun _ _ _ _ _ => pg_name (i := 4) sc_init.nd rfl (Or.inl rfl)) (fun _ _ _ _ _ => pts_nil) (fun _ _ _ _ _ => (by exact pe_cmpR op_eq (pe_ix ix_tup (pv 4) pe_int (fun _ _ => rfl)) pe_int (nomark _)))) pa_nil)))))) (pss_one (ps_raise rfl (takes_of rfl rfl rfl rfl) (pmk_oex R.T R.iC R.tI FB hr2 bB .nil pass0 rfl R.gC (pa_cons pe_str pa_nil)))) pss_nil)
    (pss_cons (ps_fld (pv 0) (pv 2) rfl)
    (pss_one (ps_fld (pv 0) (pv 1) rfl)))))))
    , ?_⟩
  refine ⟨_, rfl, p, xs, rfl, .of hp, ?_⟩
  refine for_it walk_enumT (fun i σ H' => ∃ v3 v4 : Option V, σ = [some (.ref x), some mv, some (.ref p), v3, v4] ∧ Same H H' ∧ badAt [] os 0 = badAt (os.take i) (os.drop i) i ∧ ∀ o ∈ os.take i, isSum o = true) ⟨none, none, rfl, fun _ _ e => e, by rw [List.take_zero, List.drop_zero], fun o ho => by cases ho⟩ (fun i σ H' _ ⟨_, _, _, e, _⟩ => .of (e _ _ hp)) ?_ ?_
  · rintro i y σ H2 H3 hi ⟨v3, v4, rfl, s2, eb, hs⟩ ⟨Tp, v, rfl, nT, rfl, hv⟩
    obtain ⟨o, ho, sv⟩ := sms.2 i v hv
    have io : i < os.length := by rw [← sms.1]; exact hi
    have ed : os.drop i = o :: os.drop (i + 1) := by
      obtain ⟨h1, h2⟩ := List.getElem?_eq_some_iff.mp ho
      rw [List.drop_eq_getElem_cons h1, h2]
    have et : os.take (i + 1) = os.take i ++ [o] := by
      rw [List.take_add_one, ho]
      rfl
    rw [ed] at eb
    have sT := same_upd (o := HO.tup [V.int (i : Nat), v]) nT
    have s3 := s2.trans sT
    refine ⟨Tp, _, rfl, .of upd_same, rfl, _, _, rfl, _, _, rfl, rfl, ?_⟩
    generalize upd H2 Tp (.tup [V.int (i : Nat), v]) = H3 at s3 sT ⊢
    refine ⟨_, rfl, v, o, rfl, sv.same s3, fun H4 s4 => ?_⟩
    have s04 := s3.trans s4
    cases so : isSum o with
    | false =>
      refine ⟨_, rfl, iteT (iteT ?_)⟩
      exact ⟨_, rfl, (by show 1 ≤ 1000; omega), raise1 R.T R.no ((q1 i (by rw [eb]; exact bad_yes (.inl so))).same s04)⟩
    | true =>
      refine ⟨_, rfl, iteF ?_⟩
      obtain ⟨a, l, rfl, eo, ha, _, _⟩ := sum_data (sv.same s04) so
      refine ⟨_, rfl, _, rfl, _, rfl, _, rfl, p, xs, rfl, .of (s04 _ _ hp), ?_, fun r nr => ?_⟩
      · rintro ⟨_, h2⟩
        rw [HT.sIx_nat] at h2
        omega
      · rw [cut_tk xs hi]
        have sr := same_upd (o := HO.tup (xs.take i)) nr
        have dd : dat o = .tuple (l.map PyData.int) := by rw [eo, dat_some]
        refine ⟨dat o, (os.take i).map dat, by rw [dd]; exact dp_sum (sr _ _ ha), .tup (.of upd_same) (dp_sums i (sms.same (s04.trans sr)) hs), by rw [dd]; exact sh_ints l, sh_dats _, _, rfl, ?_⟩
        rw [dat_any so _ hs]
        refine ite2 (fun c => ?_) (fun c => ?_)
        · have c' := of_decide_eq_true c
          exact ⟨_, rfl, (by show 1 ≤ 1000; omega), raise1 R.T R.no ((q1 i (by rw [eb]; exact bad_yes (.inr c'))).same (s04.trans sr))⟩
        · have c' : ¬ o ∈ os.take i := fun z => c (decide_eq_true z)
          refine ⟨_, _, rfl, s04.trans sr, ?_, fun y hy => ?_⟩
          · rw [eb, et]
            exact bad_no (fun z => z.elim (fun z => by rw [so] at z; cases z) c')
          · rw [et] at hy
            rcases List.mem_append.mp hy with hy | hy
            · exact hs y hy
            · rw [List.mem_singleton.mp hy]
              exact so
  · rintro σ H2 ⟨v3, v4, rfl, s2, eb, hs⟩
    rw [sms.1, List.drop_length, badAt] at eb
    rw [sms.1, List.take_length] at hs
    obtain ⟨q3, q4⟩ := q2 eb
    refine ⟨_, rfl, p, xs, rfl, .inr (.of (s2 _ _ hp)), _, _, rfl, rfl, _, rfl, ?_⟩
    refine ite2 (fun c => ?_) (fun c => ?_)
    · have c' := of_decide_eq_true c
      exact ⟨(by show 2 ≤ 1000; omega), raise2 RM.T RM.no nm ((q3 (by omega)).same s2)⟩
    · have c' : xs.length ≤ 6 := by
        have : ¬ (6 : Int) < ((xs.length : Nat) : Int) := fun z => c (decide_eq_true z)
        omega
      obtain ⟨q5, q6⟩ := q4 c'
      have mu2 := mu.same s2
      cases mu2 with
      | no ty k => exact ⟨_, rfl, _, _, _, _, false, rfl, .ty "bool", ty H2 (fun _ _ e => e), k, false, rfl, iteT ⟨(by show 1 ≤ 1000; omega), raise1 R.T R.no ((q5 rfl).same s2)⟩⟩
      | bl b =>
        refine ⟨_, rfl, _, _, _, _, true, rfl, .ty "bool", .base (.bl b), kit_ty (by decide +kernel), true, rfl, iteF ?_⟩
        have fin : ∀ (H3 : Hp) (v3 v4 : Option V), Same H H3 → muteBad os (some b) = false → (tSeq (sFld K (tVar 0) (tVar 2) "sums") (sFld K (tVar 0) (tVar 1) "mute")) { nx := fun _ H' => Q .non H', rt := Q } [some (.ref x), some (.bl b), some (.ref p), v3, v4] H3 := fun H3 v3 v4 s3 hm => by
          refine ⟨_, rfl, _, rfl, x, C, dx, [], rfl, s3 _ _ hx, S.cl, S.nS, by decide, ?_⟩
          refine ⟨_, rfl, _, rfl, x, C, dx, _, rfl, upd_same, S.cl, S.nM, by show 1 < 1000; omega, ?_⟩
          have e : upd (upd H3 x (.ins C dx (putF "sums" (.ref p) []))) x (.ins C dx (putF "mute" (.bl b) (putF "sums" (.ref p) []))) = upd H3 x (.ins C dx [("sums", .ref p), ("mute", .bl b)]) := by
            funext z
            by_cases hz : z = x
            · rw [hz, upd_same, upd_same]
              rfl
            · rw [upd_ne hz, upd_ne hz, upd_ne hz]
          rw [e]
          exact q6 hm b H3 rfl s3
        cases b with
        | false => exact ⟨_, rfl, _, rfl, iteF (iteF (fin H2 _ _ s2 rfl))⟩
        | true =>
          refine ⟨_, rfl, _, rfl, iteT ?_⟩
          refine ⟨_, rfl, p, rfl, ⟨_, .of (s2 _ _ hp)⟩, fun D nD => ?_⟩
          refine lc_tup (K := K) (a := p) (xs := xs) (fun j H3 => Same H2 H3 ∧ H3 D = some (.lst (((os.take j).map head0).map V.bl))) ⟨same_upd nD, upd_same⟩ (fun j H3 _ ⟨e, _⟩ => .of (e _ _ (s2 _ _ hp))) ?_ ?_
          · rintro j v H3 hj ⟨s3, e3⟩
            obtain ⟨o, ho, sv⟩ := sms.2 j v hj
            obtain ⟨a, l, rfl, eo, ha, hne, _⟩ := sum_data (sv.same (s2.trans s3)) (hs o (List.mem_of_getElem? ho))
            obtain ⟨l0, lr, el⟩ : ∃ l0 lr, l = l0 :: lr := by
              cases l with
              | nil => exact absurd rfl hne
              | cons a b => exact ⟨a, b, rfl⟩
            subst el
            have eh : head0 o = decide (V.int l0 = V.int 0) := by
              rw [eo]
              show decide (l0 = 0) = _
              by_cases h0 : l0 = 0
              · rw [h0]
                rfl
              · rw [decide_eq_false h0, decide_eq_false]
                intro z
                injection z with z
                exact h0 z
            refine ⟨rfl, _, rfl, a, _, 0, _, rfl, rfl, .of ha, atI_nat (j := 0) rfl, by rfl, _, e3, ?_, same_put s3 nD, ?_⟩
            · rw [List.length_map, List.length_map, List.length_take]
              have := sms.1
              exact small1000 (by omega)
            · rw [upd_same, List.take_add_one, ho, List.map_append, List.map_append]
              exact congrArg (fun z => some (HO.lst ((List.map head0 (os.take j)).map V.bl ++ [V.bl z]))) eh.symm
          · rintro H3 ⟨s3, e3⟩
            rw [sms.1, List.take_length] at e3
            refine ⟨D, _, rfl, .of e3, _, rfl, ?_⟩
            have ea : ((os.map head0).any id) = os.any head0 := by rw [List.any_map]; rfl
            rw [ea]
            have hm : muteBad os (some true) = os.any head0 := rfl
            refine ite2 (fun c => ?_) (fun c => ?_)
            · exact ⟨(by show 1 ≤ 1000; omega), raise1 R.T R.no ((q5 (by rw [hm]; exact c)).same (s2.trans s3))⟩
            · exact fin H3 _ _ (s2.trans s3) (by rw [hm]; simpa using c)
end
end Lr

set_option Elab.async false
set_option linter.all false
set_option maxRecDepth 100000
set_option maxHeartbeats 4000000
namespace Lr
open PySem PySem.Spec PyProof.Rows L2 Ow Og Oe
section
variable {P : Program} {w : World} {K : PySem.W.Frag} {mg : Str → Option Value} {base : Heap}
theorem ok_tick {C CB CM f fS fI fM : Addr} {fd fdS fdI fdM : FuncData} (F : FunD K "__init__" "Tick.__init__" (defArgs s_init) (defBody s_init) (defScope s_init) [] [("mute", .bl false)] f fd)
    (GS : FnOk P w K mg base CX0 4 fS fdS ["value"] (spSum K)) (kS : PySem.W.keepIn K (.ref fS) = true) (bS : Binds K fdS ["value"] []) (gS : mg "is_sum" = some (.ref fS))
    (FB : FnOk P w K mg base CX0 1 fI fdI ["self", "part"] (spErr1 K "part")) (bB : Binds K fdI ["self", "part"] []) (R : ErrC K mg "BadTick" CB fI "part")
    (FM : FnOk P w K mg base CX0 1 fM fdM ["self", "what", "most"] (spErr2 K "what" "most")) (bM : Binds K fdM ["self", "what", "most"] []) (RM : ErrC K mg "TooMany" CM fM "what") (nm : PySem.W.findIn K (.ref CM) "most" = some none) (T : Nm mg) (S : Tk K mg C) :
    FnM P w K mg base (L2.CX P w) 5 f "mute" (.bl false) (spTick K C CB CM) := by
  obtain ⟨oc, od, dV, kV, doc, pm, an, cdv, ct, osl, rfl, lk, hcd, hD, hK⟩ := F.ex
  rcases hD with ⟨_, rfl⟩ | ⟨e, _⟩
  · rcases hK with e | ⟨D, rfl, hq⟩
    · cases e
    · obtain ⟨u, hu, ru⟩ := hq ("mute", .bl false) List.mem_cons_self
      refine fnM_of (p1 := "self") (mk := "mute") (pv := "sums") (dv := .bl false) (du := u) (D := D) lk hcd sc_init StX.cxUp (fun a m rest => ?_) hu ru (fun a rest => ?_) (fun A outer s H vs Q E hr h => body_tick (by decide) GS kS bS gS FB bB R FM bM RM nm T S hr h)
      · cases rest <;> rfl
      · cases rest with
        | nil => exact ⟨_, _, _, _, _, _, rfl, rfl, rfl⟩
        | cons r rs => exact ⟨_, _, _, _, _, _, rfl, rfl, rfl⟩
  · exact absurd rfl e
end
end Lr

set_option Elab.async false
set_option linter.all false
set_option maxRecDepth 100000
set_option maxHeartbeats 4000000
namespace Lr
open PySem PySem.Spec PyProof.Rows L2 Ow Og Oe
/-- Tick(*xs, mute = mv): what becomes of it -/
def TickAsk (K : PySem.W.Frag) (C CB CM : Addr) (E : XK) (mv : V) (xs : List V) (H : Hp) (Q : VK) : Prop := ∃ (os : List Sm) (mb : Option Bool), xs.length ≤ 100 ∧ Sms K H xs os ∧ MuV K H mv mb ∧
  (∀ i, badAt [] os 0 = some i → OutF E CB [("part", vi i)] H) ∧
  (badAt [] os 0 = none → (6 < xs.length → OutF E CM [("most", .int 6), ("what", .str "sums")] H) ∧ (xs.length ≤ 6 → (muteBad os mb = true → OutF E CB [("part", .str "mute")] H) ∧
    (muteBad os mb = false → ∀ b z dz p H', mb = some b → Same H H' → H' z = some (.ins C dz [("sums", .ref p), ("mute", .bl b)]) → H' p = some (.tup xs) → Q (.ref z) H')))
theorem TickAsk.same {K : PySem.W.Frag} {C CB CM : Addr} {E : XK} {mv : V} {xs : List V} {H H1 : Hp} {Q : VK} (h : TickAsk K C CB CM E mv xs H Q) (s : Same H H1) : TickAsk K C CB CM E mv xs H1 Q := by
  obtain ⟨os, mb, h1, h2, h3, h4, h5⟩ := h
  refine ⟨os, mb, h1, h2.same s, h3.same s, fun i e => (h4 i e).same s, fun e => ⟨fun l => ((h5 e).1 l).same s, fun l => ⟨fun m => (((h5 e).2 l).1 m).same s, fun m b z dz p H' e1 s1 e2 e3 => ((h5 e).2 l).2 m b z dz p H' e1 (s.trans s1) e2 e3⟩⟩⟩
theorem ask_tick {K : PySem.W.Frag} {C CB CM : Addr} {E : XK} {mv : V} {xs : List V} {H : Hp} {Q : VK} (h : TickAsk K C CB CM E mv xs H Q) : mkAskM C (spTick K C CB CM) E mv xs H Q := by
  obtain ⟨os, mb, h1, h2, h3, h4, h5⟩ := h
  refine ⟨Nat.le_of_lt (small1000 (by omega)), fun x dx nx nd ne p np => ?_⟩
  have s1 := same_upd (o := HO.own x) nd
  have n1 : (upd H dx (.own x)) x = none := by
    rw [upd_ne (Ne.symm ne)]
    exact nx
  have s2 := s1.trans (same_upd (o := HO.ins C dx []) n1)
  have s3 := s2.trans (same_upd (o := HO.tup xs) np)
  have px : p ≠ x := fun e => by
    rw [e, upd_same] at np
    cases np
  refine ⟨x, dx, p, mv, xs, os, mb, rfl, by rw [upd_ne (Ne.symm px), upd_same], upd_same, h1, h2.same s3, h3.same s3, fun i e => (h4 i e).same s3, fun e => ⟨fun l => ((h5 e).1 l).same s3, fun l => ⟨fun m => (((h5 e).2 l).1 m).same s3, fun m b H3 e1 s4 => ⟨rfl, ((h5 e).2 l).2 m b x dx p _ e1 (same_put (s3.trans s4) nx) upd_same ?_⟩⟩⟩⟩
  rw [upd_ne px]
  exact s4 _ _ upd_same
section
variable {P : Program} {w : World} {K : PySem.W.Frag} {mg : Str → Option Value} {base : Heap}
abbrev s_made : Stmt := topS 33
theorem sc_made : FnScope ["_law_plain", "_law_sums", "_law_is_mute", "_law_a", "_law_b", "_law_c", "_law_d", "_law_e", "_law_f"] ["_law_plain"] (defScope s_made) := ⟨rfl, rfl, rfl, by decide +kernel, rfl, by decide +kernel, by decide +kernel⟩
def spMade (K : PySem.W.Frag) (C CB CM : Addr) : Sp := fun vs H Q E => ∃ (pl t : Addr) (mv : V) (xs : List V), vs = [.ref pl] ∧ H pl = some (.tup [.ref t, mv]) ∧ H t = some (.tup xs) ∧ xs.length ≤ 6 ∧ TickAsk K C CB CM E mv xs H Q
theorem ok_made {C CB CM f f0 : Addr} {fd : FuncData} (F : Fun K "_law_tick_made" "_law_tick_made" s_made f fd) (GI : FnM P w K mg base (L2.CX P w) 5 f0 "mute" (.bl false) (spTick K C CB CM)) (MM : Mk K C f0) (T : Nm mg) (S : Tk K mg C) :
    FnOk P w K mg base (L2.CX P w) 7 f fd ["_law_plain"] (spMade K C CB CM) := by
  refine F.okX sc_made (fun vs H Q E h => ?_) (fun cdv A outer s H vs Q E hr h => ?_)
  · obtain ⟨pl, t, mv, xs, rfl, _⟩ := h
    rfl
  · obtain ⟨pl, t, mv, xs, rfl, hpl, ht, l6, ask⟩ := h
    refine ⟨_, (pss_cons (ps_asg (pv 0) (pg_tup rfl (pgs_cons (pg_name (i := 1) sc_made.nd rfl (Or.inl rfl)) (pgs_cons (pg_name (i := 2) sc_made.nd rfl (Or.inl rfl)) pgs_nil))))
    (pss_cons (ps_asg (pe_slice sl_list (pe_op op_cat (pe_callTy call_list_of (by rfl) T.list PyProof.Rows.boot_list (pa_cons (pv 1) pa_nil)) (pe_op op_rep (pe_lst (pa_cons pe_non pa_nil)) pe_int)) po_none (po_some pe_int)) (pg_unl rfl (pgs_cons (pg_name (i := 3) sc_made.nd rfl (Or.inl rfl)) (pgs_cons (pg_name (i := 4) sc_made.nd rfl (Or.inl rfl)) (pgs_cons (pg_name (i := 5) sc_made.nd rfl (Or.inl rfl)) (pgs_cons (pg_name (i := 6) sc_made.nd rfl (Or.inl rfl)) (pgs_cons (pg_name (i := 7) sc_made.nd rfl (Or.inl rfl)) (pgs_cons (pg_name (i := 8) sc_made.nd rfl (Or.inl rfl)) pgs_nil))))))))
    (pss_cons (ps_if (pt_cmpR op_gt (pe_callB call_len_seq (by rfl) T.len boot_len (pa_cons (pv 1) pa_nil)) pe_int (nomark _)) (pss_cons (ps_if (pt_cmpR op_eq (pe_callB call_len_seq (by rfl) T.len boot_len (pa_cons (pv 1) pa_nil)) pe_int (nomark _)) (pss_one (ps_ret (pe_makeM (E := E) MM GI hr rfl S.gC (passes_call (takes_of rfl rfl rfl rfl) (fun _ _ _ _ h => h)) (pa_cons (pv 3) (pa_cons (pv 4) (pa_cons (pv 5) (pa_cons (pv 6) pa_nil)))) (pk_cons (pv 2) pk_nil)))) pss_nil)
    (pss_one (ps_ret (pe_ifExp (pt_cmpR op_eq (pe_callB call_len_seq (by rfl) T.len boot_len (pa_cons (pv 1) pa_nil)) pe_int (nomark _)) (pe_makeM (E := E) MM GI hr rfl S.gC (passes_call (takes_of rfl rfl rfl rfl) (fun _ _ _ _ h => h)) (pa_cons (pv 3) (pa_cons (pv 4) (pa_cons (pv 5) (pa_cons (pv 6) (pa_cons (pv 7) pa_nil))))) (pk_cons (pv 2) pk_nil)) (pe_makeM (E := E) MM GI hr rfl S.gC (passes_call (takes_of rfl rfl rfl rfl) (fun _ _ _ _ h => h)) (pa_cons (pv 3) (pa_cons (pv 4) (pa_cons (pv 5) (pa_cons (pv 6) (pa_cons (pv 7) (pa_cons (pv 8) pa_nil)))))) (pk_cons (pv 2) pk_nil)))))) pss_nil)
    (pss_cons (ps_if (pt_cmpR op_eq (pe_callB call_len_seq (by rfl) T.len boot_len (pa_cons (pv 1) pa_nil)) pe_int (nomark _)) (pss_one (ps_ret (pe_makeM (E := E) MM GI hr rfl S.gC (passes_call (takes_of rfl rfl rfl rfl) (fun _ _ _ _ h => h)) (pa_cons (pv 3) (pa_cons (pv 4) (pa_cons (pv 5) pa_nil))) (pk_cons (pv 2) pk_nil)))) pss_nil)
    (pss_cons (ps_if (pt_cmpR op_eq (pe_callB call_len_seq (by rfl) T.len boot_len (pa_cons (pv 1) pa_nil)) pe_int (nomark _)) (pss_one (ps_ret (pe_makeM0 (E := E) MM GI hr rfl S.gC (passes_call (takes_of rfl rfl rfl rfl) (fun _ _ _ _ h => h)) (pk_cons (pv 2) pk_nil)))) pss_nil)
    (pss_one (ps_ret (pe_ifExp (pt_cmpR op_eq (pe_callB call_len_seq (by rfl) T.len boot_len (pa_cons (pv 1) pa_nil)) pe_int (nomark _)) (pe_makeM (E := E) MM GI hr rfl S.gC (passes_call (takes_of rfl rfl rfl rfl) (fun _ _ _ _ h => h)) (pa_cons (pv 3) pa_nil) (pk_cons (pv 2) pk_nil)) (pe_makeM (E := E) MM GI hr rfl S.gC (passes_call (takes_of rfl rfl rfl rfl) (fun _ _ _ _ h => h)) (pa_cons (pv 3) (pa_cons (pv 4) pa_nil)) (pk_cons (pv 2) pk_nil))))))))))
    , ?_⟩
    refine ⟨_, rfl, pl, _, rfl, .of hpl, rfl, _, _, rfl, _, _, rfl, rfl, ?_⟩
    refine ⟨_, rfl, t, _, rfl, .inr (.of ht), fun l1 n1 => ?_⟩
    have s1 := same_upd (o := HO.lst xs) n1
    refine ⟨by show 1 ≤ sizeLine; exact Nat.le_of_lt (small1000 (by omega)), fun l2 n2 => ?_⟩
    have s2 := same_upd (o := HO.lst [V.non]) n2
    refine ⟨l2, 6, [V.non], rfl, rfl, upd_same, by decide, by decide, by show 6 ≤ sizeLine; exact Nat.le_of_lt (small1000 (by omega)), fun l3 n3 => ?_⟩
    have s3 := same_upd (o := HO.lst (List.replicate (6 : Int).toNat [V.non]).flatten) n3
    have e1 : (upd (upd (upd H l1 (.lst xs)) l2 (.lst [V.non])) l3 (.lst (List.replicate (6 : Int).toNat [V.non]).flatten)) l1 = some (.lst xs) := s3 _ _ (s2 _ _ upd_same)
    refine ⟨l1, l3, xs, _, rfl, rfl, e1, upd_same, by show xs.length + 6 ≤ sizeLine; exact Nat.le_of_lt (small1000 (by omega)), fun l4 n4 => ?_⟩
    have s4 := same_upd (o := HO.lst (xs ++ (List.replicate (6 : Int).toNat [V.non]).flatten)) n4
    refine ⟨6, rfl, l4, _, rfl, .of upd_same, fun l5 n5 => ?_⟩
    have s5 := same_upd (o := HO.lst (cutV (xs ++ (List.replicate (6 : Int).toNat [V.non]).flatten) none (some 6))) n5
    have sN := s1.trans (s2.trans (s3.trans (s4.trans s5)))
    have htN := sN _ _ ht
    have askN := ask.same sN
    have e5 : (upd (upd (upd (upd (upd H l1 (.lst xs)) l2 (.lst [V.non])) l3 (.lst (List.replicate (6 : Int).toNat [V.non]).flatten)) l4 (.lst (xs ++ (List.replicate (6 : Int).toNat [V.non]).flatten))) l5 (.lst (cutV (xs ++ (List.replicate (6 : Int).toNat [V.non]).flatten) none (some 6)))) l5 = some (.lst (cutV (xs ++ (List.replicate (6 : Int).toNat [V.non]).flatten) none (some 6))) := upd_same
    generalize upd (upd (upd (upd (upd H l1 (.lst xs)) l2 (.lst [V.non])) l3 (.lst (List.replicate (6 : Int).toNat [V.non]).flatten)) l4 (.lst (xs ++ (List.replicate (6 : Int).toNat [V.non]).flatten))) l5 (.lst (cutV (xs ++ (List.replicate (6 : Int).toNat [V.non]).flatten) none (some 6))) = HN at htN askN e5 ⊢
    clear sN s1 s2 s3 s4 s5 e1 n1 n2 n3 n4 n5
    match xs, l6 with
    | [], _ =>
      have ec : cutV (([] : List V) ++ (List.replicate (6 : Int).toNat [V.non]).flatten) none (some 6) = [.non, .non, .non, .non, .non, .non] := rfl
      rw [ec] at e5
      refine ⟨l5, _, rfl, .of e5, rfl, _, _, rfl, _, _, rfl, _, _, rfl, _, _, rfl, _, _, rfl, _, _, rfl, rfl, ?_⟩
      refine ⟨_, rfl, t, _, rfl, .inr (.of htN), _, _, rfl, rfl, false, rfl, iteF ?_⟩
      refine ⟨_, rfl, t, _, rfl, .inr (.of htN), by rfl, false, rfl, iteF ?_⟩
      refine ⟨_, rfl, t, _, rfl, .inr (.of htN), by rfl, true, rfl, iteT ?_⟩
      exact ⟨_, rfl, mv, rfl, ask_tick askN⟩
    | [x0], _ =>
      have ec : cutV (([x0] : List V) ++ (List.replicate (6 : Int).toNat [V.non]).flatten) none (some 6) = [x0, .non, .non, .non, .non, .non] := rfl
      rw [ec] at e5
      refine ⟨l5, _, rfl, .of e5, rfl, _, _, rfl, _, _, rfl, _, _, rfl, _, _, rfl, _, _, rfl, _, _, rfl, rfl, ?_⟩
      refine ⟨_, rfl, t, _, rfl, .inr (.of htN), _, _, rfl, rfl, false, rfl, iteF ?_⟩
      refine ⟨_, rfl, t, _, rfl, .inr (.of htN), by rfl, false, rfl, iteF ?_⟩
      refine ⟨_, rfl, t, _, rfl, .inr (.of htN), by rfl, false, rfl, iteF ?_⟩
      refine ⟨_, rfl, t, _, rfl, .inr (.of htN), by rfl, true, rfl, iteT ?_⟩
      exact ⟨_, rfl, _, rfl, mv, rfl, ask_tick askN⟩
    | [x0, x1], _ =>
      have ec : cutV (([x0, x1] : List V) ++ (List.replicate (6 : Int).toNat [V.non]).flatten) none (some 6) = [x0, x1, .non, .non, .non, .non] := rfl
      rw [ec] at e5
      refine ⟨l5, _, rfl, .of e5, rfl, _, _, rfl, _, _, rfl, _, _, rfl, _, _, rfl, _, _, rfl, _, _, rfl, rfl, ?_⟩
      refine ⟨_, rfl, t, _, rfl, .inr (.of htN), _, _, rfl, rfl, false, rfl, iteF ?_⟩
      refine ⟨_, rfl, t, _, rfl, .inr (.of htN), by rfl, false, rfl, iteF ?_⟩
      refine ⟨_, rfl, t, _, rfl, .inr (.of htN), by rfl, false, rfl, iteF ?_⟩
      refine ⟨_, rfl, t, _, rfl, .inr (.of htN), by rfl, false, rfl, iteF ?_⟩
      exact ⟨_, rfl, _, rfl, _, rfl, mv, rfl, ask_tick askN⟩
    | [x0, x1, x2], _ =>
      have ec : cutV (([x0, x1, x2] : List V) ++ (List.replicate (6 : Int).toNat [V.non]).flatten) none (some 6) = [x0, x1, x2, .non, .non, .non] := rfl
      rw [ec] at e5
      refine ⟨l5, _, rfl, .of e5, rfl, _, _, rfl, _, _, rfl, _, _, rfl, _, _, rfl, _, _, rfl, _, _, rfl, rfl, ?_⟩
      refine ⟨_, rfl, t, _, rfl, .inr (.of htN), _, _, rfl, rfl, false, rfl, iteF ?_⟩
      refine ⟨_, rfl, t, _, rfl, .inr (.of htN), by rfl, true, rfl, iteT ?_⟩
      exact ⟨_, rfl, _, rfl, _, rfl, _, rfl, mv, rfl, ask_tick askN⟩
    | [x0, x1, x2, x3], _ =>
      have ec : cutV (([x0, x1, x2, x3] : List V) ++ (List.replicate (6 : Int).toNat [V.non]).flatten) none (some 6) = [x0, x1, x2, x3, .non, .non] := rfl
      rw [ec] at e5
      refine ⟨l5, _, rfl, .of e5, rfl, _, _, rfl, _, _, rfl, _, _, rfl, _, _, rfl, _, _, rfl, _, _, rfl, rfl, ?_⟩
      refine ⟨_, rfl, t, _, rfl, .inr (.of htN), _, _, rfl, rfl, true, rfl, iteT ?_⟩
      refine ⟨_, rfl, t, _, rfl, .inr (.of htN), by rfl, true, rfl, iteT ?_⟩
      exact ⟨_, rfl, _, rfl, _, rfl, _, rfl, _, rfl, mv, rfl, ask_tick askN⟩
    | [x0, x1, x2, x3, x4], _ =>
      have ec : cutV (([x0, x1, x2, x3, x4] : List V) ++ (List.replicate (6 : Int).toNat [V.non]).flatten) none (some 6) = [x0, x1, x2, x3, x4, .non] := rfl
      rw [ec] at e5
      refine ⟨l5, _, rfl, .of e5, rfl, _, _, rfl, _, _, rfl, _, _, rfl, _, _, rfl, _, _, rfl, _, _, rfl, rfl, ?_⟩
      refine ⟨_, rfl, t, _, rfl, .inr (.of htN), _, _, rfl, rfl, true, rfl, iteT ?_⟩
      refine ⟨_, rfl, t, _, rfl, .inr (.of htN), by rfl, false, rfl, iteF ?_⟩
      refine ⟨_, rfl, t, _, rfl, .inr (.of htN), by rfl, true, rfl, iteT ?_⟩
      exact ⟨_, rfl, _, rfl, _, rfl, _, rfl, _, rfl, _, rfl, mv, rfl, ask_tick askN⟩
    | [x0, x1, x2, x3, x4, x5], _ =>
      have ec : cutV (([x0, x1, x2, x3, x4, x5] : List V) ++ (List.replicate (6 : Int).toNat [V.non]).flatten) none (some 6) = [x0, x1, x2, x3, x4, x5] := rfl
      rw [ec] at e5
      refine ⟨l5, _, rfl, .of e5, rfl, _, _, rfl, _, _, rfl, _, _, rfl, _, _, rfl, _, _, rfl, _, _, rfl, rfl, ?_⟩
      refine ⟨_, rfl, t, _, rfl, .inr (.of htN), _, _, rfl, rfl, true, rfl, iteT ?_⟩
      refine ⟨_, rfl, t, _, rfl, .inr (.of htN), by rfl, false, rfl, iteF ?_⟩
      refine ⟨_, rfl, t, _, rfl, .inr (.of htN), by rfl, false, rfl, iteF ?_⟩
      exact ⟨_, rfl, _, rfl, _, rfl, _, rfl, _, rfl, _, rfl, _, rfl, mv, rfl, ask_tick askN⟩
end
end Lr

set_option Elab.async false
set_option linter.all false
set_option maxRecDepth 100000
set_option maxHeartbeats 4000000
/-! The end of a law whose def makes lambdas and asks that no repr is under way. -/
namespace Oq
open PySem PySem.Spec PyProof.Rows L2 Ow Og LamX
section
variable {P : Program} {w : World} {K : PySem.W.Frag} {mg mb : Str → Option Value} {CX : CXT} {k : Nat} {fa a : Addr} {fd : FuncData} {x : Str} {sp : Sp} {s0 : Shared} {vs : List Value} {ns : List Int} {cs : List (Addr × Addr)}
abbrev tab0 : Obj := { cls := .none, data := .fields #[] }
/-- what is tracked at the law's call: the script, as an object that nothing changes, and the empty tables -/
def Few (H : Hp) (a : Addr) (cs : List (Addr × Addr)) : Prop := ∀ b, H b = none ∨ (b = a ∧ ∃ ob xs, H b = some (.frz ob (.lst xs))) ∨ ((∃ p ∈ cs, b = p.2) ∧ H b = some (.tbl #[]))
theorem endT_at {H : Hp} (Ki : K.In s0.heap) (g1 : s0.heap.Ns mainGlobals mg) (g2 : s0.heap.Ns builtinsNs mb) (g3 : ∀ x : Str, x ≠ "__name__" → mb x = bootBuiltins x) (g4 : s0.heap.NoLimit) (g5 : s0.gens = #[])
    (tb : ∀ p ∈ cs, s0.heap.get? p.2 = some tab0) (C : ∀ p ∈ cs, PySem.W.CodeHd s0.heap p.1 p.2)
    (mo : ∃ (bm : Addr) (ob : Obj), mg "__builtins__" = some (.ref bm) ∧ bm ≠ builtinsNs ∧ s0.heap.get? bm = some ob ∧ ob.cls = .type "module" ∧ ob.dict = some builtinsNs ∧ ob.data = .plain)
    (ea : s0.heap.get? a = some { cls := .type "list", data := .seq vs.toArray }) (hr : Room k callerA) (F : ∀ base : Heap, K.In base → base.Ns mainGlobals mg → (∀ p ∈ cs, TabB base mg p.1 p.2) → FnG P w K mg base CX k fa fd [x] sp)
    (hb : ∀ (s : Shared) (u : Value), BindsTo s fd ⟨[u], []⟩ [(x, u)]) (few : Few H a cs) (own : ∀ b, H b ≠ none → K.lookup b = none) (hok : HOk P w H s0.heap) (hs : sp [.ref a] H (fun v _ => v = .bl true) fun _ _ _ => False)
    (hX : ∀ e s', CX [] H s0 (fun _ _ _ => False) e s' → False) :
    codeAny (model P w) callerA (.call (.ref fa) ⟨[.ref a], []⟩) (fun r s' => r = .ok (.ret (.bool true)) ∧ OldK s0.heap s'.heap ∧ s'.os = s0.os ∧ AllBare s'.gens) s0 := by
  -- neither a list nor an empty table: not tracked
  have loose : ∀ {b : Addr} {o : Obj}, s0.heap.get? b = some o → (∀ us n, o.data ≠ .seq us n) → o.data ≠ .fields #[] → H b = none := by
    intro b o e h1 h2
    rcases few b with z | ⟨rfl, _⟩ | ⟨⟨p, hp, rfl⟩, _⟩
    · exact z
    · rw [ea] at e
      cases e
      exact absurd rfl (h1 _ _)
    · rw [tb p hp] at e
      cases e
      exact absurd rfl h2
  have dict : ∀ {b : Addr} {o : Obj} {es : Array DictEntry} {ep : Nat}, s0.heap.get? b = some o → o.data = .dict es ep → H b = none := fun e d =>
    loose e (fun us n z => by rw [d] at z; cases z) (fun z => by rw [d] at z; cases z)
  have names : ∀ {b : Addr} {m : Str → Option Value}, s0.heap.Ns b m → (hidT s0.heap H).Ns b m := by
    rintro b m ⟨o, es, ep, e1, e2, r⟩
    exact ⟨o, es, ep, hidT_get e1 (dict e1 e2), e2, r⟩
  have Kb : K.In (hidT s0.heap H) := fun b o e => hidT_get (Ki b o e) (by
    rcases Option.eq_none_or_eq_some (H b) with z | ⟨y, z⟩
    · exact z
    · rw [own b (by rw [z]; exact Option.some_ne_none _)] at e
      cases e)
  obtain ⟨mc, l1, l2⟩ := g4
  have M : Mod K mg (hidT s0.heap H) := ⟨Kb, names g1, ⟨mb, names g2, g3⟩, ⟨mc, names l1, l2⟩⟩
  have gl : ∃ (o : Obj) (es : Array DictEntry) (ep : Nat), s0.heap.get? mainGlobals = some o ∧ o.data = .dict es ep := by
    obtain ⟨o, es, ep, e, d, _⟩ := id g1
    exact ⟨o, es, ep, e, d⟩
  have TB : ∀ p ∈ cs, TabB (hidT s0.heap H) mg p.1 p.2 := fun p hp => by
    obtain ⟨og, eg, ng, x1, x2⟩ := gl
    obtain ⟨bm, ob, b1, b2, b3, b4, b5, b6⟩ := mo
    obtain ⟨o, us, file, tf, flags, tg, inF, text, tt, c1, c2, c3, c4, c5, c6, c7, c8, c9, c10⟩ := C p hp
    have hc : H p.1 = none := loose c1 (fun us' n z => by rw [c3] at z; cases z) (fun z => by
      rw [c3] at z
      cases z
      cases c4)
    have hbm : H bm = none := loose b3 (fun us' n z => by rw [b6] at z; cases z) (fun z => by rw [b6] at z; cases z)
    refine ⟨⟨o, us, file, tf, flags, tg, inF, text, tt, hidT_get c1 hc, c2, c3, c4, c5, c6, c7, c8, c9, c10⟩, ⟨bm, ob, b1, b2, fun z => ?_, fun z => ?_, hidT_get b3 hbm, b4, b5, b6⟩, fun z => ?_⟩
    · rw [z, x1] at b3
      cases b3
      rw [x2] at b6
      cases b6
    · rw [z, tb p hp] at b3
      cases b3
      cases b6
    · rw [z, tb p hp] at x1
      cases x1
      cases x2
  have e0 : Env0 P w K mg (hidT s0.heap H) callerA [] s0 H := by
    refine ⟨rfl, M, fun b o e => of_hidT e, Nat.le_of_eq (hidT_size _ _), trivial, fun b z => ?_, hok, .of_eq g5⟩
    cases (show b ∈ ([] : List Addr) from z)
  refine codeAny_mono ((F _ Kb (names g1) TB).go (us := [.ref a]) (vs := [.ref a]) hr rfl e0 (hb s0 (.ref a)) (.cons (show RelV (.ref a) (.ref a) from rfl) .nil) hs) fun r s' z => ?_
  cases r with
  | error e => exact (hX e s' z).elim
  | ok fl =>
    cases fl with
    | ret u =>
      obtain ⟨v, H', os, bare, un, hok', ru, y⟩ := z
      obtain rfl : v = .bl true := y
      cases (show u = Value.bool true from ru)
      have fate : ∀ b o, s0.heap.get? b = some o → s'.heap.get? b = some o ∨ ((∃ p ∈ cs, b = p.2) ∧ o = tab0 ∧ ∃ more : Array Value, s'.heap.get? b = some { cls := .none, data := .fields more }) := fun b o e => by
        rcases few b with y | ⟨rfl, ob, xs, y⟩ | ⟨⟨p, hp, rfl⟩, y⟩
        · exact .inl (un.keep b o e y (fun q => nomatch (show b ∈ ([] : List Addr) from q)) (by simp))
        · have e1 := (hok _ _ y).1
          have e2 := (hok' _ _ (un.frzs _ ob _ y)).1
          rw [e] at e1
          cases e1
          exact .inl e2
        · obtain ⟨more, y2⟩ := un.tbls p.2 #[] y
          rw [tb p hp] at e
          cases e
          exact .inr ⟨⟨p, hp, rfl⟩, rfl, _, hok' p.2 _ y2⟩
      refine ⟨rfl, ⟨fun b o e => ?_, fun b o e => ?_⟩, os, bare⟩
      · rcases fate b o e with q | ⟨⟨p, hp, rfl⟩, rfl, more, q⟩
        · exact .inl q
        · exact .inr (.inl ⟨((C p hp).tab (tb p hp)).isCodeTable, rfl, #[], more, rfl, by rw [Array.empty_append]; exact q⟩)
      · rcases fate b o e with q | ⟨_, _, more, q⟩
        · exact ⟨o, q⟩
        · exact ⟨_, q⟩
    | next => exact z.elim
    | brk => exact z.elim
    | cont => exact z.elim
theorem endT_call (Ki : K.In s0.heap) (g1 : s0.heap.Ns mainGlobals mg) (g2 : s0.heap.Ns builtinsNs mb) (g3 : ∀ x : Str, x ≠ "__name__" → mb x = bootBuiltins x) (g4 : s0.heap.NoLimit) (g5 : s0.gens = #[])
    (tb : ∀ p ∈ cs, s0.heap.get? p.2 = some tab0) (nT : ∀ p ∈ cs, K.lookup p.2 = none) (C : ∀ p ∈ cs, PySem.W.CodeHd s0.heap p.1 p.2)
    (mo : ∃ (bm : Addr) (ob : Obj), mg "__builtins__" = some (.ref bm) ∧ bm ≠ builtinsNs ∧ s0.heap.get? bm = some ob ∧ ob.cls = .type "module" ∧ ob.dict = some builtinsNs ∧ ob.data = .plain)
    (ea : s0.heap.get? a = some { cls := .type "list", data := .seq vs.toArray }) (hi : IntsAre vs ns) (hl : ns.length ≤ sizeLine) (hr : Room k callerA) (F : ∀ base : Heap, K.In base → base.Ns mainGlobals mg → (∀ p ∈ cs, TabB base mg p.1 p.2) → FnG P w K mg base CX k fa fd [x] sp)
    (hb : ∀ (s : Shared) (u : Value), BindsTo s fd ⟨[u], []⟩ [(x, u)]) (hs : ∀ H : Hp, (∀ p ∈ cs, H p.2 = some (.tbl #[])) → SqL K H a (ns.map V.int) → sp [.ref a] H (fun v _ => v = .bl true) fun _ _ _ => False)
    (hX : ∀ H e s', CX [] H s0 (fun _ _ _ => False) e s' → False) :
    codeAny (model P w) callerA (.call (.ref fa) ⟨[.ref a], []⟩) (fun r s' => r = .ok (.ret (.bool true)) ∧ OldK s0.heap s'.heap ∧ s'.os = s0.os ∧ AllBare s'.gens) s0 := by
  have rv : Vals (ns.map V.int) vs := vals_ints hi
  -- the tables' part of the abstract heap
  let tH : Hp := fun b => if b ∈ cs.map (·.2) then some (.tbl #[]) else none
  have tIn : ∀ p ∈ cs, tH p.2 = some (.tbl #[]) := fun p hp => if_pos (List.mem_map.mpr ⟨p, hp, rfl⟩)
  have tOf : ∀ b u, tH b = some u → (∃ p ∈ cs, b = p.2) ∧ u = .tbl #[] := fun b u z => by
    by_cases h : b ∈ cs.map (·.2)
    · have z2 := (if_pos h).symm.trans z
      cases z2
      obtain ⟨p, hp, e⟩ := List.mem_map.mp h
      exact ⟨⟨p, hp, e.symm⟩, rfl⟩
    · have z2 := (if_neg h).symm.trans z
      cases z2
  have notA : ∀ p ∈ cs, p.2 ≠ a := fun p hp z => by
    have e := tb p hp
    rw [z, ea] at e
    have z2 : Data.seq vs.toArray _ = Data.fields #[] := congrArg Obj.data (Option.some.inj e)
    cases z2
  rcases Option.eq_none_or_eq_some (K.lookup a) with kn | ⟨o, kn⟩
  · let H : Hp := upd tH a (.frz { cls := .type "list", data := .seq vs.toArray } (.lst (ns.map V.int)))
    have at_a : H a = some (.frz { cls := .type "list", data := .seq vs.toArray } (.lst (ns.map V.int))) := upd_same
    have off : ∀ b, b ≠ a → H b = tH b := fun b h => upd_ne h
    refine endT_at (H := H) Ki g1 g2 g3 g4 g5 tb C mo ea hr F hb (fun b => ?_) (fun b h => ?_) (fun b u z => ?_) (hs H (fun p hp => by rw [off _ (notA p hp)]; exact tIn p hp) (.inl (.inr ⟨_, at_a⟩))) (hX H)
    · by_cases h : b = a
      · subst h
        exact .inr (.inl ⟨rfl, _, _, at_a⟩)
      · rcases Option.eq_none_or_eq_some (tH b) with z | ⟨u, z⟩
        · exact .inl ((off b h).trans z)
        · obtain ⟨q, rfl⟩ := tOf b u z
          exact .inr (.inr ⟨q, (off b h).trans z⟩)
    · by_cases hb : b = a
      · subst hb
        exact kn
      · rcases Option.eq_none_or_eq_some (tH b) with z | ⟨u, z⟩
        · exact absurd ((off b hb).trans z) h
        · obtain ⟨⟨p, hp, rfl⟩, _⟩ := tOf b u z
          exact nT p hp
    · by_cases h : b = a
      · subst h
        rw [at_a] at z
        cases z
        exact ⟨ea, by rw [List.length_map]; exact hl, vs, _, rv, ea⟩
      · obtain ⟨⟨p, hp, rfl⟩, rfl⟩ := tOf b u ((off b h).symm.trans z)
        exact tb p hp
  · have e := Ki a o kn
    rw [ea] at e
    cases e
    refine endT_at (H := tH) Ki g1 g2 g3 g4 g5 tb C mo ea hr F hb (fun b => ?_) (fun b h => ?_) (fun b u z => ?_) (hs tH tIn (.inr ⟨_, vs.toArray, _, kn, rfl, rfl, rfl, ?_, by simpa using rv⟩)) (hX tH)
    · rcases Option.eq_none_or_eq_some (tH b) with z | ⟨u, z⟩
      · exact .inl z
      · obtain ⟨q, rfl⟩ := tOf b u z
        exact .inr (.inr ⟨q, z⟩)
    · rcases Option.eq_none_or_eq_some (tH b) with z | ⟨u, z⟩
      · exact absurd z h
      · obtain ⟨⟨p, hp, rfl⟩, _⟩ := tOf b u z
        exact nT p hp
    · obtain ⟨⟨p, hp, rfl⟩, rfl⟩ := tOf b u z
      exact tb p hp
    · rw [List.size_toArray, ← rv.length, List.length_map]
      exact hl
end
/-- each def of the top has a code object whose table is empty -/
def Tabbed (q : Program) (mg : Str → Option Value) (h : Heap) : Prop := ∀ (nm : Str) (f : Addr), ((recsOf q).any fun e => e.name == nm) = true → mg nm = some (.ref f) →
  ∃ (o : Obj) (fd : FuncData) (c P : Addr), h.get? f = some o ∧ o.data = .func fd ∧ fd.code = .ref c ∧ PySem.W.CodeHd h c P ∧ h.get? P = some tab0
/-- the end, the tables those of the code objects cs -/
theorem walk_endT {l : PySem.W.OpenLaw} {n k : Nat} {q : Program} {loose : List Str} {XP : (Str → Option Value) → Heap → Prop} {YP : World → Heap → Prop} {d : DefRec} {CX : World → CXT} {x : Str} (most : l.most = some n) (lt : n ≤ sizeLine) (nod : d.params.defaults = []) (room : Room k callerA)
    (F : ∀ (w : World) (mg : Str → Option Value) (fa : Addr) (h : Heap), YP w h → Tabbed q mg h → h.Ns mainGlobals mg → mg d.name = some (.ref fa) → ∃ (K : PySem.W.Frag) (fd : FuncData) (cs : List (Addr × Addr)) (sp : Sp), K.In h ∧ (∀ p ∈ cs, h.get? p.2 = some tab0) ∧ (∀ p ∈ cs, K.lookup p.2 = none) ∧ (∀ p ∈ cs, PySem.W.CodeHd h p.1 p.2) ∧ (∀ (s : Shared) (u : Value), BindsTo s fd ⟨[u], []⟩ [(x, u)]) ∧
      (∀ (H : Hp) (a : Addr) (ns : List Int), ns.length ≤ n → (∀ p ∈ cs, H p.2 = some (.tbl #[])) → SqL K H a (ns.map V.int) → sp [.ref a] H (fun v _ => v = .bl true) fun _ _ _ => False) ∧ ∀ base : Heap, K.In base → base.Ns mainGlobals mg → (∀ p ∈ cs, TabB base mg p.1 p.2) → FnG l.prog w K mg base (CX w) k fa fd [x] sp)
    (hX : ∀ (w : World) (H : Hp) (s : Shared) (e : Value) (s' : Shared), CX w [] H s (fun _ _ _ => False) e s' → False) : PySem.W.WalkO q loose XP YP l.row.toRowW d [] (fun f vs => PySem.call f vs) := by
  refine Att.attach_call most nod fun w s₀ s1 mg mb fa o pm cd doc a vs ns G Y z1 z2 z3 z4 obj its short gens => ?_
  have own : Tabbed q mg s1.heap := fun nm f m1 m2 => by
    obtain ⟨r, r1, r2⟩ := List.any_eq_true.mp m1
    have r3 : r.name = nm := beq_iff_eq.mp r2
    obtain ⟨a2, o2, f2, c2, P2, h1, h2, h3, h4, h5, h6⟩ := G.T.tab r r1
    rw [r3, m2] at h1
    cases h1
    exact ⟨o2, f2, c2, P2, h2, h3, h4, .of h5 h6, h6.2⟩
  obtain ⟨K, fd, cs, sp, Ki, tb, nT, C, bd, pr, fn⟩ := F w mg fa _ Y own G.T.g z4
  exact endT_call Ki G.T.g G.T.b G.T.builtins G.T.nolimit gens tb nT C G.T.bmain obj its (Nat.le_trans short lt) room fn bd (fun H o q => pr H a ns short o q) fun H e s' => hX w H s1 e s'
end Oq

set_option Elab.async false
set_option linter.all false
set_option maxRecDepth 100000
set_option maxHeartbeats 4000000
namespace Lr
open PySem PySem.Spec PyProof.Rows L2 Ow Og Oe LamX Oq
/-- repr(v), v an int or a text -/
inductive RpT : V → Str → Prop
  | int (i : Int) (h : i.natAbs.log2 < 1920) : RpT (.int i) (Str.ofString (toString i))
  | str (x : Str) (h : (PySem.reprText x).length ≤ sizeLine) : RpT (.str x) (PySem.reprText x)
def rReprT : List V → Hp → VK → Prop := fun xs H Q => ∃ v t, xs = [v] ∧ RpT v t ∧ Q (.str t) H
theorem call_reprT {X : Cx} : CallR X (.builtin "repr") rReprT := by
  intro pins s σ H xs us Q I r h
  obtain ⟨v, t, rfl, rp, q⟩ := h
  cases rp with
  | int i h => exact SkE.call_repr_int pins s σ H _ us Q I r ⟨i, rfl, h, q⟩
  | str x h =>
    obtain ⟨u, rfl, ru⟩ := r.one
    obtain ⟨tk, rfl⟩ := ru
    exact PySem.P.repr_of_str ⟨.str _, H, I.tok _, ⟨_, rfl⟩, q⟩ h
theorem t_seq {t u : TS} {D : Ends} {σ : L2.St} {H : Hp} (h : t { D with nx := u D } σ H) : tSeq t u D σ H := h
theorem t_asg {te : TE} {g : TG} {D : Ends} {σ : L2.St} {H : Hp} (h : te σ H fun x H1 => g x σ H1 D.nx) : tAsg te g D σ H := h
abbrev s_heard : Stmt := topS 34
theorem sc_heard : FnScope ["_law_ask", "_law_caught", "error", "_law_found"] ["_law_ask"] (defScope s_heard) := ⟨rfl, rfl, rfl, by decide +kernel, rfl, by decide +kernel, by decide +kernel⟩
def EHear (CB CM : Addr) (Q : VK) : XK := fun cls d H' =>
  (∃ (dd : Addr) (y : V) (t : Str), cls = .ref CB ∧ d = some dd ∧ H' dd = some (.xd [("part", y)]) ∧ RpT y t ∧ ∀ p H2, Same H' H2 → H2 p = some (.tup [.str "tick", .str t]) → Q (.ref p) H2) ∨
  ∃ (dd : Addr) (y z : V), cls = .ref CM ∧ d = some dd ∧ H' dd = some (.xd [("most", z), ("what", y)]) ∧ ∀ p H2, Same H' H2 → H2 p = some (.tup [y, z]) → Q (.ref p) H2
def THear (CB CM : Addr) : (XK → Hp → VK → Prop) → Hp → VK → Prop := fun tl H Q =>
  tl (EHear CB CM Q) H (fun v H' => [v].length ≤ sizeLine ∧ ∀ p, H' p = none → Q (.ref p) (upd H' p (.lst [v])))
/-- what the errors' classes are to each other -/
structure Errs (K : PySem.W.Frag) (mg : Str → Option Value) (CR CB CP CC CN CM : Addr) : Prop where
  gR : mg "RepairError" = some (.ref CR)
  gB : mg "BadTick" = some (.ref CB)
  gP : mg "BadPlan" = some (.ref CP)
  gC : mg "BadCount" = some (.ref CC)
  gN : mg "NoPhase" = some (.ref CN)
  gM : mg "TooMany" = some (.ref CM)
  exB : PySem.W.exmOne K (.ref CB) (.ref CR) = some true
  exM : PySem.W.exmOne K (.ref CM) (.ref CR) = some true
  cB : ExcC K CB
  cM : ExcC K CM
  xB : XfC K CB
  xM : XfC K CM
  kB : PySem.W.kitOne K (.ref CB) (.ref CB) = some true ∧ PySem.W.kitOne K (.ref CB) (.ref CP) = some false ∧ PySem.W.kitOne K (.ref CB) (.ref CC) = some false ∧ PySem.W.kitOne K (.ref CB) (.ref CN) = some false ∧ PySem.W.kitOne K (.ref CB) (.ref CM) = some false
  kM : PySem.W.kitOne K (.ref CM) (.ref CB) = some false ∧ PySem.W.kitOne K (.ref CM) (.ref CP) = some false ∧ PySem.W.kitOne K (.ref CM) (.ref CC) = some false ∧ PySem.W.kitOne K (.ref CM) (.ref CN) = some false ∧ PySem.W.kitOne K (.ref CM) (.ref CM) = some true
  nP : PySem.W.findIn K (.ref CB) "part" = some none
  nW : PySem.W.findIn K (.ref CM) "what" = some none
  nM : PySem.W.findIn K (.ref CM) "most" = some none
theorem heard_gives {X : Cx} {q : Str} {g CR CB CP CC CN CM : Addr} {cdg : Value} (R : Errs X.K X.mg CR CB CP CC CN CM) (fi : X.mg "isinstance" = none) (fr : X.mg "repr" = none) (fl : X.mg "len" = none) :
    GivesTo X ["_law_ask", "_law_caught", "error", "_law_found"] "_law_heard" (defScope s_heard) g cdg (defBody s_heard) "_law_ask" q (THear CB CM) := by
  intro f c' s H Q tl act hc h
  refine ⟨_, (pss_cons (ps_set (i := 1) sc_heard.nd rfl (Or.inl rfl) pe_non)
    (pss_cons (ps_try_held (i := 2) (j := 1) (c := .ref CR)
      (tb := fun W D σ H => ∃ Ech : XK, (∀ cls d σ' H', Ech cls d H' → W cls d σ' H') ∧ σ[0]? = some (some (.ref f)) ∧ H c' = some (LamX.CodeO c' q) ∧ tl Ech H (fun v H' => [v].length ≤ sizeLine ∧ ∀ p, H' p = none → D.rt (.ref p) (upd H' p (.lst [v]))))
      rfl rfl rfl sc_heard.nd rfl rfl rfl rfl ⟨rfl, rfl, .inl R.gR⟩ (fun W pn xe tk _ => ?_) (fun a oe pn => pss_one (ps_set (i := 1) sc_heard.nd rfl (Or.inl rfl) (pv 2))))
    (pss_cons (ps_set (i := 3) sc_heard.nd rfl (Or.inl rfl) (pe_lst pa_nil))
    (pss_cons (ps_if (pt_val (pe_callB call_isX (by rfl) fi boot_isinstance (pa_cons (pv 1) (pa_cons (pe_glob (v := .ref CB) rfl R.gB rfl) pa_nil)))) (pss_one (ps_expr (pe_bm PySem.F.plainAttrs_list PySem.F.slot_list_append PySem.F.type_list_append mt_append (pv 3) (pa_cons (pe_tup (pa_cons pe_str (pa_cons (pe_callB call_reprT (by rfl) fr PyProof.Rows.boot_repr (pa_cons (by exact pe_xk (pv 1)) pa_nil)) pa_nil))) pa_nil)))) pss_nil)
    (pss_cons (ps_if (pt_val (pe_callB call_isX (by rfl) fi boot_isinstance (pa_cons (pv 1) (pa_cons (pe_glob (v := .ref CP) rfl R.gP rfl) pa_nil)))) (pss_one (ps_expr (pe_bm PySem.F.plainAttrs_list PySem.F.slot_list_append PySem.F.type_list_append mt_append (pv 3) (pa_cons (pe_tup (pa_cons pe_str (pa_cons (pe_callB call_reprT (by rfl) fr PyProof.Rows.boot_repr (pa_cons (by exact pe_xk (pv 1)) pa_nil)) pa_nil))) pa_nil)))) pss_nil)
    (pss_cons (ps_if (pt_val (pe_callB call_isX (by rfl) fi boot_isinstance (pa_cons (pv 1) (pa_cons (pe_glob (v := .ref CC) rfl R.gC rfl) pa_nil)))) (pss_one (ps_expr (pe_bm PySem.F.plainAttrs_list PySem.F.slot_list_append PySem.F.type_list_append mt_append (pv 3) (pa_cons (pe_tup (pa_cons pe_str (pa_cons (pe_callB call_reprT (by rfl) fr PyProof.Rows.boot_repr (pa_cons (by exact pe_xk (pv 1)) pa_nil)) pa_nil))) pa_nil)))) pss_nil)
    (pss_cons (ps_if (pt_val (pe_callB call_isX (by rfl) fi boot_isinstance (pa_cons (pv 1) (pa_cons (pe_glob (v := .ref CN) rfl R.gN rfl) pa_nil)))) (pss_one (ps_expr (pe_bm PySem.F.plainAttrs_list PySem.F.slot_list_append PySem.F.type_list_append mt_append (pv 3) (pa_cons (pe_tup (pa_cons pe_str (pa_cons (pe_callB call_reprT (by rfl) fr PyProof.Rows.boot_repr (pa_cons (by exact pe_xk (pv 1)) pa_nil)) pa_nil))) pa_nil)))) pss_nil)
    (pss_cons (ps_if (pt_val (pe_callB call_isX (by rfl) fi boot_isinstance (pa_cons (pv 1) (pa_cons (pe_glob (v := .ref CM) rfl R.gM rfl) pa_nil)))) (pss_one (ps_expr (pe_bm PySem.F.plainAttrs_list PySem.F.slot_list_append PySem.F.type_list_append mt_append (pv 3) (pa_cons (pe_tup (pa_cons (by exact pe_xk (pv 1)) (pa_cons (by exact pe_xk (pv 1)) pa_nil))) pa_nil)))) pss_nil)
    (pss_one (ps_ret (pe_ifExp (pt_cmpR op_eq (pe_callB call_len_seq (by rfl) fl boot_len (pa_cons (pv 3) pa_nil)) pe_int (nomark _)) (pe_ix ix_list (pv 3) pe_int (fun _ _ => rfl)) (pe_tup (pa_cons pe_str pa_nil))))))))))))), ?_⟩
  · refine ⟨fun pins s' σ H' D I h' => ?_⟩
    obtain ⟨Ech, hW, h1, h2, h3⟩ := h'
    exact (pss_one (ps_ret (pe_lst (pa_cons (act W pn xe Ech _ _ tk hW) pa_nil)))).run pins s' σ H' D I ⟨h1, h2, h3⟩
  · refine t_seq (t_asg ?_)
    refine ⟨EHear CB CM Q, ?_, rfl, hc, h⟩
    rintro cls d σ' H' (⟨dd, y, t, rfl, rfl, hd, rp, k⟩ | ⟨dd, y, z, rfl, rfl, hd, k⟩)
    · refine ⟨R.exB, fun a na hl => ?_⟩
      match σ', hl with
      | [c0, c1, c2, c3], _ =>
        have da : dd ≠ a := ne_of_none hd na
        have sa := same_upd (o := ExK (.ref CB) (some dd) a) na
        have ha : (upd H' a (ExK (.ref CB) (some dd) a)) a = some (ExK (.ref CB) (some dd) a) := upd_same
        have hd' := sa _ _ hd
        generalize upd H' a (ExK (.ref CB) (some dd) a) = Ha at sa ha hd' ⊢
        refine ⟨Nat.zero_le _, fun fL nL => ?_⟩
        have sL := same_upd (o := HO.lst []) nL
        have hfd : ∀ {H2 : Hp}, Same Ha H2 → ∀ z, some dd = some z → ∃ fs, H2 z = some (.xd fs) := fun s2 z e => ⟨_, by cases e; exact s2 _ _ hd'⟩
        obtain ⟨k1, k2, k3, k4, k5⟩ := R.kB
        refine ⟨_, rfl, a, CB, some dd, .ref CB, .ref CB, true, rfl, sL _ _ ha, hfd sL, R.cB, fun u r => r, k1, true, rfl, iteT ?_⟩
        refine ⟨_, rfl, .inl ⟨rfl, _, .of upd_same⟩, _, rfl, a, CB, dd, _, y, rfl, sL _ _ ha, sL _ _ hd', R.xB, R.nP, rfl, _, _, rfl, rp, by show 2 ≤ sizeLine; exact Nat.le_of_lt (small1000 (by omega)), fun p np => ?_⟩
        have sp := same_upd (o := HO.tup [V.str "tick", V.str t]) np
        refine ⟨fL, [], .ref p, rfl, rfl, sp _ _ upd_same, small1000 (by show 0 ≤ 1000; omega), ?_⟩
        have pL : p ≠ fL := fun e => by
          rw [e, upd_same] at np
          cases np
        have sN : Same Ha (upd (upd (upd Ha fL (.lst [])) p (.tup [V.str "tick", V.str t])) fL (.lst ([] ++ [V.ref p]))) := same_put (sL.trans sp) nL
        have hN : (upd (upd (upd Ha fL (.lst [])) p (.tup [V.str "tick", V.str t])) fL (.lst ([] ++ [V.ref p]))) fL = some (.lst ([] ++ [V.ref p])) := upd_same
        have hp : (upd (upd (upd Ha fL (.lst [])) p (.tup [V.str "tick", V.str t])) fL (.lst ([] ++ [V.ref p]))) p = some (.tup [V.str "tick", V.str t]) := by
          rw [upd_ne pL, upd_same]
        generalize (upd (upd (upd Ha fL (.lst [])) p (.tup [V.str "tick", V.str t])) fL (.lst ([] ++ [V.ref p]))) = HN at sN hN hp ⊢
        refine ⟨_, rfl, a, CB, some dd, .ref CP, .ref CP, false, rfl, sN _ _ ha, hfd sN, R.cB, fun u r => r, k2, false, rfl, iteF ?_⟩
        refine ⟨_, rfl, a, CB, some dd, .ref CC, .ref CC, false, rfl, sN _ _ ha, hfd sN, R.cB, fun u r => r, k3, false, rfl, iteF ?_⟩
        refine ⟨_, rfl, a, CB, some dd, .ref CN, .ref CN, false, rfl, sN _ _ ha, hfd sN, R.cB, fun u r => r, k4, false, rfl, iteF ?_⟩
        refine ⟨_, rfl, a, CB, some dd, .ref CM, .ref CM, false, rfl, sN _ _ ha, hfd sN, R.cB, fun u r => r, k5, false, rfl, iteF ?_⟩
        refine ⟨_, rfl, fL, _, rfl, .inl (.of hN), by rfl, true, rfl, iteT ?_⟩
        exact ⟨_, rfl, fL, _, 0, _, rfl, rfl, .of hN, atI_nat (j := 0) rfl, k p HN (sa.trans sN) hp⟩
    · refine ⟨R.exM, fun a na hl => ?_⟩
      match σ', hl with
      | [c0, c1, c2, c3], _ =>
        have da : dd ≠ a := ne_of_none hd na
        have sa := same_upd (o := ExK (.ref CM) (some dd) a) na
        have ha : (upd H' a (ExK (.ref CM) (some dd) a)) a = some (ExK (.ref CM) (some dd) a) := upd_same
        have hd' := sa _ _ hd
        generalize upd H' a (ExK (.ref CM) (some dd) a) = Ha at sa ha hd' ⊢
        refine ⟨Nat.zero_le _, fun fL nL => ?_⟩
        have sL := same_upd (o := HO.lst []) nL
        have hfd : ∀ {H2 : Hp}, Same Ha H2 → ∀ z, some dd = some z → ∃ fs, H2 z = some (.xd fs) := fun s2 z e => ⟨_, by cases e; exact s2 _ _ hd'⟩
        obtain ⟨k1, k2, k3, k4, k5⟩ := R.kM
        have haL := sL _ _ ha
        have hdL := sL _ _ hd'
        have hfL : (upd Ha fL (.lst [])) fL = some (.lst []) := upd_same
        have hfdL := @hfd _ sL
        refine ⟨_, rfl, a, CM, some dd, .ref CB, .ref CB, false, rfl, haL, hfdL, R.cM, fun u r => r, k1, false, rfl, iteF ?_⟩
        refine ⟨_, rfl, a, CM, some dd, .ref CP, .ref CP, false, rfl, haL, hfdL, R.cM, fun u r => r, k2, false, rfl, iteF ?_⟩
        refine ⟨_, rfl, a, CM, some dd, .ref CC, .ref CC, false, rfl, haL, hfdL, R.cM, fun u r => r, k3, false, rfl, iteF ?_⟩
        refine ⟨_, rfl, a, CM, some dd, .ref CN, .ref CN, false, rfl, haL, hfdL, R.cM, fun u r => r, k4, false, rfl, iteF ?_⟩
        refine ⟨_, rfl, a, CM, some dd, .ref CM, .ref CM, true, rfl, haL, hfdL, R.cM, fun u r => r, k5, true, rfl, iteT ?_⟩
        refine ⟨_, rfl, .inl ⟨rfl, _, .of hfL⟩, _, rfl, a, CM, dd, _, y, rfl, haL, hdL, R.xM, R.nW, rfl, _, rfl, a, CM, dd, _, z, rfl, haL, hdL, R.xM, R.nM, rfl, by show 2 ≤ sizeLine; exact Nat.le_of_lt (small1000 (by omega)), fun p np => ?_⟩
        have sp := same_upd (o := HO.tup [y, z]) np
        refine ⟨fL, [], .ref p, rfl, rfl, sp _ _ hfL, small1000 (by show 0 ≤ 1000; omega), ?_⟩
        have pL : p ≠ fL := fun e => by
          rw [e, hfL] at np
          cases np
        have sN : Same Ha (upd (upd (upd Ha fL (.lst [])) p (.tup [y, z])) fL (.lst ([] ++ [V.ref p]))) := same_put (sL.trans sp) nL
        have hN : (upd (upd (upd Ha fL (.lst [])) p (.tup [y, z])) fL (.lst ([] ++ [V.ref p]))) fL = some (.lst ([] ++ [V.ref p])) := upd_same
        have hp : (upd (upd (upd Ha fL (.lst [])) p (.tup [y, z])) fL (.lst ([] ++ [V.ref p]))) p = some (.tup [y, z]) := by
          rw [upd_ne pL, upd_same]
        generalize (upd (upd (upd Ha fL (.lst [])) p (.tup [y, z])) fL (.lst ([] ++ [V.ref p]))) = HN at sN hN hp ⊢
        refine ⟨_, rfl, fL, _, rfl, .inl (.of hN), by rfl, true, rfl, iteT ?_⟩
        exact ⟨_, rfl, fL, _, 0, _, rfl, rfl, .of hN, atI_nat (j := 0) rfl, k p HN (sa.trans sN) hp⟩
end Lr

set_option Elab.async false
set_option linter.all false
set_option maxRecDepth 100000
set_option maxHeartbeats 4000000
namespace Oq
open PySem PySem.Spec PyProof.Rows L2 Ow Og LamX
section
variable {P : Program} {w : World} {K : PySem.W.Frag} {mg : Str → Option Value} {base : Heap} {CX : CXT} {j k : Nat} {f : Addr} {fd : FuncData} {ps : List Str} {sp sp' : Sp}
/-- a def's body, run at this state, its code object known -/
theorem run_genC {x q : Str} {st : Stmt} {N : List Str} {A : Around} {outer : List Env} {s : Shared} {H : Hp} {ar : Args} {us : List Value} {vs : List V} {Q : VK} {E : XK}
    (F : L2.Fun K x q st f fd) (S : FnScope N ps (defScope st)) (hl : vs.length = ps.length) (hr : Room (k + 1) A) (e0 : Env0 P w K mg base A outer s H) (hb : BindsTo s fd ar (ps.zip us)) (r : Vals vs us)
    (body : ∀ cdv : Value, fd.code = cdv → Room k (A.deeper (envOfC q (defScope st) s.heap.objs.size f cdv)) → ∃ t, PSs (cxOf CX P w K mg base N q (defScope st) f cdv A outer s H E) (defBody st) t ∧ t { nx := fun _ H' => Q .non H', rt := Q } (start N vs) H) :
    codeAny (model P w) A (.call (.ref f) ar) (CR CX outer P w H s Q E) s := by
  obtain ⟨oc, od, kV, doc, pm, an, cdv, ct, osl, rfl, lk, hcd⟩ := F.ex
  have Xin : K.In s.heap := e0.mod.kin.keeps fun b o z => (e0.bs b o z).1
  have free : s.heap.NoLimit := e0.mod.nolimit.keeps fun b o z => (e0.bs b o z).1
  have kinds : ∀ y ∈ ps.zip us, (defScope st).names.lookup y.1 = some .local ∨ ((defScope st).names.lookup y.1 = some .cell ∧ ((cellsFrom (s.heap.objs.size + 1) (defScope st).names []).lookup y.1).isSome = true) := by
    rintro ⟨n, v⟩ hy
    rcases S.par n (List.of_mem_zip hy).1 with z | z
    · exact .inl z
    · exact .inr ⟨z, PySem.W.cellsFrom_some _ _ _ (.inl z)⟩
  refine codeAny_call_function hr.depth (Xin _ _ lk) rfl S.co S.gen rfl (PySem.W.codeRec_of Xin hcd) (hb _ _ _ _ ?_)
  refine wpAny_newFunctionEnv_cells S.kind kinds fun env he s1 z => ?_
  subst he
  refine ⟨free.keeps z.toInCall.keep, codeAny_func ?_⟩
  obtain ⟨t, ht, hq⟩ := body cdv rfl (hr.deeper _)
  have J := inv_start (CX := CX) (E := E) S hr.hd e0 hl r z
  have fin : ∀ {σ' : L2.St} {H' : Hp} {v : V} {u : Value} {s' : Shared}, Inv (cxOf CX P w K mg base N q (defScope st) f cdv A outer s H E) [] σ' H' s' → RelV v u → Q v H' → CE outer P w H s Q u s' :=
    fun J2 rv y => ⟨_, _, J2.os, J2.bare, J2.base, J2.hok, rv, y⟩
  refine wpAny_mono (ht.run [] s1 (start N vs) H _ J hq) (fun fl s' hs => ?_) fun e s' hs => hs
  cases fl with
  | ret u =>
    obtain ⟨v, σ', H', J2, rv, y⟩ := hs
    exact fin J2 rv y
  | next =>
    obtain ⟨σ', H', J2, y⟩ := hs
    exact fin (v := V.non) (u := Value.none) J2 rfl y
  | brk =>
    obtain ⟨_, _, _, z⟩ := hs
    exact z.elim
  | cont =>
    obtain ⟨_, _, _, z⟩ := hs
    exact z.elim
/-- the rule for a def of which nothing is let out, its code object known -/
theorem okC {x q : Str} {st : Stmt} {N : List Str} (F : L2.Fun K x q st f fd) (S : FnScope N ps (defScope st)) (len : ∀ vs H Q E, sp vs H Q E → vs.length = ps.length)
    (body : ∀ (cdv : Value) (A : Around) (outer : List Env) (s : Shared) (H : Hp) (vs : List V) (Q : VK) (E : XK), fd.code = cdv → Room k (A.deeper (envOfC q (defScope st) s.heap.objs.size f cdv)) → sp vs H Q E →
      ∃ t, PSs (cxOf CX P w K mg base N q (defScope st) f cdv A outer s H E).nox (defBody st) t ∧ t { nx := fun _ H' => Q .non H', rt := Q } (start N vs) H) : FnOk P w K mg base CX (k + 1) f fd ps sp :=
  ⟨fun _ _ _ _ h => len _ _ _ _ h, fun A outer s H ar us vs Q E hr e0 hb r h => run_genC F S (len _ _ _ _ h) hr e0 hb r fun cdv hc hr2 => by
    obtain ⟨t, ht, hq⟩ := body cdv _ _ _ _ _ _ _ hc hr2 h
    exact ⟨t, ht.nox, hq⟩⟩
end
end Oq
namespace Lr
open PySem PySem.Spec PyProof.Rows L2 Ow Og Oe LamX Oq
section
variable {X : Cx}
/-- _law_heard(lambda: body) -/
theorem pe_heard {T : List (Addr × Str)} {g c Pt CR CB CP CC CN CM : Addr} {fd : FuncData} {k : Nat} {scope : Scope} {params : Arguments} {body : Expr} {lpos p pos : Pos} {t : XK → TE} (F : L2.Fun X.K "_law_heard" "_law_heard" s_heard g fd) (b : Binds X.K fd ["_law_ask"] []) (gM : X.mg "_law_heard" = some (.ref g)) (R : Errs X.K X.mg CR CB CP CC CN CM) (fi : X.mg "isinstance" = none) (fr : X.mg "repr" = none) (fl : X.mg "len" = none)
    (TB : TabB X.base X.mg c Pt) (hcode : X.env.code = .ref c) (hmT : (Pt, X.env.qual ++ "<lambda>") ∈ T) (hu : ∀ p ∈ T, p.1 = Pt → p.2 = X.env.qual ++ "<lambda>") (hr : Room (k + 2) X.A)
    (hbody : ∀ (A : Around) (outer : List Env) (s : Shared) (H : Hp) (E : XK) (f c' : Addr), Room k (A.deeper (lamEnv X scope s.heap.objs.size f c')) → PE (lamCx X A outer s H E scope f c') body (t E))
    (hgl : Gl X "_law_heard" := by rfl) (L : LamS X.env.scope scope := by exact lamS_by (by kernel_rfl)) (hdef : defaultsOf params X.env = ([], []) := by rfl) (hbind : ∀ (q : Str) (cl : List (Str × Addr)) (pm cv ctv : Value), bindArgs (PySem.W.kla_fn "<lambda>" q params body scope cl pm cv ctv) ⟨[], []⟩ = pure [] := by exact fun _ _ _ _ _ => rfl) :
    PE X (.Call (.Name "_law_heard" p) [.Lambda params body scope lpos] [] pos) (tLam T (THear CB CM) t) := by
  obtain ⟨oc, od, kV, doc, pm, an, cdv, ct, osl, rfl, lk, hcd⟩ := F.ex
  exact pe_lamcall (T := T) hgl gM F.kp lk hcd b sc_heard rfl (.inl rfl) (heard_gives R fi fr fl) TB hcode hmT hu hr L hdef hbind hbody
end
theorem ext_same {H H' : Hp} (s : Same H H') : ExtN H H' := fun b o h _ => s b o h
theorem ext_lst {K : PySem.W.Frag} {H H' : Hp} {a : Addr} {xs : List V} (e : ExtN H H') (h : SqL K H a xs) : SqL K H' a xs := by
  rcases h with (h | ⟨o, h⟩) | h
  · exact .inl (.inl (e _ _ h (fun ps z => by cases z)))
  · exact .inl (.inr ⟨o, e _ _ h (fun ps z => by cases z)⟩)
  · exact .inr h
end Lr

set_option Elab.async false
set_option linter.all false
set_option maxRecDepth 100000
set_option maxHeartbeats 4000000
/-! a tuple is no dict: x in a list of tuples, x perhaps a dict. -/
namespace PySem.SeqAt
open AutoSeq1 (wpAny_loadPart')
open MeetsSeq
theorem tuple_eq_declines_dict (l b : Addr) (items : Array Value) (n : Nat) (dd : Option Addr) (sl : Array (Option Value)) (dt : Option Addr) (da : Data) (sl2 : Array (Option Value)) :
    Meets (Builtin.«tuple.__eq__» ⟨[.ref l, .ref b], []⟩) (fun _ R s => s.heap.get? l = some { cls := .type "tuple", dict := dd, data := .seq items n, slots := sl } ∧ s.heap.get? b = some { cls := .type "dict", dict := dt, data := da, slots := sl2 } ∧ R (.ok (.ret .notImplemented)) s) :=
  .of_wp fun prog w A R s h => by obtain ⟨hp, g, d, tk, os⟩ := s; obtain ⟨hl, hb, h⟩ := h; have f1 := F.sub_dict_tuple; wp_walk using wpAny_loadPart' hl, wpAny_loadPart' hb, wpAny_load hb; exact ⟨_, rfl, h⟩
theorem dict_eq_declines_tuple (l b : Addr) (items : Array Value) (n : Nat) (dd : Option Addr) (sl : Array (Option Value)) (dt : Option Addr) (da : Data) (sl2 : Array (Option Value)) :
    Meets (Builtin.«dict.__eq__» ⟨[.ref b, .ref l], []⟩) (fun _ R s => s.heap.get? l = some { cls := .type "tuple", dict := dd, data := .seq items n, slots := sl } ∧ s.heap.get? b = some { cls := .type "dict", dict := dt, data := da, slots := sl2 } ∧ R (.ok (.ret .notImplemented)) s) :=
  .of_wp fun prog w A R s h => by obtain ⟨hp, g, d, tk, os⟩ := s; obtain ⟨hl, hb, h⟩ := h; have f1 := F.sub_tuple_dict; have f2 : isSubtype (.type "dict") (.type "dict") = pure true := by {rw [isSubtype_type]; kernel_rfl}; wp_walk using wpAny_loadPart' hl, wpAny_loadPart' hb, wpAny_load hb; exact ⟨_, rfl, h⟩
section
variable {A : Around} {s : Shared}
theorem RcAt.tuple_dict {l b : Addr} {items : Array Value} {o2 : Obj} (hl : s.heap.IsTuple l items) (hb : s.heap.get? b = some o2) (hc2 : o2.cls = .type "dict") (hu : A.units < cLine) : RcAt A s (.ref l) (.ref b) false := fun prog w E Q h => by
  obtain ⟨⟨cls, dd, data, sl⟩, ho, hc, n, hd⟩ := id hl
  obtain ⟨cls2, dd2, data2, sl2⟩ := o2
  simp only at hc hd hc2
  subst hc hd hc2
  have hne : l ≠ b := fun e => by
    subst e
    rw [ho] at hb
    simp at hb
  exact (rc_eq_decline_or (k := false) ⟨_, ho, rfl⟩ ⟨_, hb, rfl⟩ (by decide) F.sub_dict_tuple F.slot_tuple_eq F.slot_dict_eq_refl
    (fun _ hq => call_meets F.slot_tuple_eq ⟨_, ho, rfl⟩ F.entry_tuple_eq (F.args_tuple_eq_2 _ _) (tuple_eq_declines_dict l b items n dd sl dd2 data2 sl2) ⟨ho, hb, hq⟩)
    (fun _ hq => call_meets F.slot_dict_eq_refl ⟨_, hb, rfl⟩ F.entry_dict_eq (F.args_dict_eq_2 _ _) (dict_eq_declines_tuple l b items n dd sl dd2 data2 sl2) ⟨ho, hb, hq⟩)
    (fun _ hq => wpAny_isSame_ref_other' hne ho hb (by simp) hq) (.inr hu) h)
theorem EqAt.tuple_dict {l b : Addr} {items : Array Value} {o2 : Obj} (hl : s.heap.IsTuple l items) (hb : s.heap.get? b = some o2) (hc2 : o2.cls = .type "dict") (hu : A.units < cLine) : EqAt A s (.ref l) (.ref b) false :=
  .of_refs (fun e => by
    obtain ⟨o, ho, hc, _⟩ := hl
    rw [e, hb] at ho
    cases ho
    rw [hc2] at hc
    exact absurd (Value.type.inj hc) (by decide)) (.tuple_dict hl hb hc2 hu)
end
end PySem.SeqAt
namespace L2
open PySem PySem.Spec PyProof.Rows
section
variable {X : Cx}
/-- x in a list of tuples, x a dict: no -/
def rInK (K : PySem.W.Frag) : R2 := fun x y H Q => ∃ (a l : Addr) (kvs : List (Key × V)) (bs : List V), x = .ref a ∧ y = .ref l ∧ H a = some (.dK kvs) ∧ SqL K H l bs ∧ (∀ b ∈ bs, ∃ t ys, b = .ref t ∧ SqT K H t ys) ∧ Q (.bl false) H
theorem op_inK (hu : X.A.units + 65 < cLine) : OpR X (compareOp .In) (rInK X.K) := by
  intro pins s σ H x y v u Q I rx ry h
  obtain ⟨a, l, kvs, bs, rfl, rfl, ha, hl, hb, q⟩ := h
  cases rx
  cases ry
  obtain ⟨_, _, vs, _, dk⟩ := (show ObjOk X.prog X.w H s.heap a (.dK kvs) from I.hok a _ ha)
  obtain ⟨oa, es, ep, hoa, hca, _⟩ := dk
  obtain ⟨its, rv, p, hz⟩ := I.list hl
  refine SeqAt.in_listAt (fun _ => false) (PySem.PlainL.isList p) (fun y hy => ?_) ?_
  · have hy' : y ∈ its := by simpa using hy
    obtain ⟨j, hj, e⟩ := List.getElem_of_mem hy'
    have hlen := rv.length
    have hjb : j < bs.length := by omega
    obtain ⟨u, hu1, ru⟩ := rv.get (List.getElem?_eq_getElem hjb)
    have : u = y := by
      rw [List.getElem?_eq_getElem hj] at hu1
      rw [← e]
      exact (Option.some.inj hu1).symm
    subst this
    obtain ⟨t, ys, eb, ht⟩ := hb _ (List.getElem_mem hjb)
    rw [eb] at ru
    cases ru
    obtain ⟨its2, rv2, p2, hz2⟩ := I.tuple ht
    exact SeqAt.EqAt.tuple_dict (show s.heap.IsTuple t its2.toArray from p2) hoa hca.1 (by show X.A.units + 1 < cLine; omega)
  · have e : its.toArray.any (fun _ => false) = false := by
      rw [← Array.any_toList]
      exact List.any_eq_false.mpr (fun _ _ => by simp)
    rw [e]
    exact ⟨.bl false, H, I, rfl, q⟩
/-- x in a list of tuples, x a dict or data without dicts -/
theorem op_inDK (hu : X.A.units + 65 < cLine) : OpR X (compareOp .In) (fun x y H Q => rInD X.K x y H Q ∨ rInK X.K x y H Q) := by
  intro pins s σ H x y v u Q I rx ry h
  rcases h with h | h
  · exact op_inD hu pins s σ H x y v u Q I rx ry h
  · exact op_inK hu pins s σ H x y v u Q I rx ry h
end
end L2

set_option Elab.async false
set_option linter.all false
set_option maxRecDepth 100000
set_option maxHeartbeats 8000000
namespace Lr
open PySem PySem.Spec PyProof.Rows L2 Ow Og Oe LamX Oq
structure Use (K : PySem.W.Frag) (mg : Str → Option Value) (nm : Str) (f : Addr) (fd : FuncData) (ps : List Str) : Prop where
  g : mg nm = some (.ref f)
  kp : PySem.W.keepIn K (.ref f) = true
  b : Binds K fd ps []
theorem pen_at {H : Hp} {a b : Addr} {n : Nat} (p : PenAt H a b n) : ∃ ys, H a = some (.lst ys) := by
  obtain ⟨_, _, _, h, _⟩ := p
  exact ⟨_, h⟩
theorem kept_tup {K : PySem.W.Frag} {H H' : Hp} {a t : Addr} {xs ys : List V} (ha : H a = some (.lst ys)) (k : Kept a H H') (h : SqT K H t xs) : SqT K H' t xs := by
  rcases h with (h | ⟨o, h⟩) | h
  · refine .inl (.inl (k _ _ (fun z => ?_) h))
    rw [z, ha] at h
    cases h
  · refine .inl (.inr ⟨o, k _ _ (fun z => ?_) h⟩)
    rw [z, ha] at h
    cases h
  · exact .inr h
theorem same_kept {a : Addr} {H H' : Hp} (s : Same H H') : Kept a H H' := fun c o _ h => s c o h
/-- all but the list at a and the tables stay -/
def Rl (a : Addr) (H H' : Hp) : Prop := ∀ c u, c ≠ a → H c = some u → (∀ ps, u ≠ .tbl ps) → H' c = some u
theorem Rl.refl (a : Addr) (H : Hp) : Rl a H H := fun _ _ _ h _ => h
theorem Rl.ext {a : Addr} {H H1 H2 : Hp} (r : Rl a H H1) (e : ExtN H1 H2) : Rl a H H2 := fun c u n h t => e _ _ (r c u n h t) t
theorem Rl.kept {a : Addr} {H H1 H2 : Hp} (r : Rl a H H1) (k : Kept a H1 H2) : Rl a H H2 := fun c u n h t => k c u n (r c u n h t)
theorem Rl.put {a L : Addr} {H H1 : Hp} {o : HO} (r : Rl a H H1) (n : H L = none) : Rl a H (upd H1 L o) := fun c u nc h t => by
  rw [upd_ne (ne_of_none h n)]
  exact r c u nc h t
section
variable {P : Program} {w : World} {K : PySem.W.Frag} {mg : Str → Option Value} {base : Heap}
/-! ### one of any values -/
def spPickV : Sp := fun vs H Q _ => ∃ (a b p : Addr) (n : Nat) (xs : List V), vs = [.ref a, .ref p] ∧ PenAt H a b n ∧ n ≤ 1000 ∧ H p = some (.lst xs) ∧ p ≠ a ∧ 0 < xs.length ∧ xs.length ≤ 1000 ∧ ∀ (j : Nat) (v : V) (H' : Hp), xs[j]? = some v → PenAt H' a b (n + 1) → Kept a H H' → Q v H'
theorem ok_pickV {f fD : Addr} {fd fdD : FuncData} (F : Fun K "_law_pick" "_law_pick" s_pick f fd) (FD : Fun K "_law_draw" "_law_draw" s_draw fD fdD) (bD : Binds K fdD ["_law_pen_here", "_law_many"] []) (gD : mg "_law_draw" = some (.ref fD)) (T : Nm mg) :
    FnOk P w K mg base CX0 2 f fd ["_law_pen_here", "_law_some"] spPickV := by
  have GD : FnOk P w K mg base CX0 1 fD fdD ["_law_pen_here", "_law_many"] spDraw := ok_draw FD T
  refine F.ok sc_pick (fun vs H Q E h => ?_) (fun cdv A outer s H vs Q E hr h => ?_)
  · obtain ⟨a, b, p, n, l, rfl, _⟩ := h
    rfl
  · obtain ⟨a, b, p, n, l, rfl, hp, hn, hl, pa, l0, l1, q⟩ := h
    refine ⟨_, pss_one (ps_ret (pe_ix ix_list (pv 1) (pe_call GD hr rfl gD FD.kp bD .nil pass0 (pa_cons (pv 0) (pa_cons (pe_callB call_len_seq (by rfl) T.len PySem.boot_len (pa_cons (pv 1) pa_nil)) pa_nil))) (fun _ _ => rfl))), ?_⟩
    refine ⟨_, rfl, _, rfl, _, rfl, p, _, rfl, .inl (.of hl), a, b, l.length, n, rfl, hp, hn, l0, by omega, fun d H' hd p' k => ?_⟩
    have e : l[d]? = some l[d] := List.getElem?_eq_getElem hd
    exact ⟨p, _, _, _, rfl, rfl, .of (k _ _ pa hl), at_of (j := d) rfl e, q d l[d] H' e p' k⟩
/-! ### values that are no sums -/
theorem Rl.trans {a : Addr} {H H1 H2 : Hp} (r : Rl a H H1) (r2 : Rl a H1 H2) : Rl a H H2 := fun c u n h t => r2 c u n (r c u n h t) t
theorem Rl.same {a : Addr} {H H1 H2 : Hp} (r : Rl a H H1) (s : Same H1 H2) : Rl a H H2 := fun c u n h t => s _ _ (r c u n h t)
theorem Rl.of_same {a : Addr} {H H1 : Hp} (s : Same H H1) : Rl a H H1 := fun c u n h t => s _ _ h
theorem Rl.of_kept {a : Addr} {H H1 : Hp} (s : Kept a H H1) : Rl a H H1 := fun c u n h t => s _ _ n h
def sumHits : List PyData := [.tuple [.int 0], .tuple [.int 2, .int 3], .tuple [.int 0, .int 8], .tuple [.int 4, .int 5, .int 6]]
/-- what `in` takes at the left: data, or a dict -/
def InOk (K : PySem.W.Frag) (H : Hp) (v : V) (b : Bool) : Prop := (∃ d, Dp K H v d ∧ SeqAt.shaped d = true ∧ (sumHits.any fun z => PyData.eqv z d) = b) ∨ ∃ (a : Addr) (kvs : List (Key × V)), v = .ref a ∧ H a = some (.dK kvs) ∧ b = false
/-- a value as a tick takes it, for as long as all but the pen and the tables stays -/
def Od (K : PySem.W.Frag) (pn : Addr) (H : Hp) (v : V) (o : Sm) (b : Bool) : Prop := ∀ H2, Rl pn H H2 → SmV K H2 v o ∧ InOk K H2 v b
theorem Od.mono {pn : Addr} {H H1 : Hp} {v : V} {o : Sm} {b : Bool} (h : Od K pn H v o b) (r : Rl pn H H1) : Od K pn H1 v o b := fun H2 r2 => h H2 (r.trans r2)
def Bad (K : PySem.W.Frag) (pn : Addr) (H : Hp) (v : V) : Prop := ∃ o, isSum o = false ∧ Od K pn H v o false
theorem Bad.mono {pn : Addr} {H H1 : Hp} {v : V} (h : Bad K pn H v) (r : Rl pn H H1) : Bad K pn H1 v := by
  obtain ⟨o, h1, h2⟩ := h
  exact ⟨o, h1, h2.mono r⟩
/-- an item -/
def Atom (K : PySem.W.Frag) (pn : Addr) (H : Hp) (v : V) (o : Option Int) (d : PyData) : Prop := ∀ H2, Rl pn H H2 → Arg K H2 v o ∧ Dp K H2 v d
theorem Atom.mono {pn : Addr} {H H1 : Hp} {v : V} {o : Option Int} {d : PyData} (h : Atom K pn H v o d) (r : Rl pn H H1) : Atom K pn H1 v o d := fun H2 r2 => h H2 (r.trans r2)
theorem at_int {pn : Addr} {H : Hp} (i : Int) : Atom K pn H (.int i) (some i) (.int i) := fun _ _ => ⟨.int i, .int i⟩
theorem at_non {pn : Addr} {H : Hp} : Atom K pn H .non none .none := fun _ _ => ⟨.no noInt_non, .non⟩
theorem at_bl {pn : Addr} {H : Hp} (b : Bool) : Atom K pn H (.bl b) none (.bool b) := fun _ _ => ⟨.no (noInt_bl b), .bl b⟩
theorem at_str {pn : Addr} {H : Hp} (x : Str) : Atom K pn H (.str x) none (.str x) := fun _ _ => ⟨.no (noInt_str x), .str x⟩
inductive Atoms (K : PySem.W.Frag) (pn : Addr) (H : Hp) : List V → List (Option Int) → List PyData → Prop
  | nil : Atoms K pn H [] [] []
  | cons {v : V} {o : Option Int} {d : PyData} {xs : List V} {os : List (Option Int)} {ds : List PyData} (h : Atom K pn H v o d) (t : Atoms K pn H xs os ds) : Atoms K pn H (v :: xs) (o :: os) (d :: ds)
theorem Atoms.dp {pn : Addr} {H H2 : Hp} {xs : List V} {os : List (Option Int)} {ds : List PyData} (h : Atoms K pn H xs os ds) (r : Rl pn H H2) : DpAll K H2 xs ds := by
  induction h with
  | nil => exact .nil
  | cons h _ ih => exact .cons (h _ r).2 ih
theorem Atoms.len {pn : Addr} {H : Hp} {xs : List V} {os : List (Option Int)} {ds : List PyData} (h : Atoms K pn H xs os ds) : xs.length = os.length := by
  induction h with
  | nil => rfl
  | cons _ _ ih => simp [ih]
theorem Atoms.arg {pn : Addr} {H : Hp} {xs : List V} {os : List (Option Int)} {ds : List PyData} (h : Atoms K pn H xs os ds) : ∀ (j : Nat) (v : V), xs[j]? = some v → ∃ o, os[j]? = some o ∧ ∀ H', Rl pn H H' → Arg K H' v o := by
  induction h with
  | nil => exact fun j v e => by simp at e
  | cons h _ ih =>
    intro j v e
    cases j with
    | zero =>
      cases e
      exact ⟨_, rfl, fun H' r => (h H' r).1⟩
    | succ j => exact ih j v e
theorem od_tup {pn p : Addr} {H : Hp} {xs : List V} {os : List (Option Int)} {ds : List PyData} {b : Bool} (h : H p = some (.tup xs)) (ne : p ≠ pn) (at_ : Atoms K pn H xs os ds) (hl : xs.length ≤ 1000) (sh : SeqAt.shaped (.tuple ds) = true) (hit : (sumHits.any fun z => PyData.eqv z (.tuple ds)) = b) : Od K pn H (.ref p) (some os) b := fun H2 r => by
  have hp := r _ _ ne h (fun ps z => by cases z)
  refine ⟨.tup hp at_.len (fun j v e => ?_) hl, .inl ⟨.tuple ds, .tup (.of hp) (at_.dp r), sh, hit⟩⟩
  obtain ⟨o, h1, h2⟩ := at_.arg j v e
  exact ⟨o, h1, fun H' s => h2 H' (r.same s)⟩
theorem bad_tup {pn p : Addr} {H : Hp} {xs : List V} {os : List (Option Int)} {ds : List PyData} (h : H p = some (.tup xs)) (ne : p ≠ pn) (at_ : Atoms K pn H xs os ds) (hl : xs.length ≤ 1000) (sh : SeqAt.shaped (.tuple ds) = true) (hit : (sumHits.any fun z => PyData.eqv z (.tuple ds)) = false) (no : isSum (some os) = false) : Bad K pn H (.ref p) := ⟨_, no, od_tup h ne at_ hl sh hit⟩
theorem bad_lst {pn p : Addr} {H : Hp} {xs : List V} {os : List (Option Int)} {ds : List PyData} (h : H p = some (.lst xs)) (ne : p ≠ pn) (at_ : Atoms K pn H xs os ds) (sh : SeqAt.shaped (.list ds) = true) (hit : (sumHits.any fun z => PyData.eqv z (.list ds)) = false) : Bad K pn H (.ref p) := ⟨none, rfl, fun H2 r => by
  have hp := r _ _ ne h (fun ps z => by cases z)
  exact ⟨.no (fun H' s => .base (.lst (s _ _ hp))) (kit_ty (by decide +kernel)), .inl ⟨.list ds, .lst (.of hp) (at_.dp r), sh, hit⟩⟩⟩
theorem bad_dk {pn p : Addr} {H : Hp} {kvs : List (Key × V)} (h : H p = some (.dK kvs)) (ne : p ≠ pn) : Bad K pn H (.ref p) := ⟨none, rfl, fun H2 r => by
  have hp := r _ _ ne h (fun ps z => by cases z)
  exact ⟨.no (fun H' s => .base (.dK (s _ _ hp))) (kit_ty (by decide +kernel)), .inr ⟨p, kvs, rfl, hp, rfl⟩⟩⟩
theorem bad_non {pn : Addr} {H : Hp} : Bad K pn H .non := ⟨none, rfl, fun H2 r => ⟨.no (fun H' s => .base .non) (kit_ty (by decide +kernel)), .inl ⟨.none, .non, by decide +kernel, by decide +kernel⟩⟩⟩
theorem bad_int {pn : Addr} {H : Hp} (i : Int) : Bad K pn H (.int i) := ⟨none, rfl, fun H2 r => ⟨.no (fun H' s => .base (.int i)) (kit_ty (by decide +kernel)), .inl ⟨.int i, .int i, by rfl, by rfl⟩⟩⟩
theorem bad_bl {pn : Addr} {H : Hp} (b : Bool) : Bad K pn H (.bl b) := ⟨none, rfl, fun H2 r => ⟨.no (fun H' s => .base (.bl b)) (kit_ty (by decide +kernel)), .inl ⟨.bool b, .bl b, by rfl, by rfl⟩⟩⟩
theorem bad_str {pn : Addr} {H : Hp} (x : Str) (sh : SeqAt.shaped (.str x) = true) : Bad K pn H (.str x) := ⟨none, rfl, fun H2 r => ⟨.no (fun H' s => .base (.str x)) (kit_ty (by decide +kernel)), .inl ⟨.str x, .str x, sh, by rfl⟩⟩⟩
/-- the values laid so far -/
structure Gr (K : PySem.W.Frag) (pn : Addr) (H J : Hp) (L : List V) : Prop where
  same : Same H J
  all : ∀ v ∈ L, Bad K pn J v
theorem Gr.put {pn p : Addr} {H J : Hp} {L : List V} {o o0 : HO} (g : Gr K pn H J L) (hy : H pn = some o0) (n : J p = none) (b : (upd J p o) p = some o → p ≠ pn → Rl pn J (upd J p o) → Bad K pn (upd J p o) (.ref p)) : Gr K pn H (upd J p o) (.ref p :: L) := by
  have ne : p ≠ pn := (ne_of_none (g.same _ _ hy) n).symm
  have s := same_upd (o := o) n
  refine ⟨g.same.trans s, fun v hv => ?_⟩
  rcases List.mem_cons.mp hv with rfl | hv
  · exact b upd_same ne (.of_same s)
  · exact (g.all v hv).mono (.of_same s)
theorem Gr.skip {pn p : Addr} {H J : Hp} {L : List V} {o : HO} (g : Gr K pn H J L) (n : J p = none) : Gr K pn H (upd J p o) L := ⟨g.same.trans (same_upd n), fun v hv => (g.all v hv).mono (.of_same (same_upd n))⟩
abbrev s_wrong : Stmt := topS 35
theorem sc_wrong : FnScope ["_law_pen_here", "_law_some"] ["_law_pen_here"] (defScope s_wrong) := ⟨rfl, rfl, rfl, by decide +kernel, rfl, by decide +kernel, by decide +kernel⟩
end
end Lr

set_option Elab.async false
set_option linter.all false
set_option maxRecDepth 100000
set_option maxHeartbeats 8000000
namespace Lr
open PySem PySem.Spec PyProof.Rows L2 Ow Og Oe LamX Oq
section
variable {P : Program} {w : World} {K : PySem.W.Frag} {mg : Str → Option Value} {base : Heap}
theorem Gr.to {pn p : Addr} {H J J' : Hp} {L : List V} {o o0 : HO} (g : Gr K pn H J L) (s : Same J J') (hy : H pn = some o0) (n : J p = none) (hp : J' p = some o) (b : p ≠ pn → Rl pn J J' → Bad K pn J' (.ref p)) : Gr K pn H J' (.ref p :: L) := by
  have ne : p ≠ pn := (ne_of_none (g.same _ _ hy) n).symm
  refine ⟨g.same.trans s, fun v hv => ?_⟩
  rcases List.mem_cons.mp hv with rfl | hv
  · exact b ne (.of_same s)
  · exact (g.all v hv).mono (.of_same s)
def spWrong (K : PySem.W.Frag) : Sp := fun vs H Q _ => ∃ (pn b : Addr) (n : Nat), vs = [.ref pn] ∧ PenAt H pn b n ∧ n ≤ 900 ∧ ∀ (v : V) (H' : Hp) (o : Sm), isSum o = false → Od K pn H' v o false → PenAt H' pn b (n + 1) → Kept pn H H' → Q v H'
theorem ok_wrong {f fP : Addr} {fd fdP : FuncData} (F : Fun K "_law_wrong" "_law_wrong" s_wrong f fd) (GP : FnOk P w K mg base CX0 2 fP fdP ["_law_pen_here", "_law_some"] spPickV) (UP : Use K mg "_law_pick" fP fdP ["_law_pen_here", "_law_some"]) :
    FnOk P w K mg base CX0 3 f fd ["_law_pen_here"] (spWrong K) := by
  refine F.ok sc_wrong (fun vs H Q E h => ?_) (fun cdv A outer s H vs Q E hr h => ?_)
  · obtain ⟨a, b, n, rfl, _⟩ := h
    rfl
  · obtain ⟨pn, b, n, rfl, hp, hn, q⟩ := h
    have sl : ∀ {m : Nat}, m ≤ 1000 → m ≤ sizeLine := fun h => Nat.le_of_lt (small1000 h)
    refine ⟨_, (pss_cons (ps_set (i := 1) sc_wrong.nd rfl (Or.inl rfl) (pe_lst (pa_cons pe_non (pa_cons pe_int (pa_cons pe_str (pa_cons (pe_tup pa_nil) (pa_cons (pe_lst (pa_cons pe_int pa_nil)) (pa_cons (pe_lst (pa_cons pe_int (pa_cons pe_int pa_nil))) (pa_cons (pe_tup (pa_cons pe_int pa_nil)) (pa_cons (pe_tup (pa_cons (pe_un un_neg pe_int) pa_nil)) (pa_cons (pe_tup (pa_cons pe_bl pa_nil)) (pa_cons (pe_tup (pa_cons pe_int (pa_cons pe_int pa_nil))) (pa_cons (pe_tup (pa_cons pe_int (pa_cons pe_int pa_nil))) (pa_cons (pe_tup (pa_cons pe_str pa_nil)) (pa_cons (pe_tup (pa_cons pe_int (pa_cons pe_non pa_nil))) (pa_cons pe_dnewK (pa_cons (pe_tup (pa_cons pe_int (pa_cons pe_int (pa_cons pe_int pa_nil)))) (pa_cons (pe_tup (pa_cons (pe_tup (pa_cons pe_int pa_nil)) pa_nil)) pa_nil))))))))))))))))))
      (pss_one (ps_ret (pe_call GP hr rfl UP.g UP.kp UP.b .nil pass0 (pa_cons (pv 0) (pa_cons (pe_op op_cat (pv 1) (pe_lst (pa_cons (pe_disp (pps_cons pe_int pe_int pps_nil) (by rfl) (by rfl) (fun z => by cases z) (by decide)) (pa_cons (pe_tup (pa_cons pe_int (pa_cons pe_int (pa_cons pe_int pa_nil)))) (pa_cons (pe_tup (pa_cons (pe_lst pa_nil) pa_nil)) (pa_cons (pe_tup (pa_cons (pe_op op_pow pe_int pe_int) pa_nil)) (pa_cons pe_bl pa_nil))))))) pa_nil)))))), ?_⟩
    obtain ⟨ys, hy⟩ := pen_at hp
    have g : Gr K pn H H [] := ⟨fun _ _ h => h, fun v hv => nomatch hv⟩
    refine ⟨sl (by decide : 0 ≤ 1000), fun q1 n1 => ?_⟩
    have g := g.put (o := HO.tup []) hy n1 (fun e ne r => bad_tup e ne .nil (by decide +kernel) (by decide +kernel) (by decide +kernel) (by decide +kernel))
    generalize upd H q1 (HO.tup []) = J1 at *
    refine ⟨sl (by decide : 1 ≤ 1000), fun q2 n2 => ?_⟩
    have g := g.put (o := HO.lst [V.int 0]) hy n2 (fun e ne r => bad_lst e ne (.cons (at_int 0) .nil) (by decide +kernel) (by decide +kernel))
    generalize upd J1 q2 (HO.lst [V.int 0]) = J2 at *
    refine ⟨sl (by decide : 2 ≤ 1000), fun q3 n3 => ?_⟩
    have g := g.put (o := HO.lst [V.int 1, V.int 2]) hy n3 (fun e ne r => bad_lst e ne (.cons (at_int 1) (.cons (at_int 2) .nil)) (by decide +kernel) (by decide +kernel))
    generalize upd J2 q3 (HO.lst [V.int 1, V.int 2]) = J3 at *
    refine ⟨sl (by decide : 1 ≤ 1000), fun q4 n4 => ?_⟩
    have g := g.put (o := HO.tup [V.int 9]) hy n4 (fun e ne r => bad_tup e ne (.cons (at_int 9) .nil) (by decide +kernel) (by decide +kernel) (by decide +kernel) (by decide +kernel))
    generalize upd J3 q4 (HO.tup [V.int 9]) = J4 at *
    refine ⟨_, rfl, sl (by decide : 1 ≤ 1000), fun q5 n5 => ?_⟩
    have g := g.put (o := HO.tup [V.int (-1)]) hy n5 (fun e ne r => bad_tup e ne (.cons (at_int (-1)) .nil) (by decide +kernel) (by decide +kernel) (by decide +kernel) (by decide +kernel))
    generalize upd J4 q5 (HO.tup [V.int (-1)]) = J5 at *
    refine ⟨sl (by decide : 1 ≤ 1000), fun q6 n6 => ?_⟩
    have g := g.put (o := HO.tup [V.bl true]) hy n6 (fun e ne r => bad_tup e ne (.cons (at_bl true) .nil) (by decide +kernel) (by decide +kernel) (by decide +kernel) (by decide +kernel))
    generalize upd J5 q6 (HO.tup [V.bl true]) = J6 at *
    refine ⟨sl (by decide : 2 ≤ 1000), fun q7 n7 => ?_⟩
    have g := g.put (o := HO.tup [V.int 1, V.int 1]) hy n7 (fun e ne r => bad_tup e ne (.cons (at_int 1) (.cons (at_int 1) .nil)) (by decide +kernel) (by decide +kernel) (by decide +kernel) (by decide +kernel))
    generalize upd J6 q7 (HO.tup [V.int 1, V.int 1]) = J7 at *
    refine ⟨sl (by decide : 2 ≤ 1000), fun q8 n8 => ?_⟩
    have g := g.put (o := HO.tup [V.int 2, V.int 1]) hy n8 (fun e ne r => bad_tup e ne (.cons (at_int 2) (.cons (at_int 1) .nil)) (by decide +kernel) (by decide +kernel) (by decide +kernel) (by decide +kernel))
    generalize upd J7 q8 (HO.tup [V.int 2, V.int 1]) = J8 at *
    refine ⟨sl (by decide : 1 ≤ 1000), fun q9 n9 => ?_⟩
    have g := g.put (o := HO.tup [V.str "1"]) hy n9 (fun e ne r => bad_tup e ne (.cons (at_str "1") .nil) (by decide +kernel) (by decide +kernel) (by decide +kernel) (by decide +kernel))
    generalize upd J8 q9 (HO.tup [V.str "1"]) = J9 at *
    refine ⟨sl (by decide : 2 ≤ 1000), fun q10 n10 => ?_⟩
    have g := g.put (o := HO.tup [V.int 0, V.non]) hy n10 (fun e ne r => bad_tup e ne (.cons (at_int 0) (.cons (at_non) .nil)) (by decide +kernel) (by decide +kernel) (by decide +kernel) (by decide +kernel))
    generalize upd J9 q10 (HO.tup [V.int 0, V.non]) = J10 at *
    refine fun q11 n11 => ?_
    have g := g.put (o := HO.dK []) hy n11 (fun e ne r => bad_dk e ne)
    generalize upd J10 q11 (HO.dK []) = J11 at *
    refine ⟨sl (by decide : 3 ≤ 1000), fun q12 n12 => ?_⟩
    have g := g.put (o := HO.tup [V.int 0, V.int 1, V.int 9]) hy n12 (fun e ne r => bad_tup e ne (.cons (at_int 0) (.cons (at_int 1) (.cons (at_int 9) .nil))) (by decide +kernel) (by decide +kernel) (by decide +kernel) (by decide +kernel))
    generalize upd J11 q12 (HO.tup [V.int 0, V.int 1, V.int 9]) = J12 at *
    refine ⟨sl (by decide : 1 ≤ 1000), fun q13 n13 => ?_⟩
    have ne13 : q13 ≠ pn := (ne_of_none (g.same _ _ hy) n13).symm
    have e13 : (upd J12 q13 (HO.tup [V.int 0])) q13 = some (HO.tup [V.int 0]) := upd_same
    have g := g.skip (o := HO.tup [V.int 0]) n13
    generalize upd J12 q13 (HO.tup [V.int 0]) = J13 at *
    refine ⟨sl (by decide : 1 ≤ 1000), fun q14 n14 => ?_⟩
    have g := g.put (o := HO.tup [V.ref q13]) hy n14 (fun e ne r => bad_tup (os := [none]) (ds := [.tuple [.int 0]]) e ne (.cons (fun H2 r2 => have hp := (r.trans r2) _ _ ne13 e13 (fun ps z => by cases z); ⟨.no (noInt_tup hp), .tup (.of hp) (.cons (.int 0) .nil)⟩) .nil) (by show 1 ≤ 1000; decide) (by decide +kernel) (by decide +kernel) (by decide +kernel))
    generalize upd J13 q14 (HO.tup [V.ref q13]) = J14 at *
    refine ⟨sl (by decide : 16 ≤ 1000), fun q15 n15 => ?_⟩
    have el : (upd J14 q15 (HO.lst [V.non, V.int 0, V.str "0", V.ref q1, V.ref q2, V.ref q3, V.ref q4, V.ref q5, V.ref q6, V.ref q7, V.ref q8, V.ref q9, V.ref q10, V.ref q11, V.ref q12, V.ref q14])) q15 = some (HO.lst [V.non, V.int 0, V.str "0", V.ref q1, V.ref q2, V.ref q3, V.ref q4, V.ref q5, V.ref q6, V.ref q7, V.ref q8, V.ref q9, V.ref q10, V.ref q11, V.ref q12, V.ref q14]) := upd_same
    have g := g.skip (o := HO.lst [V.non, V.int 0, V.str "0", V.ref q1, V.ref q2, V.ref q3, V.ref q4, V.ref q5, V.ref q6, V.ref q7, V.ref q8, V.ref q9, V.ref q10, V.ref q11, V.ref q12, V.ref q14]) n15
    generalize upd J14 q15 (HO.lst [V.non, V.int 0, V.str "0", V.ref q1, V.ref q2, V.ref q3, V.ref q4, V.ref q5, V.ref q6, V.ref q7, V.ref q8, V.ref q9, V.ref q10, V.ref q11, V.ref q12, V.ref q14]) = J15 at *
    refine ⟨_, rfl, _, rfl, fun q16 n16 => ⟨upd_same, [(.inl 0, .int 1)], rfl, by decide, ?_⟩⟩
    have s16 : Same J15 (upd (upd J15 q16 (.dK [])) q16 (.dK (mergeK [] [(.inl 0, .int 1)]))) := same_put (same_upd n16) n16
    have el := s16 _ _ el
    have g := g.to s16 hy n16 upd_same (fun ne r => bad_dk upd_same ne)
    generalize upd (upd J15 q16 (.dK [])) q16 (.dK (mergeK [] [(.inl 0, .int 1)])) = J16 at *
    refine ⟨sl (by decide : 3 ≤ 1000), fun q17 n17 => ?_⟩
    have el := same_upd (o := HO.tup [V.int 0, V.int 2, V.int 1]) n17 _ _ el
    have g := g.put (o := HO.tup [V.int 0, V.int 2, V.int 1]) hy n17 (fun e ne r => bad_tup e ne (.cons (at_int 0) (.cons (at_int 2) (.cons (at_int 1) .nil))) (by decide +kernel) (by decide +kernel) (by decide +kernel) (by decide +kernel))
    generalize upd J16 q17 (HO.tup [V.int 0, V.int 2, V.int 1]) = J17 at *
    refine ⟨sl (by decide : 0 ≤ 1000), fun q18 n18 => ?_⟩
    have ne18 : q18 ≠ pn := (ne_of_none (g.same _ _ hy) n18).symm
    have e18 : (upd J17 q18 (HO.lst [])) q18 = some (HO.lst []) := upd_same
    have el := same_upd (o := HO.lst []) n18 _ _ el
    have g := g.skip (o := HO.lst []) n18
    generalize upd J17 q18 (HO.lst []) = J18 at *
    refine ⟨sl (by decide : 1 ≤ 1000), fun q19 n19 => ?_⟩
    have el := same_upd (o := HO.tup [V.ref q18]) n19 _ _ el
    have g := g.put (o := HO.tup [V.ref q18]) hy n19 (fun e ne r => bad_tup (os := [none]) (ds := [.list []]) e ne (.cons (fun H2 r2 => have hp := (r.trans r2) _ _ ne18 e18 (fun ps z => by cases z); ⟨.no (noInt_lst hp), .lst (.of hp) .nil⟩) .nil) (by show 1 ≤ 1000; decide) (by decide +kernel) (by decide +kernel) (by decide +kernel))
    generalize upd J18 q19 (HO.tup [V.ref q18]) = J19 at *
    refine ⟨_, _, rfl, rfl, ⟨by decide, by decide, by decide⟩, sl (by decide : 1 ≤ 1000), fun q20 n20 => ?_⟩
    have el := same_upd (o := HO.tup [V.int (10 ^ Int.toNat 30)]) n20 _ _ el
    have g := g.put (o := HO.tup [V.int (10 ^ Int.toNat 30)]) hy n20 (fun e ne r => bad_tup e ne (.cons (at_int _) .nil) (by decide +kernel) (by decide +kernel) (by decide +kernel) (by decide +kernel))
    generalize upd J19 q20 (HO.tup [V.int (10 ^ Int.toNat 30)]) = J20 at *
    refine ⟨sl (by decide : 5 ≤ 1000), fun q21 n21 => ?_⟩
    have eb : (upd J20 q21 (HO.lst [V.ref q16, V.ref q17, V.ref q19, V.ref q20, V.bl false])) q21 = some (HO.lst [V.ref q16, V.ref q17, V.ref q19, V.ref q20, V.bl false]) := upd_same
    have el := same_upd (o := HO.lst [V.ref q16, V.ref q17, V.ref q19, V.ref q20, V.bl false]) n21 _ _ el
    have g := g.skip (o := HO.lst [V.ref q16, V.ref q17, V.ref q19, V.ref q20, V.bl false]) n21
    generalize upd J20 q21 (HO.lst [V.ref q16, V.ref q17, V.ref q19, V.ref q20, V.bl false]) = J21 at *
    refine ⟨q15, q21, _, _, rfl, rfl, el, eb, sl (by decide : 21 ≤ 1000), fun q22 n22 => ?_⟩
    have nec : q22 ≠ pn := (ne_of_none (g.same _ _ hy) n22).symm
    have ec : (upd J21 q22 (HO.lst ([V.non, V.int 0, V.str "0", V.ref q1, V.ref q2, V.ref q3, V.ref q4, V.ref q5, V.ref q6, V.ref q7, V.ref q8, V.ref q9, V.ref q10, V.ref q11, V.ref q12, V.ref q14] ++ [V.ref q16, V.ref q17, V.ref q19, V.ref q20, V.bl false]))) q22 = some (HO.lst ([V.non, V.int 0, V.str "0", V.ref q1, V.ref q2, V.ref q3, V.ref q4, V.ref q5, V.ref q6, V.ref q7, V.ref q8, V.ref q9, V.ref q10, V.ref q11, V.ref q12, V.ref q14] ++ [V.ref q16, V.ref q17, V.ref q19, V.ref q20, V.bl false])) := upd_same
    have g := g.skip (o := HO.lst ([V.non, V.int 0, V.str "0", V.ref q1, V.ref q2, V.ref q3, V.ref q4, V.ref q5, V.ref q6, V.ref q7, V.ref q8, V.ref q9, V.ref q10, V.ref q11, V.ref q12, V.ref q14] ++ [V.ref q16, V.ref q17, V.ref q19, V.ref q20, V.bl false])) n22
    generalize upd J21 q22 (HO.lst ([V.non, V.int 0, V.str "0", V.ref q1, V.ref q2, V.ref q3, V.ref q4, V.ref q5, V.ref q6, V.ref q7, V.ref q8, V.ref q9, V.ref q10, V.ref q11, V.ref q12, V.ref q14] ++ [V.ref q16, V.ref q17, V.ref q19, V.ref q20, V.bl false])) = J22 at *
    refine ⟨pn, b, q22, n, _, rfl, hp.same g.same, by omega, ec, nec, by show 0 < 21; decide, by show 21 ≤ 1000; decide, fun j v H' hj p' k => ?_⟩
    have hb : Bad K pn J22 v := by
      have hm := List.mem_of_getElem? hj
      simp only [List.mem_append, List.mem_cons, List.not_mem_nil, or_false] at hm
      rcases hm with (rfl | rfl | rfl | rfl | rfl | rfl | rfl | rfl | rfl | rfl | rfl | rfl | rfl | rfl | rfl | rfl) | (rfl | rfl | rfl | rfl | rfl)
      · exact bad_non
      · exact bad_int _
      · exact bad_str _ (by decide +kernel)
      · exact g.all _ (by simp)
      · exact g.all _ (by simp)
      · exact g.all _ (by simp)
      · exact g.all _ (by simp)
      · exact g.all _ (by simp)
      · exact g.all _ (by simp)
      · exact g.all _ (by simp)
      · exact g.all _ (by simp)
      · exact g.all _ (by simp)
      · exact g.all _ (by simp)
      · exact g.all _ (by simp)
      · exact g.all _ (by simp)
      · exact g.all _ (by simp)
      · exact g.all _ (by simp)
      · exact g.all _ (by simp)
      · exact g.all _ (by simp)
      · exact g.all _ (by simp)
      · exact bad_bl _
    obtain ⟨o, h1, h2⟩ := hb.mono (.of_kept k)
    exact q v H' o h1 h2 p' ((same_kept g.same).trans k)
end
end Lr

set_option Elab.async false
set_option linter.all false
set_option maxRecDepth 100000
set_option maxHeartbeats 4000000
/-! Steps of the law: what is heard is put into a list, the list is compared. -/
namespace Lr
open PySem PySem.Spec PyProof.Rows L2 Ow Og Oe LamX Oq
theorem tabs_kept {T : List (Addr × Str)} {H H' : Hp} {a : Addr} {ys : List V} (ha : H a = some (.lst ys)) (k : Kept a H H') (t : Tabs T H) : Tabs T H' := fun p hp => by
  obtain ⟨ps, h1, h2, h3⟩ := t p hp
  have pa : p.1 ≠ a := fun z => by
    rw [z, ha] at h1
    cases h1
  refine ⟨ps, k _ _ pa h1, h2, fun pos cv hc => ?_⟩
  obtain ⟨c, e1, e2⟩ := h3 pos cv hc
  have ca : c ≠ a := fun z => by
    rw [z, ha] at e2
    unfold CodeO at e2
    cases e2
  exact ⟨c, e1, k _ _ ca e2⟩
theorem pen_ext {H H' : Hp} {a b : Addr} {n : Nat} (p : PenAt H a b n) (e : ExtN H H') : PenAt H' a b n := by
  obtain ⟨ns, i, g, h1, h2, h3⟩ := p
  exact ⟨ns, i, g, e _ _ h1 (fun ps z => by cases z), e _ _ h2 (fun ps z => by cases z), h3⟩
theorem PenAt.put {H : Hp} {a b c : Addr} {n : Nat} {o : HO} (p : PenAt H a b n) (ca : c ≠ a) (cb : c ≠ b) : PenAt (upd H c o) a b n := by
  obtain ⟨ns, i, g, h1, h2, h3⟩ := p
  exact ⟨ns, i, g, by rw [upd_ne (Ne.symm ca)]; exact h1, by rw [upd_ne (Ne.symm cb)]; exact h2, h3⟩
/-- nothing but a table may have stood there -/
def Nt (H : Hp) (L : Addr) : Prop := ∀ u, H L = some u → ∃ ps, u = .tbl ps
theorem Rl.putN {a L : Addr} {H H1 : Hp} {o : HO} (r : Rl a H H1) (n : Nt H L) : Rl a H (upd H1 L o) := fun c u nc h t => by
  have cL : c ≠ L := fun z => by
    rw [z] at h
    obtain ⟨ps, e⟩ := n u h
    exact t ps e
  rw [upd_ne cL]
  exact r c u nc h t
theorem Rl.fresh {a L : Addr} {H H1 : Hp} (r : Rl a H H1) (n : H1 L = none) (na : L ≠ a) : Nt H L := fun u h => by
  cases u with
  | tbl ps => exact ⟨ps, rfl⟩
  | _ =>
    have := r L _ na h (fun ps z => by cases z)
    rw [n] at this
    cases this
/-- texts and numbers -/
inductive Flat : List V → List PyData → Prop
  | nil : Flat [] []
  | str {x : Str} {xs : List V} {ds : List PyData} (r : Flat xs ds) : Flat (.str x :: xs) (.str x :: ds)
  | int {i : Int} {xs : List V} {ds : List PyData} (r : Flat xs ds) : Flat (.int i :: xs) (.int i :: ds)
theorem Flat.dp {K : PySem.W.Frag} {H : Hp} {xs : List V} {ds : List PyData} (h : Flat xs ds) : DpAll K H xs ds := by
  induction h with
  | nil => exact .nil
  | str _ ih => exact .cons (.str _) ih
  | int _ ih => exact .cons (.int _) ih
def TupF (H : Hp) (v : V) (d : PyData) : Prop := ∃ (p : Addr) (xs : List V) (ds : List PyData), v = .ref p ∧ H p = some (.tup xs) ∧ d = .tuple ds ∧ Flat xs ds
theorem TupF.dp {K : PySem.W.Frag} {H : Hp} {v : V} {d : PyData} (h : TupF H v d) : Dp K H v d := by
  obtain ⟨p, xs, ds, rfl, h1, rfl, f⟩ := h
  exact .tup (.of h1) f.dp
theorem TupF.rl {a : Addr} {H H' : Hp} {v : V} {d : PyData} {ys : List V} (h : TupF H v d) (hy : H a = some (.lst ys)) (r : Rl a H H') : TupF H' v d := by
  obtain ⟨p, xs, ds, rfl, h1, rfl, f⟩ := h
  refine ⟨p, xs, ds, rfl, r _ _ (fun z => ?_) h1 (fun ps z => by cases z), rfl, f⟩
  rw [z, hy] at h1
  cases h1
theorem TupF.put {L : Addr} {H : Hp} {v : V} {d : PyData} {ys : List V} {o : HO} (h : TupF H v d) (hy : H L = some (.lst ys)) : TupF (upd H L o) v d := by
  obtain ⟨p, xs, ds, rfl, h1, rfl, f⟩ := h
  refine ⟨p, xs, ds, rfl, ?_, rfl, f⟩
  rw [upd_ne (fun z => by
    rw [z, hy] at h1
    cases h1)]
  exact h1
inductive TupsF (H : Hp) : List V → List PyData → Prop
  | nil : TupsF H [] []
  | cons {v : V} {d : PyData} {vs : List V} {ds : List PyData} (h : TupF H v d) (r : TupsF H vs ds) : TupsF H (v :: vs) (d :: ds)
theorem TupsF.map {H H' : Hp} (f : ∀ v d, TupF H v d → TupF H' v d) {vs : List V} {ds : List PyData} (h : TupsF H vs ds) : TupsF H' vs ds := by
  induction h with
  | nil => exact .nil
  | cons h _ ih => exact .cons (f _ _ h) ih
theorem TupsF.snoc {H : Hp} {v : V} {d : PyData} {vs : List V} {ds : List PyData} (h : TupsF H vs ds) (t : TupF H v d) : TupsF H (vs ++ [v]) (ds ++ [d]) := by
  induction h with
  | nil => exact .cons t .nil
  | cons h _ ih => exact .cons h ih
theorem TupsF.dp {K : PySem.W.Frag} {H : Hp} {vs : List V} {ds : List PyData} (h : TupsF H vs ds) : DpAll K H vs ds := by
  induction h with
  | nil => exact .nil
  | cons h _ ih => exact .cons h.dp ih
/-- the list of what was heard -/
def LF (H : Hp) (L : Addr) (vs : List V) (ds : List PyData) : Prop := H L = some (.lst vs) ∧ TupsF H vs ds
theorem LF.dp {K : PySem.W.Frag} {H : Hp} {L : Addr} {vs : List V} {ds : List PyData} (h : LF H L vs ds) : Dp K H (.ref L) (.list ds) := .lst (.of h.1) h.2.dp
theorem LF.rl {a : Addr} {H H' : Hp} {L : Addr} {vs : List V} {ds : List PyData} {ys : List V} (h : LF H L vs ds) (ne : L ≠ a) (hy : H a = some (.lst ys)) (r : Rl a H H') : LF H' L vs ds := ⟨r _ _ ne h.1 (fun ps z => by cases z), h.2.map fun _ _ t => t.rl hy r⟩
section
variable {K : PySem.W.Frag} {CB CM : Addr} {T : List (Addr × Str)} {σ : L2.St} {H0 : Hp} {pn b : Addr} {n m : Nat}
/-- what heard(lambda: ..) gives -/
def HX (T : List (Addr × Str)) (pn b : Addr) (n m : Nat) (te : TE) (σ : L2.St) (H0 : Hp) (d : PyData) : Prop := ∀ (H : Hp) (Q : VK), Rl pn H0 H → PenAt H pn b n → Tabs T H → (∀ (v : V) (H' : Hp), TupF H' v d → Rl pn H H' → PenAt H' pn b m → Tabs T H' → Q v H') → te σ H Q
theorem hx_tick {t : XK → TE} {y : V} {tx : Str} (ry : RpT y tx) (h : ∀ (E : XK) (H1 : Hp) (Q : VK), Rl pn H0 H1 → PenAt H1 pn b n → Tabs T H1 → (∀ H2, Rl pn H1 H2 → PenAt H2 pn b m → Tabs T H2 → OutF E CB [("part", y)] H2) → t E σ H1 Q) : HX T pn b n m (tLam T (THear CB CM) t) σ H0 (.tuple [.str "tick", .str tx]) := fun H Q e p tb q => by
  refine ⟨tb, fun H1 e1 t1 => h _ H1 _ (e.ext e1) (pen_ext p e1) t1 fun H2 r2 p2 t2 d H' s' hd => .inl ⟨d, y, tx, rfl, rfl, hd, ry, fun p3 H3 s3 e3 => ?_⟩⟩
  exact q _ H3 ⟨p3, _, _, rfl, e3, rfl, .str (.str .nil)⟩ ((((Rl.refl pn H).ext e1).trans r2).same (s'.trans s3)) (p2.same (s'.trans s3)) (t2.ext (s'.trans s3))
theorem hx_most {t : XK → TE} {i : Int} {x : Str} (h : ∀ (E : XK) (H1 : Hp) (Q : VK), Rl pn H0 H1 → PenAt H1 pn b n → Tabs T H1 → (∀ H2, Rl pn H1 H2 → PenAt H2 pn b m → Tabs T H2 → OutF E CM [("most", .int i), ("what", .str x)] H2) → t E σ H1 Q) : HX T pn b n m (tLam T (THear CB CM) t) σ H0 (.tuple [.str x, .int i]) := fun H Q e p tb q => by
  refine ⟨tb, fun H1 e1 t1 => h _ H1 _ (e.ext e1) (pen_ext p e1) t1 fun H2 r2 p2 t2 d H' s' hd => .inr ⟨d, .str x, .int i, rfl, rfl, hd, fun p3 H3 s3 e3 => ?_⟩⟩
  exact q _ H3 ⟨p3, _, _, rfl, e3, rfl, .str (.int .nil)⟩ ((((Rl.refl pn H).ext e1).trans r2).same (s'.trans s3)) (p2.same (s'.trans s3)) (t2.ext (s'.trans s3))
/-- the state of the law between two statements -/
structure Sit (T : List (Addr × Str)) (pn b : Addr) (n : Nat) (Hv H : Hp) : Prop where
  pen : PenAt H pn b n
  tab : Tabs T H
  rel : Rl pn Hv H
theorem Sit.same {Hv H H' : Hp} (s : Sit T pn b n Hv H) (e : Same H H') : Sit T pn b n Hv H' := ⟨s.pen.same e, s.tab.ext e, s.rel.same e⟩
theorem Sit.kept {Hv H H' : Hp} (s : Sit T pn b n Hv H) (k : Kept pn H H') (p : PenAt H' pn b m) : Sit T pn b m Hv H' := by
  obtain ⟨ys, hy⟩ := pen_at s.pen
  exact ⟨p, tabs_kept hy k s.tab, s.rel.kept k⟩
/-- [heard] -/
theorem first_step {te : TE} {d : PyData} {Hv H : Hp} {Q : VK} (hx : HX T pn b n m te σ H0 d) (r0 : Rl pn H0 H) (s : Sit T pn b n Hv H)
    (k : ∀ (H' : Hp) (L : Addr) (v : V), Sit T pn b m Hv H' → LF H' L [v] [d] → Nt Hv L → L ≠ pn → L ≠ b → Q (.ref L) H') : tLst (tCons te tNil) σ H Q := by
  refine hx H _ r0 s.pen s.tab fun v H1 tv r1 p1 t1 => ⟨by show 1 ≤ sizeLine; exact Nat.le_of_lt (small1000 (by omega)), fun L nL => ?_⟩
  obtain ⟨ns, i, g, h1, h2, _⟩ := id p1
  have Lp : L ≠ pn := fun z => by
    rw [z, h1] at nL
    cases nL
  have Lb : L ≠ b := fun z => by
    rw [z, h2] at nL
    cases nL
  have sl := same_upd (o := HO.lst [v]) nL
  have rr := s.rel.trans r1
  refine k _ L v ⟨p1.same sl, t1.ext sl, rr.same sl⟩ ⟨upd_same, .cons ?_ .nil⟩ (rr.fresh nL Lp) Lp Lb
  exact tv.rl h1 (.of_same sl)
/-- .append(heard) -/
theorem app_step {te : TE} {d : PyData} {L : Addr} {vs : List V} {ds : List PyData} {Hv H : Hp} {Q : VK} (hx : HX T pn b n m te σ H0 d) (r0 : Rl pn H0 H) (hs : σ[3]? = some (some (.ref L))) (s : Sit T pn b n Hv H) (nt : Nt Hv L) (Lp : L ≠ pn) (Lb : L ≠ b) (ls : LF H L vs ds) (hv : vs.length ≤ 100)
    (k : ∀ (H' : Hp) (v : V), Sit T pn b m Hv H' → LF H' L (vs ++ [v]) (ds ++ [d]) → Q .non H') : tBM K "list" rAppend (tVar 3) (tCons te tNil) σ H Q := by
  refine ⟨_, hs, .inl ⟨rfl, _, .of ls.1⟩, ?_⟩
  obtain ⟨ys, hy⟩ := pen_at s.pen
  refine hx H _ r0 s.pen s.tab fun v H1 tv r1 p1 t1 => ?_
  have ls1 := ls.rl Lp hy r1
  refine ⟨L, vs, v, rfl, rfl, ls1.1, small1000 (by omega), ?_⟩
  exact k _ v ⟨p1.put Lp Lb, tabs_kept ls1.1 kept_upd t1, (s.rel.trans r1).putN nt⟩ ⟨upd_same, (ls1.2.snoc tv).map fun _ _ t => t.put ls1.1⟩
end
end Lr

set_option Elab.async false
set_option linter.all false
set_option maxRecDepth 100000
set_option maxHeartbeats 4000000
namespace Lr
open PySem PySem.Spec PyProof.Rows L2 Ow Og Oe LamX Oq
/-! ### which part of a tick is at fault -/
theorem badAt_pre : ∀ (pre seen r : List Sm) (i : Nat), (∀ o ∈ pre, isSum o = true) → (seen ++ pre).Nodup → badAt seen (pre ++ r) i = badAt (seen ++ pre) r (i + pre.length)
  | [], seen, r, i, _, _ => by simp
  | o :: pre, seen, r, i, h, nd => by
    have h1 : ¬ (isSum o = false ∨ o ∈ seen) := by
      rintro (z | z)
      · rw [h o List.mem_cons_self] at z
        cases z
      · exact (List.nodup_append.mp nd).2.2 o z o List.mem_cons_self rfl
    rw [List.cons_append, bad_no h1, badAt_pre pre (seen ++ [o]) r (i + 1) (fun x hx => h x (List.mem_cons_of_mem _ hx)) (by simpa using nd)]
    simp [Nat.add_assoc, Nat.add_comm 1]
def sm (l : List Int) : Sm := some (l.map some)
def fineL : List (List Int) := [[0], [1], [2, 3], [0, 8], [4, 5, 6]]
theorem fine_sum : ∀ o ∈ fineL.map sm, isSum o = true := by decide +kernel
theorem fine_nd : (fineL.map sm).Nodup := by decide +kernel
theorem bent_bad {pre r : List Sm} {o : Sm} (sub : pre.Sublist (fineL.map sm)) (h : isSum o = false ∨ o ∈ pre) : badAt [] (pre ++ o :: r) 0 = some pre.length := by
  rw [badAt_pre pre [] (o :: r) 0 (fun x hx => fine_sum x (sub.subset hx)) (by simpa using fine_nd.sublist sub), List.nil_append, bad_yes h, Nat.zero_add]
def seven : List Sm := [sm [1], sm [2], sm [3], sm [4], sm [5], sm [6], sm [7]]
theorem seven_sum : ∀ o ∈ seven, isSum o = true := by decide +kernel
theorem seven_nd : seven.Nodup := by decide +kernel
theorem seven_ok : badAt [] seven 0 = none := by decide +kernel
theorem nine_bad {o : Sm} (h : isSum o = false ∨ o ∈ seven) : badAt [] (seven ++ [o, sm [1]]) 0 = some 7 := by
  rw [badAt_pre seven [] _ 0 seven_sum (by simpa using seven_nd), List.nil_append, bad_yes h]
  rfl
theorem nine_good {o : Sm} (h : ¬ (isSum o = false ∨ o ∈ seven)) : badAt [] (seven ++ [o, sm [1]]) 0 = some 8 := by
  rw [badAt_pre seven [] _ 0 seven_sum (by simpa using seven_nd), List.nil_append, bad_no h, bad_yes (.inr (by simp [seven]))]
  rfl
theorem six_bad : badAt [] [sm [1], sm [2], sm [3], sm [4], sm [5], sm [6], sm [1]] 0 = some 6 := by decide +kernel
theorem two_ok : badAt [] [sm [2], sm [0, 3]] 0 = none := by decide +kernel
theorem two_mute : muteBad [sm [2], sm [0, 3]] (some true) = true := by decide +kernel
theorem one_ok : badAt [] [sm [2]] 0 = none := by decide +kernel
theorem one_mute : muteBad [sm [2]] none = true := by decide +kernel
/-- is it one of the law's four? -/
def hitL (l : List Int) : Bool := sumHits.any fun z => PyData.eqv z (.tuple (l.map PyData.int))
theorem fine_hit : ∀ l ∈ fineL, hitL l = true ∨ sm l ∈ seven := by decide +kernel
theorem fine_hit2 : ∀ l ∈ fineL, hitL l = true → sm l ∉ seven := by decide +kernel
section
variable {K : PySem.W.Frag}
theorem at_ints {pn : Addr} {H : Hp} : ∀ l : List Int, Atoms K pn H (l.map V.int) (l.map some) (l.map PyData.int)
  | [] => .nil
  | i :: l => .cons (at_int i) (at_ints l)
theorem od_sum {pn p : Addr} {H : Hp} {l : List Int} (h : H p = some (.tup (l.map V.int))) (ne : p ≠ pn) (hl : l.length ≤ 1000) : Od K pn H (.ref p) (sm l) (hitL l) := od_tup h ne (at_ints l) (by rw [List.length_map]; exact hl) (sh_ints l) rfl
/-- the odd one: no sum, or one of those before -/
def Odd (K : PySem.W.Frag) (pn : Addr) (H : Hp) (v : V) (o : Sm) (b : Bool) (pre : List Sm) : Prop := Od K pn H v o b ∧ (isSum o = false ∨ o ∈ pre) ∧ ((b = true → ¬ (isSum o = false ∨ o ∈ seven)) ∧ (b = false → (isSum o = false ∨ o ∈ seven)))
theorem Odd.mono {pn : Addr} {H H1 : Hp} {v : V} {o : Sm} {b : Bool} {pre : List Sm} (h : Odd K pn H v o b pre) (r : Rl pn H H1) : Odd K pn H1 v o b pre := ⟨h.1.mono r, h.2⟩
theorem odd_bad {pn : Addr} {H : Hp} {v : V} {o : Sm} {pre : List Sm} (h : isSum o = false) (od : Od K pn H v o false) : Odd K pn H v o false pre := ⟨od, .inl h, (fun z => by cases z), (fun _ => .inl h)⟩
theorem odd_fine {pn p : Addr} {H : Hp} {l : List Int} {pre : List Sm} (h : H p = some (.tup (l.map V.int))) (ne : p ≠ pn) (hf : l ∈ fineL) (hp : sm l ∈ pre) : Odd K pn H (.ref p) (sm l) (hitL l) pre := by
  refine ⟨od_sum h ne ?_, .inr hp, fun e => ?_, fun e => ?_⟩
  · have : ∀ l ∈ fineL, l.length ≤ 1000 := by decide +kernel
    exact this l hf
  · rintro (z | z)
    · have := fine_sum (sm l) (List.mem_map_of_mem hf)
      rw [this] at z
      cases z
    · exact fine_hit2 l hf e z
  · rcases fine_hit l hf with z | z
    · rw [z] at e
      cases e
    · exact .inr z
end
end Lr

set_option Elab.async false
set_option linter.all false
set_option maxRecDepth 100000
set_option maxHeartbeats 8000000
namespace Lr
open PySem PySem.Spec PyProof.Rows L2 Ow Og Oe LamX Oq
inductive FineL (pn : Addr) (H : Hp) : List V → List (List Int) → Prop
  | nil : FineL pn H [] []
  | cons {p : Addr} {l : List Int} {vs : List V} {ls : List (List Int)} (h : H p = some (.tup (l.map V.int))) (ne : p ≠ pn) (r : FineL pn H vs ls) : FineL pn H (.ref p :: vs) (l :: ls)
theorem FineL.mono {pn : Addr} {H H1 : Hp} {vs : List V} {ls : List (List Int)} (h : FineL pn H vs ls) (r : Rl pn H H1) : FineL pn H1 vs ls := by
  induction h with
  | nil => exact .nil
  | cons h ne _ ih => exact .cons (r _ _ ne h (fun ps z => by cases z)) ne ih
theorem FineL.take {pn : Addr} {H : Hp} {vs : List V} {ls : List (List Int)} (h : FineL pn H vs ls) : ∀ d : Nat, FineL pn H (vs.take d) (ls.take d) := by
  induction h with
  | nil => intro d; simp; exact .nil
  | cons h ne _ ih =>
    intro d
    cases d with
    | zero => exact .nil
    | succ d => exact .cons h ne (ih d)
theorem FineL.drop {pn : Addr} {H : Hp} {vs : List V} {ls : List (List Int)} (h : FineL pn H vs ls) : ∀ d : Nat, FineL pn H (vs.drop d) (ls.drop d) := by
  induction h with
  | nil => intro d; simp; exact .nil
  | cons h ne r ih =>
    intro d
    cases d with
    | zero => exact .cons h ne r
    | succ d => exact ih d
theorem FineL.len {pn : Addr} {H : Hp} {vs : List V} {ls : List (List Int)} (h : FineL pn H vs ls) : vs.length = ls.length := by
  induction h with
  | nil => rfl
  | cons _ _ _ ih => simp [ih]
theorem FineL.dp {K : PySem.W.Frag} {pn : Addr} {H : Hp} {vs : List V} {ls : List (List Int)} (h : FineL pn H vs ls) : DpAll K H vs (ls.map fun l => .tuple (l.map PyData.int)) := by
  induction h with
  | nil => exact .nil
  | cons h _ _ ih => exact .cons (dp_sum h) ih
theorem FineL.get {pn : Addr} {H : Hp} {vs : List V} {ls : List (List Int)} (h : FineL pn H vs ls) : ∀ (j : Nat) (v : V), vs[j]? = some v → ∃ (p : Addr) (l : List Int), v = .ref p ∧ ls[j]? = some l ∧ H p = some (.tup (l.map V.int)) ∧ p ≠ pn := by
  induction h with
  | nil => exact fun j v e => by simp at e
  | cons h ne _ ih =>
    intro j v e
    cases j with
    | zero =>
      cases e
      exact ⟨_, _, rfl, rfl, h, ne⟩
    | succ j => exact ih j v e
theorem cut_le (xs : List V) {i : Nat} (h : i ≤ xs.length) : cutV xs none (some (i : Int)) = xs.take i := by
  unfold cutV
  rw [HT.sIx_nat, Nat.min_eq_left (by omega)]
  show (List.drop 0 xs).take (i - 0) = _
  rw [List.drop_zero, Nat.sub_zero]
theorem cut_dr (xs : List V) {i : Nat} (h : i ≤ xs.length) : cutV xs (some (i : Int)) none = xs.drop i := by
  unfold cutV
  rw [HT.sIx_nat, Nat.min_eq_left (by omega)]
  show (List.drop i xs).take (xs.length - i) = _
  rw [List.take_of_length_le (by rw [List.length_drop]; omega)]
theorem with_fin {te : TE} {σ : L2.St} {H : Hp} {Q : VK} (P : V → Hp → Prop) (fin : ∀ v J, P v J → Q v J) (main : ∀ Q' : VK, (∀ v J, P v J → Q' v J) → te σ H Q') : te σ H Q := main Q fin
theorem eqv_nil (ds : List PyData) : PyData.eqv (.list ds) (.list []) = ds.isEmpty := by
  cases ds <;> simp [PyData.eqv, PyData.eqvAll]
theorem sh_lists (ls : List (List Int)) : SeqAt.shaped (.list (ls.map fun l => .tuple (l.map PyData.int))) = true := by
  have h := sh_dats (ls.map sm)
  rw [List.map_map, show (dat ∘ sm) = fun l : List Int => PyData.tuple (l.map PyData.int) from funext fun l => dat_some l] at h
  obtain ⟨h1, h2⟩ := Bool.and_eq_true_iff.mp h
  refine Bool.and_eq_true_iff.mpr ⟨?_, decide_eq_true ?_⟩
  · have h1 : PyData.canLay0 (.tuple _) = true := h1
    show PyData.canLay0 (.list _) = true
    simp only [PyData.canLay0] at h1 ⊢
    exact h1
  · have h2 : PyData.depth (.tuple _) ≤ 64 := of_decide_eq_true h2
    show PyData.depth (.list _) ≤ 64
    simp only [PyData.depth] at h2 ⊢
    exact h2
/-- mute, as a tick takes it, for as long as all but the pen and the tables stays -/
def MuP (K : PySem.W.Frag) (pn : Addr) (H : Hp) (v : V) (mb : Option Bool) : Prop := ∀ H2, Rl pn H H2 → MuV K H2 v mb
theorem MuP.mono {K : PySem.W.Frag} {pn : Addr} {H H1 : Hp} {v : V} {mb : Option Bool} (h : MuP K pn H v mb) (r : Rl pn H H1) : MuP K pn H1 v mb := fun H2 r2 => h H2 (r.trans r2)
theorem mu_bl {K : PySem.W.Frag} {pn : Addr} {H : Hp} (b : Bool) : MuP K pn H (.bl b) (some b) := fun _ _ => .bl b
theorem mu_non {K : PySem.W.Frag} {pn : Addr} {H : Hp} : MuP K pn H .non none := fun _ _ => .no (fun _ _ => .base .non) (kit_ty (by decide +kernel))
theorem mu_int {K : PySem.W.Frag} {pn : Addr} {H : Hp} (i : Int) : MuP K pn H (.int i) none := fun _ _ => .no (fun _ _ => .base (.int i)) (kit_ty (by decide +kernel))
theorem mu_str {K : PySem.W.Frag} {pn : Addr} {H : Hp} (x : Str) : MuP K pn H (.str x) none := fun _ _ => .no (fun _ _ => .base (.str x)) (kit_ty (by decide +kernel))
theorem mu_tup {K : PySem.W.Frag} {pn p : Addr} {H : Hp} {xs : List V} (h : H p = some (.tup xs)) (ne : p ≠ pn) : MuP K pn H (.ref p) none := fun H2 r => .no (fun _ s => .base (.tup (s _ _ (r _ _ ne h (fun ps z => by cases z))))) (kit_ty (by decide +kernel))
theorem mu_lst {K : PySem.W.Frag} {pn p : Addr} {H : Hp} {xs : List V} (h : H p = some (.lst xs)) (ne : p ≠ pn) : MuP K pn H (.ref p) none := fun H2 r => .no (fun _ s => .base (.lst (s _ _ (r _ _ ne h (fun ps z => by cases z))))) (kit_ty (by decide +kernel))
theorem mu_dk {K : PySem.W.Frag} {pn p : Addr} {H : Hp} {kvs : List (Key × V)} (h : H p = some (.dK kvs)) (ne : p ≠ pn) : MuP K pn H (.ref p) none := fun H2 r => .no (fun _ s => .base (.dK (s _ _ (r _ _ ne h (fun ps z => by cases z))))) (kit_ty (by decide +kernel))
theorem Sms.nil {K : PySem.W.Frag} {H : Hp} : Sms K H [] [] := ⟨rfl, fun j v e => by simp at e⟩
theorem Sms.cons {K : PySem.W.Frag} {H : Hp} {v : V} {o : Sm} {xs : List V} {os : List Sm} (h : SmV K H v o) (r : Sms K H xs os) : Sms K H (v :: xs) (o :: os) := ⟨congrArg (· + 1) r.1, fun j u e => by
  cases j with
  | zero =>
    cases e
    exact ⟨o, rfl, h⟩
  | succ j => exact r.2 j u e⟩
theorem Sms.append {K : PySem.W.Frag} {H : Hp} : ∀ {xs ys : List V} {os ps : List Sm}, Sms K H xs os → Sms K H ys ps → Sms K H (xs ++ ys) (os ++ ps)
  | [], ys, [], ps, _, h => h
  | [], _, _ :: _, _, h, _ => by have := h.1; simp at this
  | _ :: _, _, [], _, h, _ => by have := h.1; simp at this
  | x :: xs, ys, o :: os, ps, h, h2 => by
    obtain ⟨o', e1, e2⟩ := h.2 0 x rfl
    cases e1
    exact .cons e2 (Sms.append ⟨by have := h.1; simpa using this, fun j v e => h.2 (j + 1) v (by simpa using e)⟩ h2)
theorem FineL.sms {K : PySem.W.Frag} {pn : Addr} {H : Hp} {vs : List V} {ls : List (List Int)} (h : FineL pn H vs ls) (hl : ∀ l ∈ ls, l.length ≤ 1000) : Sms K H vs (ls.map sm) := by
  induction h with
  | nil => exact .nil
  | cons h ne _ ih => exact .cons (od_sum h ne (hl _ List.mem_cons_self) _ (Rl.refl _ _)).1 (ih fun l m => hl l (List.mem_cons_of_mem _ m))
theorem TupF.same {H H' : Hp} {v : V} {d : PyData} (h : TupF H v d) (s : Same H H') : TupF H' v d := by
  obtain ⟨p, xs, ds, rfl, h1, rfl, f⟩ := h
  exact ⟨p, xs, ds, rfl, s _ _ h1, rfl, f⟩
theorem LF.same {H H' : Hp} {L : Addr} {vs : List V} {ds : List PyData} (h : LF H L vs ds) (s : Same H H') : LF H' L vs ds := ⟨s _ _ h.1, h.2.map fun _ _ t => t.same s⟩
section
variable {K : PySem.W.Frag} {C CB CM : Addr} {E : XK} {H : Hp} {Q : VK} {mv : V} {mb : Option Bool} {xs : List V} {os : List Sm}
theorem ask_at {i : Nat} (l : xs.length ≤ 100) (s : Sms K H xs os) (m : MuV K H mv mb) (b : badAt [] os 0 = some i) (out : OutF E CB [("part", vi i)] H) : TickAsk K C CB CM E mv xs H Q := ⟨os, mb, l, s, m, fun j e => by
  rw [b] at e
  cases e
  exact out, fun e => by
  rw [b] at e
  cases e⟩
theorem ask_most (l : xs.length ≤ 100) (l6 : 6 < xs.length) (s : Sms K H xs os) (m : MuV K H mv mb) (b : badAt [] os 0 = none) (out : OutF E CM [("most", .int 6), ("what", .str "sums")] H) : TickAsk K C CB CM E mv xs H Q := by
  refine ⟨os, mb, l, s, m, fun j e => ?_, fun _ => ⟨fun _ => out, fun z => absurd l6 (by omega)⟩⟩
  rw [b] at e
  cases e
theorem ask_mute (l6 : xs.length ≤ 6) (s : Sms K H xs os) (m : MuV K H mv mb) (b : badAt [] os 0 = none) (bm : muteBad os mb = true) (out : OutF E CB [("part", .str "mute")] H) : TickAsk K C CB CM E mv xs H Q := by
  refine ⟨os, mb, by omega, s, m, fun j e => ?_, fun _ => ⟨fun z => absurd z (by omega), fun _ => ⟨fun _ => out, fun z => ?_⟩⟩⟩
  · rw [b] at e
    cases e
  · rw [bm] at z
    cases z
end
theorem log_nat {n : Nat} (h : n ≤ 1000) : ((n : Nat) : Int).natAbs.log2 < 1920 := by
  rw [Int.natAbs_natCast]
  have := Nat.log2_le_self n
  omega
def txN (n : Nat) : Str := Str.ofString (toString ((n : Nat) : Int))
def dTick (x : Str) : PyData := .tuple [.str "tick", .str x]
theorem sh_two : ∀ k < 6, SeqAt.shaped (.list [dTick (txN k), dTick (txN k)]) = true := by decide +kernel
section
variable {K : PySem.W.Frag}
theorem smv_sum {H : Hp} {p : Addr} {l : List Int} (h : H p = some (.tup (l.map V.int))) (hl : l.length ≤ 1000) : SmV K H (.ref p) (sm l) := (od_sum (pn := p + 1) h (Nat.ne_of_lt (Nat.lt_succ_self p)) hl _ (Rl.refl _ _)).1
theorem three_laid {H : Hp} {a4 a5 a6 : Addr} (m4 : H a4 = none) (m5 : (upd H a4 (.tup [.int 4])) a5 = none) (m6 : (upd (upd H a4 (.tup [.int 4])) a5 (.tup [.int 5])) a6 = none) :
    Same H (upd (upd (upd H a4 (.tup [.int 4])) a5 (.tup [.int 5])) a6 (.tup [.int 6])) ∧ Sms K (upd (upd (upd H a4 (.tup [.int 4])) a5 (.tup [.int 5])) a6 (.tup [.int 6])) [.ref a4, .ref a5, .ref a6] [sm [4], sm [5], sm [6]] := by
  have s1 := same_upd (o := HO.tup [V.int 4]) m4
  have s2 := same_upd (o := HO.tup [V.int 5]) m5
  have s3 := same_upd (o := HO.tup [V.int 6]) m6
  exact ⟨s1.trans (s2.trans s3), .cons (smv_sum (l := [4]) (s3 _ _ (s2 _ _ upd_same)) (by decide)) (.cons (smv_sum (l := [5]) (s3 _ _ upd_same) (by decide)) (.cons (smv_sum (l := [6]) upd_same (by decide)) .nil))⟩
theorem four_laid {H : Hp} {a4 a5 a6 a7 : Addr} (m4 : H a4 = none) (m5 : (upd H a4 (.tup [.int 4])) a5 = none) (m6 : (upd (upd H a4 (.tup [.int 4])) a5 (.tup [.int 5])) a6 = none) (m7 : (upd (upd (upd H a4 (.tup [.int 4])) a5 (.tup [.int 5])) a6 (.tup [.int 6])) a7 = none) :
    Same H (upd (upd (upd (upd H a4 (.tup [.int 4])) a5 (.tup [.int 5])) a6 (.tup [.int 6])) a7 (.tup [.int 7])) ∧ Sms K (upd (upd (upd (upd H a4 (.tup [.int 4])) a5 (.tup [.int 5])) a6 (.tup [.int 6])) a7 (.tup [.int 7])) [.ref a4, .ref a5, .ref a6, .ref a7] [sm [4], sm [5], sm [6], sm [7]] := by
  obtain ⟨h1, h2⟩ := three_laid (K := K) m4 m5 m6
  have s := same_upd (o := HO.tup [V.int 7]) m7
  exact ⟨h1.trans s, .append (h2.same s) (.cons (smv_sum (l := [7]) upd_same (by decide)) .nil)⟩
end
def dueN (bb : Bool) : Nat := if bb = true then 8 else 7
theorem due_le (bb : Bool) : dueN bb ≤ 1000 := by cases bb <;> decide
theorem nine_due {o : Sm} {bb : Bool} (h : (bb = true → ¬ (isSum o = false ∨ o ∈ seven)) ∧ (bb = false → (isSum o = false ∨ o ∈ seven))) : badAt [] (seven ++ [o, sm [1]]) 0 = some (dueN bb) := by
  cases bb with
  | true => exact nine_good (h.1 rfl)
  | false => exact nine_bad (h.2 rfl)
theorem e8 : txN 8 = ("8" : Str) := by decide +kernel
theorem e7 : txN 7 = ("7" : Str) := by decide +kernel
theorem e6 : txN 6 = ("6" : Str) := by decide +kernel
theorem if_due {σ : L2.St} {H : Hp} {Q : VK} {bb : Bool} (h : tC (.str (txN (dueN bb))) σ H Q) : if bb = true then tC (.str "8") σ H Q else tC (.str "7") σ H Q := by
  cases bb with
  | true =>
    refine iteT ?_
    rw [← e8]
    exact h
  | false =>
    refine iteF ?_
    rw [← e7]
    exact h
theorem in_fin {K : PySem.W.Frag} {Q : VK} {H : Hp} {v : V} {bb : Bool} {hl : Addr} {bs : List V} (inn : InOk K H v bb) (hs : SqL K H hl bs) (hd : DpAll K H bs sumHits) (tu : ∀ b ∈ bs, ∃ t ys, b = .ref t ∧ SqT K H t ys) (q : Q (.bl bb) H) : rInD K v (.ref hl) H Q ∨ rInK K v (.ref hl) H Q := by
  rcases inn with ⟨d, dp, sh, hit⟩ | ⟨a, kvs, ea, ha, hb⟩
  · exact .inl ⟨d, sumHits, dp, .lst hs hd, sh, by decide +kernel, by rw [hit]; exact q⟩
  · exact .inr ⟨a, hl, kvs, bs, ea, rfl, ha, hs, tu, by rw [← hb]; exact q⟩
def dsAll (bb : Bool) : List PyData := [.tuple [.str "sums", .int 6], dTick (txN (dueN bb)), dTick (txN 6), dTick (PySem.reprText "mute"), dTick (PySem.reprText "mute")]
theorem sh_five : ∀ bb, SeqAt.shaped (.list (dsAll bb)) = true := by decide +kernel
section
variable {P : Program} {w : World} {K : PySem.W.Frag} {mg : Str → Option Value} {base : Heap}
abbrev s_turn : Stmt := topS 36
theorem sc_turn : FnScope ["_law_pen_here", "_law_fine", "_law_spot", "_law_heard_here", "_law_due", "_law_a", "_law_b", "_law_bad", "_law_bent", "_law_c", "_law_odd"] ["_law_pen_here"] (defScope s_turn) := ⟨rfl, rfl, rfl, by decide +kernel, rfl, by decide +kernel, by decide +kernel⟩
def qT : Str := ("_law_turn_right" : Str) ++ ".<locals>." ++ "<lambda>"
def spTurn (T : List (Addr × Str)) : Sp := fun vs H Q _ => ∃ (pn b : Addr) (n : Nat), vs = [.ref pn] ∧ PenAt H pn b n ∧ n ≤ 800 ∧ Tabs T H ∧ ∀ H', PenAt H' pn b (n + 7) → Rl pn H H' → Tabs T H' → Q (.bl true) H'
def rTupL (K : PySem.W.Frag) : List V → Hp → VK → Prop := fun xs H Q => ∃ p ys, xs = [.ref p] ∧ SqL K H p ys ∧ ∀ l, H l = none → Q (.ref l) (upd H l (.tup ys))
theorem call_tuple_K {X : Cx} {K : PySem.W.Frag} (e : X.K = K) : CallR X (.type "tuple") (rTupL K) := by
  subst e
  intro pins s σ H xs us Q I r h
  obtain ⟨p, ys, rfl, h1, h2⟩ := h
  exact call_tuple_of pins s σ H _ us Q I r ⟨p, ys, rfl, .inl ⟨h1, h2⟩⟩
theorem ok_turn {TT : List (Addr × Str)} {C CB CM CR CP CC CN c Po f fD fP fW fM f0 fh : Addr} {fd fdD fdP fdW fdM fdh : FuncData} (F : L2.Fun K "_law_turn_right" "_law_turn_right" s_turn f fd) (hfc : fd.code = .ref c) (TB : TabB base mg c Po) (hmT : (Po, qT) ∈ TT) (huT : ∀ p ∈ TT, p.1 = Po → p.2 = qT)
    (GD : FnOk P w K mg base CX0 1 fD fdD ["_law_pen_here", "_law_many"] spDraw) (UD : Use K mg "_law_draw" fD fdD ["_law_pen_here", "_law_many"])
    (GP : FnOk P w K mg base CX0 2 fP fdP ["_law_pen_here", "_law_some"] spPickV) (UP : Use K mg "_law_pick" fP fdP ["_law_pen_here", "_law_some"])
    (GW : FnOk P w K mg base CX0 3 fW fdW ["_law_pen_here"] (spWrong K)) (UW : Use K mg "_law_wrong" fW fdW ["_law_pen_here"])
    (GM : FnOk P w K mg base (L2.CX P w) 7 fM fdM ["_law_plain"] (spMade K C CB CM)) (UM : Use K mg "_law_tick_made" fM fdM ["_law_plain"])
    (GI : FnM P w K mg base (L2.CX P w) 5 f0 "mute" (.bl false) (spTick K C CB CM)) (MM : Mk K C f0) (S : Tk K mg C)
    (FH : L2.Fun K "_law_heard" "_law_heard" s_heard fh fdh) (bH : Binds K fdh ["_law_ask"] []) (gH : mg "_law_heard" = some (.ref fh)) (R : Errs K mg CR CB CP CC CN CM) (T : Nm mg) :
    FnOk P w K mg base CX0 10 f fd ["_law_pen_here"] (spTurn TT) := by
  refine okC F sc_turn (fun vs H Q E h => ?_) (fun cdv A outer s H vs Q E hcd hr h => ?_)
  · obtain ⟨a, b, n, rfl, _⟩ := h
    rfl
  · obtain ⟨pn, b, n, rfl, p0, hn, tb0, q⟩ := h
    rw [hfc] at hcd
    subst hcd
    have hcode : (envOfC "_law_turn_right" (defScope s_turn) s.heap.objs.size f (.ref c)).code = .ref c := rfl
    have hu := hr.units
    have hu65 : (A.deeper (envOfC "_law_turn_right" (defScope s_turn) s.heap.objs.size f (.ref c))).units + 65 < cLine := by have := hr.un; omega
    have hr1 : Room 1 _ := hr.mono (by decide)
    have hr2 : Room 2 _ := hr.mono (by decide)
    have hr3 : Room 3 _ := hr.mono (by decide)
    refine ⟨_, (pss_cons (ps_set (i := 1) sc_turn.nd rfl (Or.inl rfl) (pe_slice sl_list (pe_lst (pa_cons (pe_tup (pa_cons pe_int pa_nil)) (pa_cons (pe_tup (pa_cons pe_int pa_nil)) (pa_cons (pe_tup (pa_cons pe_int (pa_cons pe_int pa_nil))) (pa_cons (pe_tup (pa_cons pe_int (pa_cons pe_int pa_nil))) (pa_cons (pe_tup (pa_cons pe_int (pa_cons pe_int (pa_cons pe_int pa_nil)))) pa_nil)))))) po_none (po_some (pe_call GD hr1 rfl UD.g UD.kp UD.b .nil pass0 (pa_cons (pv 0) (pa_cons pe_int pa_nil))))))
      (pss_cons (ps_set (i := 2) sc_turn.nd rfl (Or.inl rfl) (pe_call GD hr1 rfl UD.g UD.kp UD.b .nil pass0 (pa_cons (pv 0) (pa_cons (pe_op op_add (pe_callB call_len_seq (by rfl) T.len boot_len (pa_cons (pv 1) pa_nil)) pe_int) pa_nil))))
      (pss_cons (ps_set (i := 10) sc_turn.nd rfl (Or.inr rfl) (pe_ifExp (PW.pt (pw_or (pt_cmpR (r := rEqD K) (op_eqD hu) (pe_slice sl_list (pv 1) po_none (po_some (pv 2))) (pe_lst pa_nil) (nomark _)) (pw_or1 (pt_cmpR op_gt (pe_call GD hr1 rfl UD.g UD.kp UD.b .nil pass0 (pa_cons (pv 0) (pa_cons pe_int pa_nil))) pe_int (nomark _))))) (pe_call GW hr3 rfl UW.g UW.kp UW.b .nil pass0 (pa_cons (pv 0) pa_nil)) (pe_call GP hr2 rfl UP.g UP.kp UP.b .nil pass0 (pa_cons (pv 0) (pa_cons (pe_slice sl_list (pv 1) po_none (po_some (pv 2))) pa_nil)))))
      (pss_cons (ps_set (i := 8) sc_turn.nd rfl (Or.inr rfl) (pe_op op_cat (pe_op op_cat (pe_slice sl_list (pv 1) po_none (po_some (pv 2))) (pe_lst (pa_cons (pv 10) pa_nil))) (pe_slice sl_list (pv 1) (po_some (pv 2)) po_none)))
      (pss_cons (ps_set (i := 7) sc_turn.nd rfl (Or.inr rfl) (pe_call GP hr2 rfl UP.g UP.kp UP.b .nil pass0 (pa_cons (pv 0) (pa_cons (pe_lst (pa_cons pe_non (pa_cons pe_int (pa_cons pe_int (pa_cons pe_str (pa_cons (pe_tup pa_nil) (pa_cons (pe_lst pa_nil) (pa_cons pe_bl (pa_cons pe_bl pa_nil))))))))) pa_nil))))
      (pss_cons (ps_asg (pe_tup (pa_cons (pe_tup (pa_cons pe_int pa_nil)) (pa_cons (pe_tup (pa_cons pe_int pa_nil)) (pa_cons (pe_tup (pa_cons pe_int pa_nil)) pa_nil)))) (pg_tup rfl (pgs_cons (pg_name (i := 5) sc_turn.nd rfl (Or.inr rfl)) (pgs_cons (pg_name (i := 6) sc_turn.nd rfl (Or.inr rfl)) (pgs_cons (pg_name (i := 9) sc_turn.nd rfl (Or.inr rfl)) pgs_nil)))))
      (pss_cons (ps_set (i := 3) sc_turn.nd rfl (Or.inl rfl) (pe_lst (pa_cons (pe_heard (T := TT) (k := 7)  FH bH gH R T.isi T.repr T.len TB hcode hmT huT hr (fun A2 outer2 s2 H2 E2 f2 c2 hr' => pe_call (E := E2) GM (hr'.mono (by decide)) rfl UM.g UM.kp UM.b .nil (passes_call (takes_of rfl rfl rfl rfl) (fun _ _ _ _ h => h)) (pa_cons (pe_tup (pa_cons (pe_callTy (call_tuple_K (K := K) rfl) (by rfl) T.tuple PyProof.Rows.boot_tuple (pa_cons (pv 8) pa_nil)) (pa_cons pe_bl pa_nil))) pa_nil))) pa_nil)))
      (pss_cons (ps_expr (pe_bm PySem.F.plainAttrs_list PySem.F.slot_list_append PySem.F.type_list_append mt_append (pv 3) (pa_cons (pe_heard (T := TT) (k := 7)  FH bH gH R T.isi T.repr T.len TB hcode hmT huT hr (fun A2 outer2 s2 H2 E2 f2 c2 hr' => pe_call (E := E2) GM (hr'.mono (by decide)) rfl UM.g UM.kp UM.b .nil (passes_call (takes_of rfl rfl rfl rfl) (fun _ _ _ _ h => h)) (pa_cons (pe_tup (pa_cons (pe_callTy (call_tuple_K (K := K) rfl) (by rfl) T.tuple PyProof.Rows.boot_tuple (pa_cons (pv 8) pa_nil)) (pa_cons (pv 7) pa_nil))) pa_nil))) pa_nil)))
      (pss_cons (ps_if (pt_cmpR (r := rNeD K) (op_neD hu) (pv 3) (pe_op op_rep (pe_lst (pa_cons (pe_tup (pa_cons pe_str (pa_cons (pe_callB call_reprT (by rfl) T.repr PyProof.Rows.boot_repr (pa_cons (pv 2) pa_nil)) pa_nil))) pa_nil)) pe_int) (nomark _)) (pss_one (ps_ret pe_bl)) pss_nil)
      (pss_cons (ps_set (i := 3) sc_turn.nd rfl (Or.inl rfl) (pe_lst (pa_cons (pe_heard (T := TT) (k := 7)  FH bH gH R T.isi T.repr T.len TB hcode hmT huT hr (fun A2 outer2 s2 H2 E2 f2 c2 hr' => by exact pe_makeM (E := E2) MM GI (hr'.mono (by decide)) rfl S.gC (passes_call (takes_of rfl rfl rfl rfl) (fun _ _ _ _ h => h)) (pa_cons (pv 5) (pa_cons (pv 6) (pa_cons (pv 9) (pa_cons (pe_tup (pa_cons pe_int pa_nil)) (pa_cons (pe_tup (pa_cons pe_int pa_nil)) (pa_cons (pe_tup (pa_cons pe_int pa_nil)) (pa_cons (pe_tup (pa_cons pe_int pa_nil)) pa_nil))))))) (pk_cons (pv 7) pk_nil))) pa_nil)))
      (pss_cons (ps_expr (pe_bm PySem.F.plainAttrs_list PySem.F.slot_list_append PySem.F.type_list_append mt_append (pv 3) (pa_cons (pe_heard (T := TT) (k := 7)  FH bH gH R T.isi T.repr T.len TB hcode hmT huT hr (fun A2 outer2 s2 H2 E2 f2 c2 hr' => by exact pe_makeM (E := E2) MM GI (hr'.mono (by decide)) rfl S.gC (passes_call (takes_of rfl rfl rfl rfl) (fun _ _ _ _ h => h)) (pa_cons (pv 5) (pa_cons (pv 6) (pa_cons (pv 9) (pa_cons (pe_tup (pa_cons pe_int pa_nil)) (pa_cons (pe_tup (pa_cons pe_int pa_nil)) (pa_cons (pe_tup (pa_cons pe_int pa_nil)) (pa_cons (pe_tup (pa_cons pe_int pa_nil)) (pa_cons (pv 10) (pa_cons (pv 5) pa_nil))))))))) (pk_cons (pv 7) pk_nil))) pa_nil)))
      (pss_cons (ps_expr (pe_bm PySem.F.plainAttrs_list PySem.F.slot_list_append PySem.F.type_list_append mt_append (pv 3) (pa_cons (pe_heard (T := TT) (k := 7)  FH bH gH R T.isi T.repr T.len TB hcode hmT huT hr (fun A2 outer2 s2 H2 E2 f2 c2 hr' => by exact pe_makeMn (E := E2) MM GI (hr'.mono (by decide)) rfl S.gC (passes_call (takes_of rfl rfl rfl rfl) (fun _ _ _ _ h => h)) (pa_cons (pv 5) (pa_cons (pv 6) (pa_cons (pv 9) (pa_cons (pe_tup (pa_cons pe_int pa_nil)) (pa_cons (pe_tup (pa_cons pe_int pa_nil)) (pa_cons (pe_tup (pa_cons pe_int pa_nil)) (pa_cons (pv 5) pa_nil))))))))) pa_nil)))
      (pss_cons (ps_expr (pe_bm PySem.F.plainAttrs_list PySem.F.slot_list_append PySem.F.type_list_append mt_append (pv 3) (pa_cons (pe_heard (T := TT) (k := 7)  FH bH gH R T.isi T.repr T.len TB hcode hmT huT hr (fun A2 outer2 s2 H2 E2 f2 c2 hr' => by exact pe_makeM (E := E2) MM GI (hr'.mono (by decide)) rfl S.gC (passes_call (takes_of rfl rfl rfl rfl) (fun _ _ _ _ h => h)) (pa_cons (pv 6) (pa_cons (pe_tup (pa_cons pe_int (pa_cons pe_int pa_nil))) pa_nil)) (pk_cons pe_bl pk_nil))) pa_nil)))
      (pss_cons (ps_expr (pe_bm PySem.F.plainAttrs_list PySem.F.slot_list_append PySem.F.type_list_append mt_append (pv 3) (pa_cons (pe_heard (T := TT) (k := 7)  FH bH gH R T.isi T.repr T.len TB hcode hmT huT hr (fun A2 outer2 s2 H2 E2 f2 c2 hr' => by exact pe_makeM (E := E2) MM GI (hr'.mono (by decide)) rfl S.gC (passes_call (takes_of rfl rfl rfl rfl) (fun _ _ _ _ h => h)) (pa_cons (pv 6) pa_nil) (pk_cons (pe_call GP (hr'.mono (by decide)) rfl UP.g UP.kp UP.b .nil pass0 (pa_cons (pv 0) (pa_cons (pe_lst (pa_cons pe_non (pa_cons pe_int (pa_cons pe_int (pa_cons pe_str (pa_cons (pe_tup pa_nil) (pa_cons pe_dnewK pa_nil))))))) pa_nil))) pk_nil))) pa_nil)))
      (pss_cons (ps_set (i := 4) sc_turn.nd rfl (Or.inl rfl) (pe_tup (pa_cons pe_str (pa_cons (pe_ifExp (pt_cmpR (op_inDK hu65) (pv 10) (pe_lst (pa_cons (pe_tup (pa_cons pe_int pa_nil)) (pa_cons (pe_tup (pa_cons pe_int (pa_cons pe_int pa_nil))) (pa_cons (pe_tup (pa_cons pe_int (pa_cons pe_int pa_nil))) (pa_cons (pe_tup (pa_cons pe_int (pa_cons pe_int (pa_cons pe_int pa_nil)))) pa_nil))))) (by rfl)) pe_str pe_str) pa_nil))))
      (pss_one (ps_ret (pe_cmpR (r := rEqD K) (op_eqD hu) (pv 3) (pe_lst (pa_cons (pe_tup (pa_cons pe_str (pa_cons pe_int pa_nil))) (pa_cons (pv 4) (pa_cons (pe_tup (pa_cons pe_str (pa_cons pe_str pa_nil))) (pa_cons (pe_tup (pa_cons pe_str (pa_cons (pe_callB call_reprT (by rfl) T.repr PyProof.Rows.boot_repr (pa_cons pe_str pa_nil)) pa_nil))) (pa_cons (pe_tup (pa_cons pe_str (pa_cons (pe_callB call_reprT (by rfl) T.repr PyProof.Rows.boot_repr (pa_cons pe_str pa_nil)) pa_nil))) pa_nil)))))) (nomark _))))))))))))))))))), ?_⟩
    obtain ⟨ys, hy⟩ := pen_at p0
    have sl : ∀ {m : Nat}, m ≤ 1000 → m ≤ sizeLine := fun h => Nat.le_of_lt (small1000 h)
    refine t_seq (t_asg ?_)
    have z0 : Same H H := fun _ _ h => h
    refine ⟨sl (by decide : 1 ≤ 1000), fun q1 n1 => ?_⟩
    have x1 : q1 ≠ pn := (ne_of_none (z0 _ _ hy) n1).symm
    have z1 := z0.trans (same_upd (o := HO.tup [V.int 0]) n1)
    have e1 : (upd H q1 (HO.tup [V.int 0])) q1 = some (HO.tup [V.int 0]) := upd_same
    generalize upd H q1 (HO.tup [V.int 0]) = J1 at *
    refine ⟨sl (by decide : 1 ≤ 1000), fun q2 n2 => ?_⟩
    have x2 : q2 ≠ pn := (ne_of_none (z1 _ _ hy) n2).symm
    have z2 := z1.trans (same_upd (o := HO.tup [V.int 1]) n2)
    have e1 := same_upd (o := HO.tup [V.int 1]) n2 _ _ e1
    have e2 : (upd J1 q2 (HO.tup [V.int 1])) q2 = some (HO.tup [V.int 1]) := upd_same
    generalize upd J1 q2 (HO.tup [V.int 1]) = J2 at *
    refine ⟨sl (by decide : 2 ≤ 1000), fun q3 n3 => ?_⟩
    have x3 : q3 ≠ pn := (ne_of_none (z2 _ _ hy) n3).symm
    have z3 := z2.trans (same_upd (o := HO.tup [V.int 2, V.int 3]) n3)
    have e1 := same_upd (o := HO.tup [V.int 2, V.int 3]) n3 _ _ e1
    have e2 := same_upd (o := HO.tup [V.int 2, V.int 3]) n3 _ _ e2
    have e3 : (upd J2 q3 (HO.tup [V.int 2, V.int 3])) q3 = some (HO.tup [V.int 2, V.int 3]) := upd_same
    generalize upd J2 q3 (HO.tup [V.int 2, V.int 3]) = J3 at *
    refine ⟨sl (by decide : 2 ≤ 1000), fun q4 n4 => ?_⟩
    have x4 : q4 ≠ pn := (ne_of_none (z3 _ _ hy) n4).symm
    have z4 := z3.trans (same_upd (o := HO.tup [V.int 0, V.int 8]) n4)
    have e1 := same_upd (o := HO.tup [V.int 0, V.int 8]) n4 _ _ e1
    have e2 := same_upd (o := HO.tup [V.int 0, V.int 8]) n4 _ _ e2
    have e3 := same_upd (o := HO.tup [V.int 0, V.int 8]) n4 _ _ e3
    have e4 : (upd J3 q4 (HO.tup [V.int 0, V.int 8])) q4 = some (HO.tup [V.int 0, V.int 8]) := upd_same
    generalize upd J3 q4 (HO.tup [V.int 0, V.int 8]) = J4 at *
    refine ⟨sl (by decide : 3 ≤ 1000), fun q5 n5 => ?_⟩
    have x5 : q5 ≠ pn := (ne_of_none (z4 _ _ hy) n5).symm
    have z5 := z4.trans (same_upd (o := HO.tup [V.int 4, V.int 5, V.int 6]) n5)
    have e1 := same_upd (o := HO.tup [V.int 4, V.int 5, V.int 6]) n5 _ _ e1
    have e2 := same_upd (o := HO.tup [V.int 4, V.int 5, V.int 6]) n5 _ _ e2
    have e3 := same_upd (o := HO.tup [V.int 4, V.int 5, V.int 6]) n5 _ _ e3
    have e4 := same_upd (o := HO.tup [V.int 4, V.int 5, V.int 6]) n5 _ _ e4
    have e5 : (upd J4 q5 (HO.tup [V.int 4, V.int 5, V.int 6])) q5 = some (HO.tup [V.int 4, V.int 5, V.int 6]) := upd_same
    generalize upd J4 q5 (HO.tup [V.int 4, V.int 5, V.int 6]) = J5 at *
    refine ⟨sl (by decide : 5 ≤ 1000), fun lq nl => ?_⟩
    dsimp only
    have xl : lq ≠ pn := (ne_of_none (z5 _ _ hy) nl).symm
    have sL := same_upd (o := HO.lst [V.ref q1, V.ref q2, V.ref q3, V.ref q4, V.ref q5]) nl
    have zl := z5.trans sL
    have ff : FineL pn (upd J5 lq (.lst [V.ref q1, V.ref q2, V.ref q3, V.ref q4, V.ref q5])) [V.ref q1, V.ref q2, V.ref q3, V.ref q4, V.ref q5] fineL := .cons (sL _ _ e1) x1 (.cons (sL _ _ e2) x2 (.cons (sL _ _ e3) x3 (.cons (sL _ _ e4) x4 (.cons (sL _ _ e5) x5 .nil))))
    have el : (upd J5 lq (.lst [V.ref q1, V.ref q2, V.ref q3, V.ref q4, V.ref q5])) lq = some (.lst [V.ref q1, V.ref q2, V.ref q3, V.ref q4, V.ref q5]) := upd_same
    generalize upd J5 lq (.lst [V.ref q1, V.ref q2, V.ref q3, V.ref q4, V.ref q5]) = J6 at *
    clear e1 e2 e3 e4 e5 n1 n2 n3 n4 n5 z1 z2 z3 z4 z5 sL nl
    have S0 : Sit TT pn b n H J6 := ⟨p0.same zl, tb0.ext zl, .of_same zl⟩
    refine ⟨_, rfl, pn, b, 6, n, rfl, S0.pen, by omega, by decide, by decide, fun d J7 hd p7 k7 => ?_⟩
    have S7 := S0.kept k7 p7
    have ff7 := ff.mono (.of_kept k7)
    refine ⟨(d : Int), rfl, lq, _, rfl, .of (k7 _ _ xl el), fun fl nf => ?_⟩
    rw [cut_le _ (by show d ≤ 5; omega)]
    dsimp only
    have sF := same_upd (o := HO.lst ([V.ref q1, V.ref q2, V.ref q3, V.ref q4, V.ref q5].take d)) nf
    have xf : fl ≠ pn := by
      obtain ⟨y7, hy7⟩ := pen_at p7
      exact (ne_of_none hy7 nf).symm
    have S8 := S7.same sF
    have ff8 := (ff7.mono (.of_same sF)).take d
    have ef : (upd J7 fl (.lst ([V.ref q1, V.ref q2, V.ref q3, V.ref q4, V.ref q5].take d))) fl = some (.lst ([V.ref q1, V.ref q2, V.ref q3, V.ref q4, V.ref q5].take d)) := upd_same
    have lf : ([V.ref q1, V.ref q2, V.ref q3, V.ref q4, V.ref q5].take d).length ≤ 5 := by
      rw [List.length_take]
      exact Nat.min_le_right _ _
    generalize upd J7 fl (.lst ([V.ref q1, V.ref q2, V.ref q3, V.ref q4, V.ref q5].take d)) = J8 at *
    generalize [V.ref q1, V.ref q2, V.ref q3, V.ref q4, V.ref q5].take d = fs at *
    have subd : (fineL.take d).Sublist fineL := List.take_sublist _ _
    generalize fineL.take d = ls at *
    clear ff ff7 el
    refine t_seq (t_asg ?_)
    refine ⟨_, rfl, _, rfl, fl, _, rfl, .inl (.of ef), _, _, rfl, rfl, pn, b, fs.length + 1, n + 1, rfl, S8.pen, by omega, by omega, by omega, fun sp J9 hsp p9 k9 => ?_⟩
    have S9 := S8.kept k9 p9
    have ff9 := ff8.mono (.of_kept k9)
    have ef9 := k9 _ _ xf ef
    dsimp only
    refine t_seq (t_asg ?_)
    have lf' : fs.length = ls.length := ff9.len
    have hsp' : sp ≤ fs.length := by omega
    refine with_fin (P := fun v J => ∃ o bb, Odd K pn J v o bb ((ls.take sp).map sm) ∧ Sit TT pn b (n + 4) H J ∧ J fl = some (.lst fs) ∧ FineL pn J fs ls) (fun odd J10 hP => ?_) (fun Q' q' => ?_)
    rotate_left
    · refine ⟨_, rfl, _, rfl, (sp : Int), rfl, fl, _, rfl, .of ef9, fun l1 m1 => ?_⟩
      rw [cut_le _ hsp']
      dsimp only
      refine ⟨sl (by decide : 0 ≤ 1000), fun l2 m2 => ?_⟩
      have t1 := same_upd (o := HO.lst (fs.take sp)) m1
      have t2 := same_upd (o := HO.lst []) m2
      have S10 := (S9.same t1).same t2
      have ff10 := (ff9.mono (.of_same t1)).mono (.of_same t2)
      have g1 := t2 _ _ (upd_same (H := J9) (a := l1) (o := HO.lst (fs.take sp)))
      have ef10 := t2 _ _ (t1 _ _ ef9)
      refine ⟨.list ((ls.take sp).map fun l => .tuple (l.map PyData.int)), .list [], .lst (.of g1) (ff10.take sp).dp, .lst (.of upd_same) .nil, sh_lists _, by decide +kernel, _, rfl, ?_⟩
      rw [eqv_nil]
      refine ite2 (fun c => ?_) (fun c => ?_)
      · refine iteT ?_
        exact ⟨_, rfl, pn, b, n + 2, rfl, S10.pen, by omega, fun v H' o h1 h2 p' k => q' v H' ⟨o, false, odd_bad h1 h2, ⟨p'.mono (by omega), (S10.kept k p').tab, (S10.kept k p').rel⟩, k _ _ xf ef10, ff10.mono (.of_kept k)⟩⟩
      · refine ⟨_, rfl, pn, b, 3, n + 2, rfl, S10.pen, by omega, by decide, by decide, fun d2 J11 hd2 p11 k11 => ?_⟩
        have S11 := S10.kept k11 p11
        have ff11 := ff10.mono (.of_kept k11)
        have ef11 := k11 _ _ xf ef10
        refine ⟨_, _, rfl, rfl, _, rfl, ?_⟩
        refine ite2 (fun c2 => ?_) (fun c2 => ?_)
        · exact ⟨_, rfl, pn, b, n + 3, rfl, S11.pen, by omega, fun v H' o h1 h2 p' k => q' v H' ⟨o, false, odd_bad h1 h2, ⟨p'.mono (by omega), (S11.kept k p').tab, (S11.kept k p').rel⟩, k _ _ xf ef11, ff11.mono (.of_kept k)⟩⟩
        · refine ⟨_, rfl, _, rfl, _, rfl, (sp : Int), rfl, fl, _, rfl, .of ef11, fun l3 m3 => ?_⟩
          rw [cut_le _ hsp']
          dsimp only
          have t3 := same_upd (o := HO.lst (fs.take sp)) m3
          have S12 := S11.same t3
          have ff12 := ff11.mono (.of_same t3)
          obtain ⟨y11, hy11⟩ := pen_at p11
          refine ⟨pn, b, l3, n + 3, fs.take sp, rfl, S12.pen, by omega, upd_same, (ne_of_none hy11 m3).symm, ?_, by rw [List.length_take]; omega, fun j v H' hj p' k => ?_⟩
          · have e := (ff10.take sp).len
            rw [List.isEmpty_iff, List.map_eq_nil_iff] at c
            rw [e]
            exact List.length_pos_iff.mpr c
          · obtain ⟨p, l, rfl, hl, hp, np⟩ := ((ff12.take sp).mono (.of_kept k)).get j v hj
            exact q' _ H' ⟨sm l, hitL l, odd_fine hp np (subd.subset (List.mem_of_mem_take (List.mem_of_getElem? hl))) (List.mem_map_of_mem (List.mem_of_getElem? hl)), S12.kept k p', k _ _ xf (t3 _ _ ef11), ff12.mono (.of_kept k)⟩
    obtain ⟨o, bb, ho, S10, ef10, ff10⟩ := hP
    clear ef ef9 ff8 ff9 S0 S7 S8 S9 p7 p9 k7 k9
    dsimp only
    have hb2 : sp ≤ fs.length := hsp'
    refine t_seq (t_asg ?_)
    refine ⟨_, rfl, _, rfl, (sp : Int), rfl, fl, _, rfl, .of ef10, fun l1 m1 => ?_⟩
    rw [cut_le _ hsp']
    dsimp only
    have t1 := same_upd (o := HO.lst (fs.take sp)) m1
    have g1 : (upd J10 l1 (.lst (fs.take sp))) l1 = _ := upd_same
    have ef11 := t1 _ _ ef10
    have S11 := S10.same t1
    have ff11 := ff10.mono (.of_same t1)
    have ho11 := ho.mono (.of_same t1)
    generalize upd J10 l1 (.lst (fs.take sp)) = J11 at *
    refine ⟨_, rfl, sl (by decide : 1 ≤ 1000), fun l2 m2 => ?_⟩
    dsimp only
    have t2 := same_upd (o := HO.lst [odd]) m2
    have g2 : (upd J11 l2 (.lst [odd])) l2 = _ := upd_same
    have g1 := t2 _ _ g1
    have ef12 := t2 _ _ ef11
    have S12 := S11.same t2
    have ff12 := ff11.mono (.of_same t2)
    have ho12 := ho11.mono (.of_same t2)
    generalize upd J11 l2 (.lst [odd]) = J12 at *
    have ltk : (fs.take sp).length = sp := by rw [List.length_take]; omega
    have ldr : (fs.drop sp).length = fs.length - sp := List.length_drop ..
    refine ⟨l1, l2, _, _, rfl, rfl, g1, g2, sl (by rw [ltk]; show sp + 1 ≤ 1000; omega), fun l3 m3 => ?_⟩
    have t3 := same_upd (o := HO.lst (fs.take sp ++ [odd])) m3
    have g3 : (upd J12 l3 (.lst (fs.take sp ++ [odd]))) l3 = _ := upd_same
    have ef13 := t3 _ _ ef12
    have S13 := S12.same t3
    have ff13 := ff12.mono (.of_same t3)
    have ho13 := ho12.mono (.of_same t3)
    generalize upd J12 l3 (.lst (fs.take sp ++ [odd])) = J13 at *
    refine ⟨_, rfl, _, rfl, (sp : Int), rfl, fl, _, rfl, .of ef13, fun l4 m4 => ?_⟩
    rw [cut_dr _ hsp']
    dsimp only
    have t4 := same_upd (o := HO.lst (fs.drop sp)) m4
    have g4 : (upd J13 l4 (.lst (fs.drop sp))) l4 = _ := upd_same
    have g3 := t4 _ _ g3
    have S14 := S13.same t4
    have ff14 := ff13.mono (.of_same t4)
    have ho14 := ho13.mono (.of_same t4)
    generalize upd J13 l4 (.lst (fs.drop sp)) = J14 at *
    refine ⟨l3, l4, _, _, rfl, rfl, g3, g4, sl (by rw [List.length_append, ltk, ldr]; show sp + 1 + (fs.length - sp) ≤ 1000; omega), fun bt m5 => ?_⟩
    have t5 := same_upd (o := HO.lst (fs.take sp ++ [odd] ++ fs.drop sp)) m5
    have g5 : (upd J14 bt (.lst (fs.take sp ++ [odd] ++ fs.drop sp))) bt = some (.lst (fs.take sp ++ [odd] ++ fs.drop sp)) := upd_same
    have S15 := S14.same t5
    have ff15 := ff14.mono (.of_same t5)
    have ho15 := ho14.mono (.of_same t5)
    have xb : bt ≠ pn := by
      obtain ⟨y14, hy14⟩ := pen_at S14.pen
      exact (ne_of_none hy14 m5).symm
    generalize upd J14 bt (.lst (fs.take sp ++ [odd] ++ fs.drop sp)) = J15 at *
    clear g1 g2 g3 g4 t1 t2 t3 t4 t5 S10 S11 S12 S13 S14 ff10 ff11 ff12 ff13 ff14 ho ho11 ho12 ho13 ho14 ef10 ef11 ef12 ef13 m1 m2 m3 m4 m5
    dsimp only
    refine t_seq (t_asg ?_)

    have S := S15
    have ff := ff15
    have od := ho15
    have gb := g5
    clear S15 ff15 ho15 g5
    have with_bad := 0
    refine ⟨_, rfl, sl (by decide : 0 ≤ 1000), fun k1 m_k1 => ?_⟩
    have x_k1 : k1 ≠ pn := by
      obtain ⟨y, hy0⟩ := pen_at S.pen
      exact (ne_of_none hy0 m_k1).symm
    have t := same_upd (o := HO.tup []) m_k1
    have g_k1 : (upd J15 k1 (HO.tup [])) k1 = some (HO.tup []) := upd_same
    have S := S.same t
    have ff := ff.mono (.of_same t)
    have od := od.mono (.of_same t)
    have gb := t _ _ gb
    generalize upd J15 k1 (HO.tup []) = J16 at *
    clear t
    refine ⟨sl (by decide : 0 ≤ 1000), fun k2 m_k2 => ?_⟩
    have x_k2 : k2 ≠ pn := by
      obtain ⟨y, hy0⟩ := pen_at S.pen
      exact (ne_of_none hy0 m_k2).symm
    have t := same_upd (o := HO.lst []) m_k2
    have g_k2 : (upd J16 k2 (HO.lst [])) k2 = some (HO.lst []) := upd_same
    have S := S.same t
    have ff := ff.mono (.of_same t)
    have od := od.mono (.of_same t)
    have gb := t _ _ gb
    have g_k1 := t _ _ g_k1
    generalize upd J16 k2 (HO.lst []) = J17 at *
    clear t
    refine ⟨sl (by decide : 8 ≤ 1000), fun k3 m_k3 => ?_⟩
    have x_k3 : k3 ≠ pn := by
      obtain ⟨y, hy0⟩ := pen_at S.pen
      exact (ne_of_none hy0 m_k3).symm
    have t := same_upd (o := HO.lst [V.non, V.int 0, V.int 1, V.str "mute", V.ref k1, V.ref k2, V.bl true, V.bl false]) m_k3
    have g_k3 : (upd J17 k3 (HO.lst [V.non, V.int 0, V.int 1, V.str "mute", V.ref k1, V.ref k2, V.bl true, V.bl false])) k3 = some (HO.lst [V.non, V.int 0, V.int 1, V.str "mute", V.ref k1, V.ref k2, V.bl true, V.bl false]) := upd_same
    have S := S.same t
    have ff := ff.mono (.of_same t)
    have od := od.mono (.of_same t)
    have gb := t _ _ gb
    have g_k1 := t _ _ g_k1
    have g_k2 := t _ _ g_k2
    generalize upd J17 k3 (HO.lst [V.non, V.int 0, V.int 1, V.str "mute", V.ref k1, V.ref k2, V.bl true, V.bl false]) = J18 at *
    clear t
    refine ⟨pn, b, k3, n + 4, _, rfl, S.pen, by omega, g_k3, x_k3, by show 0 < 8; decide, by show 8 ≤ 1000; decide, fun j bad J19 hj p' k => ?_⟩
    have g_k1 := k _ _ x_k1 g_k1
    have g_k2 := k _ _ x_k2 g_k2
    have S := S.kept k p'
    have ff := ff.mono (.of_kept k)
    have od := od.mono (.of_kept k)
    have gb := k _ _ xb gb
    have mu : ∃ mb, MuP K pn J19 bad mb := by
      have hm := List.mem_of_getElem? hj
      simp only [List.mem_cons, List.not_mem_nil, or_false] at hm
      rcases hm with rfl | rfl | rfl | rfl | rfl | rfl | rfl | rfl
      · exact ⟨_, mu_non⟩
      · exact ⟨_, mu_int _⟩
      · exact ⟨_, mu_int _⟩
      · exact ⟨_, mu_str _⟩
      · exact ⟨_, mu_tup g_k1 x_k1⟩
      · exact ⟨_, mu_lst g_k2 x_k2⟩
      · exact ⟨_, mu_bl _⟩
      · exact ⟨_, mu_bl _⟩
    clear g_k1 g_k2 g_k3 k m_k1 m_k2 m_k3 p' hj with_bad
    obtain ⟨mb, mu⟩ := mu
    dsimp only
    refine t_seq (t_asg ?_)
    refine ⟨sl (by decide : 1 ≤ 1000), fun qa m_qa => ?_⟩
    have x_qa : qa ≠ pn := by
      obtain ⟨y, hy0⟩ := pen_at S.pen
      exact (ne_of_none hy0 m_qa).symm
    have t := same_upd (o := HO.tup [V.int 1]) m_qa
    have g_qa : (upd J19 qa (HO.tup [V.int 1])) qa = some (HO.tup [V.int 1]) := upd_same
    have S := S.same t
    have ff := ff.mono (.of_same t)
    have od := od.mono (.of_same t)
    have gb := t _ _ gb
    have mu := mu.mono (.of_same t)
    generalize upd J19 qa (HO.tup [V.int 1]) = J20 at *
    clear t
    refine ⟨sl (by decide : 1 ≤ 1000), fun qb m_qb => ?_⟩
    have x_qb : qb ≠ pn := by
      obtain ⟨y, hy0⟩ := pen_at S.pen
      exact (ne_of_none hy0 m_qb).symm
    have t := same_upd (o := HO.tup [V.int 2]) m_qb
    have g_qb : (upd J20 qb (HO.tup [V.int 2])) qb = some (HO.tup [V.int 2]) := upd_same
    have S := S.same t
    have ff := ff.mono (.of_same t)
    have od := od.mono (.of_same t)
    have gb := t _ _ gb
    have mu := mu.mono (.of_same t)
    have g_qa := t _ _ g_qa
    generalize upd J20 qb (HO.tup [V.int 2]) = J21 at *
    clear t
    refine ⟨sl (by decide : 1 ≤ 1000), fun qc m_qc => ?_⟩
    have x_qc : qc ≠ pn := by
      obtain ⟨y, hy0⟩ := pen_at S.pen
      exact (ne_of_none hy0 m_qc).symm
    have t := same_upd (o := HO.tup [V.int 3]) m_qc
    have g_qc : (upd J21 qc (HO.tup [V.int 3])) qc = some (HO.tup [V.int 3]) := upd_same
    have S := S.same t
    have ff := ff.mono (.of_same t)
    have od := od.mono (.of_same t)
    have gb := t _ _ gb
    have mu := mu.mono (.of_same t)
    have g_qa := t _ _ g_qa
    have g_qb := t _ _ g_qb
    generalize upd J21 qc (HO.tup [V.int 3]) = J22 at *
    clear t
    refine ⟨sl (by decide : 3 ≤ 1000), fun qt m_qt => ?_⟩
    have x_qt : qt ≠ pn := by
      obtain ⟨y, hy0⟩ := pen_at S.pen
      exact (ne_of_none hy0 m_qt).symm
    have t := same_upd (o := HO.tup [V.ref qa, V.ref qb, V.ref qc]) m_qt
    have g_qt : (upd J22 qt (HO.tup [V.ref qa, V.ref qb, V.ref qc])) qt = some (HO.tup [V.ref qa, V.ref qb, V.ref qc]) := upd_same
    have S := S.same t
    have ff := ff.mono (.of_same t)
    have od := od.mono (.of_same t)
    have gb := t _ _ gb
    have mu := mu.mono (.of_same t)
    have g_qa := t _ _ g_qa
    have g_qb := t _ _ g_qb
    have g_qc := t _ _ g_qc
    generalize upd J22 qt (HO.tup [V.ref qa, V.ref qb, V.ref qc]) = J23 at *
    clear t
    refine ⟨qt, _, rfl, .of g_qt, rfl, _, _, rfl, _, _, rfl, _, _, rfl, rfl, ?_⟩
    clear g_qt m_qa m_qb m_qc m_qt
    dsimp only

    have S0 : Sit TT pn b (n + 5) J23 J23 := ⟨S.pen, S.tab, Rl.refl _ _⟩
    have HR : Rl pn H J23 := S.rel
    have oS : ∀ H', Rl pn J23 H' → SmV K H' odd o := fun H' r => (od.1 H' r).1
    have aS : ∀ H', Rl pn J23 H' → SmV K H' (.ref qa) (sm [1]) := fun H' r => (od_sum (l := [1]) g_qa x_qa (by decide) H' r).1
    have bS : ∀ H', Rl pn J23 H' → SmV K H' (.ref qb) (sm [2]) := fun H' r => (od_sum (l := [2]) g_qb x_qb (by decide) H' r).1
    have cS : ∀ H', Rl pn J23 H' → SmV K H' (.ref qc) (sm [3]) := fun H' r => (od_sum (l := [3]) g_qc x_qc (by decide) H' r).1
    have fl1 : ∀ l ∈ ls, l.length ≤ 1000 := fun l hl => (by decide +kernel : ∀ l ∈ fineL, l.length ≤ 1000) l (subd.subset hl)
    have btS : ∀ H', Rl pn J23 H' → Sms K H' (fs.take sp ++ [odd] ++ fs.drop sp) ((ls.take sp).map sm ++ [o] ++ (ls.drop sp).map sm) := fun H' r => .append (.append (((ff.mono r).take sp).sms fun l hl => fl1 l (List.mem_of_mem_take hl)) (.cons (oS H' r) .nil)) (((ff.mono r).drop sp).sms fun l hl => fl1 l (List.mem_of_mem_drop hl))
    have btB : badAt [] ((ls.take sp).map sm ++ [o] ++ (ls.drop sp).map sm) 0 = some sp := by
      rw [List.append_assoc]
      have := bent_bad (r := (ls.drop sp).map sm) (o := o) (pre := (ls.take sp).map sm) (((List.take_sublist _ _).trans subd).map sm) od.2.1
      rw [List.length_map, List.length_take, Nat.min_eq_left (by omega)] at this
      exact this
    have btL : (fs.take sp ++ [odd] ++ fs.drop sp).length ≤ 6 := by
      rw [List.length_append, List.length_append, ltk, ldr]
      show sp + 1 + (fs.length - sp) ≤ 6
      omega
    have made : ∀ (bv : V) (mm : Option Bool), MuP K pn J23 bv mm → ∀ (E : XK) (H1 : Hp) (Q : VK), Rl pn J23 H1 → (∀ H2, Same H1 H2 → OutF E CB [("part", vi sp)] H2) → ∀ tq pl, H1 tq = none → (upd H1 tq (.tup (fs.take sp ++ [odd] ++ fs.drop sp))) pl = none → spMade K C CB CM [.ref pl] (upd (upd H1 tq (.tup (fs.take sp ++ [odd] ++ fs.drop sp))) pl (.tup [.ref tq, bv])) Q E := fun bv mm hm E H1 Q r1 out tq pl n1 n2 => by
      have s1 := same_upd (o := HO.tup (fs.take sp ++ [odd] ++ fs.drop sp)) n1
      have s2 := same_upd (o := HO.tup [.ref tq, bv]) n2
      exact ⟨pl, tq, bv, _, rfl, upd_same, s2 _ _ upd_same, btL, ask_at (by omega) (btS _ ((r1.same s1).same s2)) (hm _ ((r1.same s1).same s2)) btB (out _ (s1.trans s2))⟩
    refine t_seq (t_asg (first_step (d := dTick (txN sp)) (hx_tick (m := n + 5) (.int sp (log_nat (by omega))) fun E H1 Q r1 p1 t1 out => ?_) (Rl.refl _ _) S0 fun H8 L u1 S8 l8 nt Lp Lb => ?_))
    · exact ⟨_, rfl, bt, _, rfl, .of (r1 _ _ xb gb (fun ps z => by cases z)), fun tq m1 => ⟨sl (by decide : 2 ≤ 1000), fun pl m2 => made _ _ (mu_bl false) E H1 Q r1 (fun H2 s => out H2 (.of_same s) (p1.same s) (t1.ext s)) tq pl m1 m2⟩⟩
    dsimp only
    refine t_seq ?_
    refine app_step (d := dTick (txN sp)) (hx_tick (m := n + 5) (.int sp (log_nat (by omega))) fun E H1 Q r1 p1 t1 out => ?_) S8.rel rfl S8 nt Lp Lb l8 (by show 1 ≤ 100; decide) fun H9 u2 S9 l9 => ?_
    · exact ⟨_, rfl, bt, _, rfl, .of (r1 _ _ xb gb (fun ps z => by cases z)), fun tq m1 => ⟨_, rfl, sl (by decide : 2 ≤ 1000), fun pl m2 => made _ _ mu E H1 Q r1 (fun H2 s => out H2 (.of_same s) (p1.same s) (t1.ext s)) tq pl m1 m2⟩⟩
    refine t_seq ?_
    refine ⟨_, rfl, _, rfl, _, _, rfl, .int sp (log_nat (by omega)), sl (by decide : 2 ≤ 1000), fun r1 w1 => ⟨sl (by decide : 1 ≤ 1000), fun r2 w2 => ⟨r2, 2, _, rfl, rfl, upd_same, by decide, by decide, sl (by show 1 * 2 ≤ 1000; decide), fun r3 w3 => ?_⟩⟩⟩
    have s1 := same_upd (o := HO.tup [V.str "tick", V.str (txN sp)]) w1
    have s2 := same_upd (o := HO.lst [V.ref r1]) w2
    have s3 := same_upd (o := HO.lst [V.ref r1, V.ref r1]) w3
    have sA := s1.trans (s2.trans s3)
    have dr : Dp K (upd (upd (upd H9 r1 (.tup [V.str "tick", V.str (txN sp)])) r2 (.lst [V.ref r1])) r3 (.lst [V.ref r1, V.ref r1])) (.ref r1) (dTick (txN sp)) := .tup (.of ((s2.trans s3) _ _ upd_same)) (.cons (.str _) (.cons (.str _) .nil))
    refine ⟨.list [dTick (txN sp), dTick (txN sp)], .list [dTick (txN sp), dTick (txN sp)], (l9.same sA).dp, .lst (.of upd_same) (.cons dr (.cons dr .nil)), sh_two sp (by omega), sh_two sp (by omega), _, rfl, ?_⟩
    rw [SeqAt.eqv_refl _ (SeqAt.canLay_of_shaped (sh_two sp (by omega)))]
    refine iteF ?_

    have SA := S9.same sA
    clear l8 l9 S8 nt Lp Lb s1 s2 s3 dr u1 u2
    generalize upd (upd (upd H9 r1 (.tup [V.str "tick", V.str (txN sp)])) r2 (.lst [V.ref r1])) r3 (.lst [V.ref r1, V.ref r1]) = HA at *
    have abc : ∀ H', Rl pn J23 H' → Sms K H' [.ref qa, .ref qb, .ref qc] [sm [1], sm [2], sm [3]] := fun H' r => .cons (aS H' r) (.cons (bS H' r) (.cons (cS H' r) .nil))
    refine t_seq (t_asg (first_step (d := .tuple [.str "sums", .int 6]) (hx_most (m := n + 5) fun E H1 Q r1 p1 t1 out => ?_) SA.rel SA fun H10 L u1 S10 l10 nt Lp Lb => ?_))
    · refine ⟨_, rfl, _, rfl, _, rfl, sl (by decide : 1 ≤ 1000), fun a4 m4 => ⟨sl (by decide : 1 ≤ 1000), fun a5 m5 => ⟨sl (by decide : 1 ≤ 1000), fun a6 m6 => ⟨sl (by decide : 1 ≤ 1000), fun a7 m7 => ⟨_, rfl, bad, rfl, ask_tick ?_⟩⟩⟩⟩⟩
      obtain ⟨f1, f2⟩ := four_laid (K := K) m4 m5 m6 m7
      exact ask_most (by show 7 ≤ 100; decide) (by show 6 < 7; decide) (.append (abc _ (r1.same f1)) f2) (mu _ (r1.same f1)) seven_ok (out _ (.of_same f1) (p1.same f1) (t1.ext f1))
    dsimp only
    refine t_seq ?_
    refine app_step (d := dTick (txN (dueN bb))) (hx_tick (m := n + 5) (.int (dueN bb) (log_nat (due_le bb))) fun E H1 Q r1 p1 t1 out => ?_) S10.rel rfl S10 nt Lp Lb l10 (by show 1 ≤ 100; decide) fun H11 u2 S11 l11 => ?_
    · refine ⟨_, rfl, _, rfl, _, rfl, sl (by decide : 1 ≤ 1000), fun a4 m4 => ⟨sl (by decide : 1 ≤ 1000), fun a5 m5 => ⟨sl (by decide : 1 ≤ 1000), fun a6 m6 => ⟨sl (by decide : 1 ≤ 1000), fun a7 m7 => ⟨_, rfl, _, rfl, _, rfl, bad, rfl, ask_tick ?_⟩⟩⟩⟩⟩
      obtain ⟨f1, f2⟩ := four_laid (K := K) m4 m5 m6 m7
      exact ask_at (by show 9 ≤ 100; decide) (.append (.append (abc _ (r1.same f1)) f2) (.cons (oS _ (r1.same f1)) (.cons (aS _ (r1.same f1)) .nil))) (mu _ (r1.same f1)) (nine_due od.2.2) (out _ (.of_same f1) (p1.same f1) (t1.ext f1))
    refine t_seq ?_
    refine app_step (d := dTick (txN 6)) (hx_tick (m := n + 5) (.int ((6 : Nat) : Int) (log_nat (by decide))) fun E H1 Q r1 p1 t1 out => ?_) S11.rel rfl S11 nt Lp Lb l11 (by show 2 ≤ 100; decide) fun H12 u3 S12 l12 => ?_
    · refine ⟨_, rfl, _, rfl, _, rfl, sl (by decide : 1 ≤ 1000), fun a4 m4 => ⟨sl (by decide : 1 ≤ 1000), fun a5 m5 => ⟨sl (by decide : 1 ≤ 1000), fun a6 m6 => ⟨_, rfl, ask_tick ?_⟩⟩⟩⟩
      obtain ⟨f1, f2⟩ := three_laid (K := K) m4 m5 m6
      exact ask_at (by show 7 ≤ 100; decide) (.append (.append (abc _ (r1.same f1)) f2) (.cons (aS _ (r1.same f1)) .nil)) (.bl false) six_bad (out _ (.of_same f1) (p1.same f1) (t1.ext f1))
    refine t_seq ?_
    refine app_step (d := dTick (PySem.reprText "mute")) (hx_tick (m := n + 5) (.str "mute" (sl (by decide +kernel))) fun E H1 Q r1 p1 t1 out => ?_) S12.rel rfl S12 nt Lp Lb l12 (by show 3 ≤ 100; decide) fun H13 u4 S13 l13 => ?_
    · refine ⟨_, rfl, sl (by decide : 2 ≤ 1000), fun a4 m4 => ⟨_, rfl, ask_tick ?_⟩⟩
      have f1 := same_upd (o := HO.tup [V.int 0, V.int 3]) m4
      exact ask_mute (by show 2 ≤ 6; decide) (.cons (bS _ (r1.same f1)) (.cons (smv_sum (l := [0, 3]) upd_same (by decide)) .nil)) (.bl true) two_ok two_mute (out _ (.of_same f1) (p1.same f1) (t1.ext f1))
    refine t_seq ?_
    refine app_step (d := dTick (PySem.reprText "mute")) (hx_tick (m := n + 6) (.str "mute" (sl (by decide +kernel))) fun E H1 Q r1 p1 t1 out => ?_) S13.rel rfl S13 nt Lp Lb l13 (by show 4 ≤ 100; decide) fun H14 u5 S14 l14 => ?_
    · refine ⟨_, rfl, _, rfl, sl (by decide : 0 ≤ 1000), fun k1 m1 k2 m2 => ⟨sl (by decide : 6 ≤ 1000), fun k3 m3 => ?_⟩⟩
      dsimp only
      have t2 := same_upd (o := HO.tup []) m1
      have t3 := same_upd (o := HO.dK []) m2
      have t4 := same_upd (o := HO.lst [V.non, V.int 0, V.int 1, V.str "True", V.ref k1, V.ref k2]) m3
      have tt := t2.trans (t3.trans t4)
      obtain ⟨y1, hy1⟩ := pen_at p1
      have x1 : k1 ≠ pn := (ne_of_none hy1 m1).symm
      have x2 : k2 ≠ pn := (ne_of_none (t2 _ _ hy1) m2).symm
      have x3 : k3 ≠ pn := (ne_of_none (t3 _ _ (t2 _ _ hy1)) m3).symm
      have g1 := t4 _ _ (t3 _ _ (upd_same (H := H1) (a := k1) (o := HO.tup [])))
      have g2 := t4 _ _ (upd_same (H := upd H1 k1 (.tup [])) (a := k2) (o := HO.dK []))
      refine ⟨pn, b, k3, n + 5, _, rfl, p1.same tt, by omega, upd_same, x3, by show 0 < 6; decide, by show 6 ≤ 1000; decide, fun j v H' hj p' k => ⟨v, rfl, ask_tick ?_⟩⟩
      have g1 := k _ _ x1 g1
      have g2 := k _ _ x2 g2
      have rr : Rl pn H1 H' := (Rl.of_same tt).kept k
      have mv : MuV K H' v none := by
        have hm := List.mem_of_getElem? hj
        simp only [List.mem_cons, List.not_mem_nil, or_false] at hm
        rcases hm with rfl | rfl | rfl | rfl | rfl | rfl
        · exact mu_non (pn := pn) _ (Rl.refl _ _)
        · exact mu_int (pn := pn) _ _ (Rl.refl _ _)
        · exact mu_int (pn := pn) _ _ (Rl.refl _ _)
        · exact mu_str (pn := pn) _ _ (Rl.refl _ _)
        · exact mu_tup g1 x1 _ (Rl.refl _ _)
        · exact mu_dk g2 x2 _ (Rl.refl _ _)
      exact ask_mute (by show 1 ≤ 6; decide) (.cons (bS _ (r1.trans rr)) .nil) mv one_ok one_mute (out _ rr p' (tabs_kept (tt _ _ hy1) k (t1.ext tt)))

    have rF := S14.rel
    clear l10 l11 l12 l13 S10 S11 S12 S13 S9
    dsimp only
    refine t_seq (t_asg ?_)
    refine ⟨_, rfl, sl (by decide : 1 ≤ 1000), fun h1 m1 => ⟨sl (by decide : 2 ≤ 1000), fun h2 m2 => ⟨sl (by decide : 2 ≤ 1000), fun h3 m3 => ⟨sl (by decide : 3 ≤ 1000), fun h4 m4 => ⟨sl (by decide : 4 ≤ 1000), fun hl m5 => ?_⟩⟩⟩⟩⟩
    dsimp only
    have t1 := same_upd (o := HO.tup [V.int 0]) m1
    have t2 := same_upd (o := HO.tup [V.int 2, V.int 3]) m2
    have t3 := same_upd (o := HO.tup [V.int 0, V.int 8]) m3
    have t4 := same_upd (o := HO.tup [V.int 4, V.int 5, V.int 6]) m4
    have t5 := same_upd (o := HO.lst [V.ref h1, V.ref h2, V.ref h3, V.ref h4]) m5
    have tt := t1.trans (t2.trans (t3.trans (t4.trans t5)))
    have g1 := (t2.trans (t3.trans (t4.trans t5))) _ _ (upd_same (H := H14) (a := h1) (o := HO.tup [V.int 0]))
    have g2 := (t3.trans (t4.trans t5)) _ _ (upd_same (a := h2) (o := HO.tup [V.int 2, V.int 3]))
    have g3 := (t4.trans t5) _ _ (upd_same (a := h3) (o := HO.tup [V.int 0, V.int 8]))
    have g4 := t5 _ _ (upd_same (a := h4) (o := HO.tup [V.int 4, V.int 5, V.int 6]))
    have inn := (od.1 _ (rF.same tt)).2
    refine in_fin inn (.of upd_same) (.cons (dp_sum (l := [0]) g1) (.cons (dp_sum (l := [2, 3]) g2) (.cons (dp_sum (l := [0, 8]) g3) (.cons (dp_sum (l := [4, 5, 6]) g4) .nil)))) (fun b hb => ?_) ?_
    · simp only [List.mem_cons, List.not_mem_nil, or_false] at hb
      rcases hb with rfl | rfl | rfl | rfl
      · exact ⟨_, _, rfl, .of g1⟩
      · exact ⟨_, _, rfl, .of g2⟩
      · exact ⟨_, _, rfl, .of g3⟩
      · exact ⟨_, _, rfl, .of g4⟩
    refine ⟨bb, rfl, if_due ?_⟩
    have S15 := S14.same tt
    have l15 := l14.same tt
    generalize upd (upd (upd (upd (upd H14 h1 (.tup [V.int 0])) h2 (.tup [V.int 2, V.int 3])) h3 (.tup [V.int 0, V.int 8])) h4 (.tup [V.int 4, V.int 5, V.int 6])) hl (.lst [V.ref h1, V.ref h2, V.ref h3, V.ref h4]) = HB at *
    refine ⟨sl (by decide : 2 ≤ 1000), fun du m6 => ?_⟩
    have t6 := same_upd (o := HO.tup [V.str "tick", V.str (txN (dueN bb))]) m6
    have gd : (upd HB du (.tup [V.str "tick", V.str (txN (dueN bb))])) du = some (.tup [V.str "tick", V.str (txN (dueN bb))]) := upd_same
    have S16 := S15.same t6
    have l16 := l15.same t6
    generalize upd HB du (.tup [V.str "tick", V.str (txN (dueN bb))]) = HC at *
    refine ⟨_, rfl, sl (by decide : 2 ≤ 1000), fun c1 w1 => ⟨_, rfl, sl (by decide : 2 ≤ 1000), fun c2 w2 => ⟨_, _, rfl, .str "mute" (sl (by decide +kernel)), sl (by decide : 2 ≤ 1000), fun c3 w3 => ⟨_, _, rfl, .str "mute" (sl (by decide +kernel)), sl (by decide : 2 ≤ 1000), fun c4 w4 => ⟨sl (by decide : 5 ≤ 1000), fun c5 w5 => ?_⟩⟩⟩⟩⟩
    dsimp only
    have v1 := same_upd (o := HO.tup [V.str "sums", V.int 6]) w1
    have v2 := same_upd (o := HO.tup [V.str "tick", V.str "6"]) w2
    have v3 := same_upd (o := HO.tup [V.str "tick", V.str (PySem.reprText "mute")]) w3
    have v4 := same_upd (o := HO.tup [V.str "tick", V.str (PySem.reprText "mute")]) w4
    have v5 := same_upd (o := HO.lst [V.ref c1, V.ref du, V.ref c2, V.ref c3, V.ref c4]) w5
    have vv := v1.trans (v2.trans (v3.trans (v4.trans v5)))
    have k1 := (v2.trans (v3.trans (v4.trans v5))) _ _ (upd_same (H := HC) (a := c1) (o := HO.tup [V.str "sums", V.int 6]))
    have k2 := (v3.trans (v4.trans v5)) _ _ (upd_same (a := c2) (o := HO.tup [V.str "tick", V.str "6"]))
    have k3 := (v4.trans v5) _ _ (upd_same (a := c3) (o := HO.tup [V.str "tick", V.str (PySem.reprText "mute")]))
    have k4 := v5 _ _ (upd_same (a := c4) (o := HO.tup [V.str "tick", V.str (PySem.reprText "mute")]))
    have kd := vv _ _ gd
    refine ⟨.list (dsAll bb), .list (dsAll bb), (l16.same vv).dp, .lst (.of upd_same) (.cons (.tup (.of k1) (.cons (.str _) (.cons (.int _) .nil))) (.cons (.tup (.of kd) (.cons (.str _) (.cons (.str _) .nil))) (.cons (.tup (.of k2) (.cons (.str _) (.cons (by rw [e6]; exact .str _) .nil))) (.cons (.tup (.of k3) (.cons (.str _) (.cons (.str _) .nil))) (.cons (.tup (.of k4) (.cons (.str _) (.cons (.str _) .nil))) .nil))))), sh_five bb, sh_five bb, ?_⟩
    rw [SeqAt.eqv_refl _ (SeqAt.canLay_of_shaped (sh_five bb))]
    have S17 := S16.same vv
    exact q _ (S17.pen.mono (by omega)) (HR.trans S17.rel) S17.tab
end
end Lr

set_option Elab.async false
set_option linter.all false
set_option maxRecDepth 100000
set_option maxHeartbeats 8000000
namespace Lr
open PySem PySem.Spec PyProof.Rows L2 Ow Og Oe LamX Oq
section
variable {P : Program} {w : World} {K : PySem.W.Frag} {mg : Str → Option Value} {base : Heap}
def qL : Str := ("law" : Str) ++ ".<locals>." ++ "<lambda>"
abbrev s_law : Stmt := topS 37
theorem sc_law : FnScope ["_law_script", "_law_pen_here", "_law_turn"] ["_law_script"] (defScope s_law) := ⟨rfl, rfl, rfl, by decide +kernel, rfl, by decide +kernel, by decide +kernel⟩
theorem two_badL : badAt [] [sm [1], sm [1], none] 0 = some 1 := by decide +kernel
theorem two_okL : badAt [] [sm [1], sm [1, 2]] 0 = none := by decide +kernel
theorem two_mutL : muteBad [sm [1], sm [1, 2]] (some true) = false := by decide +kernel
theorem nil_okL : badAt [] [] 0 = none := rfl
theorem nil_mutL : muteBad [] (some true) = false := rfl
theorem sh_one : SeqAt.shaped (dTick (txN 1)) = true := by decide +kernel
theorem e1 : txN 1 = ("1" : Str) := by decide +kernel
def spLaw (K : PySem.W.Frag) (Pl Po : Addr) : Sp := fun vs H Q _ => ∃ (a : Addr) (ns : List Int), vs = [.ref a] ∧ SqL K H a (ii ns) ∧ ns.length ≤ 63 ∧ H Pl = some (.tbl #[]) ∧ H Po = some (.tbl #[]) ∧ ∀ H', Q (.bl true) H'
theorem ok_law {C CB CM CR CP CC CN c Pl Po f fp ft f0 fh : Addr} {fd fdp fdt fdh : FuncData} (F : L2.Fun K "law" "law" s_law f fd) (hfc : fd.code = .ref c) (TB : TabB base mg c Pl) (hPo : Pl ≠ Po)
    (Gp : FnOk P w K mg base CX0 1 fp fdp ["_law_script"] (spPen K)) (Up : Use K mg "_law_pen" fp fdp ["_law_script"])
    (Gt : FnOk P w K mg base CX0 10 ft fdt ["_law_pen_here"] (spTurn [(Pl, qL), (Po, qT)])) (Ut : Use K mg "_law_turn_right" ft fdt ["_law_pen_here"])
    (GI : FnM P w K mg base (L2.CX P w) 5 f0 "mute" (.bl false) (spTick K C CB CM)) (MM : Mk K C f0) (S : Tk K mg C)
    (FH : L2.Fun K "_law_heard" "_law_heard" s_heard fh fdh) (bH : Binds K fdh ["_law_ask"] []) (gH : mg "_law_heard" = some (.ref fh)) (R : Errs K mg CR CB CP CC CN CM) (T : Nm mg) :
    FnOk P w K mg base CX0 11 f fd ["_law_script"] (spLaw K Pl Po) := by
  refine okC F sc_law (fun vs H Q E h => ?_) (fun cdv A outer s H vs Q E hcd hr h => ?_)
  · obtain ⟨a, ns, rfl, _⟩ := h
    rfl
  · obtain ⟨a0, ns, rfl, hS, hlen, hPl, hPo', q⟩ := h
    rw [hfc] at hcd
    subst hcd
    have hcode : (envOfC "law" (defScope s_law) s.heap.objs.size f (.ref c)).code = .ref c := rfl
    have hu := hr.units
    have hr1 : Room 1 _ := hr.mono (by decide)
    have hr6 : Room 6 _ := hr.mono (by decide)
    have hr8 : Room 8 _ := hr.mono (by decide)
    have sl : ∀ {m : Nat}, m ≤ 1000 → m ≤ sizeLine := fun h => Nat.le_of_lt (small1000 h)
    have hmT : (Pl, qL) ∈ [(Pl, qL), (Po, qT)] := List.mem_cons_self
    have huT : ∀ p ∈ [(Pl, qL), (Po, qT)], p.1 = Pl → p.2 = qL := by
      intro p hp e
      rcases List.mem_cons.mp hp with h | h
      · rw [h]
      · rw [List.mem_singleton.mp h] at e
        exact absurd e.symm hPo
    refine ⟨_, (pss_cons (ps_set (i := 1) sc_law.nd rfl (Or.inl rfl) (pe_call Gp hr1 rfl Up.g Up.kp Up.b .nil pass0 (pa_cons (pv 0) pa_nil)))
      (pss_cons (ps_for PassesOwn.never rfl (pi_range1 rfl T.range (pa_cons pe_int pa_nil)) (pg_name (i := 2) sc_law.nd rfl (Or.inl rfl))
        (pss_one (ps_if (pt_not (pt_val (pe_call Gt hr rfl Ut.g Ut.kp Ut.b .nil pass0 (pa_cons (pv 1) pa_nil)))) (pss_one (ps_ret pe_bl)) pss_nil)))
      (pss_cons (ps_if (pt_cmpR (r := rNeD K) (op_neD hu) (pe_heard (T := [(Pl, qL), (Po, qT)]) (k := 6) FH bH gH R T.isi T.repr T.len TB hcode hmT huT hr8 (fun A2 outer2 s2 H2 E2 f2 c2 hr' => by exact pe_makeM (E := E2) MM GI hr' rfl S.gC (passes_call (takes_of rfl rfl rfl rfl) (fun _ _ _ _ h => h)) (pa_cons (pe_tup (pa_cons pe_int pa_nil)) (pa_cons (pe_tup (pa_cons pe_int pa_nil)) (pa_cons pe_non pa_nil))) (pk_cons pe_int pk_nil))) (pe_tup (pa_cons pe_str (pa_cons pe_str pa_nil))) (nomark _)) (pss_one (ps_ret pe_bl)) pss_nil)
      (pss_one (ps_ret (pe_and (pe_cmpR op_is_bl (by exact pe_fld (pe_makeM (E := E0) MM GI hr6 rfl S.gC passL (pa_cons (pe_tup (pa_cons pe_int pa_nil)) (pa_cons (pe_tup (pa_cons pe_int (pa_cons pe_int pa_nil))) pa_nil)) (pk_cons pe_bl pk_nil)) rfl) pe_bl (by rfl)) (pe_one (pe_cmpR (r := rEqD K) (op_eqD hu) (by exact pe_fld (pe_makeM0 (E := E0) MM GI hr6 rfl S.gC passL (pk_cons pe_bl pk_nil)) rfl) (pe_tup pa_nil) (nomark _))))))))), ?_⟩
    refine ⟨_, rfl, a0, ns, rfl, hS, hlen, fun pn b H1 p1 s1 np => ?_⟩
    have t1 : Tabs [(Pl, qL), (Po, qT)] H1 := by
      intro p hp
      rcases List.mem_cons.mp hp with h | h
      · rw [h]
        exact TabS.nil (s1 _ _ hPl)
      · rw [List.mem_singleton.mp h]
        exact TabS.nil (s1 _ _ hPo')
    generalize hTT : [(Pl, qL), (Po, qT)] = TT at t1 hmT huT Gt
    refine ⟨14, rfl, by decide, by decide, ?_⟩
    refine for_range (lo := 0) (n := 14) (fun i σ H' => ∃ (v2 : Option V), σ = [some (.ref a0), some (.ref pn), v2] ∧ PenAt H' pn b (7 * i) ∧ Tabs TT H') ⟨none, rfl, p1, t1⟩ ?_ ?_
    · rintro i σ H2 hi ⟨v2, rfl, p2, t2⟩
      exact ⟨_, rfl, pn, b, 7 * i, rfl, p2, by omega, t2, fun H3 p3 r3 t3 => ⟨true, rfl, iteF ⟨_, rfl, p3.mono (by omega), t3⟩⟩⟩
    · rintro σ H2 ⟨v2, rfl, p2, t2⟩
      refine hx_tick (H0 := H2) (m := 98) (.int ((1 : Nat) : Int) (log_nat (by decide))) (fun E H3 Q r1 q1 u1 out => ?_) H2 _ (Rl.refl pn H2) (p2.mono (by decide : 7 * 14 ≤ 98)) t2 fun v H4 tv r4 p4 t4 => ?_
      · refine ⟨sl (by decide : 1 ≤ 1000), fun k1 m1 => ⟨sl (by decide : 1 ≤ 1000), fun k2 m2 => ⟨.int 0, rfl, ask_tick ?_⟩⟩⟩
        have s1 := same_upd (o := HO.tup [V.int 1]) m1
        have s2 := same_upd (o := HO.tup [V.int 1]) m2
        have ss := s1.trans s2
        exact ask_at (by show 3 ≤ 100; decide) (.cons (smv_sum (l := [1]) (s2 _ _ upd_same) (by decide)) (.cons (smv_sum (l := [1]) upd_same (by decide)) (.cons (.no (fun _ _ => .base .non) (kit_ty (by decide +kernel))) .nil))) (mu_int (pn := pn) 0 _ (Rl.refl _ _)) two_badL (out _ (.of_same ss) (q1.same ss) (u1.ext ss))
      · refine ⟨sl (by decide : 2 ≤ 1000), fun c1 w1 => ?_⟩
        have s1 := same_upd (o := HO.tup [V.str "tick", V.str "1"]) w1
        refine ⟨dTick (txN 1), dTick (txN 1), (tv.same s1).dp, .tup (.of upd_same) (.cons (.str _) (.cons (by rw [e1]; exact .str _) .nil)), sh_one, sh_one, _, rfl, ?_⟩
        rw [SeqAt.eqv_refl _ (SeqAt.canLay_of_shaped sh_one)]
        refine iteF ?_
        refine ⟨sl (by decide : 1 ≤ 1000), fun k1 m1 => ⟨sl (by decide : 2 ≤ 1000), fun k2 m2 => ⟨.bl true, rfl, ask_tick ?_⟩⟩⟩
        have s2 := same_upd (o := HO.tup [V.int 1]) m1
        have s3 := same_upd (o := HO.tup [V.int 1, V.int 2]) m2
        refine ⟨[sm [1], sm [1, 2]], some true, by show 2 ≤ 100; decide, .cons (smv_sum (l := [1]) (s3 _ _ upd_same) (by decide)) (.cons (smv_sum (l := [1, 2]) upd_same (by decide)) .nil), .bl true, fun i e => ?_, fun _ => ⟨fun z => absurd (show 6 < 2 from z) (by decide), fun _ => ⟨fun z => ?_, fun _ bb z dz p H' eb s' hz hp => ?_⟩⟩⟩
        · rw [two_okL] at e
          cases e
        · rw [two_mutL] at z
          cases z
        · cases eb
          refine ⟨z, C, dz, _, _, rfl, hz, S.cl, S.nM, rfl, true, true, rfl, rfl, true, rfl, iteT ?_⟩
          refine ⟨.bl true, rfl, ask_tick ?_⟩
          refine ⟨[], some true, by show 0 ≤ 100; decide, .nil, .bl true, fun i e => ?_, fun _ => ⟨fun z => absurd (show 6 < 0 from z) (by decide), fun _ => ⟨fun z => ?_, fun _ bb z2 dz2 p2' H6 eb s6 hz6 hp6 => ?_⟩⟩⟩
          · rw [nil_okL] at e
            cases e
          · rw [nil_mutL] at z
            cases z
          · cases eb
            refine ⟨z2, C, dz2, _, _, rfl, hz6, S.cl, S.nS, rfl, Nat.zero_le _, fun k3 m3 => ?_⟩
            have s7 := same_upd (o := HO.tup []) m3
            refine ⟨.tuple [], .tuple [], .tup (.of (s7 _ _ hp6)) .nil, .tup (.of upd_same) .nil, by decide +kernel, by decide +kernel, ?_⟩
            exact q _
end
end Lr

set_option Elab.async false
set_option linter.all false
set_option maxRecDepth 100000
set_option maxHeartbeats 0
/-! What the top leaves: the defs, the class, found by name. -/
namespace Hk
open PySem PySem.Spec PyProof.Rows L2 Lr Ow Oe
section
variable (K : PySem.W.Frag)
def sp : Addr := He.ga K "Tick"
def most : Bool := match PySem.W.findCls K (.ref (sp K)) (.type "type") "MOST" with
  | some (.val (.int i _)) => decide (i = 15)
  | _ => false
def upto : Bool := match PySem.W.clsIn K (sp K) with
  | some cd => decide (cd.mro = [.ref (sp K), .type "object"])
  | _ => false
def recd (p : Addr) (T : String) : Bool := match PySem.W.recIn K p T with
  | some (.ref _ :: _) => true
  | _ => false
def isSm (p : Addr) (nm : Str) : Bool := match PySem.W.findCls K (.ref (sp K)) (.type "type") nm with
  | some (.get g a o t) => decide ([g, a, o, t] = [.builtin "staticmethod.__get__", .ref p, .none, .ref (sp K)])
  | _ => false
def isCm (p : Addr) (nm : Str) : Bool := match PySem.W.findCls K (.ref (sp K)) (.type "type") nm with
  | some (.get g a o t) => decide ([g, a, o, t] = [.builtin "classmethod.__get__", .ref p, .none, .ref (sp K)])
  | _ => false
def atA (a : Addr) : He.FnW := match K.lookup a with
  | some ob => (match ob.data with
    | .func z => some (z.name, z.qualname, z.params, z.body, z.scope, z.globals, z.closure, z.builtins)
    | _ => none)
  | none => none
def okA (a : Addr) (q : Str) : Bool := match K.lookup a with
  | some ob => (match ob.data with
    | .func z => PySem.W.codeIn K z.code q && decide (z.defaults = Value.none)
    | _ => false)
  | none => false
def none_ (T : Value) (nm : Str) : Bool := match PySem.W.findIn K T nm with
  | some none => true
  | _ => false
def oexB (C : Addr) : Bool := match K.lookup C with
  | some ⟨.type "type", _, .cls cd, sl⟩ => (match cd.mro, sl.toList with
    | .ref C' :: bm, [_, _, _, _, some (.builtin n), _] => C' == C && (PySem.HandSPX.refsVE bm && (n == "ValueError.__new__" && (cd.hasDict && !cd.hasDel)))
    | _, _ => false)
  | _ => false
def errB (C : Addr) (f : Str) : Bool := oexB K C && (He.eqO (PySem.W.findIn K (.ref C) "__setattr__") (some (some (.builtin "object.__setattr__"))) && (decide (PySem.W.subIn K (.ref C) (.type "BaseException") = some true) && (decide (PySem.W.typeIn K (.ref C) = some (.type "type")) && (PySem.W.keepIn K (.ref C) && (xfB K C &&
  (He.eqO (PySem.W.findIn K (.ref C) "__class__") (some (some (.builtin "object.__class__"))) && (He.eqO (PySem.W.specialIn K (.builtin "object.__class__") "__get__") (some (some (.builtin "getset_descriptor.__get__"))) && (decide (PySem.W.takesIn K (.builtin "object.__class__") = some true) && (decide (PySem.W.mroIn K C (.type "object") = some true) &&
  (He.eqO (PySem.W.findIn K (.ref C) "__init__") (some (some (.ref (He.ma K C "__init__")))) && (decide (PySem.W.typeIn K (.ref (He.ma K C "__init__")) = some (.type "function")) && none_ K (.ref C) f)))))))))))
def tabOf (nm : Str) : Option Addr := match K.lookup (He.ga K nm) with
  | some ⟨_, _, .func fd, _⟩ => (match fd.code with
    | .ref c => (match K.lookup c with
      | some ⟨_, _, .fields vs, _⟩ => (match (vs[11]? : Option Value) with
        | some (.ref p) => if (K.lookup p).isNone then some p else none
        | _ => none)
      | _ => none)
    | _ => none)
  | _ => none
def tabsB : Bool := match tabOf K "law", tabOf K "_law_turn_right" with
  | some p, some q => decide (p ≠ q)
  | _, _ => false
def tests : List Bool := [
  errB K (He.ga K "BadTick") "part",
  errB K (He.ga K "TooMany") "what",
  none_ K (.ref (He.ga K "TooMany")) "most",
  decide (PySem.W.exmOne K (.ref (He.ga K "BadTick")) (.ref (He.ga K "RepairError")) = some true),
  decide (PySem.W.exmOne K (.ref (He.ga K "TooMany")) (.ref (He.ga K "RepairError")) = some true),
  decide (PySem.W.kitOne K (.ref (He.ga K "BadTick")) (.ref (He.ga K "BadTick")) = some true),
  decide (PySem.W.kitOne K (.ref (He.ga K "BadTick")) (.ref (He.ga K "BadPlan")) = some false),
  decide (PySem.W.kitOne K (.ref (He.ga K "BadTick")) (.ref (He.ga K "BadCount")) = some false),
  decide (PySem.W.kitOne K (.ref (He.ga K "BadTick")) (.ref (He.ga K "NoPhase")) = some false),
  decide (PySem.W.kitOne K (.ref (He.ga K "BadTick")) (.ref (He.ga K "TooMany")) = some false),
  decide (PySem.W.kitOne K (.ref (He.ga K "TooMany")) (.ref (He.ga K "BadTick")) = some false),
  decide (PySem.W.kitOne K (.ref (He.ga K "TooMany")) (.ref (He.ga K "BadPlan")) = some false),
  decide (PySem.W.kitOne K (.ref (He.ga K "TooMany")) (.ref (He.ga K "BadCount")) = some false),
  decide (PySem.W.kitOne K (.ref (He.ga K "TooMany")) (.ref (He.ga K "NoPhase")) = some false),
  decide (PySem.W.kitOne K (.ref (He.ga K "TooMany")) (.ref (He.ga K "TooMany")) = some true),
  tabsB K,
  (He.Fa.glo "RepairError").ok K,
  (He.Fa.glo "BadTick").ok K,
  (He.Fa.glo "BadPlan").ok K,
  (He.Fa.glo "BadCount").ok K,
  (He.Fa.glo "NoPhase").ok K,
  (He.Fa.glo "TooMany").ok K]
end
def dg (x : Str) (st : Stmt) : He.DefD := ⟨(x, none), x, x, defArgs st, defBody st, defScope st, [], []⟩
def dm (m q : Str) (st : Stmt) : He.DefD := ⟨("Tick", some m), m, q, defArgs st, defBody st, defScope st, [], []⟩
def de (x m q : Str) (st : Stmt) : He.DefD := ⟨(x, some m), m, q, defArgs st, defBody st, defScope st, [], []⟩
def fn : List He.DefD := [dg "is_integer" s_is_integer, dg "is_within" s_is_within, dg "is_age" s_is_age, dg "is_ascending" s_is_ascending, dg "is_sum" s_is_sum, dg "_law_pen" s_pen, dg "_law_draw" s_draw, dg "_law_pick" s_pick, dg "_law_heard" s_heard, dg "_law_tick_made" s_made, dg "_law_wrong" s_wrong, dg "_law_turn_right" s_turn, dg "law" s_law, de "BadTick" "__init__" "BadTick.__init__" s_btI, de "TooMany" "__init__" "TooMany.__init__" s_tmI, ⟨("Tick", some "__init__"), "__init__", "Tick.__init__", defArgs s_init, defBody s_init, defScope s_init, [], [("mute", .bl false)]⟩]
def faA : List He.Fa := [.free "len", .free "isinstance", .free "int", .free "bool", .free "all", .free "any", .free "abs", .free "tuple", .free "list", .free "range", .free "enumerate", .free "repr", .int "MOST_SUMS" 6, .int "MOST_AGE" 8, .cls "Tick", .noat "Tick" "sums", .noat "Tick" "mute", .mkr "Tick", .glo "Tick", .glo "is_integer", .glo "is_within", .glo "is_age", .glo "is_ascending", .glo "is_sum", .glo "_law_pen", .glo "_law_draw", .glo "_law_pick", .glo "_law_heard", .glo "_law_tick_made", .glo "_law_wrong", .glo "_law_turn_right", .glo "law"]
abbrev Al : Type := He.AlD × Bool × List He.FnW
def see (K : PySem.W.Frag) : Al := (He.obsD faA fn K, (tests K).all id, [])
def seen : Al := (He.valD fn, true, [])
def reach (g : Addr → Option Obj) : Nat → List Addr
  | 0 => [mainGlobals, cStatics]
  | n + 1 => He.growD g (reach g n)
def notTab (g : Addr → Option Obj) (a : Addr) : Bool := match g a with
  | some o => !(o.cls == .none && (match o.data with | .fields vs => vs.isEmpty | _ => false))
  | none => true
def look (g : Addr → Option Obj) : Al := see (He.frG g ((reach g 6).filter (notTab g)))
def hook : PySem.W.Hook where
  α := Al
  obs := fun s => look s.heap.get?
  val := fun _ => seen
  says := fun _ h => ∃ K : PySem.W.Frag, K.In h ∧ see K = seen
  of := fun _ _ e => ⟨_, He.frG_in, e⟩
  keeps := fun _ _ _ z k => z.elim fun K y => ⟨K, y.1.keeps k, y.2⟩
def ob (s : PySem.W.SharedT) : Al := look (HandSHeadRun.getT s)
theorem ob_eq (s : PySem.W.SharedT) : ob s = hook.obs s.abs := by
  have e : HandSHeadRun.getT s = s.abs.heap.get? := funext (HandSHeadRun.getT_eq s)
  unfold ob
  rw [e]
  rfl
abbrev R : PySem.W.OpenRow := PySem.W.OpenLaw.row PySem.Challenge.rw_laterepair_k10_ticks_refused
def names : List PySem.Str := "_wall" :: "MOST_SUMS" :: "MOST_AGE" :: "is_integer" :: "is_within" :: "is_age" :: "is_ascending" :: "RepairError" :: "BadTick" :: "BadPlan" :: "BadCount" :: "BadText" :: "NoPhase" :: "TooMany" :: "words_of" :: "word_at" :: "ended" :: "tells_natural" :: "tells_number" :: "number_at" :: "sum_ages" :: "tick_sums" :: "tick_parts" :: "is_sum" :: "Tick" :: "_law_pen" :: "_law_draw" :: "_law_pick" :: "_law_tick_made" :: "_law_heard" :: "_law_wrong" :: []
theorem run (w : World) : HandSHeadRun.RunEq R (PySem.W.view R.prog [36, 37]) hook ob 20000 names w := by
  intro os
  kernel_rfl
end Hk

set_option Elab.async false
set_option linter.all false
set_option maxRecDepth 100000
set_option maxHeartbeats 0
namespace Hk
open PySem PySem.Spec PyProof.Rows L2 Lr Ow Og Oe Oq LamX
section
variable {K : PySem.W.Frag} {x q : Str} {st : Stmt} {f : Addr} {fd : FuncData}
theorem toFun (F : FunD K x q (defArgs st) (defBody st) (defScope st) [] [] f fd) : L2.Fun K x q st f fd := by
  obtain ⟨oc, od, dV, kV, doc, pm, an, cdv, ct, osl, rfl, lk, hc, hD, _⟩ := F.ex
  rcases hD with ⟨_, e⟩ | ⟨e, _⟩
  · subst e
    exact ⟨⟨oc, od, kV, doc, pm, an, cdv, ct, osl, rfl, lk, hc⟩, F.kp⟩
  · exact absurd rfl e
theorem kb_of {ps ks : List Str} (F : L2.Fun K x q st f fd) (h : ∀ (kV doc pm : Value) (an : Option Addr) (cdv ct u : Value) (ws : List Value), ws.length = ks.length → bindArgs (PySem.W.fnOf x q (defArgs st) (defBody st) (defScope st) .none kV doc pm an cdv ct) ⟨[u], ks.zip ws⟩ = pure (ps.zip (u :: ws))) : KB1 K fd ps ks := by
  obtain ⟨oc, od, kV, doc, pm, an, cdv, ct, osl, rfl, lk, hc⟩ := F.ex
  exact fun s u ws _ hl => .of_eq (h kV doc pm an cdv ct u ws hl)
theorem fun_at {a : Addr} (e : atA K a = some (x, q, defArgs st, .stmts (defBody st), defScope st, mainGlobals, [], builtinsNs)) (c : okA K a q = true) (kp : PySem.W.keepIn K (.ref a) = true) : ∃ fd, L2.Fun K x q st a fd := by
  unfold atA at e
  unfold okA at c
  cases lk : K.lookup a with
  | none =>
    rw [lk] at c
    cases c
  | some o =>
    rw [lk] at e c
    obtain ⟨oc, od, dt, osl⟩ := o
    cases dt with
    | func z =>
      obtain ⟨a1, a2, a3, a4, a5, a6, a7, a8, a9, b1, b2, b3, b4, b5, b6⟩ := z
      have e' : (some (a1, a2, a3, a4, a5, a6, a7, b6) : He.FnW) = some (x, q, defArgs st, .stmts (defBody st), defScope st, mainGlobals, [], builtinsNs) := e
      have c' : (PySem.W.codeIn K b4 q && decide (a8 = Value.none)) = true := c
      obtain ⟨c1, c2⟩ := He.ba c'
      have c3 := of_decide_eq_true c2
      simp only [Option.some.injEq, Prod.mk.injEq] at e'
      obtain ⟨h1, h2, h3, h4, h5, h6, h7, h8⟩ := e'
      subst h1 h2 h3 h4 h5 h6 h7 h8 c3
      exact ⟨_, ⟨oc, od, a9, b1, b2, b3, b4, b5, osl, rfl, lk, c1⟩, kp⟩
    | _ => cases c
end
theorem all_id {l : List Bool} (h : l.all id = true) {i : Nat} {b : Bool} (e : l[i]? = some b) : b = true := List.all_eq_true.mp h b (List.mem_of_getElem? e)
theorem none_ok {K : PySem.W.Frag} {T : Value} {nm : Str} (h : none_ K T nm = true) : PySem.W.findIn K T nm = some none := by
  unfold none_ at h
  split at h
  · assumption
  · cases h
structure ErrX (K : PySem.W.Frag) (C : Addr) (f : Str) : Prop where
  ox : OexC K C
  ec : L2.ExcC K C
  xf : XfC K C
  ic : PySem.W.findIn K (.ref C) "__init__" = some (some (.ref (He.ma K C "__init__")))
  ti : PySem.W.typeIn K (.ref (He.ma K C "__init__")) = some (.type "function")
  no : PySem.W.findIn K (.ref C) f = some none
theorem oexB_ok {K : PySem.W.Frag} {C : Addr} (h : oexB K C = true) : ∃ nm q N bs bm sn sub ab col dd k0 k1 k2 k3 k5, K.lookup C = some (excClassObj nm q C N bs bm true sn sub ab col dd k0 k1 k2 k3 k5 "ValueError.__new__") ∧ PySem.HandSPX.refsVE bm = true := by
  unfold oexB at h
  split at h
  · rename_i dd cd sl ho
    split at h
    · rename_i C' bm k0 k1 k2 k3 n k5 hm hs
      simp only [Bool.and_eq_true, beq_iff_eq, Bool.not_eq_true'] at h
      obtain ⟨rfl, hr, rfl, hd1, hd2⟩ := h
      obtain ⟨nm, bs, mro, ns, qn, hd, sn, sub, ab, col, del⟩ := cd
      dsimp only at hm hd1 hd2
      subst hm hd1 hd2
      have hsl : sl = #[k0, k1, k2, k3, some (.builtin "ValueError.__new__"), k5] := by
        obtain ⟨l⟩ := sl
        simp only at hs
        rw [hs]
      subst hsl
      exact ⟨nm, qn, ns, bs, bm, sn, sub, ab, col, dd, k0, k1, k2, k3, k5, ho, hr⟩
    · cases h
  · cases h
theorem errB_ok {K : PySem.W.Frag} {C : Addr} {f : Str} (h : errB K C f = true) : ErrX K C f := by
  obtain ⟨h1, h⟩ := He.ba h
  obtain ⟨h2, h⟩ := He.ba h
  obtain ⟨h3, h⟩ := He.ba h
  obtain ⟨h4, h⟩ := He.ba h
  obtain ⟨h5, h⟩ := He.ba h
  obtain ⟨h6, h⟩ := He.ba h
  obtain ⟨h7, h⟩ := He.ba h
  obtain ⟨h8, h⟩ := He.ba h
  obtain ⟨h9, h⟩ := He.ba h
  obtain ⟨h10, h⟩ := He.ba h
  obtain ⟨h11, h⟩ := He.ba h
  obtain ⟨h12, h13⟩ := He.ba h
  have xf := xfB_ok h6
  exact ⟨⟨oexB_ok h1, He.eqO_ok h2, of_decide_eq_true h3, of_decide_eq_true h4, h5⟩, ⟨xf.ga, xf.gg, of_decide_eq_true h3, xf.hdC, He.eqO_ok h7, He.eqO_ok h8, of_decide_eq_true h9, of_decide_eq_true h10⟩, xf, He.eqO_ok h11, of_decide_eq_true h12, none_ok h13⟩
theorem tabOf_ok {K : PySem.W.Frag} {h : Heap} {fd : FuncData} {c P : Addr} {oc : Value} {od : Option Addr} {sl : Array (Option Value)} {nm : Str} {p : Addr} (X : K.In h) (t : tabOf K nm = some p) (lk : K.lookup (He.ga K nm) = some ⟨oc, od, .func fd, sl⟩) (hc : fd.code = .ref c) (C : PySem.W.CodeHd h c P) : p = P ∧ K.lookup P = none := by
  unfold tabOf at t
  rw [lk] at t
  dsimp only at t
  rw [hc] at t
  dsimp only at t
  split at t
  · rename_i vs _ ho
    obtain ⟨o, us, _, _, _, _, _, _, _, e1, _, e2, e3, _⟩ := C
    rw [X _ _ ho] at e1
    cases e1
    cases e2
    rw [e3] at t
    dsimp only at t
    split at t
    · rename_i hn
      cases t
      exact ⟨rfl, Option.isNone_iff_eq_none.mp hn⟩
    · cases t
  · cases t
theorem tabsB_ok {K : PySem.W.Frag} (h : tabsB K = true) : ∃ p q, tabOf K "law" = some p ∧ tabOf K "_law_turn_right" = some q ∧ p ≠ q := by
  unfold tabsB at h
  split at h
  · rename_i p q h1 h2
    exact ⟨p, q, h1, h2, of_decide_eq_true h⟩
  · cases h
theorem facts {P : Program} {w : World} {K : PySem.W.Frag} {h : Heap} {mg : Str → Option Value} {f : Addr} (X : K.In h) (G : h.Ns mainGlobals mg) (hfa : mg ("law" : Str) = some (.ref f)) (c : see K = seen) :
    ∃ fd fd1 : FuncData, (∀ (s : Shared) (v : Value), BindsTo s fd ⟨[v], []⟩ [("_law_script", v)]) ∧ (∃ oc od sl, K.lookup (He.ga K "law") = some ⟨oc, od, .func fd, sl⟩) ∧ (∃ oc od sl, K.lookup (He.ga K "_law_turn_right") = some ⟨oc, od, .func fd1, sl⟩) ∧ mg "_law_turn_right" = some (.ref (He.ga K "_law_turn_right")) ∧ f = He.ga K "law" ∧ tabsB K = true ∧
      ∀ (cc Pl co Po : Addr), fd.code = .ref cc → fd1.code = .ref co → Pl ≠ Po → ∀ base : Heap, K.In base → base.Ns mainGlobals mg → TabB base mg cc Pl → TabB base mg co Po → FnOk P w K mg base CX0 11 f fd ["_law_script"] (spLaw K Pl Po) := by
  have cD : He.SaysD faA fn K := congrArg (fun z : Al => z.1) c
  have cT : (tests K).all id = true := congrArg (fun z : Al => z.2.1) c
  have cA : [] = [] := congrArg (fun z : Al => z.2.2) c
  have t : ∀ i {b}, (tests K)[i]? = some b → b = true := fun i b e => all_id cT e
  obtain ⟨fd_is_integer, D_is_integer⟩ := cD.def_ 0 (d := dg "is_integer" s_is_integer) rfl
  have F_is_integer : L2.Fun K "is_integer" "is_integer" s_is_integer (He.ga K "is_integer") fd_is_integer := toFun D_is_integer
  have b_is_integer : Binds K fd_is_integer ["value"] [] := F_is_integer.binds fun _ _ _ _ _ _ us hl => match us, hl with | [_], _ => rfl
  obtain ⟨fd_is_within, D_is_within⟩ := cD.def_ 1 (d := dg "is_within" s_is_within) rfl
  have F_is_within : L2.Fun K "is_within" "is_within" s_is_within (He.ga K "is_within") fd_is_within := toFun D_is_within
  have b_is_within : Binds K fd_is_within ["value", "least", "most"] [] := F_is_within.binds fun _ _ _ _ _ _ us hl => match us, hl with | [_, _, _], _ => rfl
  obtain ⟨fd_is_age, D_is_age⟩ := cD.def_ 2 (d := dg "is_age" s_is_age) rfl
  have F_is_age : L2.Fun K "is_age" "is_age" s_is_age (He.ga K "is_age") fd_is_age := toFun D_is_age
  have b_is_age : Binds K fd_is_age ["value"] [] := F_is_age.binds fun _ _ _ _ _ _ us hl => match us, hl with | [_], _ => rfl
  obtain ⟨fd_is_ascending, D_is_ascending⟩ := cD.def_ 3 (d := dg "is_ascending" s_is_ascending) rfl
  have F_is_ascending : L2.Fun K "is_ascending" "is_ascending" s_is_ascending (He.ga K "is_ascending") fd_is_ascending := toFun D_is_ascending
  have b_is_ascending : Binds K fd_is_ascending ["values"] [] := F_is_ascending.binds fun _ _ _ _ _ _ us hl => match us, hl with | [_], _ => rfl
  obtain ⟨fd_is_sum, D_is_sum⟩ := cD.def_ 4 (d := dg "is_sum" s_is_sum) rfl
  have F_is_sum : L2.Fun K "is_sum" "is_sum" s_is_sum (He.ga K "is_sum") fd_is_sum := toFun D_is_sum
  have b_is_sum : Binds K fd_is_sum ["value"] [] := F_is_sum.binds fun _ _ _ _ _ _ us hl => match us, hl with | [_], _ => rfl
  obtain ⟨fd_pen, D_pen⟩ := cD.def_ 5 (d := dg "_law_pen" s_pen) rfl
  have F_pen : L2.Fun K "_law_pen" "_law_pen" s_pen (He.ga K "_law_pen") fd_pen := toFun D_pen
  have b_pen : Binds K fd_pen ["_law_script"] [] := F_pen.binds fun _ _ _ _ _ _ us hl => match us, hl with | [_], _ => rfl
  obtain ⟨fd_draw, D_draw⟩ := cD.def_ 6 (d := dg "_law_draw" s_draw) rfl
  have F_draw : L2.Fun K "_law_draw" "_law_draw" s_draw (He.ga K "_law_draw") fd_draw := toFun D_draw
  have b_draw : Binds K fd_draw ["_law_pen_here", "_law_many"] [] := F_draw.binds fun _ _ _ _ _ _ us hl => match us, hl with | [_, _], _ => rfl
  obtain ⟨fd_pick, D_pick⟩ := cD.def_ 7 (d := dg "_law_pick" s_pick) rfl
  have F_pick : L2.Fun K "_law_pick" "_law_pick" s_pick (He.ga K "_law_pick") fd_pick := toFun D_pick
  have b_pick : Binds K fd_pick ["_law_pen_here", "_law_some"] [] := F_pick.binds fun _ _ _ _ _ _ us hl => match us, hl with | [_, _], _ => rfl
  obtain ⟨fd_heard, D_heard⟩ := cD.def_ 8 (d := dg "_law_heard" s_heard) rfl
  have F_heard : L2.Fun K "_law_heard" "_law_heard" s_heard (He.ga K "_law_heard") fd_heard := toFun D_heard
  have b_heard : Binds K fd_heard ["_law_ask"] [] := F_heard.binds fun _ _ _ _ _ _ us hl => match us, hl with | [_], _ => rfl
  obtain ⟨fd_made, D_made⟩ := cD.def_ 9 (d := dg "_law_tick_made" s_made) rfl
  have F_made : L2.Fun K "_law_tick_made" "_law_tick_made" s_made (He.ga K "_law_tick_made") fd_made := toFun D_made
  have b_made : Binds K fd_made ["_law_plain"] [] := F_made.binds fun _ _ _ _ _ _ us hl => match us, hl with | [_], _ => rfl
  obtain ⟨fd_wrong, D_wrong⟩ := cD.def_ 10 (d := dg "_law_wrong" s_wrong) rfl
  have F_wrong : L2.Fun K "_law_wrong" "_law_wrong" s_wrong (He.ga K "_law_wrong") fd_wrong := toFun D_wrong
  have b_wrong : Binds K fd_wrong ["_law_pen_here"] [] := F_wrong.binds fun _ _ _ _ _ _ us hl => match us, hl with | [_], _ => rfl
  obtain ⟨fd_turn, D_turn⟩ := cD.def_ 11 (d := dg "_law_turn_right" s_turn) rfl
  have F_turn : L2.Fun K "_law_turn_right" "_law_turn_right" s_turn (He.ga K "_law_turn_right") fd_turn := toFun D_turn
  have b_turn : Binds K fd_turn ["_law_pen_here"] [] := F_turn.binds fun _ _ _ _ _ _ us hl => match us, hl with | [_], _ => rfl
  obtain ⟨fd_law, D_law⟩ := cD.def_ 12 (d := dg "law" s_law) rfl
  have F_law : L2.Fun K "law" "law" s_law (He.ga K "law") fd_law := toFun D_law
  obtain ⟨fd_btI, D_btI⟩ := cD.def_ 13 (d := de "BadTick" "__init__" "BadTick.__init__" s_btI) rfl
  have F_btI : L2.Fun K "__init__" "BadTick.__init__" s_btI (He.ma K (He.ga K "BadTick") "__init__") fd_btI := toFun D_btI
  have b_btI : Binds K fd_btI ["self", "part"] [] := F_btI.binds fun _ _ _ _ _ _ us hl => match us, hl with | [_, _], _ => rfl
  obtain ⟨fd_tmI, D_tmI⟩ := cD.def_ 14 (d := de "TooMany" "__init__" "TooMany.__init__" s_tmI) rfl
  have F_tmI : L2.Fun K "__init__" "TooMany.__init__" s_tmI (He.ma K (He.ga K "TooMany") "__init__") fd_tmI := toFun D_tmI
  have b_tmI : Binds K fd_tmI ["self", "what", "most"] [] := F_tmI.binds fun _ _ _ _ _ _ us hl => match us, hl with | [_, _, _], _ => rfl
  obtain ⟨fd_init, D_init⟩ := cD.def_ 15 (d := ⟨("Tick", some "__init__"), "__init__", "Tick.__init__", defArgs s_init, defBody s_init, defScope s_init, [], [("mute", .bl false)]⟩) rfl
  have g_is_integer := He.glo_ok X G (cD.fact 19 (f := .glo "is_integer") rfl)
  have g_is_within := He.glo_ok X G (cD.fact 20 (f := .glo "is_within") rfl)
  have g_is_age := He.glo_ok X G (cD.fact 21 (f := .glo "is_age") rfl)
  have g_is_ascending := He.glo_ok X G (cD.fact 22 (f := .glo "is_ascending") rfl)
  have g_is_sum := He.glo_ok X G (cD.fact 23 (f := .glo "is_sum") rfl)
  have g_pen := He.glo_ok X G (cD.fact 24 (f := .glo "_law_pen") rfl)
  have g_draw := He.glo_ok X G (cD.fact 25 (f := .glo "_law_draw") rfl)
  have g_pick := He.glo_ok X G (cD.fact 26 (f := .glo "_law_pick") rfl)
  have g_heard := He.glo_ok X G (cD.fact 27 (f := .glo "_law_heard") rfl)
  have g_made := He.glo_ok X G (cD.fact 28 (f := .glo "_law_tick_made") rfl)
  have g_wrong := He.glo_ok X G (cD.fact 29 (f := .glo "_law_wrong") rfl)
  have g_turn := He.glo_ok X G (cD.fact 30 (f := .glo "_law_turn_right") rfl)
  have g_law := He.glo_ok X G (cD.fact 31 (f := .glo "law") rfl)
  have fr_len := He.free_ok X G (cD.fact 0 (f := .free "len") rfl)
  have fr_isinstance := He.free_ok X G (cD.fact 1 (f := .free "isinstance") rfl)
  have fr_int := He.free_ok X G (cD.fact 2 (f := .free "int") rfl)
  have fr_bool := He.free_ok X G (cD.fact 3 (f := .free "bool") rfl)
  have fr_all := He.free_ok X G (cD.fact 4 (f := .free "all") rfl)
  have fr_any := He.free_ok X G (cD.fact 5 (f := .free "any") rfl)
  have fr_abs := He.free_ok X G (cD.fact 6 (f := .free "abs") rfl)
  have fr_tuple := He.free_ok X G (cD.fact 7 (f := .free "tuple") rfl)
  have fr_list := He.free_ok X G (cD.fact 8 (f := .free "list") rfl)
  have fr_range := He.free_ok X G (cD.fact 9 (f := .free "range") rfl)
  have fr_enumerate := He.free_ok X G (cD.fact 10 (f := .free "enumerate") rfl)
  have fr_repr := He.free_ok X G (cD.fact 11 (f := .free "repr") rfl)
  have T : Nm mg := ⟨fr_len, fr_isinstance, fr_int, fr_bool, fr_all, fr_any, fr_abs, fr_tuple, fr_list, fr_range, fr_enumerate, fr_repr, He.int_ok X G (cD.fact 12 (f := .int "MOST_SUMS" 6) rfl), He.int_ok X G (cD.fact 13 (f := .int "MOST_AGE" 8) rfl)⟩
  have S : Tk K mg (sp K) := ⟨He.cls_ok (cD.fact 14 (f := .cls "Tick") rfl), He.noat_ok (cD.fact 15 (f := .noat "Tick" "sums") rfl), He.noat_ok (cD.fact 16 (f := .noat "Tick" "mute") rfl), He.glo_ok X G (cD.fact 18 (f := .glo "Tick") rfl)⟩
  have MM : Mk K (sp K) (He.ma K (sp K) "__init__") := He.mkr_ok (cD.fact 17 (f := .mkr "Tick") rfl)
  have e := hfa.symm.trans g_law
  cases e
  refine ⟨fd_law, fd_turn, fun s v => ?_, ?_, ?_, g_turn, rfl, t 15 rfl, fun cc Pl co Po hcc hco hPo base _ _ TB TBo => ?_⟩
  · obtain ⟨oc, od, kV, doc, pm, an, cdv, ct, osl, rfl, lk, hc⟩ := F_law.ex
    exact .of_eq rfl
  · obtain ⟨oc, od, kV, doc, pm, an, cdv, ct, osl, rfl, lk, hc⟩ := F_law.ex
    exact ⟨_, _, _, lk⟩
  · obtain ⟨oc, od, kV, doc, pm, an, cdv, ct, osl, rfl, lk, hc⟩ := F_turn.ex
    exact ⟨_, _, _, lk⟩
  · skip
    have EB := errB_ok (t 0 rfl)
    have EM := errB_ok (t 1 rfl)
    have nM := none_ok (t 2 rfl)
    have GRepairError := He.glo_ok X G (t 16 rfl)
    have GBadTick := He.glo_ok X G (t 17 rfl)
    have GBadPlan := He.glo_ok X G (t 18 rfl)
    have GBadCount := He.glo_ok X G (t 19 rfl)
    have GNoPhase := He.glo_ok X G (t 20 rfl)
    have GTooMany := He.glo_ok X G (t 21 rfl)
    have R : Errs K mg (He.ga K "RepairError") (He.ga K "BadTick") (He.ga K "BadPlan") (He.ga K "BadCount") (He.ga K "NoPhase") (He.ga K "TooMany") := ⟨GRepairError, GBadTick, GBadPlan, GBadCount, GNoPhase, GTooMany, of_decide_eq_true (t 3 rfl), of_decide_eq_true (t 4 rfl), EB.ec, EM.ec, EB.xf, EM.xf, ⟨of_decide_eq_true (t 5 rfl), of_decide_eq_true (t 6 rfl), of_decide_eq_true (t 7 rfl), of_decide_eq_true (t 8 rfl), of_decide_eq_true (t 9 rfl)⟩, ⟨of_decide_eq_true (t 10 rfl), of_decide_eq_true (t 11 rfl), of_decide_eq_true (t 12 rfl), of_decide_eq_true (t 13 rfl), of_decide_eq_true (t 14 rfl)⟩, EB.no, EM.no, nM⟩
    have RB : ErrC K mg "BadTick" (He.ga K "BadTick") (He.ma K (He.ga K "BadTick") "__init__") "part" := ⟨EB.ox, EB.ic, EB.ti, GBadTick, EB.no⟩
    have RM : ErrC K mg "TooMany" (He.ga K "TooMany") (He.ma K (He.ga K "TooMany") "__init__") "what" := ⟨EM.ox, EM.ic, EM.ti, GTooMany, EM.no⟩
    have GS : FnOk P w K mg base CX0 4 (He.ga K "is_sum") fd_is_sum ["value"] (spSum K) := ok_sum F_is_sum F_is_age b_is_age g_is_age F_is_within b_is_within g_is_within F_is_integer b_is_integer g_is_integer F_is_ascending b_is_ascending g_is_ascending T
    have GI := ok_tick D_init GS F_is_sum.kp b_is_sum g_is_sum (ok_btI F_btI) b_btI RB (ok_tmI F_tmI) b_tmI RM nM T S
    have GD : FnOk P w K mg base CX0 1 (He.ga K "_law_draw") fd_draw ["_law_pen_here", "_law_many"] spDraw := ok_draw F_draw T
    have GP : FnOk P w K mg base CX0 2 (He.ga K "_law_pick") fd_pick ["_law_pen_here", "_law_some"] spPickV := ok_pickV F_pick F_draw b_draw g_draw T
    have GW : FnOk P w K mg base CX0 3 (He.ga K "_law_wrong") fd_wrong ["_law_pen_here"] (spWrong K) := ok_wrong F_wrong GP ⟨g_pick, F_pick.kp, b_pick⟩
    have GM := ok_made F_made GI MM T S
    have hm1 : (Po, qT) ∈ [(Pl, qL), (Po, qT)] := List.mem_cons_of_mem _ List.mem_cons_self
    have hu1 : ∀ p ∈ [(Pl, qL), (Po, qT)], p.1 = Po → p.2 = qT := fun p hp e => (List.mem_cons.mp hp).elim (fun h => absurd ((congrArg Prod.fst h).symm.trans e) hPo) (fun h => by rw [List.mem_singleton.mp h])
    have GT := ok_turn F_turn hco TBo hm1 hu1 GD ⟨g_draw, F_draw.kp, b_draw⟩ GP ⟨g_pick, F_pick.kp, b_pick⟩ GW ⟨g_wrong, F_wrong.kp, b_wrong⟩ GM ⟨g_made, F_made.kp, b_made⟩ GI MM S F_heard b_heard g_heard R T
    exact ok_law F_law hcc TB hPo (ok_pen F_pen T) ⟨g_pen, F_pen.kp, b_pen⟩ GT ⟨g_turn, F_turn.kp, b_turn⟩ GI MM S F_heard b_heard g_heard R T
end Hk
open PySem PySem.W PySem.Calls PyProof.Rows
theorem PySem.Challenge.cw_laterepair_k10_ticks_refused_holds : PySem.Challenge.rw_laterepair_k10_ticks_refused.Holds := by
  w_on; o_law
  refine HandSHeadRun.head_any (r := Hk.R) (q := view Hk.R.prog [36, 37]) (H := Hk.hook) (ob := Hk.ob) (M := 20000) (loose := Hk.names) (d := HandSHeadRun.topDef Hk.R.prog 37) (kwd := []) Hk.ob_eq
    (by kernel_rfl) (fun s => by kernel_rfl) Hk.run (by kernel_rfl) (by kernel_rfl) (by kernel_rfl) (by rfl) (by first | assumption | decide +kernel) (by decide +kernel) ⟨rfl, rfl, rfl, rfl, rfl, by decide +kernel⟩ ?hw ?hc
  case hw => w_witness2
  case hc =>
    refine Oq.walk_endT (l := PySem.Challenge.rw_laterepair_k10_ticks_refused) (n := 63) (k := 11) (x := "_law_script") (CX := fun _ => L2.CX0) rfl (by decide) (by kernel_rfl) ⟨rfl, by decide, by decide⟩ ?F (fun _ _ _ _ _ z => z)
    intro w mg fa h Y TT G hmg0
    obtain ⟨K, KX, c⟩ := Y
    have dn : (HandSHeadRun.topDef Hk.R.prog 37).name = ("law" : PySem.Str) := by kernel_rfl
    have hmg : mg ("law" : PySem.Str) = some (.ref fa) := by
      rw [← dn]
      exact hmg0
    obtain ⟨fd, fd1, hb, ⟨oc, od, sl, lk⟩, ⟨oc1, od1, sl1, lk1⟩, g1, ef, tb, hF⟩ := Hk.facts (P := (PySem.Challenge.rw_laterepair_k10_ticks_refused).prog) (w := w) KX G hmg c
    subst ef
    obtain ⟨o, fd2, c2, P2, h1, h2, h3, h4, h5⟩ := TT "law" _ (by kernel_rfl) hmg
    have e1 := KX _ _ lk
    rw [h1] at e1
    cases e1
    cases h2
    obtain ⟨o', fd3, c3, P3, k1, k2, k3, k4, k5⟩ := TT "_law_turn_right" _ (by kernel_rfl) g1
    have e3 := KX _ _ lk1
    rw [k1] at e3
    cases e3
    cases k2
    obtain ⟨p, q, tp, tq, pq⟩ := Hk.tabsB_ok tb
    obtain ⟨r1, n1⟩ := Hk.tabOf_ok KX tp lk h3 h4
    obtain ⟨r2, n2⟩ := Hk.tabOf_ok KX tq lk1 k3 k4
    subst r1 r2
    have two : ∀ {A : Addr × Addr → Prop}, A (c2, p) → A (c3, q) → ∀ x ∈ [(c2, p), (c3, q)], A x := fun a1 a2 x hx => by
      rcases List.mem_cons.mp hx with h | h
      · rw [h]
        exact a1
      · rw [List.mem_singleton.mp h]
        exact a2
    exact ⟨K, fd, [(c2, p), (c3, q)], Lr.spLaw K p q, KX, two h5 k5, two n1 n2, two h4 k4, hb, fun H a ns hl hT hS => ⟨a, ns, rfl, hS, hl, hT (c2, p) List.mem_cons_self, hT (c3, q) (List.mem_cons_of_mem _ List.mem_cons_self), fun _ => rfl⟩, fun base b1 b2 b3 => Og.FnG.of (hF c2 p c3 q h3 k3 pq base b1 b2 (b3 (c2, p) List.mem_cons_self) (b3 (c3, q) (List.mem_cons_of_mem _ List.mem_cons_self)))⟩
#print axioms PySem.Challenge.cw_laterepair_k10_ticks_refused_holds

