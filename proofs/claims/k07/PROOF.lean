import PyProof.Rows.All
import Wide.All
import OpenK.AllK
import Wide.FinOn
import HandS.ForMost
import HandS.Star
import HandS.IsInst
import HandS.SortInts
import HandS.WideBits
import HandS.Conv
import HandS.Style
import HandS.ClsMeth
import HandS.Small
import PySem.Challenge.RW_laterepair_k07_texts_of_spaces
import HandS.SlotsOwn
import HandS.MakeKwOnly
import HandS.TupAny
import HandS.Property
import PyProof.InstEq
import HandS.IterVal
import HandS.Text
import HandS.SetFor
import HandS.Strs
import KE.KOpsOwn
import PyProof.ReprRoads
import KE.DatumIndex
import HandS.StrMore
import KE.IntTextText
import HandS.Lambda
import HandS.ExcOwn
import HandS.ExcField
import HandS.ExcIs
import HandS.ExcInit
import HandS.ExcValue
import KE.KExcIs
import HandS.WordsExc
import KE.KCallOwn
import HandS.EndTab
import HandS.EndOwn
import HandS.RaiseMore
import HandS.Steps
import HandS.TupLe
import HandS.Walk
import KE.KStateDown
import Lean
import HandS.Head0
import HandS.Head1
import HandS.Head2
import HandS.HeadEnd
import HandS.HeadHook1
import HandS.HeadHook2
/-! Sums of rows as integers under exclusive or: spans, reduced rows, what they are unique by. Core Lean alone. -/
set_option autoImplicit false
set_option linter.unusedVariables false
namespace Xr
theorem lt_of_testBit' {x y : Nat} (i : Nat) (hx : x.testBit i = false) (hy : y.testBit i = true) (h : ∀ j, i < j → x.testBit j = y.testBit j) : x < y := by
  have e : x >>> (i + 1) = y >>> (i + 1) := Nat.eq_of_testBit_eq fun j => by
    rw [Nat.testBit_shiftRight, Nat.testBit_shiftRight]
    exact h _ (by omega)
  rw [Nat.shiftRight_eq_div_pow, Nat.shiftRight_eq_div_pow] at e
  have a : x % 2 ^ (i + 1) < 2 ^ i := Nat.lt_pow_two_of_testBit _ fun j hj => by
    rw [Nat.testBit_mod_two_pow]
    rcases Nat.lt_or_ge j (i + 1) with c | c
    · have : j = i := by omega
      subst this
      rw [hx, Bool.and_false]
    · have : decide (j < i + 1) = false := decide_eq_false (by omega)
      rw [this, Bool.false_and]
  have b : 2 ^ i ≤ y % 2 ^ (i + 1) := Nat.ge_two_pow_of_testBit (by
    rw [Nat.testBit_mod_two_pow, hy]
    simp)
  have d1 := Nat.div_add_mod x (2 ^ (i + 1))
  have d2 := Nat.div_add_mod y (2 ^ (i + 1))
  rw [e] at d1
  omega
theorem xor_right_comm (x r y : Nat) : x ^^^ r ^^^ y = x ^^^ y ^^^ r := by
  rw [Nat.xor_assoc, Nat.xor_comm r y, ← Nat.xor_assoc]

/-! ### the span of a list -/
def Span : List Nat → Nat → Prop
  | [], x => x = 0
  | r :: l, x => Span l x ∨ Span l (x ^^^ r)

theorem span_zero : ∀ l : List Nat, Span l 0
  | [] => rfl
  | _ :: l => .inl (span_zero l)
theorem span_xor : ∀ (l : List Nat) {x y : Nat}, Span l x → Span l y → Span l (x ^^^ y)
  | [], x, y, hx, hy => by
    have hx : x = 0 := hx
    have hy : y = 0 := hy
    subst hx; subst hy; rfl
  | r :: l, x, y, hx, hy => by
    rcases hx with hx | hx <;> rcases hy with hy | hy
    · exact .inl (span_xor l hx hy)
    · refine .inr ?_
      have := span_xor l hx hy
      rwa [← Nat.xor_assoc] at this
    · refine .inr ?_
      have := span_xor l hx hy
      rwa [xor_right_comm] at this
    · refine .inl ?_
      have := span_xor l hx hy
      have e : x ^^^ r ^^^ (y ^^^ r) = x ^^^ y := by
        rw [Nat.xor_assoc, Nat.xor_comm y r, ← Nat.xor_assoc r r y, Nat.xor_self, Nat.zero_xor]
      rwa [e] at this
theorem span_tail {r : Nat} {l : List Nat} {x : Nat} (h : Span l x) : Span (r :: l) x := .inl h
theorem span_head {r : Nat} {l : List Nat} : Span (r :: l) r := .inr (by rw [Nat.xor_self]; exact span_zero l)
theorem span_mem : ∀ {l : List Nat} {x : Nat}, x ∈ l → Span l x
  | r :: l, x, h => by
    rcases List.mem_cons.mp h with rfl | h
    · exact span_head
    · exact .inl (span_mem h)
/-- the span is the least set with 0 and its rows that is closed -/
theorem span_least {S : Nat → Prop} (h0 : S 0) (hx : ∀ x y, S x → S y → S (x ^^^ y)) : ∀ {l : List Nat}, (∀ r ∈ l, S r) → ∀ {x}, Span l x → S x
  | [], _, x, h => by
    have h : x = 0 := h
    rw [h]; exact h0
  | r :: l, hl, x, h => by
    have hl' : ∀ r ∈ l, S r := fun q hq => hl q (List.mem_cons_of_mem _ hq)
    rcases h with h | h
    · exact span_least h0 hx hl' h
    · have a := span_least h0 hx hl' h
      have b := hx _ _ a (hl r List.mem_cons_self)
      rwa [Nat.xor_assoc, Nat.xor_self, Nat.xor_zero] at b
theorem span_sub {l m : List Nat} (h : ∀ r ∈ l, Span m r) {x : Nat} (hx : Span l x) : Span m x :=
  span_least (S := Span m) (span_zero m) (fun _ _ a b => span_xor m a b) h hx
theorem span_eq {l m : List Nat} (h1 : ∀ r ∈ l, Span m r) (h2 : ∀ r ∈ m, Span l r) (x : Nat) : Span l x ↔ Span m x := ⟨span_sub h1, span_sub h2⟩
theorem span_append {l m : List Nat} {x : Nat} : Span (l ++ m) x ↔ ∃ y z, Span l y ∧ Span m z ∧ x = y ^^^ z := by
  constructor
  · intro h
    refine span_least (S := fun x => ∃ y z, Span l y ∧ Span m z ∧ x = y ^^^ z) ⟨0, 0, span_zero _, span_zero _, rfl⟩ ?_ ?_ h
    · rintro x x' ⟨y, z, hy, hz, rfl⟩ ⟨y', z', hy', hz', rfl⟩
      refine ⟨y ^^^ y', z ^^^ z', span_xor _ hy hy', span_xor _ hz hz', ?_⟩
      rw [Nat.xor_assoc, Nat.xor_assoc, ← Nat.xor_assoc z y' z', Nat.xor_comm z y', Nat.xor_assoc y' z z']
    · intro r hr
      rcases List.mem_append.mp hr with hr | hr
      · exact ⟨r, 0, span_mem hr, span_zero _, (Nat.xor_zero r).symm⟩
      · exact ⟨0, r, span_zero _, span_mem hr, (Nat.zero_xor r).symm⟩
  · rintro ⟨y, z, hy, hz, rfl⟩
    exact span_xor _ (span_sub (fun r hr => span_mem (List.mem_append_left _ hr)) hy) (span_sub (fun r hr => span_mem (List.mem_append_right _ hr)) hz)

/-! ### the greatest bit -/
/-- the place of the greatest bit, 0 of 0 -/
abbrev top (x : Nat) : Nat := x.log2
theorem top_bit {x : Nat} (h : x ≠ 0) : x.testBit (top x) = true := by
  have := Nat.testBit_log2 h
  exact this
theorem above_top {x i : Nat} (h : x.log2 < i) : x.testBit i = false := Nat.testBit_lt_two_pow (Nat.lt_of_lt_of_le Nat.lt_log2_self (Nat.pow_le_pow_right (by decide) h))
theorem ne_zero_of_bit {x i : Nat} (h : x.testBit i = true) : x ≠ 0 := fun e => by
  subst e
  simp at h
/-- less by the greatest bit that parts them -/
theorem lt_of_top {x y : Nat} {i : Nat} (hx : x.testBit i = false) (hy : y.testBit i = true) (h : ∀ j, i < j → x.testBit j = y.testBit j) : x < y := by
  exact lt_of_testBit' i hx hy (fun j hj => h j hj)
/-- exclusive or with a row makes an integer less exactly if it has the row's greatest bit -/
theorem xor_lt_iff {x r : Nat} (hr : r ≠ 0) : x ^^^ r < x ↔ x.testBit (top r) = true := by
  have hb := top_bit hr
  constructor
  · intro h
    cases hx : x.testBit (top r) with
    | true => rfl
    | false =>
      have : x < x ^^^ r := lt_of_top hx (by rw [Nat.testBit_xor, hx, hb]; rfl) fun j hj => by
        rw [Nat.testBit_xor, above_top hj, Bool.xor_false]
      omega
  · intro h
    exact lt_of_top (by rw [Nat.testBit_xor, h, hb]; rfl) h fun j hj => by
      rw [Nat.testBit_xor, above_top hj, Bool.xor_false]

/-! ### what the loop of lessened does -/
def less1 (x r : Nat) : Nat := if x ^^^ r < x then x ^^^ r else x
def lessened (x : Nat) (rows : List Nat) : Nat := rows.foldl less1 x
theorem less1_span {x r : Nat} : Span [r] (x ^^^ less1 x r) := by
  unfold less1
  split
  · rw [← Nat.xor_assoc, Nat.xor_self, Nat.zero_xor]; exact span_head
  · rw [Nat.xor_self]; exact span_zero _
theorem less1_bit {x r : Nat} (hr : r ≠ 0) : (less1 x r).testBit (top r) = false := by
  unfold less1
  split
  · rename_i h
    rw [Nat.testBit_xor, (xor_lt_iff hr).mp h, top_bit hr]; rfl
  · rename_i h
    cases hx : x.testBit (top r) with
    | false => rfl
    | true => exact absurd ((xor_lt_iff hr).mpr hx) h
theorem less1_keep {x r i : Nat} (h : r.testBit i = false) : (less1 x r).testBit i = x.testBit i := by
  unfold less1
  split
  · rw [Nat.testBit_xor, h, Bool.xor_false]
  · rfl
theorem less1_le {x r : Nat} : less1 x r ≤ x := by
  unfold less1
  split <;> omega
theorem lessened_le : ∀ (rows : List Nat) (x : Nat), lessened x rows ≤ x
  | [], x => Nat.le_refl x
  | r :: rows, x => Nat.le_trans (lessened_le rows (less1 x r)) less1_le
theorem lessened_span : ∀ (rows : List Nat) (x : Nat), Span rows (x ^^^ lessened x rows)
  | [], x => Nat.xor_self x
  | r :: rows, x => by
    have h1 : Span (r :: rows) (x ^^^ less1 x r) := span_sub (fun q hq => span_mem (by
      have := List.mem_singleton.mp hq
      rw [this]; exact List.mem_cons_self)) less1_span
    have h2 : Span (r :: rows) (less1 x r ^^^ lessened (less1 x r) rows) := span_tail (lessened_span rows _)
    have h3 := span_xor _ h1 h2
    have e : x ^^^ less1 x r ^^^ (less1 x r ^^^ lessened (less1 x r) rows) = x ^^^ lessened (less1 x r) rows := by
      rw [Nat.xor_assoc, ← Nat.xor_assoc (less1 x r) (less1 x r), Nat.xor_self, Nat.zero_xor]
    rw [e] at h3
    exact h3
theorem lessened_keep : ∀ (rows : List Nat) (x i : Nat), (∀ r ∈ rows, r.testBit i = false) → (lessened x rows).testBit i = x.testBit i
  | [], x, i, _ => rfl
  | r :: rows, x, i, h => by
    show (lessened (less1 x r) rows).testBit i = _
    rw [lessened_keep rows _ i fun q hq => h q (List.mem_cons_of_mem _ hq), less1_keep (h r List.mem_cons_self)]

/-! ### reduced rows: each has a greatest bit that no other one has -/
/-- rows above 0, in any order, each with a greatest bit that none of the others has -/
def Red (l : List Nat) : Prop := (∀ r ∈ l, r ≠ 0) ∧ l.Pairwise fun a b => a.testBit (top b) = false ∧ b.testBit (top a) = false
theorem Red.nil : Red [] := ⟨fun _ h => (by cases h), .nil⟩
theorem Red.cons_iff {r : Nat} {l : List Nat} : Red (r :: l) ↔ r ≠ 0 ∧ (∀ b ∈ l, r.testBit (top b) = false ∧ b.testBit (top r) = false) ∧ Red l := by
  constructor
  · rintro ⟨h1, h2⟩
    rw [List.pairwise_cons] at h2
    exact ⟨h1 r List.mem_cons_self, h2.1, fun q hq => h1 q (List.mem_cons_of_mem _ hq), h2.2⟩
  · rintro ⟨h1, h2, h3, h4⟩
    refine ⟨fun q hq => ?_, List.pairwise_cons.mpr ⟨h2, h4⟩⟩
    rcases List.mem_cons.mp hq with rfl | hq
    · exact h1
    · exact h3 q hq
theorem Red.perm {l m : List Nat} (p : l.Perm m) (h : Red l) : Red m :=
  ⟨fun r hr => h.1 r (p.mem_iff.mpr hr), (p.pairwise_iff (fun {a b} q => ⟨q.2, q.1⟩)).mp h.2⟩
theorem span_perm {l m : List Nat} (p : l.Perm m) (x : Nat) : Span l x ↔ Span m x :=
  span_eq (fun r hr => span_mem (p.mem_iff.mp hr)) (fun r hr => span_mem (p.mem_iff.mpr hr)) x
/-- behind lessened no greatest bit of the rows is left -/
theorem lessened_bit : ∀ {rows : List Nat}, Red rows → ∀ (x : Nat) {r : Nat}, r ∈ rows → (lessened x rows).testBit (top r) = false
  | q :: rows, h, x, r, hr => by
    obtain ⟨h1, h2, h3⟩ := Red.cons_iff.mp h
    show (lessened (less1 x q) rows).testBit _ = _
    rcases List.mem_cons.mp hr with rfl | hr
    · rw [lessened_keep rows _ _ fun b hb => (h2 b hb).2, less1_bit h1]
    · exact lessened_bit h3 _ hr
/-- an integer of the span that has none of the greatest bits is 0 -/
theorem span_no_top : ∀ {l : List Nat}, Red l → ∀ {x : Nat}, Span l x → (∀ r ∈ l, x.testBit (top r) = false) → x = 0
  | [], _, x, h, _ => h
  | r :: l, hl, x, h, hb => by
    obtain ⟨h1, h2, h3⟩ := Red.cons_iff.mp hl
    have kp : ∀ {z : Nat}, Span l z → z.testBit (top r) = false := fun {z} hz =>
      span_least (S := fun z => z.testBit (top r) = false) (by simp) (fun x y a b => by rw [Nat.testBit_xor, a, b]; rfl) (fun b hb' => (h2 b hb').2) hz
    rcases h with h | h
    · exact span_no_top h3 h fun q hq => hb q (List.mem_cons_of_mem _ hq)
    · have := kp h
      rw [Nat.testBit_xor, hb r List.mem_cons_self, top_bit h1] at this
      simp at this
/-- the greatest bit of an integer of the span is a row's -/
theorem span_top {l : List Nat} (h : Red l) {x : Nat} (hx : Span l x) (h0 : x ≠ 0) : ∃ r ∈ l, top r = top x := by
  -- cases by the rows that have their bit in x: the sum of those is x, its greatest bit is the greatest of theirs
  induction l generalizing x with
  | nil => exact absurd hx h0
  | cons r l ih =>
    obtain ⟨h1, h2, h3⟩ := Red.cons_iff.mp h
    rcases hx with hx | hx
    · obtain ⟨q, hq, e⟩ := ih h3 hx h0
      exact ⟨q, List.mem_cons_of_mem _ hq, e⟩
    · by_cases hz : x ^^^ r = 0
      · have e : x = r := by
          have := congrArg (· ^^^ r) hz
          simp only [Nat.xor_assoc, Nat.xor_self, Nat.xor_zero, Nat.zero_xor] at this
          exact this
        exact ⟨r, List.mem_cons_self, by rw [e]⟩
      · obtain ⟨q, hq, e⟩ := ih h3 hx hz
        obtain ⟨a1, a2⟩ := h2 q hq
        -- top q and top r differ; the greater one is x's
        have bq : (x ^^^ r).testBit (top q) = true := by rw [e]; exact top_bit hz
        have xq : x.testBit (top q) = true := by
          rw [Nat.testBit_xor, a1, Bool.xor_false] at bq
          exact bq
        have kp : (x ^^^ r).testBit (top r) = false := span_least (S := fun z => z.testBit (top r) = false) (by simp) (fun x y a b => by rw [Nat.testBit_xor, a, b]; rfl) (fun b hb' => (h2 b hb').2) hx
        have xr : x.testBit (top r) = true := by
          rw [Nat.testBit_xor, top_bit h1] at kp
          cases hh : x.testBit (top r) with
          | true => rfl
          | false =>
            rw [hh] at kp
            simp at kp
        have ab : ∀ j, top q < j → top r < j → x.testBit j = false := fun j j1 j2 => by
          have z := above_top (x := x ^^^ r) (i := j) (by rw [e] at j1; exact j1)
          rw [Nat.testBit_xor, above_top j2, Bool.xor_false] at z
          exact z
        have lg : ∀ t, x.testBit t = true → (∀ j, t < j → x.testBit j = false) → top x = t := fun t ht hj => by
          have b := top_bit (ne_zero_of_bit ht)
          rcases Nat.lt_trichotomy (top x) t with c | c | c
          · rw [above_top c] at ht
            cases ht
          · exact c
          · rw [hj _ c] at b
            cases b
        rcases Nat.lt_trichotomy (top q) (top r) with c | c | c
        · exact ⟨r, List.mem_cons_self, (lg _ xr fun j hj => ab j (Nat.lt_trans c hj) hj).symm⟩
        · rw [c, top_bit h1] at a1
          cases a1
        · exact ⟨q, List.mem_cons_of_mem _ hq, (lg _ xq fun j hj => ab j hj (Nat.lt_trans c hj)).symm⟩
/-- in the span exactly if nothing is left -/
theorem lessened_zero {l : List Nat} (h : Red l) (x : Nat) : lessened x l = 0 ↔ Span l x := by
  have s := lessened_span l x
  constructor
  · intro e
    rw [e, Nat.xor_zero] at s
    exact s
  · intro hx
    have : Span l (lessened x l) := by
      have := span_xor _ hx s
      rwa [← Nat.xor_assoc, Nat.xor_self, Nat.zero_xor] at this
    exact span_no_top h this fun r hr => lessened_bit h x hr

/-! ### the loop of reduced -/
def red1 (kept : List Nat) (row : Nat) : List Nat :=
  if 0 < lessened row kept then kept.map (fun o => min o (o ^^^ lessened row kept)) ++ [lessened row kept] else kept
theorem min_less1 {o r : Nat} : min o (o ^^^ r) = less1 o r := by
  unfold less1
  split <;> omega
theorem red1_ok {kept : List Nat} (h : Red kept) (row : Nat) : Red (red1 kept row) ∧ ∀ x, Span (red1 kept row) x ↔ Span (row :: kept) x := by
  unfold red1
  by_cases c : 0 < lessened row kept
  · rw [if_pos c]
    have hr : lessened row kept ≠ 0 := Nat.ne_of_gt c
    have e : kept.map (fun o => min o (o ^^^ lessened row kept)) = kept.map (fun o => less1 o (lessened row kept)) := List.map_congr_left fun o _ => min_less1
    rw [e]
    generalize hR : lessened row kept = R at *
    have nb : ∀ {r}, r ∈ kept → R.testBit (top r) = false := fun {r} hr => by rw [← hR]; exact lessened_bit h row hr
    -- a row keeps its greatest bit, and has it as greatest one
    have tp : ∀ {o}, o ∈ kept → top (less1 o R) = top o := fun {o} ho => by
      have b : (less1 o R).testBit (top o) = true := by rw [less1_keep (nb ho)]; exact top_bit (h.1 o ho)
      have z := ne_zero_of_bit b
      have b2 := top_bit z
      rcases Nat.lt_trichotomy (top (less1 o R)) (top o) with q | q | q
      · rw [above_top q] at b
        cases b
      · exact q
      · -- above the row's own greatest bit: less1 is not greater than o
        have lt : o < less1 o R := by
          refine lt_of_testBit' (top (less1 o R)) (above_top q) b2 fun j hj => ?_
          rw [above_top (Nat.lt_trans q hj), above_top hj]
        exact absurd (less1_le (x := o) (r := R)) (by omega)
    constructor
    · refine Red.perm (List.perm_append_comm (l₁ := [R])) ?_
      show Red (R :: kept.map fun o => less1 o R)
      refine Red.cons_iff.mpr ⟨hr, fun b hb => ?_, fun q hq => ?_, ?_⟩
      · obtain ⟨o, ho, rfl⟩ := List.mem_map.mp hb
        rw [tp ho]
        exact ⟨nb ho, less1_bit hr⟩
      · obtain ⟨o, ho, rfl⟩ := List.mem_map.mp hq
        exact ne_zero_of_bit (i := top o) (by rw [less1_keep (nb ho)]; exact top_bit (h.1 o ho))
      · rw [List.pairwise_map]
        refine List.Pairwise.imp_of_mem ?_ h.2
        intro a b ha hb ⟨q1, q2⟩
        rw [tp ha, tp hb, less1_keep (nb hb), less1_keep (nb ha)]
        exact ⟨q1, q2⟩
    · have sR : Span (row :: kept) R := by
        have s := lessened_span kept row
        rw [hR] at s
        have := span_xor _ (span_head (r := row) (l := kept)) (span_tail (r := row) s)
        rwa [← Nat.xor_assoc, Nat.xor_self, Nat.zero_xor] at this
      intro x
      refine span_eq (fun q hq => ?_) (fun q hq => ?_) x
      · rcases List.mem_append.mp hq with hq | hq
        · obtain ⟨o, ho, rfl⟩ := List.mem_map.mp hq
          unfold less1
          split
          · exact span_xor _ (span_tail (span_mem ho)) sR
          · exact span_tail (span_mem ho)
        · rw [List.mem_singleton.mp hq]
          exact sR
      · have sR' : Span (kept.map (fun o => less1 o R) ++ [R]) R := span_mem (List.mem_append_right _ (List.mem_singleton.mpr rfl))
        have sk : ∀ {o}, o ∈ kept → Span (kept.map (fun o => less1 o R) ++ [R]) o := fun {o} ho => by
          have s1 : Span (kept.map (fun o => less1 o R) ++ [R]) (less1 o R) := span_mem (List.mem_append_left _ (List.mem_map.mpr ⟨o, ho, rfl⟩))
          unfold less1 at s1
          split at s1
          · have := span_xor _ s1 sR'
            rwa [Nat.xor_assoc, Nat.xor_self, Nat.xor_zero] at this
          · exact s1
        rcases List.mem_cons.mp hq with rfl | hq
        · have s := lessened_span kept q
          rw [hR] at s
          have s2 := span_sub (fun o ho => sk ho) s
          have := span_xor _ s2 sR'
          rwa [Nat.xor_assoc, Nat.xor_self, Nat.xor_zero] at this
        · exact sk hq
  · rw [if_neg c]
    refine ⟨h, fun x => span_eq (fun q hq => span_tail (span_mem hq)) (fun q hq => ?_) x⟩
    rcases List.mem_cons.mp hq with rfl | hq
    · exact (lessened_zero h q).mp (by omega)
    · exact span_mem hq
theorem red_fold : ∀ (rows kept : List Nat), Red kept → Red (rows.foldl red1 kept) ∧ ∀ x, Span (rows.foldl red1 kept) x ↔ Span (rows ++ kept) x
  | [], kept, h => ⟨h, fun _ => Iff.rfl⟩
  | r :: rows, kept, h => by
    obtain ⟨a, b⟩ := red1_ok h r
    obtain ⟨c, d⟩ := red_fold rows (red1 kept r) a
    refine ⟨c, fun x => (d x).trans ?_⟩
    refine span_eq (fun q hq => ?_) (fun q hq => ?_) x
    · rcases List.mem_append.mp hq with hq | hq
      · exact span_mem (List.mem_append_left _ (List.mem_cons_of_mem _ hq))
      · refine span_sub (fun o ho => ?_) ((b q).mp (span_mem hq))
        rcases List.mem_cons.mp ho with rfl | ho
        · exact span_mem List.mem_cons_self
        · exact span_mem (List.mem_append_right _ ho)
    · rcases List.mem_append.mp hq with hq | hq
      · rcases List.mem_cons.mp hq with rfl | hq
        · exact span_sub (fun o ho => span_mem (List.mem_append_right _ ho)) ((b q).mpr span_head)
        · exact span_mem (List.mem_append_left _ hq)
      · exact span_sub (fun o ho => span_mem (List.mem_append_right _ ho)) ((b q).mpr (span_tail (span_mem hq)))

/-! ### in order: the reduced rows -/
/-- ascending and reduced -/
def Canon (l : List Nat) : Prop := Red l ∧ l.Pairwise (· < ·)
theorem top_lt_of_lt {a b : Nat} (ha : a ≠ 0) (hb : b ≠ 0) (h1 : a.testBit (top b) = false) (h : a < b) : top a < top b := by
  rcases Nat.lt_trichotomy (top a) (top b) with c | c | c
  · exact c
  · rw [← c, top_bit ha] at h1
    cases h1
  · have : b < a := lt_of_top (above_top c) (top_bit ha) fun j hj => by rw [above_top hj, above_top (Nat.lt_trans c hj)]
    omega
theorem lt_of_top_lt {a b : Nat} (h : top a < top b) : a < b := by
  have hb : b ≠ 0 := fun e => by
    rw [e] at h
    simp [top] at h
  exact lt_of_top (above_top h) (top_bit hb) fun j hj => by rw [above_top (Nat.lt_trans h hj), above_top hj]
/-- two that have equal spans are one -/
theorem Canon.ext : ∀ {l m : List Nat}, Canon l → Canon m → (∀ x, Span l x ↔ Span m x) → l = m := by
  intro l m hl hm e
  have mem : ∀ {l m : List Nat}, Canon l → Canon m → (∀ x, Span l x ↔ Span m x) → ∀ {r}, r ∈ l → r ∈ m := by
    intro l m hl hm e r hr
    obtain ⟨q, hq, ht⟩ := span_top hm.1 ((e r).mp (span_mem hr)) (hl.1.1 r hr)
    -- r and q have the same greatest bit; r ^^^ q has none of the greatest bits of m
    have pl := hl.1.2
    have key : r ^^^ q = 0 := by
      refine span_no_top hm.1 (span_xor _ ((e r).mp (span_mem hr)) (span_mem hq)) fun b hb => ?_
      rw [Nat.testBit_xor]
      by_cases hbq : top b = top q
      · have z1 : r.testBit (top b) = true := by rw [hbq, ht]; exact top_bit (hl.1.1 r hr)
        have z2 : q.testBit (top b) = true := by rw [hbq]; exact top_bit (hm.1.1 q hq)
        rw [z1, z2]; rfl
      · -- b's greatest bit is that of a row of l, which is not r
        obtain ⟨r', hr', ht'⟩ := span_top hl.1 ((e b).mpr (span_mem hb)) (hm.1.1 b hb)
        have n1 : r' ≠ r := fun z => hbq (by rw [← ht', z, ht])
        have z1 : r.testBit (top b) = false := by
          rw [← ht']
          have hp : ∀ {l : List Nat}, (l.Pairwise fun a b => a.testBit (top b) = false ∧ b.testBit (top a) = false) → r ∈ l → r' ∈ l → r.testBit (top r') = false := by
            intro l pl
            induction pl with
            | nil => intro h _; cases h
            | cons h p ih =>
              rename_i a l
              intro h1 h2
              rcases List.mem_cons.mp h1 with u1 | h1 <;> rcases List.mem_cons.mp h2 with u2 | h2
              · exact absurd (u2.trans u1.symm) n1
              · rw [u1]; exact (h _ h2).1
              · rw [u2]; exact (h _ h1).2
              · exact ih h1 h2
          exact hp pl hr hr'
        have z2 : q.testBit (top b) = false := by
          have n2 : b ≠ q := fun z => hbq (by rw [z])
          have hp : ∀ {l : List Nat}, (l.Pairwise fun a b => a.testBit (top b) = false ∧ b.testBit (top a) = false) → q ∈ l → b ∈ l → q.testBit (top b) = false := by
            intro l pl
            induction pl with
            | nil => intro h _; cases h
            | cons h p ih =>
              rename_i a l
              intro h1 h2
              rcases List.mem_cons.mp h1 with u1 | h1 <;> rcases List.mem_cons.mp h2 with u2 | h2
              · exact absurd (u2.trans u1.symm) n2
              · rw [u1]; exact (h _ h2).1
              · rw [u2]; exact (h _ h1).2
              · exact ih h1 h2
          exact hp hm.1.2 hq hb
        rw [z1, z2]; rfl
    have : r = q := by
      have := congrArg (· ^^^ q) key
      simp only [Nat.xor_assoc, Nat.xor_self, Nat.xor_zero, Nat.zero_xor] at this
      exact this
    rw [this]; exact hq
  have p : l.Perm m := by
    have nl : l.Nodup := hl.2.imp fun h => Nat.ne_of_lt h
    have nm : m.Nodup := hm.2.imp fun h => Nat.ne_of_lt h
    exact (List.perm_ext_iff_of_nodup nl nm).mpr fun r => ⟨fun h => mem hl hm e h, fun h => mem hm hl (fun x => (e x).symm) h⟩
  exact p.eq_of_pairwise (fun a b _ _ h1 h2 => by omega) hl.2 hm.2
/-! ### plus, and, exclusive or -/
theorem and2 (a b : Nat) : (a &&& b) % 2 = a % 2 * (b % 2) := by
  have h := @Nat.and_mod_two_pow a b 1
  rw [Nat.pow_one] at h
  rw [h]
  rcases Nat.mod_two_eq_zero_or_one a with x | x <;> rcases Nat.mod_two_eq_zero_or_one b with y | y <;> rw [x, y] <;> rfl
theorem xor2 (a b : Nat) : (a ^^^ b) % 2 = (a % 2 + b % 2) % 2 := by
  have h := @Nat.xor_mod_two_pow a b 1
  rw [Nat.pow_one] at h
  rw [h]
  rcases Nat.mod_two_eq_zero_or_one a with x | x <;> rcases Nat.mod_two_eq_zero_or_one b with y | y <;> rw [x, y] <;> rfl
theorem add_xor_and (a : Nat) : ∀ b, a + b = (a ^^^ b) + 2 * (a &&& b) := by
  induction a using Nat.strongRecOn with
  | ind a ih =>
    intro b
    by_cases h : a = 0
    · subst h; simp
    · have i := ih (a / 2) (by omega) (b / 2)
      have e1 : (a ^^^ b) / 2 = a / 2 ^^^ b / 2 := Nat.xor_div_two
      have e2 : (a &&& b) / 2 = a / 2 &&& b / 2 := Nat.and_div_two
      have f1 := xor2 a b
      have f2 := and2 a b
      rw [← e1, ← e2] at i
      generalize a ^^^ b = X at *
      generalize a &&& b = Y at *
      rcases Nat.mod_two_eq_zero_or_one a with x | x <;> rcases Nat.mod_two_eq_zero_or_one b with y | y <;> rw [x, y] at f1 f2 <;> omega
theorem foldl_take {α β : Type} {f : β → α → β} {b : β} {l : List α} {i : Nat} {x : α} (h : l[i]? = some x) : (l.take (i + 1)).foldl f b = f ((l.take i).foldl f b) x := by
  rw [List.take_add_one, h, List.foldl_append]
  rfl
end Xr

/-! Integers that meet others evenly: what a space leaves open of an age. Core Lean alone. -/
set_option autoImplicit false
set_option linter.unusedVariables false
namespace Xr
/-! ### parity of the bits -/
def popc (n : Nat) : Nat := if h : n = 0 then 0 else n % 2 + popc (n / 2)
decreasing_by omega
theorem popc_zero : popc 0 = 0 := by rw [popc]; rfl
theorem popc_pos {n : Nat} (h : n ≠ 0) : popc n = n % 2 + popc (n / 2) := by rw [popc, dif_neg h]
theorem popc_eq (n : Nat) : popc n = n % 2 + popc (n / 2) := by
  by_cases h : n = 0
  · subst h; rw [popc_zero]
  · exact popc_pos h
def par (n : Nat) : Bool := popc n % 2 == 1
theorem par_zero : par 0 = false := by rw [par, popc_zero]; rfl
theorem bne2 {a b : Nat} : ((a + b) % 2 == 1) = ((a % 2 == 1) != (b % 2 == 1)) := by
  rcases Nat.mod_two_eq_zero_or_one a with x | x <;> rcases Nat.mod_two_eq_zero_or_one b with y | y
  · rw [show (a + b) % 2 = 0 by omega, x, y]; rfl
  · rw [show (a + b) % 2 = 1 by omega, x, y]; rfl
  · rw [show (a + b) % 2 = 1 by omega, x, y]; rfl
  · rw [show (a + b) % 2 = 0 by omega, x, y]; rfl
theorem par_eq (n : Nat) : par n = ((n % 2 == 1) != par (n / 2)) := by
  unfold par
  rw [popc_eq n, bne2]
  have : n % 2 % 2 = n % 2 := Nat.mod_mod n 2
  rw [this]
theorem par_xor (x : Nat) : ∀ y, par (x ^^^ y) = (par x != par y) := by
  induction x using Nat.strongRecOn with
  | ind x ih =>
    intro y
    by_cases h : x = 0
    · subst h
      rw [Nat.zero_xor, par_zero]
      cases par y <;> rfl
    · rw [par_eq (x ^^^ y), par_eq x, par_eq y, Nat.xor_div_two, ih (x / 2) (by omega), xor2, bne2]
      have a : x % 2 % 2 = x % 2 := Nat.mod_mod x 2
      have b : y % 2 % 2 = y % 2 := Nat.mod_mod y 2
      rw [a, b]
      cases (x % 2 == 1) <;> cases (y % 2 == 1) <;> cases par (x / 2) <;> cases par (y / 2) <;> rfl
theorem par_pow : ∀ i : Nat, par (2 ^ i) = true
  | 0 => by rw [par_eq]; rw [show (2 ^ 0) / 2 = 0 from rfl, par_zero]; rfl
  | i + 1 => by
    rw [par_eq, show 2 ^ (i + 1) / 2 = 2 ^ i by rw [Nat.pow_succ]; omega, par_pow i, show 2 ^ (i + 1) % 2 = 0 by rw [Nat.pow_succ]; omega]
    rfl
/-- the two meet evenly -/
def Ev (m x : Nat) : Prop := par (m &&& x) = false
theorem Ev.zero (m : Nat) : Ev m 0 := by unfold Ev; rw [Nat.and_zero, par_zero]
theorem Ev.zeroL (x : Nat) : Ev 0 x := by unfold Ev; rw [Nat.zero_and, par_zero]
theorem Ev.xor {m x y : Nat} (a : Ev m x) (b : Ev m y) : Ev m (x ^^^ y) := by
  unfold Ev at *
  rw [Nat.and_xor_distrib_left, par_xor, a, b]; rfl
theorem Ev.xorL {m n x : Nat} (a : Ev m x) (b : Ev n x) : Ev (m ^^^ n) x := by
  unfold Ev at *
  rw [Nat.and_xor_distrib_right, par_xor, a, b]; rfl
theorem Ev.comm {m x : Nat} (a : Ev m x) : Ev x m := by unfold Ev at *; rw [Nat.and_comm]; exact a
theorem Ev.span {m : Nat} {l : List Nat} (h : ∀ r ∈ l, Ev m r) {x : Nat} (hx : Span l x) : Ev m x :=
  span_least (S := Ev m) (Ev.zero m) (fun _ _ a b => a.xor b) h hx
theorem and_pow {m i : Nat} : m &&& 2 ^ i = if m.testBit i then 2 ^ i else 0 := by
  refine Nat.eq_of_testBit_eq fun j => ?_
  rw [Nat.testBit_and, Nat.testBit_two_pow]
  by_cases h : i = j
  · subst h
    cases hm : m.testBit i
    · simp
    · simp
  · simp only [h, decide_false, Bool.and_false]
    split
    · rw [Nat.testBit_two_pow]; simp [h]
    · simp
theorem ev_pow {m i : Nat} : Ev m (2 ^ i) ↔ m.testBit i = false := by
  unfold Ev
  rw [and_pow]
  cases m.testBit i
  · simp [par_zero]
  · simp [par_pow]
/-! ### sums of unlike powers of two -/
theorem add_eq_xor {a b : Nat} (h : a &&& b = 0) : a + b = a ^^^ b := by
  have := add_xor_and a b
  rw [h] at this
  omega
theorem pow_add {s t : Nat} (h : s.testBit t = false) : 2 ^ t + s = 2 ^ t ^^^ s := add_eq_xor (by
  rw [Nat.and_comm, and_pow, h]; rfl)
theorem sum_pow : ∀ {ts : List Nat}, ts.Nodup → ∀ j, ((ts.map (2 ^ ·)).sum).testBit j = decide (j ∈ ts)
  | [], _, j => by simp
  | t :: ts, h, j => by
    rw [List.nodup_cons] at h
    have ih := sum_pow h.2
    rw [List.map_cons, List.sum_cons, pow_add (by rw [ih]; simp [h.1]), Nat.testBit_xor, ih, Nat.testBit_two_pow]
    by_cases e : t = j
    · subst e; simp [h.1]
    · have e' : ¬ j = t := fun z => e z.symm
      simp [e, e']
/-! ### what the rows leave open -/
/-- the row of a free bit -/
def evenRow (rows : List Nat) (b : Nat) : Nat := 2 ^ b + ((rows.filter fun r => r.testBit b).map fun r => 2 ^ top r).sum
def frees (rows : List Nat) (n : Nat) : List Nat := (List.range n).filter fun b => !(rows.map top).contains b
def evens (rows : List Nat) (n : Nat) : List Nat := (frees rows n).map (evenRow rows)
theorem Red.inj {l : List Nat} (h : Red l) : ∀ {a b : Nat}, a ∈ l → b ∈ l → a.testBit (top b) = true → a = b := by
  intro a b ha hb hab
  have p := h.2
  clear h
  induction p with
  | nil => cases ha
  | cons q p ih =>
    rcases List.mem_cons.mp ha with u1 | h1 <;> rcases List.mem_cons.mp hb with u2 | h2
    · rw [u1, u2]
    · rw [u1, (q _ h2).1] at hab; cases hab
    · rw [u2, (q _ h1).2] at hab; cases hab
    · exact ih h1 h2
theorem Red.nodup {l : List Nat} (h : Red l) : l.Nodup := by
  have h1 := h.1
  have p := h.2
  clear h
  induction p with
  | nil => exact .nil
  | cons q p ih =>
    rename_i a l
    refine List.nodup_cons.mpr ⟨fun hm => ?_, ih fun r hr => h1 r (List.mem_cons_of_mem _ hr)⟩
    have := (q a hm).1
    rw [top_bit (h1 a List.mem_cons_self)] at this
    cases this
theorem Red.tops_nodup {l : List Nat} (h : Red l) {p : Nat → Bool} : ((l.filter p).map top).Nodup := by
  refine List.nodup_iff_pairwise_ne.mpr ?_
  rw [List.pairwise_map]
  refine List.Pairwise.imp_of_mem ?_ (List.nodup_iff_pairwise_ne.mp (h.nodup.filter p))
  intro a b ha hb hne e
  refine hne (h.inj (List.mem_filter.mp ha).1 (List.mem_filter.mp hb).1 ?_)
  rw [← e]
  exact top_bit (h.1 a (List.mem_filter.mp ha).1)
theorem evenRow_bit {rows : List Nat} (h : Red rows) {b : Nat} (hb : ∀ r ∈ rows, top r ≠ b) (j : Nat) :
    (evenRow rows b).testBit j = (decide (j = b) || decide (∃ r ∈ rows, r.testBit b = true ∧ top r = j)) := by
  unfold evenRow
  have e : ((rows.filter fun r : Nat => r.testBit b).map fun r => 2 ^ top r) = (((rows.filter fun r : Nat => r.testBit b).map top).map (2 ^ ·)) := by rw [List.map_map]; rfl
  have sb : ∀ j : Nat, ((rows.filter fun r : Nat => r.testBit b).map fun r => 2 ^ top r).sum.testBit j = decide (∃ r ∈ rows, r.testBit b = true ∧ top r = j) := fun j => by
    rw [e, sum_pow h.tops_nodup]
    refine decide_eq_decide.mpr ?_
    constructor
    · intro hm
      obtain ⟨r, hr, e⟩ := List.mem_map.mp hm
      exact ⟨r, (List.mem_filter.mp hr).1, (List.mem_filter.mp hr).2, e⟩
    · rintro ⟨r, hr, q, e⟩
      exact List.mem_map.mpr ⟨r, List.mem_filter.mpr ⟨hr, q⟩, e⟩
  rw [pow_add (by rw [sb]; refine decide_eq_false ?_; rintro ⟨r, hr, _, e⟩; exact hb r hr e), Nat.testBit_xor, sb, Nat.testBit_two_pow]
  by_cases hj : j = b
  · subst hj
    have : ¬ ∃ r ∈ rows, r.testBit j = true ∧ top r = j := by rintro ⟨r, hr, _, e⟩; exact hb r hr e
    simp [this]
  · have hj' : ¬ b = j := fun z => hj z.symm
    simp [hj, hj']
theorem mem_frees {rows : List Nat} {n b : Nat} : b ∈ frees rows n ↔ b < n ∧ ∀ r ∈ rows, top r ≠ b := by
  unfold frees
  rw [List.mem_filter, List.mem_range]
  simp
/-- an even row meets each row evenly -/
theorem evenRow_ev {rows : List Nat} (h : Red rows) {b : Nat} (hb : ∀ r ∈ rows, top r ≠ b) {r : Nat} (hr : r ∈ rows) : Ev (evenRow rows b) r := by
  have key : evenRow rows b &&& r = if r.testBit b then 2 ^ b ^^^ 2 ^ top r else 0 := by
    refine Nat.eq_of_testBit_eq fun j => ?_
    rw [Nat.testBit_and, evenRow_bit h hb]
    by_cases c : r.testBit b = true
    · rw [if_pos c, Nat.testBit_xor, Nat.testBit_two_pow, Nat.testBit_two_pow]
      by_cases j1 : j = b
      · subst j1
        have : ¬ top r = j := hb r hr
        simp [c, this]
      · by_cases j2 : top r = j
        · subst j2
          have e : ∃ q ∈ rows, q.testBit b = true ∧ top q = top r := ⟨r, hr, c, rfl⟩
          have j1' : ¬ b = top r := fun z => j1 z.symm
          simp [e, top_bit (h.1 r hr), j1, j1']
        · have j1' : ¬ b = j := fun z => j1 z.symm
          simp only [j1, j1', j2, decide_false, Bool.false_or, bne_self_eq_false]
          cases hh : r.testBit j with
          | false => rw [Bool.and_false]
          | true =>
            rw [Bool.and_true]
            refine decide_eq_false ?_
            rintro ⟨q, hq, _, e⟩
            rw [← e] at hh
            exact j2 (by rw [h.inj hr hq hh]; exact e)
    · rw [if_neg c]
      simp only [Nat.zero_testBit, Bool.and_eq_false_iff]
      by_cases hh : r.testBit j = true
      · left
        have j1 : ¬ j = b := fun z => c (by rw [← z]; exact hh)
        have j2 : ¬ ∃ q ∈ rows, q.testBit b = true ∧ top q = j := by
          rintro ⟨q, hq, z, e⟩
          rw [← e] at hh
          exact c (by rw [h.inj hr hq hh]; exact z)
        simp [j1, j2]
      · right
        simpa using hh
  unfold Ev
  rw [key]
  split
  · rw [par_xor, par_pow, par_pow]; rfl
  · exact par_zero
theorem lt_of_bits {x n : Nat} (h : ∀ j, n ≤ j → x.testBit j = false) : x < 2 ^ n := Nat.lt_pow_two_of_testBit x fun j hj => h j hj
theorem top_lt {r n : Nat} (h : r < 2 ^ n) (h0 : r ≠ 0) : top r < n := by
  rcases Nat.lt_or_ge (top r) n with c | c
  · exact c
  · have := Nat.testBit_lt_two_pow (x := r) (Nat.lt_of_lt_of_le h (Nat.pow_le_pow_right (by decide) c))
    rw [top_bit h0] at this
    cases this
theorem evenRow_lt {rows : List Nat} (h : Red rows) {b n : Nat} (hb : ∀ r ∈ rows, top r ≠ b) (hn : b < n) (hr : ∀ r ∈ rows, r < 2 ^ n) : evenRow rows b < 2 ^ n :=
  lt_of_bits fun j hj => by
    rw [evenRow_bit h hb]
    have j1 : ¬ j = b := by omega
    have j2 : ¬ ∃ q ∈ rows, q.testBit b = true ∧ top q = j := by
      rintro ⟨q, hq, _, e⟩
      have := top_lt (hr q hq) (h.1 q hq)
      omega
    simp [j1, j2]
/-- evenly with all rows, and no free bit: nothing -/
theorem no_free {rows : List Nat} (h : Red rows) {n m : Nat} (hm : m < 2 ^ n) (he : ∀ r ∈ rows, Ev m r) (hf : ∀ b ∈ frees rows n, m.testBit b = false) : m = 0 := by
  refine Nat.eq_of_testBit_eq fun j => ?_
  rw [Nat.zero_testBit]
  rcases Nat.lt_or_ge j n with c | c
  · by_cases ht : ∃ r ∈ rows, top r = j
    · obtain ⟨r, hr, e⟩ := ht
      have key : m &&& r = if m.testBit j then 2 ^ j else 0 := by
        refine Nat.eq_of_testBit_eq fun i => ?_
        rw [Nat.testBit_and]
        by_cases hi : i = j
        · subst hi
          have : r.testBit i = true := by rw [← e]; exact top_bit (h.1 r hr)
          rw [this, Bool.and_true]
          cases hmi : m.testBit i
          · simp
          · simp [Nat.testBit_two_pow]
        · have z : (m.testBit i && r.testBit i) = false := by
            cases hmi : m.testBit i with
            | false => rfl
            | true =>
              cases hri : r.testBit i with
              | false => rfl
              | true =>
                -- i is no free bit, so a row's greatest; r has it: it is r's own
                exfalso
                have ii : i < n := by
                  rcases Nat.lt_or_ge i n with d | d
                  · exact d
                  · rw [Nat.testBit_lt_two_pow (Nat.lt_of_lt_of_le hm (Nat.pow_le_pow_right (by decide) d))] at hmi
                    cases hmi
                by_cases hfree : ∀ q ∈ rows, top q ≠ i
                · rw [hf i (mem_frees.mpr ⟨ii, hfree⟩)] at hmi
                  cases hmi
                · refine hfree fun q hq eq => ?_
                  rw [← eq] at hri
                  have := h.inj hr hq hri
                  exact hi (by rw [← eq, ← this]; exact e)
          rw [z]
          split
          · rw [Nat.testBit_two_pow]
            have : ¬ j = i := fun z => hi z.symm
            simp [this]
          · simp
      have ev := he r hr
      unfold Ev at ev
      rw [key] at ev
      cases hmj : m.testBit j with
      | false => rfl
      | true =>
        rw [hmj, if_pos rfl, par_pow] at ev
        cases ev
    · exact hf j (mem_frees.mpr ⟨c, fun r hr e => ht ⟨r, hr, e⟩⟩)
  · exact Nat.testBit_lt_two_pow (Nat.lt_of_lt_of_le hm (Nat.pow_le_pow_right (by decide) c))
theorem evens_span {rows : List Nat} (h : Red rows) {n : Nat} (hn : ∀ r ∈ rows, r < 2 ^ n) (m : Nat) : Span (evens rows n) m ↔ m < 2 ^ n ∧ ∀ r ∈ rows, Ev m r := by
  constructor
  · intro hm
    refine span_least (S := fun m => m < 2 ^ n ∧ ∀ r ∈ rows, Ev m r) ⟨Nat.two_pow_pos n, fun r _ => Ev.zeroL r⟩ (fun x y a b => ⟨Nat.xor_lt_two_pow a.1 b.1, fun r hr => (a.2 r hr).xorL (b.2 r hr)⟩) (fun e he => ?_) hm
    obtain ⟨b, hb, rfl⟩ := List.mem_map.mp he
    obtain ⟨h1, h2⟩ := mem_frees.mp hb
    exact ⟨evenRow_lt h h2 h1 hn, fun r hr => evenRow_ev h h2 hr⟩
  · rintro ⟨hm, he⟩
    have key : ∀ (fs : List Nat), (∀ b ∈ fs, b ∈ frees rows n) → ∀ m, m < 2 ^ n → (∀ r ∈ rows, Ev m r) → (∀ b ∈ frees rows n, m.testBit b = true → b ∈ fs) → Span (fs.map (evenRow rows)) m := by
      intro fs
      induction fs with
      | nil =>
        intro _ m hm he hf
        have : m = 0 := no_free h hm he fun b hb => by
          cases q : m.testBit b with
          | false => rfl
          | true => cases hf b hb q
        rw [this]
        exact span_zero _
      | cons b fs ih =>
        intro hfs m hm he hf
        have hb := hfs b List.mem_cons_self
        obtain ⟨b1, b2⟩ := mem_frees.mp hb
        have hfs' : ∀ c ∈ fs, c ∈ frees rows n := fun c hc => hfs c (List.mem_cons_of_mem _ hc)
        have eb : ∀ c ∈ frees rows n, (evenRow rows b).testBit c = decide (c = b) := fun c hc => by
          rw [evenRow_bit h b2]
          have : ¬ ∃ q ∈ rows, q.testBit b = true ∧ top q = c := by
            rintro ⟨q, hq, _, e⟩
            exact (mem_frees.mp hc).2 q hq e
          simp [this]
        by_cases q : m.testBit b = true
        · refine .inr (ih hfs' _ (Nat.xor_lt_two_pow hm (evenRow_lt h b2 b1 hn)) (fun r hr => (he r hr).xorL (evenRow_ev h b2 hr)) fun c hc z => ?_)
          rw [Nat.testBit_xor, eb c hc] at z
          by_cases cb : c = b
          · subst cb
            rw [q] at z
            simp at z
          · simp [cb] at z
            rcases List.mem_cons.mp (hf c hc z) with d | d
            · exact absurd d cb
            · exact d
        · refine .inl (ih hfs' m hm he fun c hc z => ?_)
          rcases List.mem_cons.mp (hf c hc z) with d | d
          · rw [d] at z
            exact absurd z q
          · exact d
    exact key _ (fun _ hb => hb) m hm he fun b hb _ => hb
/-- an age is told exactly if nothing shows it missed -/
theorem told_iff {rows : List Nat} (h : Red rows) {n : Nat} (hn : ∀ r ∈ rows, r < 2 ^ n) {age : Nat} (ha : age < n) : Span rows (2 ^ age) ↔ ∀ m, m < 2 ^ n → (∀ r ∈ rows, Ev m r) → m.testBit age = false := by
  constructor
  · intro hs m hm he
    exact ev_pow.mp (Ev.span he hs)
  · intro hno
    -- the age is no free bit, so it is a row's greatest one, and this row has no other bit
    have hE : ∀ b, b ∈ frees rows n → (evenRow rows b).testBit age = false := fun b hb => by
      obtain ⟨b1, b2⟩ := mem_frees.mp hb
      exact hno _ (evenRow_lt h b2 b1 hn) fun r hr => evenRow_ev h b2 hr
    have nf : ¬ age ∈ frees rows n := fun hf => by
      have := hE age hf
      rw [evenRow_bit h (mem_frees.mp hf).2] at this
      simp at this
    have ht : ∃ r ∈ rows, top r = age := by
      refine Classical.byContradiction fun hc => nf (mem_frees.mpr ⟨ha, fun r hr e => hc ⟨r, hr, e⟩⟩)
    obtain ⟨r, hr, e⟩ := ht
    have : r = 2 ^ age := by
      refine Nat.eq_of_testBit_eq fun j => ?_
      rw [Nat.testBit_two_pow]
      by_cases hj : age = j
      · subst hj
        rw [← e, top_bit (h.1 r hr)]
        simp
      · simp only [hj, decide_false]
        cases q : r.testBit j with
        | false => rfl
        | true =>
          exfalso
          have jn : j < n := by
            rcases Nat.lt_or_ge j n with d | d
            · exact d
            · rw [Nat.testBit_lt_two_pow (Nat.lt_of_lt_of_le (hn r hr) (Nat.pow_le_pow_right (by decide) d))] at q
              cases q
          by_cases hf : ∀ q ∈ rows, top q ≠ j
          · have := hE j (mem_frees.mpr ⟨jn, hf⟩)
            rw [evenRow_bit h hf] at this
            have z : ∃ q ∈ rows, q.testBit j = true ∧ top q = age := ⟨r, hr, q, e⟩
            simp [z] at this
          · refine hf fun p hp ep => ?_
            rw [← ep] at q
            have := h.inj hr hp q
            exact hj (by rw [← e, ← ep, this])
    rw [← this]
    exact span_mem hr
/-! ### the least of what lessened can reach -/
theorem lessened_least {l : List Nat} (h : Red l) {x s : Nat} (hs : Span l s) : lessened x l ≤ x ^^^ s := by
  have q := lessened_span l x
  generalize hy : lessened x l = y at *
  have ts : Span l (x ^^^ y ^^^ s) := span_xor _ q hs
  generalize ht : x ^^^ y ^^^ s = t at *
  have e : x ^^^ s = y ^^^ t := by
    rw [← ht, Nat.xor_assoc x y s, Nat.xor_comm y s, ← Nat.xor_assoc x s y, Nat.xor_comm y, Nat.xor_assoc (x ^^^ s) y y, Nat.xor_self, Nat.xor_zero]
  rw [e]
  by_cases h0 : t = 0
  · rw [h0, Nat.xor_zero]; exact Nat.le_refl _
  · obtain ⟨r, hr, er⟩ := span_top h ts h0
    have b1 : y.testBit (top t) = false := by rw [← er, ← hy]; exact lessened_bit h x hr
    refine Nat.le_of_lt (lt_of_testBit' (top t) b1 (by rw [Nat.testBit_xor, b1, top_bit h0]; rfl) fun j hj => ?_)
    rw [Nat.testBit_xor, above_top hj, Bool.xor_false]
/-! ### those with a bit, and those without -/
def cutBit (age h e : Nat) : Nat := if e.testBit age then e ^^^ h else e
theorem cut_span {age h : Nat} (hh : h.testBit age = true) : ∀ (E : List Nat) {x : Nat}, Span E x → if x.testBit age then Span (E.map (cutBit age h)) (x ^^^ h) else Span (E.map (cutBit age h)) x
  | [], x, hx => by
    have hx : x = 0 := hx
    subst hx
    rw [if_neg (by simp)]
    rfl
  | e :: E, x, hx => by
    rcases hx with hx | hx
    · have := cut_span hh E hx
      split at this
      · rename_i c; rw [if_pos c]; exact .inl this
      · rename_i c; rw [if_neg c]; exact .inl this
    · have ih := cut_span hh E hx
      rw [Nat.testBit_xor] at ih
      cases ce : e.testBit age with
      | false =>
        rw [ce, Bool.xor_false] at ih
        have ec : cutBit age h e = e := by unfold cutBit; rw [ce]; rfl
        cases cx : x.testBit age with
        | true =>
          rw [cx, if_pos rfl] at ih
          rw [if_pos rfl]
          refine .inr ?_
          show Span (E.map (cutBit age h)) (x ^^^ h ^^^ cutBit age h e)
          rw [ec, xor_right_comm]
          exact ih
        | false =>
          rw [cx, if_neg Bool.false_ne_true] at ih
          rw [if_neg Bool.false_ne_true]
          refine .inr ?_
          show Span (E.map (cutBit age h)) (x ^^^ cutBit age h e)
          rw [ec]
          exact ih
      | true =>
        rw [ce] at ih
        have ec : cutBit age h e = e ^^^ h := by unfold cutBit; rw [ce]; rfl
        cases cx : x.testBit age with
        | true =>
          rw [cx] at ih
          rw [if_neg (by decide)] at ih
          rw [if_pos rfl]
          refine .inr ?_
          show Span (E.map (cutBit age h)) (x ^^^ h ^^^ cutBit age h e)
          rw [ec, Nat.xor_comm e h, ← Nat.xor_assoc, Nat.xor_assoc x h h, Nat.xor_self, Nat.xor_zero]
          exact ih
        | false =>
          rw [cx] at ih
          rw [if_pos (by decide)] at ih
          rw [if_neg Bool.false_ne_true]
          refine .inr ?_
          show Span (E.map (cutBit age h)) (x ^^^ cutBit age h e)
          rw [ec, ← Nat.xor_assoc]
          exact ih
/-- the least integer that meets all numbers evenly and has the age; none if no such has it -/
def Least (nums : List Nat) (age : Nat) : Option Nat → Prop
  | none => ∀ m, m < 2 ^ 16 → (∀ x ∈ nums, Ev m x) → m.testBit age = false
  | some m => m < 2 ^ 16 ∧ (∀ x ∈ nums, Ev m x) ∧ m.testBit age = true ∧ ∀ n, n < 2 ^ 16 → (∀ x ∈ nums, Ev n x) → n.testBit age = true → m ≤ n
theorem Least.uniq {nums : List Nat} {age : Nat} {a b : Option Nat} (ha : Least nums age a) (hb : Least nums age b) : a = b := by
  cases a with
  | none =>
    cases b with
    | none => rfl
    | some m => have := ha m hb.1 hb.2.1; rw [hb.2.2.1] at this; cases this
  | some m =>
    cases b with
    | none => have := hb m ha.1 ha.2.1; rw [ha.2.2.1] at this; cases this
    | some n => rw [Nat.le_antisymm (ha.2.2.2 n hb.1 hb.2.1 hb.2.2.1) (hb.2.2.2 m ha.1 ha.2.1 ha.2.2.1)]
theorem ev_of_span {l m : List Nat} (h : ∀ x, Span l x ↔ Span m x) {k : Nat} (e : ∀ x ∈ l, Ev k x) : ∀ x ∈ m, Ev k x := fun x hx => Ev.span e ((h x).mpr (span_mem hx))
theorem Least.span {l m : List Nat} (h : ∀ x, Span l x ↔ Span m x) {age : Nat} {o : Option Nat} (a : Least l age o) : Least m age o := by
  have h' : ∀ x, Span m x ↔ Span l x := fun x => (h x).symm
  cases o with
  | none => exact fun k hk e => a k hk (ev_of_span h' e)
  | some k => exact ⟨a.1, ev_of_span h a.2.1, a.2.2.1, fun n hn e b => a.2.2.2 n hn (ev_of_span h' e) b⟩
/-- what missed does -/
theorem missed_none {rows : List Nat} (h : Red rows) (hn : ∀ r ∈ rows, r < 2 ^ 16) {age : Nat} (he : (evens rows 16).filter (fun e => e.testBit age) = []) : Least rows age none := by
  intro m hm hev
  have hs := (evens_span h hn m).mpr ⟨hm, hev⟩
  have hno : ∀ e ∈ evens rows 16, e.testBit age = false := fun e hm => by
    cases q : e.testBit age with
    | false => rfl
    | true =>
      have : e ∈ (evens rows 16).filter (fun e => e.testBit age) := List.mem_filter.mpr ⟨hm, q⟩
      rw [he] at this
      cases this
  exact span_least (S := fun m => m.testBit age = false) (by simp) (fun x y a b => by rw [Nat.testBit_xor, a, b]; rfl) hno hs
theorem missed_some {rows : List Nat} (h : Red rows) (hn : ∀ r ∈ rows, r < 2 ^ 16) {age x : Nat} (hx : x ∈ evens rows 16) (hb : x.testBit age = true) {W : List Nat} (hW : Red W) (hs : ∀ y, Span W y ↔ Span ((evens rows 16).map (cutBit age x)) y) :
    Least rows age (some (lessened x W)) := by
  have xs : Span (evens rows 16) x := span_mem hx
  have wE : ∀ {y}, Span W y → Span (evens rows 16) y ∧ y.testBit age = false := fun {y} hy => by
    refine span_least (S := fun y => Span (evens rows 16) y ∧ y.testBit age = false) ⟨span_zero _, by simp⟩ (fun a b p q => ⟨span_xor _ p.1 q.1, by rw [Nat.testBit_xor, p.2, q.2]; rfl⟩) (fun r hr => ?_) ((hs y).mp hy)
    obtain ⟨e, he, rfl⟩ := List.mem_map.mp hr
    unfold cutBit
    split
    · rename_i c
      exact ⟨span_xor _ (span_mem he) xs, by rw [Nat.testBit_xor, c, hb]; rfl⟩
    · rename_i c
      exact ⟨span_mem he, by simpa using c⟩
  have sp := lessened_span W x
  obtain ⟨d1, d2⟩ := wE sp
  generalize hy : lessened x W = y at *
  have yE : Span (evens rows 16) y := by
    have := span_xor _ xs d1
    rwa [← Nat.xor_assoc, Nat.xor_self, Nat.zero_xor] at this
  have yb : y.testBit age = true := by
    rw [Nat.testBit_xor, hb] at d2
    cases q : y.testBit age with
    | true => rfl
    | false => rw [q] at d2; cases d2
  obtain ⟨y1, y2⟩ := (evens_span h hn y).mp yE
  refine ⟨y1, y2, yb, fun n h1 h2 h3 => ?_⟩
  have nE := (evens_span h hn n).mpr ⟨h1, h2⟩
  have c := cut_span (h := x) hb (evens rows 16) nE
  rw [if_pos h3] at c
  have := lessened_least hW (x := x) ((hs _).mpr c)
  rw [hy, Nat.xor_comm n x, ← Nat.xor_assoc, Nat.xor_self, Nat.zero_xor] at this
  exact this
end Xr

/-! The greedy search for the least such integer, and the plain one. Core Lean alone. -/
set_option autoImplicit false
set_option linter.unusedVariables false
namespace Xr
/-! ### barred -/
noncomputable def odd1 (n fixed : Nat) : Nat := if par (n &&& fixed) then 1 else 0
noncomputable def lift (free fixed n : Nat) : Nat := 2 * (n &&& free) + odd1 n fixed
def Barred (nums : List Nat) (free fixed : Nat) : Prop := Span (nums.map (lift free fixed)) 1
theorem odd1_lt (n f : Nat) : odd1 n f < 2 := by unfold odd1; split <;> decide
theorem lift_ev {m free fixed n : Nat} (hm : m % 2 = 1) : Ev m (lift free fixed n) ↔ par ((m / 2) &&& (n &&& free)) = par (n &&& fixed) := by
  have o := odd1_lt n fixed
  unfold Ev
  rw [par_eq, and2, Nat.and_div_two, hm]
  have e1 : lift free fixed n % 2 = odd1 n fixed := by unfold lift; omega
  have e2 : lift free fixed n / 2 = n &&& free := by unfold lift; omega
  rw [e1, e2]
  unfold odd1
  cases par (n &&& fixed) <;> cases par (m / 2 &&& (n &&& free)) <;> decide
theorem barred_iff {nums : List Nat} {free fixed : Nat} (hf : free < 2 ^ 16) : ¬ Barred nums free fixed ↔ ∃ f, (∀ j, f.testBit j = true → free.testBit j = true) ∧ ∀ n ∈ nums, Ev (fixed ^^^ f) n := by
  have ev_iff : ∀ {f n : Nat}, Ev (fixed ^^^ f) n ↔ par (f &&& n) = par (n &&& fixed) := fun {f n} => by
    unfold Ev
    rw [Nat.and_xor_distrib_right, par_xor, Nat.and_comm fixed n]
    cases par (n &&& fixed) <;> cases par (f &&& n) <;> decide
  constructor
  · intro hb
    obtain ⟨hr, hs⟩ := red_fold (nums.map (lift free fixed)) [] Red.nil
    rw [List.append_nil] at hs
    have hlt : ∀ r ∈ (nums.map (lift free fixed)).foldl red1 [], r < 2 ^ 17 := fun r hr => by
      refine span_least (S := fun x => x < 2 ^ 17) (by decide) (fun x y a b => Nat.xor_lt_two_pow a b) (fun q hq => ?_) ((hs r).mp (span_mem hr))
      obtain ⟨n, _, rfl⟩ := List.mem_map.mp hq
      have o := odd1_lt n fixed
      have : n &&& free < 2 ^ 16 := Nat.lt_of_le_of_lt Nat.and_le_right hf
      unfold lift
      omega
    have ht := fun z => hb ((hs 1).mp ((told_iff hr hlt (age := 0) (by decide)).mpr z))
    have : ∃ m, m < 2 ^ 17 ∧ (∀ r ∈ (nums.map (lift free fixed)).foldl red1 [], Ev m r) ∧ m.testBit 0 = true := Classical.byContradiction fun hc => ht fun m h1 h2 => by
      cases q : m.testBit 0 with
      | false => rfl
      | true => exact absurd ⟨m, h1, h2, q⟩ hc
    obtain ⟨m, _, h2, h3⟩ := this
    have m2 : m % 2 = 1 := by
      rw [Nat.testBit_zero] at h3
      simpa using h3
    refine ⟨(m / 2) &&& free, fun j hj => ?_, fun n hn => ?_⟩
    · rw [Nat.testBit_and] at hj
      exact (Bool.and_eq_true_iff.mp hj).2
    · have e : Ev m (lift free fixed n) := Ev.span h2 ((hs _).mpr (span_mem (List.mem_map.mpr ⟨n, hn, rfl⟩)))
      rw [lift_ev m2] at e
      rw [ev_iff, ← e, Nat.and_assoc, Nat.and_comm free n]
  · rintro ⟨f, h1, h2⟩ hb
    have m2 : (2 * f + 1) % 2 = 1 := by omega
    have : Ev (2 * f + 1) 1 := by
      refine Ev.span (fun u hu => ?_) hb
      obtain ⟨n, hn, rfl⟩ := List.mem_map.mp hu
      rw [lift_ev m2, show (2 * f + 1) / 2 = f by omega]
      have ff : f &&& (n &&& free) = f &&& n := by
        refine Nat.eq_of_testBit_eq fun j => ?_
        rw [Nat.testBit_and, Nat.testBit_and, Nat.testBit_and]
        cases q : f.testBit j with
        | false => rfl
        | true => rw [h1 j q, Bool.and_true]
      rw [ff]
      exact ev_iff.mp (h2 n hn)
    have z := (ev_pow (i := 0)).mp this
    rw [Nat.testBit_zero] at z
    simp at z
/-! ### bits taken out, put in -/
theorem sub_pow {a j : Nat} (h : a.testBit j = true) : a - 2 ^ j = a ^^^ 2 ^ j := by
  have z : (a ^^^ 2 ^ j).testBit j = false := by rw [Nat.testBit_xor, h, Nat.testBit_two_pow]; simp
  have := pow_add z
  rw [Nat.xor_comm a, ← Nat.xor_assoc, Nat.xor_self, Nat.zero_xor] at this
  rw [Nat.xor_comm a]
  omega
theorem add_pow {a j : Nat} (h : a.testBit j = false) : a + 2 ^ j = a ^^^ 2 ^ j := by
  rw [Nat.add_comm, pow_add h, Nat.xor_comm]
theorem bit_xor_pow {a j i : Nat} : (a ^^^ 2 ^ j).testBit i = if j = i then !a.testBit i else a.testBit i := by
  rw [Nat.testBit_xor, Nat.testBit_two_pow]
  by_cases h : j = i
  · simp [h]
  · simp [h]
theorem div_step (x j : Nat) : x / 2 ^ j = 2 * (x / 2 ^ (j + 1)) + (if x.testBit j then 1 else 0) := by
  have e : x / 2 ^ (j + 1) = x / 2 ^ j / 2 := by rw [Nat.pow_succ, Nat.div_div_eq_div_mul]
  rw [e, Nat.testBit_eq_decide_div_mod_eq]
  by_cases h : x / 2 ^ j % 2 = 1
  · simp only [h, decide_true, if_true]; omega
  · simp only [h, decide_false, Bool.false_eq_true, if_false]; omega
theorem bits_of_div {x y k : Nat} (h : x / 2 ^ k = y / 2 ^ k) {i : Nat} (hi : k ≤ i) : x.testBit i = y.testBit i := by
  have a := Nat.testBit_shiftRight (i := k) (j := i - k) x
  have b := Nat.testBit_shiftRight (i := k) (j := i - k) y
  rw [Nat.shiftRight_eq_div_pow] at a b
  rw [show k + (i - k) = i by omega] at a b
  rw [← a, ← b, h]
/-! ### the greedy search -/
structure GI (nums : List Nat) (age k free fixed : Nat) : Prop where
  free : ∀ j, free.testBit j = decide (j + k < 16 ∧ j ≠ age)
  none : ∀ j, j + k < 16 → j ≠ age → fixed.testBit j = false
  lt : fixed < 2 ^ 16
  has : fixed.testBit age = true
  feas : ∃ m, m < 2 ^ 16 ∧ (∀ x ∈ nums, Ev m x) ∧ ∀ j, ¬ (j + k < 16 ∧ j ≠ age) → m.testBit j = fixed.testBit j
  min : ∀ n, n < 2 ^ 16 → (∀ x ∈ nums, Ev n x) → n.testBit age = true → fixed / 2 ^ (16 - k) ≤ n / 2 ^ (16 - k)
theorem free_lt {nums : List Nat} {age k free fixed : Nat} (g : ∀ j, free.testBit j = decide (j + k < 16 ∧ j ≠ age)) : free < 2 ^ 16 := lt_of_bits fun j hj => by
  rw [g]
  exact decide_eq_false (by omega)
/-- that some m fits, in the words of barred -/
theorem feas_iff {nums : List Nat} {age k free fixed : Nat} (g : ∀ j, free.testBit j = decide (j + k < 16 ∧ j ≠ age)) (hl : fixed < 2 ^ 16) (hn : ∀ j, j + k < 16 → j ≠ age → fixed.testBit j = false) :
    ¬ Barred nums free fixed ↔ ∃ m, m < 2 ^ 16 ∧ (∀ x ∈ nums, Ev m x) ∧ ∀ j, ¬ (j + k < 16 ∧ j ≠ age) → m.testBit j = fixed.testBit j := by
  have fl := free_lt (nums := nums) (fixed := fixed) g
  rw [barred_iff fl]
  constructor
  · rintro ⟨f, h1, h2⟩
    have f16 : f < 2 ^ 16 := lt_of_bits fun j hj => by
      cases q : f.testBit j with
      | false => rfl
      | true =>
        have := h1 j q
        rw [g] at this
        have := of_decide_eq_true this
        omega
    refine ⟨fixed ^^^ f, Nat.xor_lt_two_pow hl f16, h2, fun j hj => ?_⟩
    rw [Nat.testBit_xor]
    cases q : f.testBit j with
    | false => rw [Bool.xor_false]
    | true =>
      have := h1 j q
      rw [g] at this
      exact absurd (of_decide_eq_true this) hj
  · rintro ⟨m, h1, h2, h3⟩
    refine ⟨m ^^^ fixed, fun j hj => ?_, fun n hn' => ?_⟩
    · rw [g]
      refine decide_eq_true (Classical.byContradiction fun c => ?_)
      rw [Nat.testBit_xor, h3 j c] at hj
      simp at hj
    · rw [Nat.xor_comm m, ← Nat.xor_assoc, Nat.xor_self, Nat.zero_xor]
      exact h2 n hn'
theorem GI.start {nums : List Nat} {age : Nat} (ha : age < 16) (h : ¬ Barred nums (65535 - 2 ^ age) (2 ^ age)) : GI nums age 0 (65535 - 2 ^ age) (2 ^ age) := by
  have b : (65535 : Nat).testBit age = true := by
    rw [show (65535 : Nat) = 2 ^ 16 - 1 from rfl, Nat.testBit_two_pow_sub_one]
    exact decide_eq_true ha
  have g : ∀ j, (65535 - 2 ^ age).testBit j = decide (j + 0 < 16 ∧ j ≠ age) := fun j => by
    rw [sub_pow b, bit_xor_pow, show (65535 : Nat) = 2 ^ 16 - 1 from rfl, Nat.testBit_two_pow_sub_one]
    by_cases c : age = j
    · subst c
      simp [ha]
    · have c' : ¬ j = age := fun z => c z.symm
      simp [c, c']
  have l : 2 ^ age < 2 ^ 16 := Nat.pow_lt_pow_right (by decide) ha
  have n : ∀ j, j + 0 < 16 → j ≠ age → (2 ^ age).testBit j = false := fun j _ hj => by
    rw [Nat.testBit_two_pow]
    exact decide_eq_false (fun z => hj z.symm)
  exact ⟨g, n, l, by rw [Nat.testBit_two_pow]; simp, (feas_iff g l n).mp h, fun m hm _ _ => by
    rw [Nat.div_eq_of_lt l]; exact Nat.zero_le _⟩
theorem barred_none {nums : List Nat} {age : Nat} (ha : age < 16) (h : Barred nums (65535 - 2 ^ age) (2 ^ age)) : Least nums age none := by
  intro m hm he
  cases q : m.testBit age with
  | false => rfl
  | true =>
    exfalso
    have b : (65535 : Nat).testBit age = true := by
      rw [show (65535 : Nat) = 2 ^ 16 - 1 from rfl, Nat.testBit_two_pow_sub_one]
      exact decide_eq_true ha
    have g : ∀ j, (65535 - 2 ^ age).testBit j = decide (j + 0 < 16 ∧ j ≠ age) := fun j => by
      rw [sub_pow b, bit_xor_pow, show (65535 : Nat) = 2 ^ 16 - 1 from rfl, Nat.testBit_two_pow_sub_one]
      by_cases c : age = j
      · subst c
        simp [ha]
      · have c' : ¬ j = age := fun z => c z.symm
        simp [c, c']
    have l : 2 ^ age < 2 ^ 16 := Nat.pow_lt_pow_right (by decide) ha
    have n : ∀ j, j + 0 < 16 → j ≠ age → (2 ^ age).testBit j = false := fun j _ hj => by
      rw [Nat.testBit_two_pow]
      exact decide_eq_false (fun z => hj z.symm)
    refine (feas_iff g l n).mpr ⟨m, hm, he, fun j hj => ?_⟩ h
    by_cases c : j = age
    · subst c
      rw [q, Nat.testBit_two_pow]
      simp
    · have : ¬ j < 16 := fun z => hj ⟨by omega, c⟩
      rw [Nat.testBit_lt_two_pow (Nat.lt_of_lt_of_le hm (Nat.pow_le_pow_right (by decide) (by omega))), Nat.testBit_two_pow]
      exact (decide_eq_false (fun z => c z.symm)).symm
/-- the age's own turn -/
theorem GI.skip {nums : List Nat} {age k free fixed : Nat} (G : GI nums age k free fixed) (hk : k < 16) (hj : free.testBit (15 - k) = false) : GI nums age (k + 1) free fixed := by
  have ja : 15 - k = age := by
    have := G.free (15 - k)
    rw [hj] at this
    have := of_decide_eq_false this.symm
    omega
  have eqv : ∀ j, (j + (k + 1) < 16 ∧ j ≠ age) ↔ (j + k < 16 ∧ j ≠ age) := fun j => by omega
  obtain ⟨m, h1, h2, h3⟩ := G.feas
  refine ⟨fun j => ?_, fun j h => G.none j (by omega), G.lt, G.has, ⟨m, h1, h2, fun j hj => h3 j (fun z => hj ((eqv j).mpr z))⟩, fun n hn he hb => ?_⟩
  · rw [G.free]
    exact decide_eq_decide.mpr (eqv j).symm
  · have := G.min n hn he hb
    have e : 16 - k = (16 - (k + 1)) + 1 := by omega
    rw [e] at this
    rw [div_step fixed, div_step n]
    have e2 : 16 - (k + 1) = age := by omega
    rw [e2] at this ⊢
    rw [G.has, hb]
    simp only [if_true]
    omega
theorem GI.take {nums : List Nat} {age k free fixed : Nat} (G : GI nums age k free fixed) (hk : k < 16) (hj : free.testBit (15 - k) = true) :
    (¬ Barred nums (free - 2 ^ (15 - k)) fixed → GI nums age (k + 1) (free - 2 ^ (15 - k)) fixed) ∧ (Barred nums (free - 2 ^ (15 - k)) fixed → GI nums age (k + 1) (free - 2 ^ (15 - k)) (fixed + 2 ^ (15 - k))) := by
  have ja : 15 - k ≠ age := by
    have := G.free (15 - k)
    rw [hj] at this
    exact (of_decide_eq_true this.symm).2
  have fj : fixed.testBit (15 - k) = false := G.none _ (by omega) ja
  have g' : ∀ j, (free - 2 ^ (15 - k)).testBit j = decide (j + (k + 1) < 16 ∧ j ≠ age) := fun j => by
    rw [sub_pow hj, bit_xor_pow, G.free]
    by_cases c : 15 - k = j
    · subst c
      rw [if_pos rfl]
      have : (15 - k + k < 16 ∧ 15 - k ≠ age) := ⟨by omega, ja⟩
      rw [decide_eq_true this]
      symm
      exact decide_eq_false (by omega)
    · rw [if_neg c]
      exact decide_eq_decide.mpr (by omega)
  have n' : ∀ j, j + (k + 1) < 16 → j ≠ age → fixed.testBit j = false := fun j h => G.none j (by omega)
  have e : 16 - k = (16 - (k + 1)) + 1 := by omega
  have ej : 16 - (k + 1) = 15 - k := by omega
  constructor
  · intro nb
    refine ⟨g', n', G.lt, G.has, (feas_iff g' G.lt n').mp nb, fun n hn he hb => ?_⟩
    have := G.min n hn he hb
    rw [e, ej] at this
    rw [ej, div_step fixed, div_step n, fj]
    simp only [Bool.false_eq_true, if_false]
    split <;> omega
  · intro bd
    have fx : fixed + 2 ^ (15 - k) = fixed ^^^ 2 ^ (15 - k) := add_pow fj
    -- whatever fits has the bit
    have must : ∀ m, m < 2 ^ 16 → (∀ x ∈ nums, Ev m x) → (∀ j, ¬ (j + k < 16 ∧ j ≠ age) → m.testBit j = fixed.testBit j) → m.testBit (15 - k) = true := fun m h1 h2 h3 => by
      cases q : m.testBit (15 - k) with
      | true => rfl
      | false =>
        refine absurd bd ((feas_iff g' G.lt n').mpr ⟨m, h1, h2, fun j hj' => ?_⟩)
        by_cases c : j = 15 - k
        · rw [c, q, fj]
        · exact h3 j (by omega)
    rw [fx]
    refine ⟨g', fun j h1 h2 => ?_, Nat.xor_lt_two_pow G.lt (Nat.pow_lt_pow_right (by decide) (by omega)), ?_, ?_, fun n hn he hb => ?_⟩
    · rw [bit_xor_pow, if_neg (by omega)]
      exact n' j h1 h2
    · rw [bit_xor_pow, if_neg ja]
      exact G.has
    · obtain ⟨m, h1, h2, h3⟩ := G.feas
      refine ⟨m, h1, h2, fun j hj' => ?_⟩
      rw [bit_xor_pow]
      by_cases c : 15 - k = j
      · subst c
        rw [if_pos rfl, fj, must m h1 h2 h3]; rfl
      · rw [if_neg c]
        exact h3 j (by omega)
    · have mn := G.min n hn he hb
      rw [e, ej] at mn
      have hi : (fixed ^^^ 2 ^ (15 - k)) / 2 ^ (15 - k + 1) = fixed / 2 ^ (15 - k + 1) := by
        refine Nat.eq_of_testBit_eq fun i => ?_
        have a := Nat.testBit_shiftRight (i := 15 - k + 1) (j := i) (fixed ^^^ 2 ^ (15 - k))
        have b := Nat.testBit_shiftRight (i := 15 - k + 1) (j := i) fixed
        rw [Nat.shiftRight_eq_div_pow] at a b
        rw [a, b, bit_xor_pow, if_neg (by omega)]
      rw [ej, div_step (fixed ^^^ 2 ^ (15 - k)), div_step n, hi, bit_xor_pow, if_pos rfl, fj]
      simp only [Bool.not_false, if_true]
      by_cases q : fixed / 2 ^ (15 - k + 1) = n / 2 ^ (15 - k + 1)
      · have nb : n.testBit (15 - k) = true := must n hn he fun j hj' => by
          by_cases c : j = age
          · rw [c, hb, G.has]
          · exact (bits_of_div q (i := j) (by omega)).symm
        rw [nb]
        simp only [if_true]
        omega
      · have : fixed / 2 ^ (15 - k + 1) < n / 2 ^ (15 - k + 1) := by omega
        split <;> omega
theorem GI.fin {nums : List Nat} {age free fixed : Nat} (G : GI nums age 16 free fixed) : Least nums age (some fixed) := by
  obtain ⟨m, h1, h2, h3⟩ := G.feas
  have : m = fixed := Nat.eq_of_testBit_eq fun j => h3 j (by omega)
  subst this
  exact ⟨h1, h2, G.has, fun n hn he hb => by
    have := G.min n hn he hb
    simpa using this⟩
/-! ### the plain search, over few ages -/
theorem mod_ev {m x b : Nat} (hx : x < 2 ^ b) (h : Ev m x) : Ev (m % 2 ^ b) x := by
  unfold Ev at *
  have : m % 2 ^ b &&& x = m &&& x := by
    refine Nat.eq_of_testBit_eq fun j => ?_
    rw [Nat.testBit_and, Nat.testBit_and, Nat.testBit_mod_two_pow]
    by_cases c : j < b
    · simp [c]
    · rw [Nat.testBit_lt_two_pow (Nat.lt_of_lt_of_le hx (Nat.pow_le_pow_right (by decide) (by omega)))]
      simp
  rw [this]
  exact h
theorem plain_none {nums : List Nat} {age b : Nat} (hb : b ≤ 16) (ha : age < b) (hn : ∀ x ∈ nums, x < 2 ^ b) (h : ∀ m, 2 ^ age ≤ m → m < 2 ^ b → m.testBit age = true → ¬ ∀ x ∈ nums, Ev m x) : Least nums age none := by
  intro m hm he
  cases q : m.testBit age with
  | false => rfl
  | true =>
    exfalso
    have qb : (m % 2 ^ b).testBit age = true := by
      rw [Nat.testBit_mod_two_pow, q]
      simp [ha]
    exact h _ (Nat.ge_two_pow_of_testBit qb) (Nat.mod_lt _ (Nat.two_pow_pos b)) qb fun x hx => mod_ev (hn x hx) (he x hx)
theorem plain_some {nums : List Nat} {age b m : Nat} (hb : b ≤ 16) (ha : age < b) (hn : ∀ x ∈ nums, x < 2 ^ b) (h1 : m < 2 ^ b) (h2 : m.testBit age = true) (h3 : ∀ x ∈ nums, Ev m x)
    (h : ∀ n, 2 ^ age ≤ n → n < m → n.testBit age = true → ¬ ∀ x ∈ nums, Ev n x) : Least nums age (some m) := by
  refine ⟨Nat.lt_of_lt_of_le h1 (Nat.pow_le_pow_right (by decide) hb), h3, h2, fun n hn' he q => ?_⟩
  have qb : (n % 2 ^ b).testBit age = true := by
    rw [Nat.testBit_mod_two_pow, q]
    simp [ha]
  have le : m ≤ n % 2 ^ b := Classical.byContradiction fun c => h _ (Nat.ge_two_pow_of_testBit qb) (by omega) qb fun x hx => mod_ev (hn x hx) (he x hx)
  exact Nat.le_trans le (Nat.mod_le _ _)
theorem least_high {nums : List Nat} {b : Nat} (hb : b < 16) (hn : ∀ x ∈ nums, x < 2 ^ b) : Least nums 15 (some (2 ^ 15)) := by
  refine ⟨by decide, fun x hx => ?_, by decide, fun n _ _ q => Nat.ge_two_pow_of_testBit q⟩
  refine (Ev.comm ?_)
  exact ev_pow.mpr (Nat.testBit_lt_two_pow (Nat.lt_of_lt_of_le (hn x hx) (Nat.pow_le_pow_right (by decide) (by omega))))
end Xr

set_option Elab.async false
set_option linter.all false
set_option maxRecDepth 100000
set_option maxHeartbeats 4000000
namespace Lr
open PySem PySem.Spec PyProof.Rows L2
def topS (i : Nat) : Stmt := PySem.Challenge.pw_laterepair_k07_texts_of_spaces.main.body.getD i (.Pass ⟨0, 0, 0, 0⟩)
/-! ### integers from 0 on -/
abbrev vi (n : Nat) : V := V.int (n : Int)
def ri (l : List Nat) : List V := l.map vi
theorem bitXor_nat (a b : Nat) : Builtin.bitXor (a : Int) (b : Int) = ((a ^^^ b : Nat) : Int) := by
  have h := Xr.add_xor_and a b
  rw [bitXor_and, bitAnd_pp (Int.natCast_nonneg a) (Int.natCast_nonneg b)]
  simp only [Int.toNat_natCast]
  omega
theorem bitAnd_nat (a b : Nat) : Builtin.bitAnd (a : Int) (b : Int) = ((a &&& b : Nat) : Int) := by
  rw [bitAnd_pp (Int.natCast_nonneg a) (Int.natCast_nonneg b)]
  simp only [Int.toNat_natCast]
theorem ri_get {l : List Nat} {i : Nat} {x : V} (h : (ri l)[i]? = some x) : ∃ n, l[i]? = some n ∧ x = vi n := by
  unfold ri at h
  rw [List.getElem?_map] at h
  cases e : l[i]? with
  | none => rw [e] at h; cases h
  | some n => rw [e] at h; exact ⟨n, rfl, (Option.some.inj h).symm⟩
theorem ri_len (l : List Nat) : (ri l).length = l.length := List.length_map ..
theorem ri_mem {l : List Nat} {i : Nat} {x : V} (h : (ri l)[i]? = some x) : ∃ n, n ∈ l ∧ l[i]? = some n ∧ x = vi n := by
  obtain ⟨n, e, x⟩ := ri_get h
  exact ⟨n, List.mem_of_getElem? e, e, x⟩
theorem same_upd {H : Hp} {p : Addr} {o : HO} (h : H p = none) : Same H (upd H p o) := fun b x e => by
  rw [upd_ne (ne_of_none e h)]
  exact e
theorem same_put {H H' : Hp} {p : Addr} {o : HO} (s : Same H H') (h : H p = none) : Same H (upd H' p o) := fun b x e => by
  rw [upd_ne (ne_of_none e h)]
  exact s b x e
theorem same_tup {K : PySem.W.Frag} {H H' : Hp} {a : Addr} {xs : List V} (e : Same H H') (h : SqT K H a xs) : SqT K H' a xs := by
  rcases h with (h | ⟨o, h⟩) | h
  · exact .inl (.inl (e _ _ h))
  · exact .inl (.inr ⟨o, e _ _ h⟩)
  · exact .inr h
/-- what the top's names stand for -/
structure Nm (mg : Str → Option Value) : Prop where
  len : mg "len" = none
  isi : mg "isinstance" = none
  int : mg "int" = none
  bool : mg "bool" = none
  all : mg "all" = none
  min : mg "min" = none
  sum : mg "sum" = none
  abs : mg "abs" = none
  sorted : mg "sorted" = none
  tuple : mg "tuple" = none
  list : mg "list" = none
  range : mg "range" = none
  mb : ∃ t, mg "MOST_BITS" = some (.int 65535 t)
section
variable {P : Program} {w : World} {K : PySem.W.Frag} {mg : Str → Option Value} {base : Heap}
/-! ### checks -/
abbrev s_is_integer : Stmt := topS 3
theorem sc_is_integer : FnScope ["value"] ["value"] (defScope s_is_integer) := ⟨rfl, rfl, rfl, by decide +kernel, rfl, by decide +kernel, by decide +kernel⟩
def spIsInt : Sp := fun vs H Q _ => ∃ i : Int, vs = [.int i] ∧ Q (.bl true) H
theorem ok_isInt {f : Addr} {fd : FuncData} (F : Fun K "is_integer" "is_integer" s_is_integer f fd) (T : Nm mg) : FnOk P w K mg base CX0 1 f fd ["value"] spIsInt := by
  refine F.ok sc_is_integer (fun vs H Q E h => ?_) (fun cdv A outer s H vs Q E hr h => ?_)
  · obtain ⟨i, rfl, _⟩ := h
    rfl
  · obtain ⟨i, rfl, q⟩ := h
    refine ⟨_, pss_one (ps_ret (pe_and (pe_callB call_isi (by rfl) T.isi boot_isinstance (pa_cons (pv 0) (pa_cons (pe_bltn (v := .ty "int") (by rfl) T.int PyProof.Rows.boot_int rfl) pa_nil)))
      (pe_one (pe_not (pe_callB call_isi (by rfl) T.isi boot_isinstance (pa_cons (pv 0) (pa_cons (pe_bltn (v := .ty "bool") (by rfl) T.bool PyProof.Rows.boot_bool rfl) pa_nil))))))), ?_⟩
    refine ⟨_, rfl, _, _, _, _, true, rfl, .ty "int", .base (.int i), kit_ty (by decide +kernel), true, rfl, iteT ?_⟩
    exact ⟨_, rfl, _, _, _, _, false, rfl, .ty "bool", .base (.int i), kit_ty (by decide +kernel), false, rfl, q⟩
abbrev s_is_within : Stmt := topS 4
theorem sc_is_within : FnScope ["value", "least", "most"] ["value", "least", "most"] (defScope s_is_within) := ⟨rfl, rfl, rfl, by decide +kernel, rfl, by decide +kernel, by decide +kernel⟩
def spWithin : Sp := fun vs H Q _ => ∃ i lo hi : Int, vs = [.int i, .int lo, .int hi] ∧ Q (.bl (decide (lo ≤ i ∧ i ≤ hi))) H
theorem ok_within {f fI : Addr} {fd fdI : FuncData} (F : Fun K "is_within" "is_within" s_is_within f fd) (FI : Fun K "is_integer" "is_integer" s_is_integer fI fdI) (bI : Binds K fdI ["value"] []) (gI : mg "is_integer" = some (.ref fI)) (T : Nm mg) :
    FnOk P w K mg base CX0 2 f fd ["value", "least", "most"] spWithin := by
  have GI : FnOk P w K mg base CX0 1 fI fdI ["value"] spIsInt := ok_isInt FI T
  refine F.ok sc_is_within (fun vs H Q E h => ?_) (fun cdv A outer s H vs Q E hr h => ?_)
  · obtain ⟨i, lo, hi, rfl, _⟩ := h
    rfl
  · obtain ⟨i, lo, hi, rfl, q⟩ := h
    refine ⟨_, pss_one (ps_ret (pe_and (pe_call GI hr rfl gI FI.kp bI .nil pass0 (pa_cons (pv 0) pa_nil)) (pe_one (pe_chain op_le op_le (pv 1) (pv 0) (pv 2))))), ?_⟩
    refine ⟨_, rfl, i, rfl, true, rfl, iteT ?_⟩
    refine ⟨_, rfl, _, rfl, _, _, rfl, rfl, _, rfl, ?_⟩
    by_cases c : lo ≤ i
    · rw [decide_eq_true c]
      refine iteT ⟨_, rfl, _, _, rfl, rfl, ?_⟩
      have e : decide (lo ≤ i ∧ i ≤ hi) = decide (i ≤ hi) := by simp [c]
      rw [e] at q
      exact q
    · rw [decide_eq_false c]
      refine iteF ?_
      have e : decide (lo ≤ i ∧ i ≤ hi) = false := by simp [c]
      rw [e] at q
      exact q
end
end Lr

set_option Elab.async false
set_option linter.all false
set_option maxRecDepth 100000
set_option maxHeartbeats 4000000
namespace Lr
open PySem PySem.Spec PyProof.Rows L2
section
variable {P : Program} {w : World} {K : PySem.W.Frag} {mg : Str → Option Value} {base : Heap}
abbrev s_lessened : Stmt := topS 20
theorem sc_lessened : FnScope ["bits", "rows", "rest", "row"] ["bits", "rows"] (defScope s_lessened) := ⟨rfl, rfl, rfl, by decide +kernel, rfl, by decide +kernel, by decide +kernel⟩
abbrev s_widened : Stmt := topS 21
theorem sc_widened : FnScope ["rows", "added", "kept", "row", "rest", "old"] ["rows", "added"] (defScope s_widened) := ⟨rfl, rfl, rfl, by decide +kernel, rfl, by decide +kernel, by decide +kernel⟩
abbrev s_reduced : Stmt := topS 22
theorem sc_reduced : FnScope ["rows"] ["rows"] (defScope s_reduced) := ⟨rfl, rfl, rfl, by decide +kernel, rfl, by decide +kernel, by decide +kernel⟩
theorem min_nat (a b : Nat) : (if (b : Int) < (a : Int) then (b : Int) else (a : Int)) = ((min a b : Nat) : Int) := by
  split <;> omega
/-! ### lessened: of a list -/
def spLessL (K : PySem.W.Frag) : Sp := fun vs H Q _ => ∃ (n : Nat) (a : Addr) (l : List Nat), vs = [vi n, .ref a] ∧ SqL K H a (ri l) ∧ Q (vi (Xr.lessened n l)) H
theorem ok_lessL {f : Addr} {fd : FuncData} (F : Fun K "lessened" "lessened" s_lessened f fd) : FnOk P w K mg base CX0 1 f fd ["bits", "rows"] (spLessL K) := by
  refine F.ok sc_lessened (fun vs H Q E h => ?_) (fun cdv A outer s H vs Q E hr h => ?_)
  · obtain ⟨n, a, l, rfl, _⟩ := h
    rfl
  · obtain ⟨n, a, l, rfl, hS, q⟩ := h
    refine ⟨_, pss_cons (ps_set (i := 2) sc_lessened.nd rfl (Or.inl rfl) (pv 0))
      (pss_cons (ps_for PassesOwn.never rfl (pi_list (pv 1)) (pg_name (i := 3) sc_lessened.nd rfl (Or.inl rfl))
      (pss_one (ps_if (pt_cmpR op_lt (pe_op op_xor (pv 2) (pv 3)) (pv 2) (nomark _)) (pss_one (ps_set (i := 2) sc_lessened.nd rfl (Or.inl rfl) (pe_op op_xor (pv 2) (pv 3)))) pss_nil)))
      (pss_one (ps_ret (pv 2)))), ?_⟩
    refine ⟨_, rfl, _, rfl, a, rfl, ⟨_, hS⟩, for_list (K := K) (a := a) (xs := ri l) (fun i σ H' => H' = H ∧ ∃ v, σ = [some (vi n), some (.ref a), some (vi (Xr.lessened n (l.take i))), v])
      ⟨rfl, none, rfl⟩ (fun i σ H' _ ⟨e, _⟩ => by rw [e]; exact hS) ?_ ?_⟩
    · rintro i x σ H' hi ⟨rfl, v, rfl⟩
      obtain ⟨m, hm, rfl⟩ := ri_get hi
      have st : Xr.lessened n (l.take (i + 1)) = Xr.less1 (Xr.lessened n (l.take i)) m := Xr.foldl_take hm
      generalize Xr.lessened n (l.take i) = r at *
      refine ⟨_, rfl, _, rfl, _, _, rfl, rfl, _, rfl, _, _, rfl, rfl, _, rfl, ?_⟩
      rw [bitXor_nat]
      refine ite2 (fun c => ?_) (fun c => ?_)
      · have c' : r ^^^ m < r := by simpa using c
        refine ⟨_, rfl, _, rfl, _, _, rfl, rfl, ?_⟩
        refine ⟨rfl, some (vi m), ?_⟩
        rw [st, Xr.less1, if_pos c']
        exact congrArg (fun z : Int => [some (vi n), some (V.ref a), some (V.int z), some (vi m)]) (bitXor_nat r m)
      · have c' : ¬ r ^^^ m < r := by simpa using c
        refine ⟨rfl, some (vi m), ?_⟩
        rw [st, Xr.less1, if_neg c']
        rfl
    · rintro σ H' ⟨rfl, v, rfl⟩
      rw [ri_len, List.take_length]
      exact ⟨_, rfl, q⟩
/-! ### lessened: of a tuple -/
def spLessT (K : PySem.W.Frag) : Sp := fun vs H Q _ => ∃ (n : Nat) (a : Addr) (l : List Nat), vs = [vi n, .ref a] ∧ SqT K H a (ri l) ∧ Q (vi (Xr.lessened n l)) H
theorem ok_lessT {f : Addr} {fd : FuncData} (F : Fun K "lessened" "lessened" s_lessened f fd) : FnOk P w K mg base CX0 1 f fd ["bits", "rows"] (spLessT K) := by
  refine F.ok sc_lessened (fun vs H Q E h => ?_) (fun cdv A outer s H vs Q E hr h => ?_)
  · obtain ⟨n, a, l, rfl, _⟩ := h
    rfl
  · obtain ⟨n, a, l, rfl, hS, q⟩ := h
    refine ⟨_, pss_cons (ps_set (i := 2) sc_lessened.nd rfl (Or.inl rfl) (pv 0))
      (pss_cons (ps_for PassesOwn.never rfl (pi_tup (pv 1)) (pg_name (i := 3) sc_lessened.nd rfl (Or.inl rfl))
      (pss_one (ps_if (pt_cmpR op_lt (pe_op op_xor (pv 2) (pv 3)) (pv 2) (nomark _)) (pss_one (ps_set (i := 2) sc_lessened.nd rfl (Or.inl rfl) (pe_op op_xor (pv 2) (pv 3)))) pss_nil)))
      (pss_one (ps_ret (pv 2)))), ?_⟩
    refine ⟨_, rfl, _, rfl, a, rfl, ⟨_, hS⟩, for_tup (K := K) (a := a) (xs := ri l) (fun i σ H' => H' = H ∧ ∃ v, σ = [some (vi n), some (.ref a), some (vi (Xr.lessened n (l.take i))), v])
      ⟨rfl, none, rfl⟩ (fun i σ H' _ ⟨e, _⟩ => by rw [e]; exact hS) ?_ ?_⟩
    · rintro i x σ H' hi ⟨rfl, v, rfl⟩
      obtain ⟨m, hm, rfl⟩ := ri_get hi
      have st : Xr.lessened n (l.take (i + 1)) = Xr.less1 (Xr.lessened n (l.take i)) m := Xr.foldl_take hm
      generalize Xr.lessened n (l.take i) = r at *
      refine ⟨_, rfl, _, rfl, _, _, rfl, rfl, _, rfl, _, _, rfl, rfl, _, rfl, ?_⟩
      rw [bitXor_nat]
      refine ite2 (fun c => ?_) (fun c => ?_)
      · have c' : r ^^^ m < r := by simpa using c
        refine ⟨_, rfl, _, rfl, _, _, rfl, rfl, ?_⟩
        refine ⟨rfl, some (vi m), ?_⟩
        rw [st, Xr.less1, if_pos c']
        exact congrArg (fun z : Int => [some (vi n), some (V.ref a), some (V.int z), some (vi m)]) (bitXor_nat r m)
      · have c' : ¬ r ^^^ m < r := by simpa using c
        refine ⟨rfl, some (vi m), ?_⟩
        rw [st, Xr.less1, if_neg c']
        rfl
    · rintro σ H' ⟨rfl, v, rfl⟩
      rw [ri_len, List.take_length]
      exact ⟨_, rfl, q⟩
/-- the sorted integers of reduced rows -/
theorem sorted_canon {m : List Nat} {ns : List Int} (r1 : Xr.Red m) (hp : ns.Perm (m.map fun n : Nat => (n : Int))) (hs : ns.Pairwise (· ≤ ·)) : Xr.Canon (ns.map Int.toNat) ∧ (ns.map Int.toNat).Perm m ∧ ns.map V.int = ri (ns.map Int.toNat) := by
  have hn : ∀ x ∈ ns, 0 ≤ x := fun x hx => by
    obtain ⟨n, _, e⟩ := List.mem_map.mp (hp.mem_iff.mp hx)
    omega
  have en : ns = (ns.map Int.toNat).map fun n : Nat => (n : Int) := by
    rw [List.map_map]
    refine (List.map_id ns).symm.trans (List.map_congr_left fun x hx => ?_)
    exact (Int.toNat_of_nonneg (hn x hx)).symm
  have pm : (ns.map Int.toNat).Perm m := by
    have := hp.map Int.toNat
    rw [List.map_map] at this
    refine this.trans (List.Perm.of_eq ?_)
    refine (List.map_congr_left fun x _ => ?_).trans (List.map_id m)
    exact Int.toNat_natCast x
  refine ⟨⟨r1.perm pm.symm, ?_⟩, pm, ?_⟩
  · have rd := r1.perm pm.symm
    have le : (ns.map Int.toNat).Pairwise (· ≤ ·) := by
      rw [List.pairwise_map]
      exact hs.imp fun h => by omega
    have ne : (ns.map Int.toNat).Pairwise (· ≠ ·) := List.nodup_iff_pairwise_ne.mp rd.nodup
    exact (le.and ne).imp fun h => Nat.lt_of_le_of_ne h.1 h.2
  · unfold ri
    conv => lhs; rw [en]
    rw [List.map_map]
    rfl
/-! ### widened: added of a list -/
def spWidL (K : PySem.W.Frag) : Sp := fun vs H Q _ => ∃ (e a : Addr) (l0 l : List Nat), vs = [.ref e, .ref a] ∧ SqT K H e (ri l0) ∧ SqL K H a (ri l) ∧ Xr.Red l0 ∧ l.length + l0.length ≤ 1000 ∧
  ∀ (m : List Nat) (p : Addr) (H' : Hp), Xr.Canon m → (∀ x, Xr.Span m x ↔ Xr.Span (l ++ l0) x) → Same H H' → H p = none → H' p = some (.tup (ri m)) → Q (.ref p) H'
theorem ok_widL {f fL : Addr} {fd fdL : FuncData} (F : Fun K "widened" "widened" s_widened f fd) (FL : Fun K "lessened" "lessened" s_lessened fL fdL) (bL : Binds K fdL ["bits", "rows"] []) (gL : mg "lessened" = some (.ref fL)) (T : Nm mg) :
    FnOk P w K mg base CX0 2 f fd ["rows", "added"] (spWidL K) := by
  have GL : FnOk P w K mg base CX0 1 fL fdL ["bits", "rows"] (spLessL K) := ok_lessL FL
  refine F.ok sc_widened (fun vs H Q E h => ?_) (fun cdv A outer s H vs Q E hr h => ?_)
  · obtain ⟨e, a, l0, l, rfl, _⟩ := h
    rfl
  · obtain ⟨e, a, l0, l, rfl, hE, hS, hred, hlen, q⟩ := h
    refine ⟨_, pss_cons (ps_set (i := 2) sc_widened.nd rfl (Or.inl rfl) (pe_callTy call_list_of (by rfl) T.list PyProof.Rows.boot_list (pa_cons (pv 0) pa_nil)))
      (pss_cons (ps_for PassesOwn.never rfl (pi_list (pv 1)) (pg_name (i := 3) sc_widened.nd rfl (Or.inl rfl))
      (pss_cons (ps_set (i := 4) sc_widened.nd rfl (Or.inr rfl) (pe_call GL hr rfl gL FL.kp bL .nil pass0 (pa_cons (pv 3) (pa_cons (pv 2) pa_nil))))
      (pss_one (ps_if (pt_cmpR op_gt (pv 4) pe_int (nomark _)) (pss_cons (ps_setLc (i := 2) (own := [("old", 5)]) (g := (gName 5)) (tt := tYes) rfl sc_widened.nd rfl rfl (sw_true rfl rfl rfl (by decide +kernel)) (pi_list (pv 2)) (blkOk_by (N := ["rows", "added", "kept", "row", "rest", "old"]) (sc := defScope s_widened) (by decide +kernel)) (fun _ _ _ _ _ => pg_name (i := 5) sc_widened.nd rfl (Or.inl rfl)) (fun _ _ _ _ _ => pts_nil) (fun _ _ _ _ _ => (pe_callB (call_min2 rfl) (by rfl) T.min PyProof.Rows.boot_min (pa_cons (pv 5) (pa_cons (pe_op op_xor (pv 5) (pv 4)) pa_nil)))))
      (pss_one (ps_expr (pe_bm PySem.F.plainAttrs_list PySem.F.slot_list_append PySem.F.type_list_append mt_append (pv 2) (pa_cons (pv 4) pa_nil))))) pss_nil))))
      (pss_one (ps_ret (pe_callTy call_tuple_of (by rfl) T.tuple PyProof.Rows.boot_tuple (pa_cons (pe_callB cr_sortedI (by rfl) T.sorted PyProof.Rows.boot_sorted (pa_cons (pv 2) pa_nil)) pa_nil))))), ?_⟩
    refine ⟨_, rfl, e, _, rfl, .inr hE, fun o no => ?_⟩
    refine ⟨_, rfl, a, rfl, ⟨_, Same.seq (same_upd no) hS⟩, for_list (K := K) (a := a) (xs := ri l) (fun i σ H' => Same H H' ∧ ∃ k v3 v4 v5, σ = [some (.ref e), some (.ref a), some (.ref k), v3, v4, v5] ∧ H k = none ∧ H' k = some (.lst (ri ((l.take i).foldl Xr.red1 l0))) ∧ ((l.take i).foldl Xr.red1 l0).length ≤ i + l0.length)
      ⟨same_upd no, o, none, none, none, rfl, no, upd_same, by simp⟩ (fun i σ H' _ ⟨e, _⟩ => Same.seq e hS) ?_ ?_⟩
    · rintro i x σ H' hi ⟨sm, k, v3, v4, v5, rfl, nk, hk, hl⟩
      obtain ⟨m, hm, rfl⟩ := ri_get hi
      have st : (l.take (i + 1)).foldl Xr.red1 l0 = Xr.red1 ((l.take i).foldl Xr.red1 l0) m := Xr.foldl_take hm
      rw [st]
      generalize (l.take i).foldl Xr.red1 l0 = kept at *
      have il : i < l.length := (List.getElem?_eq_some_iff.mp hm).1
      refine ⟨_, rfl, _, rfl, m, k, kept, rfl, .of hk, ?_⟩
      refine ⟨_, rfl, _, _, rfl, rfl, _, rfl, ?_⟩
      refine ite2 (fun c => ?_) (fun c => ?_)
      · have c' : 0 < Xr.lessened m kept := by simpa using c
        refine ⟨_, rfl, k, rfl, ⟨_, .of hk⟩, fun D nD => ?_⟩
        have kD : k ≠ D := ne_of_none hk nD
        refine lc_list (K := K) (a := k) (xs := ri kept) (fun j H'' => Same H H'' ∧ H D = none ∧ H'' k = some (.lst (ri kept)) ∧ H'' D = some (.lst (ri ((kept.take j).map fun o => min o (o ^^^ Xr.lessened m kept)))))
          ⟨same_put sm (sm.free nD), sm.free nD, by rw [upd_ne kD]; exact hk, upd_same⟩ (fun j H'' _ ⟨_, _, e, _⟩ => .of e) ?_ ?_
        · rintro j x H'' hj ⟨s2, nD', e1, e2⟩
          obtain ⟨o, ho, rfl⟩ := ri_get hj
          refine ⟨rfl, ?_⟩
          refine ⟨_, rfl, _, rfl, _, rfl, _, _, rfl, rfl, _, _, rfl, ?_⟩
          refine ⟨_, e2, ?_, same_put s2 nD', nD', by rw [upd_ne kD]; exact e1, ?_⟩
          · rw [ri_len, List.length_map, List.length_take]
            exact small1000 (by omega)
          · rw [upd_same, List.take_add_one, ho, List.map_append]
            have z := congrArg V.int (min_nat o (o ^^^ Xr.lessened m kept))
            rw [← bitXor_nat] at z
            have z2 : ri (((kept.take j).map fun o => min o (o ^^^ Xr.lessened m kept)) ++ [min o (o ^^^ Xr.lessened m kept)]) = ri ((kept.take j).map fun o => min o (o ^^^ Xr.lessened m kept)) ++ [vi (min o (o ^^^ Xr.lessened m kept))] := by
              unfold ri
              rw [List.map_append]
              rfl
            refine congrArg (fun x => some (HO.lst x)) ?_
            refine Eq.trans ?_ z2.symm
            exact congrArg (fun x => ri ((kept.take j).map fun o => min o (o ^^^ Xr.lessened m kept)) ++ [x]) z
        · rintro H'' ⟨s2, nD', e1, e2⟩
          rw [ri_len, List.take_length] at e2
          refine ⟨_, rfl, .inl ⟨rfl, _, .of e2⟩, _, rfl, D, _, _, rfl, rfl, e2, ?_, ?_⟩
          · rw [ri_len, List.length_map]
            exact small1000 (by omega)
          · refine ⟨same_put s2 nD', D, _, _, _, rfl, nD', ?_, ?_⟩
            · rw [upd_same, Xr.red1, if_pos c']
              unfold ri
              rw [List.map_append]
              rfl
            · rw [Xr.red1, if_pos c', List.length_append, List.length_map, List.length_singleton]
              omega
      · have c' : ¬ 0 < Xr.lessened m kept := by simpa using c
        refine ⟨sm, k, _, _, _, rfl, nk, ?_, ?_⟩
        · rw [Xr.red1, if_neg c']
          exact hk
        · rw [Xr.red1, if_neg c']
          omega
    · rintro σ H' ⟨sm, k, v3, v4, v5, rfl, nk, hk, hl⟩
      rw [ri_len, List.take_length] at hk
      obtain ⟨r1, r2⟩ := Xr.red_fold l l0 hred
      generalize l.foldl Xr.red1 l0 = m at *
      have em : ri m = (m.map fun n : Nat => (n : Int)).map V.int := by
        unfold ri
        rw [List.map_map]
        rfl
      refine ⟨_, rfl, k, m.map (fun n : Nat => (n : Int)), rfl, .of (by rw [← em]; exact hk), fun ns p hp hs np => ?_⟩
      refine ⟨p, _, rfl, .inl ⟨.of upd_same, fun t nt => ?_⟩⟩
      have tp : t ≠ p := fun e => by
        rw [e, upd_same] at nt
        cases nt
      have nt' : H' t = none := by
        rw [upd_ne tp] at nt
        exact nt
      obtain ⟨cn, pm, en⟩ := sorted_canon r1 hp hs
      refine q (ns.map Int.toNat) t _ cn (fun x => (Xr.span_perm pm x).trans (r2 x)) (same_put (same_put sm (sm.free np)) (sm.free nt')) (sm.free nt') ?_
      rw [upd_same]
      exact congrArg (fun x => some (HO.tup x)) en
/-! ### widened: added of a tuple -/
def spWidT (K : PySem.W.Frag) : Sp := fun vs H Q _ => ∃ (e a : Addr) (l0 l : List Nat), vs = [.ref e, .ref a] ∧ SqT K H e (ri l0) ∧ SqT K H a (ri l) ∧ Xr.Red l0 ∧ l.length + l0.length ≤ 1000 ∧
  ∀ (m : List Nat) (p : Addr) (H' : Hp), Xr.Canon m → (∀ x, Xr.Span m x ↔ Xr.Span (l ++ l0) x) → Same H H' → H p = none → H' p = some (.tup (ri m)) → Q (.ref p) H'
theorem ok_widT {f fL : Addr} {fd fdL : FuncData} (F : Fun K "widened" "widened" s_widened f fd) (FL : Fun K "lessened" "lessened" s_lessened fL fdL) (bL : Binds K fdL ["bits", "rows"] []) (gL : mg "lessened" = some (.ref fL)) (T : Nm mg) :
    FnOk P w K mg base CX0 2 f fd ["rows", "added"] (spWidT K) := by
  have GL : FnOk P w K mg base CX0 1 fL fdL ["bits", "rows"] (spLessL K) := ok_lessL FL
  refine F.ok sc_widened (fun vs H Q E h => ?_) (fun cdv A outer s H vs Q E hr h => ?_)
  · obtain ⟨e, a, l0, l, rfl, _⟩ := h
    rfl
  · obtain ⟨e, a, l0, l, rfl, hE, hS, hred, hlen, q⟩ := h
    refine ⟨_, pss_cons (ps_set (i := 2) sc_widened.nd rfl (Or.inl rfl) (pe_callTy call_list_of (by rfl) T.list PyProof.Rows.boot_list (pa_cons (pv 0) pa_nil)))
      (pss_cons (ps_for PassesOwn.never rfl (pi_tup (pv 1)) (pg_name (i := 3) sc_widened.nd rfl (Or.inl rfl))
      (pss_cons (ps_set (i := 4) sc_widened.nd rfl (Or.inr rfl) (pe_call GL hr rfl gL FL.kp bL .nil pass0 (pa_cons (pv 3) (pa_cons (pv 2) pa_nil))))
      (pss_one (ps_if (pt_cmpR op_gt (pv 4) pe_int (nomark _)) (pss_cons (ps_setLc (i := 2) (own := [("old", 5)]) (g := (gName 5)) (tt := tYes) rfl sc_widened.nd rfl rfl (sw_true rfl rfl rfl (by decide +kernel)) (pi_list (pv 2)) (blkOk_by (N := ["rows", "added", "kept", "row", "rest", "old"]) (sc := defScope s_widened) (by decide +kernel)) (fun _ _ _ _ _ => pg_name (i := 5) sc_widened.nd rfl (Or.inl rfl)) (fun _ _ _ _ _ => pts_nil) (fun _ _ _ _ _ => (pe_callB (call_min2 rfl) (by rfl) T.min PyProof.Rows.boot_min (pa_cons (pv 5) (pa_cons (pe_op op_xor (pv 5) (pv 4)) pa_nil)))))
      (pss_one (ps_expr (pe_bm PySem.F.plainAttrs_list PySem.F.slot_list_append PySem.F.type_list_append mt_append (pv 2) (pa_cons (pv 4) pa_nil))))) pss_nil))))
      (pss_one (ps_ret (pe_callTy call_tuple_of (by rfl) T.tuple PyProof.Rows.boot_tuple (pa_cons (pe_callB cr_sortedI (by rfl) T.sorted PyProof.Rows.boot_sorted (pa_cons (pv 2) pa_nil)) pa_nil))))), ?_⟩
    refine ⟨_, rfl, e, _, rfl, .inr hE, fun o no => ?_⟩
    refine ⟨_, rfl, a, rfl, ⟨_, same_tup (same_upd no) hS⟩, for_tup (K := K) (a := a) (xs := ri l) (fun i σ H' => Same H H' ∧ ∃ k v3 v4 v5, σ = [some (.ref e), some (.ref a), some (.ref k), v3, v4, v5] ∧ H k = none ∧ H' k = some (.lst (ri ((l.take i).foldl Xr.red1 l0))) ∧ ((l.take i).foldl Xr.red1 l0).length ≤ i + l0.length)
      ⟨same_upd no, o, none, none, none, rfl, no, upd_same, by simp⟩ (fun i σ H' _ ⟨e, _⟩ => same_tup e hS) ?_ ?_⟩
    · rintro i x σ H' hi ⟨sm, k, v3, v4, v5, rfl, nk, hk, hl⟩
      obtain ⟨m, hm, rfl⟩ := ri_get hi
      have st : (l.take (i + 1)).foldl Xr.red1 l0 = Xr.red1 ((l.take i).foldl Xr.red1 l0) m := Xr.foldl_take hm
      rw [st]
      generalize (l.take i).foldl Xr.red1 l0 = kept at *
      have il : i < l.length := (List.getElem?_eq_some_iff.mp hm).1
      refine ⟨_, rfl, _, rfl, m, k, kept, rfl, .of hk, ?_⟩
      refine ⟨_, rfl, _, _, rfl, rfl, _, rfl, ?_⟩
      refine ite2 (fun c => ?_) (fun c => ?_)
      · have c' : 0 < Xr.lessened m kept := by simpa using c
        refine ⟨_, rfl, k, rfl, ⟨_, .of hk⟩, fun D nD => ?_⟩
        have kD : k ≠ D := ne_of_none hk nD
        refine lc_list (K := K) (a := k) (xs := ri kept) (fun j H'' => Same H H'' ∧ H D = none ∧ H'' k = some (.lst (ri kept)) ∧ H'' D = some (.lst (ri ((kept.take j).map fun o => min o (o ^^^ Xr.lessened m kept)))))
          ⟨same_put sm (sm.free nD), sm.free nD, by rw [upd_ne kD]; exact hk, upd_same⟩ (fun j H'' _ ⟨_, _, e, _⟩ => .of e) ?_ ?_
        · rintro j x H'' hj ⟨s2, nD', e1, e2⟩
          obtain ⟨o, ho, rfl⟩ := ri_get hj
          refine ⟨rfl, ?_⟩
          refine ⟨_, rfl, _, rfl, _, rfl, _, _, rfl, rfl, _, _, rfl, ?_⟩
          refine ⟨_, e2, ?_, same_put s2 nD', nD', by rw [upd_ne kD]; exact e1, ?_⟩
          · rw [ri_len, List.length_map, List.length_take]
            exact small1000 (by omega)
          · rw [upd_same, List.take_add_one, ho, List.map_append]
            have z := congrArg V.int (min_nat o (o ^^^ Xr.lessened m kept))
            rw [← bitXor_nat] at z
            have z2 : ri (((kept.take j).map fun o => min o (o ^^^ Xr.lessened m kept)) ++ [min o (o ^^^ Xr.lessened m kept)]) = ri ((kept.take j).map fun o => min o (o ^^^ Xr.lessened m kept)) ++ [vi (min o (o ^^^ Xr.lessened m kept))] := by
              unfold ri
              rw [List.map_append]
              rfl
            refine congrArg (fun x => some (HO.lst x)) ?_
            refine Eq.trans ?_ z2.symm
            exact congrArg (fun x => ri ((kept.take j).map fun o => min o (o ^^^ Xr.lessened m kept)) ++ [x]) z
        · rintro H'' ⟨s2, nD', e1, e2⟩
          rw [ri_len, List.take_length] at e2
          refine ⟨_, rfl, .inl ⟨rfl, _, .of e2⟩, _, rfl, D, _, _, rfl, rfl, e2, ?_, ?_⟩
          · rw [ri_len, List.length_map]
            exact small1000 (by omega)
          · refine ⟨same_put s2 nD', D, _, _, _, rfl, nD', ?_, ?_⟩
            · rw [upd_same, Xr.red1, if_pos c']
              unfold ri
              rw [List.map_append]
              rfl
            · rw [Xr.red1, if_pos c', List.length_append, List.length_map, List.length_singleton]
              omega
      · have c' : ¬ 0 < Xr.lessened m kept := by simpa using c
        refine ⟨sm, k, _, _, _, rfl, nk, ?_, ?_⟩
        · rw [Xr.red1, if_neg c']
          exact hk
        · rw [Xr.red1, if_neg c']
          omega
    · rintro σ H' ⟨sm, k, v3, v4, v5, rfl, nk, hk, hl⟩
      rw [ri_len, List.take_length] at hk
      obtain ⟨r1, r2⟩ := Xr.red_fold l l0 hred
      generalize l.foldl Xr.red1 l0 = m at *
      have em : ri m = (m.map fun n : Nat => (n : Int)).map V.int := by
        unfold ri
        rw [List.map_map]
        rfl
      refine ⟨_, rfl, k, m.map (fun n : Nat => (n : Int)), rfl, .of (by rw [← em]; exact hk), fun ns p hp hs np => ?_⟩
      refine ⟨p, _, rfl, .inl ⟨.of upd_same, fun t nt => ?_⟩⟩
      have tp : t ≠ p := fun e => by
        rw [e, upd_same] at nt
        cases nt
      have nt' : H' t = none := by
        rw [upd_ne tp] at nt
        exact nt
      obtain ⟨cn, pm, en⟩ := sorted_canon r1 hp hs
      refine q (ns.map Int.toNat) t _ cn (fun x => (Xr.span_perm pm x).trans (r2 x)) (same_put (same_put sm (sm.free np)) (sm.free nt')) (sm.free nt') ?_
      rw [upd_same]
      exact congrArg (fun x => some (HO.tup x)) en
/-! ### reduced: of a list -/
def spRedL (K : PySem.W.Frag) : Sp := fun vs H Q _ => ∃ (a : Addr) (l : List Nat), vs = [.ref a] ∧ SqL K H a (ri l) ∧ l.length ≤ 1000 ∧
  ∀ (m : List Nat) (p : Addr) (H' : Hp), Xr.Canon m → (∀ x, Xr.Span m x ↔ Xr.Span l x) → Same H H' → H p = none → H' p = some (.tup (ri m)) → Q (.ref p) H'
theorem ok_redL {f fL fV : Addr} {fd fdL fdV : FuncData} (F : Fun K "reduced" "reduced" s_reduced f fd) (FV : Fun K "widened" "widened" s_widened fV fdV) (bV : Binds K fdV ["rows", "added"] []) (gV : mg "widened" = some (.ref fV)) (FL : Fun K "lessened" "lessened" s_lessened fL fdL) (bL : Binds K fdL ["bits", "rows"] []) (gL : mg "lessened" = some (.ref fL)) (T : Nm mg) :
    FnOk P w K mg base CX0 3 f fd ["rows"] (spRedL K) := by
  have GV : FnOk P w K mg base CX0 2 fV fdV ["rows", "added"] (spWidL K) := ok_widL FV FL bL gL T
  refine F.ok sc_reduced (fun vs H Q E h => ?_) (fun cdv A outer s H vs Q E hr h => ?_)
  · obtain ⟨a, l, rfl, _⟩ := h
    rfl
  · obtain ⟨a, l, rfl, hS, hlen, q⟩ := h
    refine ⟨_, pss_one (ps_ret (pe_call GV hr rfl gV FV.kp bV .nil pass0 (pa_cons (pe_tup pa_nil) (pa_cons (pv 0) pa_nil)))), ?_⟩
    refine ⟨Nat.zero_le _, fun e ne => ?_⟩
    refine ⟨_, rfl, e, a, [], l, rfl, .of upd_same, Same.seq (same_upd ne) hS, Xr.Red.nil, hlen, fun m p H' cm sm s1 np hp => ?_⟩
    refine q m p H' cm (fun x => ?_) ((same_upd ne).trans s1) ((same_upd ne).free np) hp
    rw [sm x, List.append_nil]
/-! ### reduced: of a tuple -/
def spRedT (K : PySem.W.Frag) : Sp := fun vs H Q _ => ∃ (a : Addr) (l : List Nat), vs = [.ref a] ∧ SqT K H a (ri l) ∧ l.length ≤ 1000 ∧
  ∀ (m : List Nat) (p : Addr) (H' : Hp), Xr.Canon m → (∀ x, Xr.Span m x ↔ Xr.Span l x) → Same H H' → H p = none → H' p = some (.tup (ri m)) → Q (.ref p) H'
theorem ok_redT {f fL fV : Addr} {fd fdL fdV : FuncData} (F : Fun K "reduced" "reduced" s_reduced f fd) (FV : Fun K "widened" "widened" s_widened fV fdV) (bV : Binds K fdV ["rows", "added"] []) (gV : mg "widened" = some (.ref fV)) (FL : Fun K "lessened" "lessened" s_lessened fL fdL) (bL : Binds K fdL ["bits", "rows"] []) (gL : mg "lessened" = some (.ref fL)) (T : Nm mg) :
    FnOk P w K mg base CX0 3 f fd ["rows"] (spRedT K) := by
  have GV : FnOk P w K mg base CX0 2 fV fdV ["rows", "added"] (spWidT K) := ok_widT FV FL bL gL T
  refine F.ok sc_reduced (fun vs H Q E h => ?_) (fun cdv A outer s H vs Q E hr h => ?_)
  · obtain ⟨a, l, rfl, _⟩ := h
    rfl
  · obtain ⟨a, l, rfl, hS, hlen, q⟩ := h
    refine ⟨_, pss_one (ps_ret (pe_call GV hr rfl gV FV.kp bV .nil pass0 (pa_cons (pe_tup pa_nil) (pa_cons (pv 0) pa_nil)))), ?_⟩
    refine ⟨Nat.zero_le _, fun e ne => ?_⟩
    refine ⟨_, rfl, e, a, [], l, rfl, .of upd_same, same_tup (same_upd ne) hS, Xr.Red.nil, hlen, fun m p H' cm sm s1 np hp => ?_⟩
    refine q m p H' cm (fun x => ?_) ((same_upd ne).trans s1) ((same_upd ne).free np) hp
    rw [sm x, List.append_nil]
end
end Lr

set_option Elab.async false
set_option linter.all false
set_option maxRecDepth 100000
set_option maxHeartbeats 4000000
/-! Operators of an own class, methods called by name, static methods, instances made of starred arguments: readings over the hand layer. -/
namespace Ow
open PySem PySem.Spec PyProof.Rows L2
theorem pe_imp {X : Cx} {e : Expr} {t t' : TE} (he : PE X e t) (h : ∀ σ H Q, t' σ H Q → t σ H Q) : PE X e t' := ⟨fun pins s σ H Q I q => he.run pins s σ H Q I (h σ H Q q)⟩
section
variable {X : Cx} {CX : CXT} {pins : List (Addr × Obj)} {σ : L2.St} {H : Hp} {s : Shared} {a C g : Addr} {n : Nat} {sp : Sp} {E : XK}
/-- x op y, both instances of the class at C whose def for op is at g -/
def rBinO (C : Addr) (sp : Sp) (E : XK) : R2 := fun x y H Q => ∃ a dx fs b dy gs, x = .ref a ∧ y = .ref b ∧ H a = some (.ins C dx fs) ∧ H b = some (.ins C dy gs) ∧ sp [x, y] H Q E
theorem op_binO {op : Operator} (hc : PySem.W.selfFirst X.K C = true) (hs : PySem.W.findIn X.K (.ref C) (PySem.dunder op.info.2) = some (some (.ref g))) (hf : PySem.W.isFn X.K (.ref g) = true) (F : FnR X.prog X.w X.K X.mg X.base CX n g sp)
    (hr : Room n X.A) (hx : Passes CX X E) : OpR X (binaryOp op) (rBinO C sp E) := by
  intro pins s σ H x y v u Q I rx ry h
  obtain ⟨a, dx, fs, b, dy, gs, rfl, rfl, ha, hb, q⟩ := h
  cases (show v = Value.ref a from rx)
  cases (show u = Value.ref b from ry)
  obtain ⟨ox, od, J, _⟩ := StX.insC_at (X := X) I (.inr ⟨dx, fs, ha⟩)
  obtain ⟨ox', od', J', _⟩ := StX.insC_at (X := X) I (.inr ⟨dy, gs, hb⟩)
  obtain ⟨m, hF⟩ := I.fr
  refine PySem.W.binop_K (op := op) hF I.ok.mod.kin J J'.type hc hs hf ?_
  refine wpAny_mono (wpAny_call (run_fnR (us := [.ref a, .ref b]) (vs := [.ref a, .ref b]) F hr hx I (.cons rfl (.cons rfl .nil)) q)) (fun w s' z => ?_) fun _ _ x => x
  obtain ⟨z', H', I', rz, qz⟩ := z
  exact SlX.cmpback rz ⟨z', H', I', rz, qz⟩
/-! ### o.m(k = v, ..) -/
def tMethK (C : Addr) (m : Str) (nk : Nat) (sp : Sp) (E : XK) (ta : TE) (tk : TA) : TE := fun σ H Q => ta σ H fun x H1 => ∃ a dx fs, x = .ref a ∧ H1 a = some (.ins C dx fs) ∧ fs.lookup m = none ∧ tk σ H1 fun zs H2 => zs.length = nk ∧ sp (x :: zs) H2 Q E
/-- binds: the instance by position, the rest by name in the def's order -/
def KB1 (K : PySem.W.Frag) (fd : FuncData) (ps ks : List Str) : Prop := ∀ (s : Shared) (u : Value) (ws : List Value), K.In s.heap → ws.length = ks.length → BindsTo s fd ⟨[u], ks.zip ws⟩ (ps.zip (u :: ws))
theorem pe_methK {fd : FuncData} {ps ks : List Str} {m : Str} {k : Nat} {pl : Sem Bool} {o : Expr} {kws : List Keyword} {ta : TE} {tk : TA} {apos pos : Pos} (he : PE X o ta) (c : Cls X.K C) (hm : Meth X.K C m g) (F : FnOk X.prog X.w X.K X.mg X.base CX k g fd ps sp) (hr : Room k X.A) (hb : KB1 X.K fd ps ks) (hx : Passes CX X E)
    (hkw : PK X kws tk) (hall : (backToKw pos (keywordEach kws X.env)).all (·.1.isSome) = true := by rfl) (hks : (backToKw pos (keywordEach kws X.env)).filterMap (·.1) = ks := by rfl)
    (hpl : ((backTo pos (starEach [] X.env)).any (·.1) || (backToKw pos (keywordEach kws X.env)).any (·.1.isNone)) = false := by rfl)
    (ht : eval (.Call (.Attribute o m apos) [] kws pos) X.env = (do
      let ov ← eval o X.env
      standAt apos.atName
      let (f, first) ← holding [ov] (getMethod ov m pl)
      callWith pos f first (backTo pos (starEach [] X.env)) (backToKw pos (keywordEach kws X.env))) := by rfl) :
    PE X (.Call (.Attribute o m apos) [] kws pos) (tMethK C m ks.length sp E ta tk) := by
  refine ⟨fun pins s σ H Q I h => ?_⟩
  refine PySem.W.methodCall_KW (pl := pl) (thn (he.run pins s σ H _ I h) fun u s1 ⟨x, H1, I1, rx, a, dx, fs, ex, ea, l, q⟩ => ?_) ht
  subst ex
  obtain rfl : u = Value.ref a := rx
  refine getmeth_ok I1 ea c hm l ?_
  refine PySem.W.callWith_KW0 (first := [.ref a]) (h₀ := X.base) I.ok.mod.kin hm.kp hall ?_ hpl
  refine thn (hkw.run pos pins s1 σ H1 _ I1 q) fun ws s2 ⟨zs, H2, I2, rz, hl, q2⟩ => ⟨I2.kIn, ?_⟩
  rw [hks]
  have hlw : ws.length = ks.length := by rw [← rz.length]; exact hl
  have r2 : Vals (V.ref a :: zs) (Value.ref a :: ws) := .cons rfl rz
  refine wpAny_call (codeAny_mono (F.run X.A X.stack s2 H2 ⟨[Value.ref a], ks.zip ws⟩ (Value.ref a :: ws) (V.ref a :: zs) Q E hr I2.env0 (hb s2 (.ref a) ws I2.kIn hlw) r2 q2) fun r s' hq => ?_)
  cases r with
  | error e => exact hx pins σ H2 s2 e s' I2 hq
  | ok fl =>
    cases fl with
    | ret u => exact I2.after hq
    | next => exact False.elim hq
    | brk => exact False.elim hq
    | cont => exact False.elim hq
/-! ### C.m(e), m a static method -/
structure SMet (K : PySem.W.Frag) (C : Addr) (mc : Value) (m : Str) (p g : Addr) : Prop where
  at_ : PySem.W.findCls K (.ref C) mc m = some (.get (.builtin "staticmethod.__get__") (.ref p) .none (.ref C))
  rc : ∃ rest, PySem.W.recIn K p "staticmethod" = some (.ref g :: rest)
  kp : PySem.W.keepIn K (.ref g) = true
def tSMeth (C : Addr) (sp : Sp) (E : XK) (ta : TE) (t : TA) : TE := fun σ H Q => ta σ H fun x H1 => x = .ref C ∧ t σ H1 fun vs H2 => sp vs H2 Q E
theorem pe_smeth {m : Str} {k : Nat} {mc : Value} {p : Addr} {pl : Sem Bool} {o e : Expr} {es : List Expr} {ta : TE} {t : TA} {apos pos : Pos} (he : PE X o ta) (r : ClX.CRead X.K C mc) (c : SMet X.K C mc m p g) (F : FnR X.prog X.w X.K X.mg X.base CX k g sp) (hr : Room k X.A) (hx : Passes CX X E) (ha : PA X (e :: es) t)
    (hst : starEach (e :: es) X.env = (false, eval e X.env) :: starEach es X.env := by rfl) (hpl : (backTo pos (starEach es X.env)).any (·.1) = false := by rfl)
    (ht : eval (.Call (.Attribute o m apos) (e :: es) [] pos) X.env = (do
      let ov ← eval o X.env
      standAt apos.atName
      let (f, first) ← holding [ov] (getMethod ov m pl)
      callWith pos f first (backTo pos (starEach (e :: es) X.env)) (backToKw pos (keywordEach [] X.env))) := by rfl) :
    PE X (.Call (.Attribute o m apos) (e :: es) [] pos) (tSMeth C sp E ta t) := by
  refine ⟨fun pins s σ H Q I h => ?_⟩
  refine PySem.W.methodCall_KW (pl := pl) (thn (he.run pins s σ H _ I h) fun u s1 ⟨x, H1, I1, rx, ex, q⟩ => ?_) ht
  subst ex
  obtain rfl : u = Value.ref C := rx
  obtain ⟨rest, hp⟩ := c.rc
  refine PySem.W.method_cls I1.kIn r.ga (PySem.W.cls_bind I1.kIn r.rd c.at_ (wpAny_call (PySem.W.sm_get (s := { s1 with toks := s1.toks + 1 }) I1.kIn hp (PySem.W.handed_on rfl ?_))))
  have I2 : Inv X pins σ H1 { s1 with toks := s1.toks + 1 } := I1.tok _
  refine PySem.W.callWith_K (first := []) (h₀ := X.base) I.ok.mod.kin c.kp (thn (ha.run pos pins _ σ H1 _ I2 q) fun us s3 ⟨vs, H3, I3, rv, q3⟩ => ⟨I3.kIn, ?_⟩) hst hpl
  exact wpAny_call (run_fnR (us := us) (vs := vs) F hr hx I3 rv q3)
end
/-! ### instances made: of no arguments, of a starred one -/
section
variable {X : Cx} {CX : CXT} {k : Nat} {f C : Addr} {sp : Sp} {E : XK} {x : Str} {e : Expr} {te : TE} {p pos sp_ : Pos}
/-- what making an instance of the class at C asks -/
def mkAsk (C : Addr) (sp : Sp) (E : XK) (vs : List V) (H1 : Hp) (Q : VK) : Prop := ∀ x dx, H1 x = Option.none → H1 dx = Option.none → dx ≠ x →
  sp (V.ref x :: vs) (upd (upd H1 dx (.own x)) x (.ins C dx [])) (fun v H2 => v = .non ∧ Q (.ref x) H2) E
theorem pe_makeR0 (M : Mk X.K C f) (F : FnR X.prog X.w X.K X.mg X.base CX k f sp) (hr : Room (k + 1) X.A) (hg : Gl X x) (hm : X.mg x = some (.ref C)) (hx : Passes CX X E) (hdb : (x == ("__debug__" : Str)) = false := by decide) :
    PE X (.Call (.Name x p) [] [] pos) (fun σ H Q => mkAsk C sp E [] H Q) := by
  refine ⟨fun pins s σ H Q I h => ?_⟩
  refine wpAny_Call_Name_kw (ld_glob I hg hm ?_ hdb)
  exact PySem.W.callWith_K0 I.kIn M.kp (StX.run_makeR M F hr hx I .nil h)
theorem pe_makeS1 (M : Mk X.K C f) (F : FnR X.prog X.w X.K X.mg X.base CX k f sp) (hr : Room (k + 1) X.A) (hg : Gl X x) (hm : X.mg x = some (.ref C)) (hx : Passes CX X E) (he : PE X e te) (hd : (x == ("__debug__" : Str)) = false := by decide)
    (hst : starEach [.Starred e sp_] X.env = [(true, eval e X.env)] := by rfl) :
    PE X (.Call (.Name x p) [.Starred e sp_] [] pos) (fun σ H Q => te σ H fun y H1 => ∃ a xs, y = V.ref a ∧ (SqT X.K H1 a xs ∨ SqL X.K H1 a xs) ∧ mkAsk C sp E xs H1 Q) := by
  refine ⟨fun pins s σ H Q I h => ?_⟩
  refine wpAny_Call_Name_kw (ld_glob I hg hm ?_ hd)
  refine PySem.W.callWith_S (h₀ := X.base) I.ok.mod.kin M.kp (thn (he.run pins s σ H _ I h) fun v s1 ⟨y, H1, I1, ry, a, xs, ey, hxs, q⟩ => ?_) hst
  subst ey
  obtain rfl : v = Value.ref a := ry
  exact StX.star_any I1 hxs fun us s2 I2 rv => ⟨I2.kIn, StX.run_makeR M F hr hx I2 rv q⟩
theorem pe_makeRs {es : List Expr} {t : TA} (M : Mk X.K C f) (F : FnR X.prog X.w X.K X.mg X.base CX k f sp) (hr : Room (k + 1) X.A) (hg : Gl X x) (hm : X.mg x = some (.ref C)) (hx : Passes CX X E) (ha : PA X (e :: es) t) (hdb : (x == ("__debug__" : Str)) = false := by decide)
    (he : starEach (e :: es) X.env = (false, eval e X.env) :: starEach es X.env := by rfl) (hpl : (backTo pos (starEach es X.env)).any (·.1) = false := by rfl) : PE X (.Call (.Name x p) (e :: es) [] pos) (fun σ H Q => t σ H fun vs H1 => mkAsk C sp E vs H1 Q) :=
  StX.pe_makeR M F hr hg hm hx ha hdb he hpl
end
end Ow

set_option Elab.async false
set_option linter.all false
set_option maxRecDepth 100000
set_option maxHeartbeats 4000000
namespace Lr
open PySem PySem.Spec PyProof.Rows L2 Ow
/-! ### spaces as objects -/
def SpA (C : Addr) (H : Hp) (x : Addr) (m : List Nat) : Prop := ∃ dx t, H x = some (.ins C dx [("rows", .ref t)]) ∧ H t = some (.tup (ri m)) ∧ Xr.Canon m ∧ ∀ r ∈ m, r < 2 ^ 16
theorem SpA.keep {C : Addr} {H H' : Hp} {x : Addr} {m : List Nat} (h : SpA C H x m) (s : Same H H') : SpA C H' x m := by
  obtain ⟨dx, t, h1, h2, h3⟩ := h
  exact ⟨dx, t, s _ _ h1, s _ _ h2, h3⟩
/-- what the top's names stand for -/
structure Cs (K : PySem.W.Frag) (mg : Str → Option Value) (C : Addr) : Prop where
  cl : Cls K C
  nR : NoAttr K C "rows"
  gC : mg "Space" = some (.ref C)
  ca : PySem.W.findIn K (.ref C) "__class__" = some (some (.builtin "object.__class__"))
  cn : PySem.W.specialIn K (.builtin "object.__class__") "__get__" = some (some (.builtin "getset_descriptor.__get__"))
  ct : PySem.W.takesIn K (.builtin "object.__class__") = some true
  cm : PySem.W.mroIn K C (.type "object") = some true
  kC : PySem.W.kitOne K (.ref C) (.ref C) = some true
  sf : PySem.W.selfFirst K C = true
section
variable {P : Program} {w : World} {K : PySem.W.Frag} {mg : Str → Option Value} {base : Heap}
theorem lookup_rows {t : V} : (([("rows", t)] : List (Str × V))).lookup ("rows" : Str) = some t := by simp [List.lookup]
/-! ### Space.__init__ -/
abbrev s_init : Stmt := inClass (topS 23) 1
theorem sc_init : FnScope ["self", "rows", "row"] ["self", "rows"] (defScope s_init) := ⟨rfl, rfl, rfl, by decide +kernel, rfl, by decide +kernel, by decide +kernel⟩
def spInit (C : Addr) : Sp := fun vs H Q _ => ∃ (x dx p : Addr) (l : List Nat), vs = [.ref x, .ref p] ∧ H x = some (.ins C dx []) ∧ H p = some (.tup (ri l)) ∧ (∀ r ∈ l, r < 2 ^ 16) ∧ l.length ≤ 1000 ∧
  ∀ (m : List Nat) (t : Addr) (H' : Hp), Xr.Canon m → (∀ y, Xr.Span m y ↔ Xr.Span l y) → (∀ b o, b ≠ x → H b = some o → H' b = some o) → H' x = some (.ins C dx [("rows", .ref t)]) → H' t = some (.tup (ri m)) → Q .non H'
theorem all_true {bs : List Bool} (h : ∀ b ∈ bs, b = true) : bs.all id = true := List.all_eq_true.mpr fun b hb => h b hb
theorem body_init {C : Addr} {f fW fI fR fL fV : Addr} {fdW fdI fdR fdL fdV : FuncData} {cdv : Value} {A : Around} {outer : List Env} {s : Shared} {H : Hp} {vs : List V} {Q : VK} {E : XK}
    (FW : Fun K "is_within" "is_within" s_is_within fW fdW) (bW : Binds K fdW ["value", "least", "most"] []) (gW : mg "is_within" = some (.ref fW)) (FI : Fun K "is_integer" "is_integer" s_is_integer fI fdI) (bI : Binds K fdI ["value"] []) (gI : mg "is_integer" = some (.ref fI))
    (FR : Fun K "reduced" "reduced" s_reduced fR fdR) (bR : Binds K fdR ["rows"] []) (gR : mg "reduced" = some (.ref fR)) (FL : Fun K "lessened" "lessened" s_lessened fL fdL) (bL : Binds K fdL ["bits", "rows"] []) (gL : mg "lessened" = some (.ref fL)) (FV : Fun K "widened" "widened" s_widened fV fdV) (bV : Binds K fdV ["rows", "added"] []) (gV : mg "widened" = some (.ref fV))
    (T : Nm mg) (S : Cs K mg C) (hr : Room 3 (A.deeper (envOfC "Space.__init__" (defScope s_init) s.heap.objs.size f cdv))) (h : spInit C vs H Q E) :
    ∃ t, PSs (cxOf CX0 P w K mg base ["self", "rows", "row"] "Space.__init__" (defScope s_init) f cdv A outer s H E).nox (defBody s_init) t ∧ t { nx := fun _ H' => Q .non H', rt := Q } (start ["self", "rows", "row"] vs) H := by
  have GW : FnOk P w K mg base CX0 2 fW fdW ["value", "least", "most"] spWithin := ok_within FW FI bI gI T
  have GR : FnOk P w K mg base CX0 3 fR fdR ["rows"] (spRedT K) := ok_redT FR FV bV gV FL bL gL T
  obtain ⟨tb, gM⟩ := T.mb
  obtain ⟨x, dx, p, l, rfl, hx, hp, hl, hlen, q⟩ := h
  refine ⟨_, pss_cons (ps_if (pt_not (pt_val (pe_callB (cr_all rfl) (by rfl) T.all PyProof.Rows.boot_all (pa_cons (pe_lc (own := [("row", 2)]) (g := (gName 2)) (tt := tYes) rfl sc_init.nd (pi_tup (pv 1)) (blkOk_by (N := ["self", "rows", "row"]) (sc := defScope s_init) (by decide +kernel)) (fun _ _ _ _ _ => pg_name (i := 2) sc_init.nd rfl (Or.inl rfl)) (fun _ _ _ _ _ => pts_nil)
      (fun _ _ _ _ _ => (pe_call GW (hr.mono (by decide)) rfl gW FW.kp bW .nil pass0 (pa_cons (pv 2) (pa_cons pe_int (pa_cons (pe_glob (v := .int 65535) rfl gM ⟨_, rfl⟩) pa_nil)))))) pa_nil)))) (pss_one ps_never) pss_nil)
    (pss_one (ps_fld (pv 0) (pe_call GR hr rfl gR FR.kp bR .nil pass0 (pa_cons (pv 1) pa_nil)) rfl)), ?_⟩
  refine ⟨_, rfl, p, rfl, ⟨_, .of hp⟩, fun D nD => ?_⟩
  have pD : p ≠ D := ne_of_none hp nD
  refine lc_tup (K := K) (a := p) (xs := ri l) (fun j H'' => Same H H'' ∧ H D = none ∧ H'' D = some (.lst ((List.replicate j true).map V.bl))) ⟨same_upd nD, nD, upd_same⟩ (fun j H'' _ ⟨e, _⟩ => same_tup e (.of hp)) ?_ ?_
  · rintro j y H'' hj ⟨s2, nD', e2⟩
    obtain ⟨n, hn, _, rfl⟩ := ri_mem hj
    have jl : j < l.length := by
      have := (List.getElem?_eq_some_iff.mp hj).1
      rwa [ri_len] at this
    refine ⟨rfl, ?_⟩
    refine ⟨_, rfl, n, 0, 65535, rfl, ?_⟩
    refine ⟨_, e2, ?_, same_put s2 nD', nD', ?_⟩
    · rw [List.length_map, List.length_replicate]
      exact small1000 (by omega)
    · rw [upd_same]
      have hb := hl n hn
      have e : decide ((0 : Int) ≤ (n : Int) ∧ (n : Int) ≤ 65535) = true := decide_eq_true ⟨by omega, by omega⟩
      rw [e, List.replicate_succ', List.map_append]
      rfl
  · rintro H'' ⟨s2, nD', e2⟩
    refine ⟨D, _, rfl, .of e2, true, ?_, ?_⟩
    · rw [all_true fun b hb => (List.mem_replicate.mp hb).2]
    · refine iteF ?_
      refine ⟨_, rfl, p, l, rfl, .of (s2 _ _ hp), hlen, fun m t H3 cm sm s3 nt ht => ?_⟩
      refine ⟨_, rfl, x, C, dx, [], rfl, s3 _ _ (s2 _ _ hx), S.cl, S.nR, by decide, ?_⟩
      have tx : t ≠ x := fun e => by
        rw [e, s2 _ _ hx] at nt
        cases nt
      refine q m t _ cm sm (fun b o hb e => ?_) upd_same ?_
      · rw [upd_ne hb]
        exact s3 _ _ (s2 _ _ e)
      · rw [upd_ne tx]
        exact ht
end
end Lr

set_option Elab.async false
set_option linter.all false
set_option maxRecDepth 100000
set_option maxHeartbeats 4000000
namespace Lr
open PySem PySem.Spec PyProof.Rows L2 Ow
section
variable {P : Program} {w : World} {K : PySem.W.Frag} {mg : Str → Option Value} {base : Heap}
def spInitS (C : Addr) : Sp := fun vs H Q E => ∃ ws rest, vs = ws ++ rest ∧ ws.length = (["self"] : List Str).length ∧ rest.length ≤ sizeLine ∧ ∀ p, H p = Option.none → spInit C (ws ++ [V.ref p]) (upd H p (.tup rest)) Q E
theorem ok_init {C : Addr} {f fW fI fR fL fV : Addr} {fd fdW fdI fdR fdL fdV : FuncData} (F : Fun K "__init__" "Space.__init__" s_init f fd)
    (FW : Fun K "is_within" "is_within" s_is_within fW fdW) (bW : Binds K fdW ["value", "least", "most"] []) (gW : mg "is_within" = some (.ref fW)) (FI : Fun K "is_integer" "is_integer" s_is_integer fI fdI) (bI : Binds K fdI ["value"] []) (gI : mg "is_integer" = some (.ref fI))
    (FR : Fun K "reduced" "reduced" s_reduced fR fdR) (bR : Binds K fdR ["rows"] []) (gR : mg "reduced" = some (.ref fR)) (FL : Fun K "lessened" "lessened" s_lessened fL fdL) (bL : Binds K fdL ["bits", "rows"] []) (gL : mg "lessened" = some (.ref fL)) (FV : Fun K "widened" "widened" s_widened fV fdV) (bV : Binds K fdV ["rows", "added"] []) (gV : mg "widened" = some (.ref fV))
    (T : Nm mg) (S : Cs K mg C) : FnR P w K mg base CX0 4 f (spInitS C) := by
  obtain ⟨oc, od, kV, doc, pm, an, cdv, ct, osl, rfl, lk, hcd⟩ := F.ex
  refine StX.fn_star (ps := ["self"]) (pv := "rows") (sp := spInit C) (k := 3) lk hcd sc_init StX.cxUp_none (fun us rest h => StX.bind_star1 (p1 := "self") (pv := "rows") (B := fun z => bindArgs (PySem.W.fnOf "__init__" "Space.__init__" (defArgs s_init) (defBody s_init) (defScope s_init) Value.none kV doc pm an cdv ct) { pos := z }) (fun a => rfl) (fun a r rs => rfl) us rest h) fun A outer s H vs Q E hr hsp => ?_
  obtain ⟨t, h, q⟩ := body_init (P := P) (w := w) (base := base) (outer := outer) (s := s) FW bW gW FI bI gI FR bR gR FL bL gL FV bV gV T S hr hsp
  exact ⟨t, h.nox, q⟩
/-- a space is made of few integers -/
def MkS (C : Addr) (l : List Nat) (H : Hp) (Q : VK) : Prop := (∀ r ∈ l, r < 2 ^ 16) ∧ l.length ≤ 1000 ∧ ∀ (m : List Nat) (x : Addr) (H' : Hp), (∀ y, Xr.Span m y ↔ Xr.Span l y) → SpA C H' x m → Same H H' → H x = none → Q (.ref x) H'
theorem span_lt {l m : List Nat} (h : ∀ y, Xr.Span m y ↔ Xr.Span l y) (hl : ∀ r ∈ l, r < 2 ^ 16) : ∀ r ∈ m, r < 2 ^ 16 := fun r hr =>
  Xr.span_least (S := fun x => x < 2 ^ 16) (by decide) (fun x y a b => Nat.xor_lt_two_pow a b) hl ((h r).mp (Xr.span_mem hr))
theorem ask_of {C : Addr} {l : List Nat} {H : Hp} {Q : VK} {E : XK} (h : MkS C l H Q) : mkAsk C (spInitS C) E (ri l) H Q := by
  obtain ⟨h1, h2, q⟩ := h
  intro x dx nx nd ne
  refine ⟨[V.ref x], ri l, rfl, rfl, by rw [ri_len]; exact Nat.le_of_lt (small1000 h2), fun p np => ?_⟩
  have xp : x ≠ p := fun e => by
    rw [← e, upd_same] at np
    cases np
  have dp : dx ≠ p := fun e => by
    rw [← e, upd_ne ne, upd_same] at np
    cases np
  refine ⟨x, dx, p, l, rfl, by rw [upd_ne xp, upd_same], upd_same, h1, h2, fun m t H' cm sm k hx ht => ⟨rfl, ?_⟩⟩
  refine q m x H' sm ⟨dx, t, hx, ht, cm, span_lt sm h1⟩ (fun b o e => ?_) nx
  have bx : b ≠ x := ne_of_none e nx
  have bd : b ≠ dx := ne_of_none e nd
  have bp : b ≠ p := fun z => by
    rw [← z, upd_ne bx, upd_ne bd, e] at np
    cases np
  exact k b o bx (by rw [upd_ne bp, upd_ne bx, upd_ne bd]; exact e)
/-! ### greatest_bit -/
theorem intBits_nat {n : Nat} (h : n ≠ 0) : (Builtin.Int.intBits (n : Int) : Int) - 1 = ((Xr.top n : Nat) : Int) := by
  have e : Builtin.Int.intBits (n : Int) = n.log2 + 1 := by
    unfold Builtin.Int.intBits
    have z : ((n : Int) == 0) = false := by simpa using h
    rw [z]
    rfl
  rw [e]
  show ((n.log2 + 1 : Nat) : Int) - 1 = ((n.log2 : Nat) : Int)
  omega
theorem shl_one (t : Nat) : (1 : Int) * 2 ^ ((t : Int)).toNat = ((2 ^ t : Nat) : Int) := by
  rw [Int.one_mul, Int.toNat_natCast, Int.natCast_pow]
  rfl
theorem cpow_one {t : Nat} (h : t ≤ 1000) : CPow 1 (t : Int) := ⟨by omega, by omega, by decide⟩
end
end Lr

set_option Elab.async false
set_option linter.all false
set_option maxRecDepth 100000
set_option maxHeartbeats 4000000
namespace Lr
open PySem PySem.Spec PyProof.Rows L2 Ow
/-- a value's truth -/
def tTru (K : PySem.W.Frag) (ta : TE) : TT := fun σ H Q => ta σ H fun x H' => ∃ k, TruV K x H' k ∧ Q k H'
theorem pt_tru {X : Cx} {a : Expr} {ta : TE} (ha : PE X a ta) (hw : ∀ whole : Sem Value, PySem.isTrue a X.env whole = (do
    let v ← whole
    standAt a.pos
    holding [v] (truthy v))) : PT X a (tTru X.K ta) := pt_truth ha hw
section
variable {P : Program} {w : World} {K : PySem.W.Frag} {mg : Str → Option Value} {base : Heap}
theorem ri_append (a b : List Nat) : ri (a ++ b) = ri a ++ ri b := List.map_append ..
theorem ri_all (l : List Nat) : (ri l).all flatV = true := by
  rw [List.all_eq_true]
  intro x hx
  obtain ⟨n, _, rfl⟩ := List.mem_map.mp hx
  rfl
theorem inV_ri (n : Nat) (l : List Nat) : inV (vi n) (ri l) = l.contains n := by
  induction l with
  | nil => rfl
  | cons a l ih =>
    have e : inV (vi n) (ri (a :: l)) = (((a : Int) == (n : Int)) || inV (vi n) (ri l)) := rfl
    rw [e, ih, List.contains_cons]
    congr 1
    by_cases h : a = n
    · subst h; simp
    · have h1 : ((a : Int) == (n : Int)) = false := by
        simp only [beq_eq_false_iff_ne, ne_eq]
        omega
      have h2 : (n == a) = false := by simpa using fun z => h z.symm
      rw [h1, h2]
theorem ri_int (l : List Nat) : ri l = (l.map fun n : Nat => (n : Int)).map V.int := by
  unfold ri
  rw [List.map_map]
  rfl
theorem sum_nat (l : List Nat) : (l.map fun n : Nat => (n : Int)).sum = ((l.sum : Nat) : Int) := by
  induction l with
  | nil => rfl
  | cons a l ih =>
    rw [List.map_cons, List.sum_cons, List.sum_cons, ih]
    omega
/-! ### even_rows -/
theorem pow_inj {a b : Nat} (h : 2 ^ a = 2 ^ b) : a = b := by
  rcases Nat.lt_trichotomy a b with c | c | c
  · have := Nat.pow_lt_pow_right (a := 2) (by decide) c
    omega
  · exact c
  · have := Nat.pow_lt_pow_right (a := 2) (by decide) c
    omega
theorem top_mem {l : List Nat} {b : Nat} : ((l.map fun r => 2 ^ Xr.top r).contains (2 ^ b)) = (l.map Xr.top).contains b := by
  induction l with
  | nil => rfl
  | cons r l ih =>
    rw [List.map_cons, List.map_cons, List.contains_cons, List.contains_cons, ih]
    congr 1
    by_cases h : b = Xr.top r
    · subst h; simp
    · have h2 : (b == Xr.top r) = false := by simpa using h
      have h1 : ((2 ^ b : Nat) == 2 ^ Xr.top r) = false := by
        simp only [beq_eq_false_iff_ne, ne_eq]
        exact fun z => h (pow_inj z)
      rw [h1, h2]
theorem and_pow_ne {r b : Nat} : (((r &&& 2 ^ b : Nat) : Int) != 0) = r.testBit b := by
  rw [Xr.and_pow]
  cases h : r.testBit b
  · rfl
  · rw [if_pos rfl]
    have : 2 ^ b ≠ 0 := Nat.ne_of_gt (Nat.two_pow_pos b)
    simp only [bne_iff_ne, ne_eq]
    omega
end
end Lr

set_option Elab.async false
set_option linter.all false
set_option maxRecDepth 100000
set_option maxHeartbeats 4000000
namespace Lr
open PySem PySem.Spec PyProof.Rows L2 Ow
structure Ms (K : PySem.W.Frag) (C : Addr) : Prop where
  most : ∃ mc u, ClX.CRead K C mc ∧ ClX.CVal K C mc "MOST" (.int 15) u
section
variable {P : Program} {w : World} {K : PySem.W.Frag} {mg : Str → Option Value} {base : Heap}
def oV : Option Nat → V
  | none => .non
  | some n => vi n
theorem shr_bit (n t : Nat) : (Builtin.bitAnd ((n : Int) / 2 ^ ((t : Int)).toNat) 1 != 0) = n.testBit t := by
  have e : ((n : Int) / 2 ^ ((t : Int)).toNat) = ((n / 2 ^ t : Nat) : Int) := by
    rw [Int.toNat_natCast]
    simp
  rw [e]
  have f : Builtin.bitAnd ((n / 2 ^ t : Nat) : Int) ((1 : Nat) : Int) = (((n / 2 ^ t) &&& 1 : Nat) : Int) := bitAnd_nat _ 1
  show (Builtin.bitAnd ((n / 2 ^ t : Nat) : Int) ((1 : Nat) : Int) != 0) = _
  rw [f, Nat.and_one_is_mod, Nat.testBit_eq_decide_div_mod_eq]
  rcases Nat.mod_two_eq_zero_or_one (n / 2 ^ t) with h | h <;> rw [h] <;> rfl
/-! ### Space.rest -/
abbrev s_rest : Stmt := inClass (topS 23) 14
theorem sc_rest : FnScope ["self", "bits"] ["self", "bits"] (defScope s_rest) := ⟨rfl, rfl, rfl, by decide +kernel, rfl, by decide +kernel, by decide +kernel⟩
def spRest (C : Addr) : Sp := fun vs H Q _ => ∃ (x : Addr) (m : List Nat) (n : Nat), vs = [.ref x, vi n] ∧ SpA C H x m ∧ n < 2 ^ 16 ∧ Q (vi (Xr.lessened n m)) H
theorem ok_rest {C f fW fI fL : Addr} {fd fdW fdI fdL : FuncData} (F : Fun K "rest" "Space.rest" s_rest f fd)
    (FW : Fun K "is_within" "is_within" s_is_within fW fdW) (bW : Binds K fdW ["value", "least", "most"] []) (gW : mg "is_within" = some (.ref fW)) (FI : Fun K "is_integer" "is_integer" s_is_integer fI fdI) (bI : Binds K fdI ["value"] []) (gI : mg "is_integer" = some (.ref fI))
    (FL : Fun K "lessened" "lessened" s_lessened fL fdL) (bL : Binds K fdL ["bits", "rows"] []) (gL : mg "lessened" = some (.ref fL)) (T : Nm mg) (S : Cs K mg C) : FnOk P w K mg base CX0 3 f fd ["self", "bits"] (spRest C) := by
  have GW : FnOk P w K mg base CX0 2 fW fdW ["value", "least", "most"] spWithin := ok_within FW FI bI gI T
  have GL : FnOk P w K mg base CX0 1 fL fdL ["bits", "rows"] (spLessT K) := ok_lessT FL
  obtain ⟨tb, gM⟩ := T.mb
  refine F.ok sc_rest (fun vs H Q E h => ?_) (fun cdv A outer s H vs Q E hr h => ?_)
  · obtain ⟨x, m, n, rfl, _⟩ := h
    rfl
  · obtain ⟨x, m, n, rfl, ⟨dx, t, hx, ht, cm, hm⟩, hn, q⟩ := h
    have hr1 : Room 1 _ := hr.mono (by decide)
    refine ⟨_, pss_cons (ps_if (pt_not (pt_val (pe_call GW hr rfl gW FW.kp bW .nil pass0 (pa_cons (pv 1) (pa_cons pe_int (pa_cons (pe_glob (v := .int 65535) rfl gM ⟨_, rfl⟩) pa_nil)))))) (pss_one ps_never) pss_nil)
      (pss_one (ps_ret (pe_call GL hr1 rfl gL FL.kp bL .nil pass0 (pa_cons (pv 1) (pa_cons (pe_fld (pv 0) rfl) pa_nil))))), ?_⟩
    refine ⟨_, rfl, n, 0, 65535, rfl, _, rfl, ?_⟩
    have e : decide ((0 : Int) ≤ (n : Int) ∧ (n : Int) ≤ 65535) = true := decide_eq_true ⟨by omega, by omega⟩
    rw [e]
    refine iteF ?_
    exact ⟨_, rfl, _, rfl, x, C, dx, _, _, rfl, hx, S.cl, S.nR, lookup_rows, n, t, m, rfl, .of ht, q⟩
end
end Lr

set_option Elab.async false
set_option linter.all false
set_option maxRecDepth 100000
set_option maxHeartbeats 4000000
namespace Lr
open PySem PySem.Spec PyProof.Rows L2 Ow
section
variable {P : Program} {w : World} {K : PySem.W.Frag} {mg : Str → Option Value} {base : Heap}
/-! ### Space.__add__ -/
abbrev s_add : Stmt := inClass (topS 23) 7
theorem sc_add : FnScope ["self", "other", "rows"] ["self", "other"] (defScope s_add) := ⟨rfl, rfl, rfl, by decide +kernel, rfl, by decide +kernel, by decide +kernel⟩
def spAdd (C : Addr) : Sp := fun vs H Q _ => ∃ (x y : Addr) (a b : List Nat), vs = [.ref x, .ref y] ∧ SpA C H x a ∧ SpA C H y b ∧ a.length + b.length ≤ 1000 ∧
  ∀ (m : List Nat) (z : Addr) (H' : Hp), (∀ u, Xr.Span m u ↔ Xr.Span (a ++ b) u) → SpA C H' z m → Same H H' → H z = none → Q (.ref z) H'
theorem ok_add {C f f0 : Addr} {fd : FuncData} (F : Fun K "__add__" "Space.__add__" s_add f fd) (GI : FnR P w K mg base CX0 4 f0 (spInitS C)) (MM : Mk K C f0) (T : Nm mg) (S : Cs K mg C) : FnOk P w K mg base CX0 6 f fd ["self", "other"] (spAdd C) := by
  refine F.ok sc_add (fun vs H Q E h => ?_) (fun cdv A outer s H vs Q E hr h => ?_)
  · obtain ⟨x, y, a, b, rfl, _⟩ := h
    rfl
  · obtain ⟨x, y, a, b, rfl, ⟨dx, t, hx, ht, ca, ha⟩, ⟨dy, u, hy, hu, cb, hb⟩, hl, q⟩ := h
    refine ⟨_, pss_cons (ps_if (pt_not (pt_val (pe_callB call_isi (by rfl) T.isi boot_isinstance (pa_cons (pv 1) (pa_cons (pe_glob (v := .ref C) rfl S.gC rfl) pa_nil))))) (pss_one ps_never) pss_nil)
      (pss_cons (ps_set (i := 2) sc_add.nd rfl (Or.inl rfl) (pe_op op_catA (pe_fld (pv 0) rfl) (pe_fld (pv 1) rfl)))
      (pss_one (ps_ret (pe_makeS1 MM GI hr rfl S.gC pass0 (pv 2))))), ?_⟩
    refine ⟨_, rfl, .ref y, .ref C, .ref C, .ref C, true, rfl, .own C, .base (.ins hy S.cl S.ca S.cn S.ct S.cm), S.kC, true, rfl, iteF ?_⟩
    have fin : ∀ (p : Addr) (H1 : Hp) (xs : List Nat), SqT K H1 p (ri xs) → Same H H1 → xs = a ++ b → (∃ a1 xs1, V.ref p = V.ref a1 ∧ (SqT K H1 a1 xs1 ∨ SqL K H1 a1 xs1) ∧ mkAsk C (spInitS C) E0 xs1 H1 (fun x H' => Q x H')) := by
      rintro p H1 xs hp s1 rfl
      refine ⟨p, _, rfl, .inl hp, ask_of ⟨fun r hr' => ?_, by rw [List.length_append]; exact hl, fun m z H' sm hz s2 nz => q m z H' sm hz (s1.trans s2) (s1.free nz)⟩⟩
      rcases List.mem_append.mp hr' with h | h
      · exact ha r h
      · exact hb r h
    refine ⟨_, rfl, x, C, dx, _, _, rfl, hx, S.cl, S.nR, lookup_rows, _, rfl, y, C, dy, _, _, rfl, hy, S.cl, S.nR, lookup_rows, ?_⟩
    refine ⟨t, u, ri a, ri b, rfl, rfl, .of ht, .of hu, ?_, fun e => ?_, fun _ e => ?_, fun _ _ p np => ?_⟩
    · rw [ri_len, ri_len]
      exact Nat.le_of_lt (small1000 hl)
    · have ea : a = [] := by
        cases a with
        | nil => rfl
        | cons => cases e
      exact ⟨_, rfl, fin u H b (.of hu) (fun _ _ h => h) (by rw [ea]; rfl)⟩
    · have eb : b = [] := by
        cases b with
        | nil => rfl
        | cons => cases e
      exact ⟨_, rfl, fin t H a (.of ht) (fun _ _ h => h) (by rw [eb, List.append_nil])⟩
    · rw [← ri_append]
      exact ⟨_, rfl, fin p _ (a ++ b) (.of upd_same) (same_upd np) rfl⟩
/-! ### Space.whole -/
abbrev s_whole : Stmt := inClass (topS 23) 16
def spWhole (C : Addr) : Sp := fun vs H Q _ => ∃ n : Nat, vs = [vi n] ∧ n ≤ 16 ∧
  ∀ (m : List Nat) (z : Addr) (H' : Hp), (∀ u, Xr.Span m u ↔ Xr.Span ((List.range n).map (2 ^ ·)) u) → SpA C H' z m → Same H H' → H z = none → Q (.ref z) H'
end
end Lr

set_option Elab.async false
set_option linter.all false
set_option maxRecDepth 100000
set_option maxHeartbeats 4000000
namespace Lr
open PySem PySem.Spec PyProof.Rows L2 Ow
/-! ### the pen -/
def ii (l : List Int) : List V := l.map V.int
theorem ii_len (l : List Int) : (ii l).length = l.length := List.length_map ..
theorem ri_ii (l : List Nat) : ri l = ii (l.map fun n : Nat => (n : Int)) := ri_int l
/-- a pen at a: from at most n draws -/
def PenAt (H : Hp) (a b : Addr) (n : Nat) : Prop := ∃ (ns : List Int) (i : Nat) (g : Int), H a = some (.lst [.ref b, .int (i : Int), .int g]) ∧ H b = some (.lst (ii ns)) ∧ ns.length ≤ 63 ∧ i ≤ n
/-- all stays but what stands at a -/
def Kept (a : Addr) (H H' : Hp) : Prop := ∀ c o, c ≠ a → H c = some o → H' c = some o
theorem Kept.trans {a : Addr} {H H1 H2 : Hp} (x : Kept a H H1) (y : Kept a H1 H2) : Kept a H H2 := fun c o n h => y c o n (x c o n h)
theorem Kept.refl (a : Addr) (H : Hp) : Kept a H H := fun _ _ _ h => h
theorem Same.kept {a : Addr} {H H' : Hp} (s : Same H H') : Kept a H H' := fun c o _ h => s c o h
theorem PenAt.same {H H' : Hp} {a b : Addr} {n : Nat} (p : PenAt H a b n) (s : Same H H') : PenAt H' a b n := by
  obtain ⟨ns, i, g, h1, h2, h3⟩ := p
  exact ⟨ns, i, g, s _ _ h1, s _ _ h2, h3⟩
theorem PenAt.mono {H : Hp} {a b : Addr} {n m : Nat} (p : PenAt H a b n) (h : n ≤ m) : PenAt H a b m := by
  obtain ⟨ns, i, g, h1, h2, h3, h4⟩ := p
  exact ⟨ns, i, g, h1, h2, h3, Nat.le_trans h4 h⟩
theorem kept_upd {a : Addr} {H : Hp} {o : HO} : Kept a H (upd H a o) := fun c o' n h => by
  rw [upd_ne n]
  exact h
theorem pen_ne {H : Hp} {a b c : Addr} {ns : List Int} {v w : V} (h1 : H a = some (.lst [.ref c, v, w])) (h2 : H b = some (.lst (ii ns))) : b ≠ a := by
  rintro rfl
  rw [h1] at h2
  have e : [V.ref c, v, w] = ii ns := by
    injection h2 with e
    injection e
  cases ns with
  | nil => cases e
  | cons x xs => cases e
theorem dp_ints {K : PySem.W.Frag} {H : Hp} : ∀ ns : List Int, DpAll K H (ii ns) (ns.map PyData.int)
  | [] => .nil
  | n :: ns => .cons (.int n) (dp_ints ns)
theorem canlay_ints : ∀ ns : List Int, PyData.canLayAll0 (ns.map PyData.int) = true
  | [] => by simp [PyData.canLayAll0]
  | n :: ns => by simp [PyData.canLayAll0, PyData.canLay0, canlay_ints ns]
theorem depth_ints : ∀ ns : List Int, PyData.depthAll (ns.map PyData.int) ≤ 1 := by
  intro ns
  induction ns with
  | nil => simp [PyData.depthAll]
  | cons n ns ih => simp [PyData.depthAll, PyData.depth]; omega
end Lr

set_option Elab.async false
set_option linter.all false
set_option maxRecDepth 100000
set_option maxHeartbeats 4000000
namespace Lr
open PySem PySem.Spec PyProof.Rows L2 Ow
section
variable {P : Program} {w : World} {K : PySem.W.Frag} {mg : Str → Option Value} {base : Heap}
abbrev s_draw : Stmt := topS 26
theorem sc_draw : FnScope ["_law_pen_here", "_law_many", "_law_digit", "_law_step", "_law_cell", "_law_great", "_law_mixed"] ["_law_pen_here", "_law_many"] (defScope s_draw) := ⟨rfl, rfl, rfl, by decide +kernel, rfl, by decide +kernel, by decide +kernel⟩
def spDraw : Sp := fun vs H Q _ => ∃ (a b : Addr) (m n : Nat), vs = [.ref a, vi m] ∧ PenAt H a b n ∧ n ≤ 1000 ∧ 0 < m ∧ m ≤ 2 ^ 20 ∧ ∀ (d : Nat) (H' : Hp), d < m → PenAt H' a b (n + 1) → Kept a H H' → Q (vi d) H'
theorem modv (x : Int) {m : Nat} (h : 0 < m) : ∃ d : Nat, d < m ∧ x % (m : Int) = (d : Int) := by
  refine ⟨(x % (m : Int)).toNat, ?_, ?_⟩
  · have h1 := Int.emod_nonneg x (by omega : (m : Int) ≠ 0)
    have h2 := Int.emod_lt_of_pos x (by omega : (0 : Int) < (m : Int))
    omega
  · have h1 := Int.emod_nonneg x (by omega : (m : Int) ≠ 0)
    omega
theorem cp1 (x : Int) {i : Nat} (h : i ≤ 1000) : CPow (x % 2147483579 + 78917 * (i : Int) + 557) 5 := by
  refine ⟨by decide, by decide, ?_⟩
  show _ < 18446744073709551616
  omega
theorem mulB {y : Int} {i : Nat} (h0 : 0 ≤ y) (h1 : y < 2147483497) (h : i ≤ 1000) : 0 ≤ y * (2 * (i : Int) + 299) ∧ y * (2 * (i : Int) + 299) ≤ 2147483497 * 2973 ∧ 0 ≤ 49821 * (i : Int) * (i : Int) ∧ 49821 * (i : Int) * (i : Int) ≤ 49821000 * 1000 := by
  refine ⟨Int.mul_nonneg h0 (by omega), Int.mul_le_mul (by omega) (by omega) (by omega) (by omega), Int.mul_nonneg (by omega) (by omega), Int.mul_le_mul (by omega) (by omega) (by omega) (by omega)⟩
theorem cp2 {y : Int} {i : Nat} (h0 : 0 ≤ y) (h1 : y < 2147483497) (h : i ≤ 1000) : CPow (y * (2 * (i : Int) + 299) + 49821 * (i : Int) * (i : Int) + 237) 3 := by
  refine ⟨by decide, by decide, ?_⟩
  obtain ⟨a, b, c, d⟩ := mulB h0 h1 h
  show _ < 18446744073709551616
  omega
theorem ok_draw {f : Addr} {fd : FuncData} (F : Fun K "_law_draw" "_law_draw" s_draw f fd) (T : Nm mg) : FnOk P w K mg base CX0 1 f fd ["_law_pen_here", "_law_many"] spDraw := by
  refine F.ok sc_draw (fun vs H Q E h => ?_) (fun cdv A outer s H vs Q E hr h => ?_)
  · obtain ⟨a, b, m, n, rfl, _⟩ := h
    rfl
  · obtain ⟨a, b, m, n, rfl, ⟨ns, i, g, ha, hb, hn, hi⟩, hn1, m0, m1, q⟩ := h
    have hu := hr.units
    refine ⟨_, (pss_cons (ps_if (pt_cmpR op_gt (pe_ix ix_list (pv 0) pe_int (fun _ _ => rfl)) pe_int (nomark _)) (pss_cons (ps_set (i := 2) sc_draw.nd rfl (Or.inl rfl) (pe_op op_mod (pe_callTy call_int1 (by rfl) T.int PyProof.Rows.boot_int (pa_cons (pe_ix ix_list (pv 0) pe_int (fun _ _ => rfl)) pa_nil)) (pv 1)))
    (pss_cons (ps_asg (pe_op op_fdiv (pe_callTy call_int1 (by rfl) T.int PyProof.Rows.boot_int (pa_cons (pe_ix ix_list (pv 0) pe_int (fun _ _ => rfl)) pa_nil)) (pv 1)) (pg_sub (pv 0) pe_int set_list))
    (pss_one (ps_ret (pv 2))))) pss_nil)
    (pss_cons (ps_set (i := 3) sc_draw.nd rfl (Or.inl rfl) (pe_ix ix_list (pv 0) pe_int (fun _ _ => rfl)))
    (pss_cons (ps_asg (pe_op op_add (pv 3) pe_int) (pg_sub (pv 0) pe_int set_list))
    (pss_cons (ps_set (i := 4) sc_draw.nd rfl (Or.inl rfl) (pe_op op_add (pe_op op_mul pe_int (pv 3)) pe_int))
    (pss_cons (ps_if (pt_cmpR (op_neD hu) (pe_ix ix_list (pv 0) pe_int (fun _ _ => rfl)) (pe_lst pa_nil) (nomark _)) (pss_one (ps_set (i := 4) sc_draw.nd rfl (Or.inl rfl) (pe_ix ix_list (pe_ix ix_list (pv 0) pe_int (fun _ _ => rfl)) (pe_op op_mod (pe_callTy call_int1 (by rfl) T.int PyProof.Rows.boot_int (pa_cons (pv 3) pa_nil)) (pe_callB call_len_seq (by rfl) T.len PySem.boot_len (pa_cons (pe_ix ix_list (pv 0) pe_int (fun _ _ => rfl)) pa_nil))) (fun _ _ => rfl)))) pss_nil)
    (pss_cons (ps_if (PW.pt (pw_and (pt_cmpR op_lt (pv 3) (pe_callB call_len_seq (by rfl) T.len PySem.boot_len (pa_cons (pe_ix ix_list (pv 0) pe_int (fun _ _ => rfl)) pa_nil)) (nomark _)) (pw_and1 (pt_cmpR op_ge (pe_callB call_abs (by rfl) T.abs PyProof.Rows.boot_abs (pa_cons (pv 4) pa_nil)) (pe_op op_pow pe_int pe_int) (nomark _))))) (pss_cons (ps_set (i := 5) sc_draw.nd rfl (Or.inl rfl) (pe_op op_add (pe_op op_mul pe_int (pe_op op_sub (pe_callB call_abs (by rfl) T.abs PyProof.Rows.boot_abs (pa_cons (pv 4) pa_nil)) (pe_op op_pow pe_int pe_int))) (pe_callTy call_int1 (by rfl) T.int PyProof.Rows.boot_int (pa_cons (pe_cmpR op_lt (pv 4) pe_int (nomark _)) pa_nil))))
    (pss_cons (ps_asg (pe_op op_fdiv (pe_callTy call_int1 (by rfl) T.int PyProof.Rows.boot_int (pa_cons (pv 5) pa_nil)) (pv 1)) (pg_sub (pv 0) pe_int set_list))
    (pss_one (ps_ret (pe_op op_mod (pe_callTy call_int1 (by rfl) T.int PyProof.Rows.boot_int (pa_cons (pv 5) pa_nil)) (pv 1)))))) pss_nil)
    (pss_cons (ps_set (i := 6) sc_draw.nd rfl (Or.inl rfl) (pe_op op_mod (pe_callTy call_int1 (by rfl) T.int PyProof.Rows.boot_int (pa_cons (pe_op op_pow (pe_op op_add (pe_op op_add (pe_op op_mod (pe_callTy call_int1 (by rfl) T.int PyProof.Rows.boot_int (pa_cons (pv 4) pa_nil)) pe_int) (pe_op op_mul pe_int (pv 3))) pe_int) pe_int) pa_nil)) pe_int))
    (pss_cons (ps_set (i := 6) sc_draw.nd rfl (Or.inl rfl) (pe_op op_mod (pe_callTy call_int1 (by rfl) T.int PyProof.Rows.boot_int (pa_cons (pe_op op_pow (pe_op op_add (pe_op op_add (pe_op op_mul (pv 6) (pe_op op_add (pe_op op_mul pe_int (pv 3)) pe_int)) (pe_op op_mul (pe_op op_mul pe_int (pv 3)) (pv 3))) pe_int) pe_int) pa_nil)) pe_int))
    (pss_one (ps_ret (pe_op op_mod (pe_callTy call_int1 (by rfl) T.int PyProof.Rows.boot_int (pa_cons (pe_op op_fdiv (pv 6) pe_int) pa_nil)) (pv 1)))))))))))), ?_⟩
    have sq : ∀ {H' : Hp} {v w : V}, H' a = some (.lst [.ref b, v, w]) → SqL K H' a [.ref b, v, w] := fun h => .of h
    refine ⟨_, rfl, a, _, _, .int g, rfl, rfl, .of ha, at_of (j := 2) rfl rfl, _, _, rfl, rfl, _, rfl, ?_⟩
    refine ite2 (fun c => ?_) (fun c => ?_)
    · refine ⟨_, rfl, a, _, _, .int g, rfl, rfl, .of ha, at_of (j := 2) rfl rfl, .inl ⟨_, rfl, _, rfl, _, _, rfl, rfl, ?_, ?_⟩⟩
      · show (0 : Int) < (m : Int)
        omega
      · refine ⟨_, rfl, a, _, _, .int g, rfl, rfl, .of ha, at_of (j := 2) rfl rfl, .inl ⟨_, rfl, _, rfl, _, _, rfl, rfl, ?_, ?_⟩⟩
        · exact ⟨by omega, by omega⟩
        · refine ⟨_, rfl, a, _, _, 2, rfl, rfl, ha, rfl, ?_⟩
          obtain ⟨d, hd, ed⟩ := modv g m0
          refine ⟨_, rfl, ?_⟩
          show Q (V.int (g % (m : Int))) _
          rw [ed]
          exact q d _ hd ⟨ns, i, _, upd_same, by rw [upd_ne (pen_ne ha hb)]; exact hb, hn, by omega⟩ kept_upd
    · refine ⟨_, rfl, a, _, _, .int i, rfl, rfl, .of ha, at_of (j := 1) rfl rfl, ?_⟩
      refine ⟨_, rfl, _, _, rfl, rfl, _, rfl, a, _, _, 1, rfl, rfl, ha, rfl, ?_⟩
      have h1 : (upd H a (HO.lst ([V.ref b, V.int (i : Int), V.int g].set 1 (V.int ((i : Int) + 1))))) a = some (HO.lst [V.ref b, V.int ((i + 1 : Nat) : Int), V.int g]) := by
        rw [upd_same]
        rfl
      have hb1 : (upd H a (HO.lst ([V.ref b, V.int (i : Int), V.int g].set 1 (V.int ((i : Int) + 1))))) b = some (HO.lst (ii ns)) := by
        rw [upd_ne (pen_ne ha hb)]
        exact hb
      have k1 : Kept a H (upd H a (HO.lst ([V.ref b, V.int (i : Int), V.int g].set 1 (V.int ((i : Int) + 1))))) := kept_upd
      show (fun H3 : Hp => _) _
      generalize (upd H a (HO.lst ([V.ref b, V.int (i : Int), V.int g].set 1 (V.int ((i : Int) + 1))))) = H1 at *
      refine ⟨_, rfl, _, _, rfl, rfl, .inl ⟨by decide, by decide⟩, _, _, rfl, rfl, ?_⟩
      refine ⟨_, rfl, a, _, _, .ref b, rfl, rfl, .of h1, at_of (j := 0) rfl rfl, Nat.zero_le _, fun o no => ?_⟩
      have oa : a ≠ o := ne_of_none h1 no
      have ob : b ≠ o := ne_of_none hb1 no
      have h2 : (upd H1 o (.lst [])) a = _ := (upd_ne oa).trans h1
      have hb2 : (upd H1 o (.lst [])) b = _ := (upd_ne ob).trans hb1
      have k2 : Kept a H (upd H1 o (.lst [])) := k1.trans (Same.kept (same_upd no))
      refine ⟨.list (ns.map PyData.int), .list [], .lst (.of hb2) (dp_ints ns), .lst (.of upd_same) .nil, ?_, rfl, _, rfl, ?_⟩
      · refine Bool.and_eq_true_iff.mpr ⟨?_, decide_eq_true ?_⟩
        · show PyData.canLay0 (.list _) = true
          rw [PyData.canLay0]
          exact canlay_ints ns
        · show PyData.depth (.list _) ≤ 64
          rw [PyData.depth]
          have := depth_ints ns
          omega
      generalize upd H1 o (.lst []) = H2 at *
      have cp : CPow 10 18 := ⟨by decide, by decide, by decide⟩
      have i1 : i ≤ 1000 := Nat.le_trans hi hn1
      have cm : ∀ x : Int, CMul 49821 x ∧ CMul 78917 x ∧ CMul 2 x := fun x => ⟨.inl ⟨by decide, by decide⟩, .inl ⟨by decide, by decide⟩, .inl ⟨by decide, by decide⟩⟩
      have pos5 : (0 : Int) < (m : Int) := by omega
      have dv : CDiv 0 (m : Int) := ⟨by omega, by omega⟩
      have fin : ∀ (x : Int) (H3 : Hp), PenAt H3 a b (n + 1) → Kept a H H3 → Q (.int (x % (m : Int))) H3 := fun x H3 p k => by
        obtain ⟨d, hd, ed⟩ := modv x m0
        rw [ed]
        exact q d H3 hd p k
      have pen : PenAt H2 a b (n + 1) := ⟨ns, i + 1, g, h2, hb2, hn, by omega⟩
      have ba : b ≠ a := pen_ne h2 hb2
      refine ite2 (fun c2 => ?_) (fun c2 => ?_)
      have nz : 0 < ns.length := by
        cases ns with
        | nil =>
          have : (!(PyData.list (List.map PyData.int [])).eqv (PyData.list [])) = true := c2
          exact absurd this (by decide)
        | cons x xs => exact Nat.succ_pos _
      have lt : i % ns.length < ns.length := Nat.mod_lt _ nz
      have gz : (ii ns)[i % ns.length]? = some (V.int ns[i % ns.length]) := by
        unfold ii
        rw [List.getElem?_map, List.getElem?_eq_getElem lt]
        rfl
      refine ⟨_, rfl, a, _, _, .ref b, rfl, rfl, .of h2, at_of (j := 0) rfl rfl, _, rfl, .inl ⟨_, rfl, _, rfl, a, _, _, .ref b, rfl, rfl, .of h2, at_of (j := 0) rfl rfl, b, _, rfl, .inl (.of hb2), _, _, rfl, rfl, ?_, ?_⟩⟩
      · show (0 : Int) < (((ii ns).length : Nat) : Int)
        rw [ii_len]
        omega
      refine ⟨b, ii ns, _, _, rfl, rfl, .of hb2, at_of (j := i % ns.length) ?_ gz, ?_⟩
      · show (i : Int) % (((ii ns).length : Nat) : Int) = _
        rw [ii_len]
        exact (Int.natCast_emod i ns.length).symm
      all_goals
        refine ⟨_, rfl, _, rfl, a, _, _, .ref b, rfl, rfl, .of h2, at_of (j := 0) rfl rfl, b, _, rfl, .inl (.of hb2), _, _, rfl, rfl, _, rfl, ?_⟩
      all_goals
        refine ite2 (fun c3 => ?_) (fun c3 => ?_)
      all_goals first
        | refine ⟨_, rfl, _, rfl, _, _, rfl, rfl, cp, _, _, rfl, rfl, _, rfl, ?_⟩
          refine ite2 (fun c4 => ?_) (fun c4 => ?_)
          · refine ⟨_, rfl, _, rfl, _, _, rfl, rfl, cp, _, _, rfl, rfl, _, _, rfl, rfl, (cm _).2.2, _, rfl, _, _, rfl, rfl, .inr ⟨_, rfl, _, _, rfl, rfl, ?_⟩⟩
            refine ⟨_, rfl, .inl ⟨_, rfl, _, rfl, _, _, rfl, rfl, dv, _, rfl, a, _, _, 2, rfl, rfl, h2, rfl, ?_⟩⟩
            refine ⟨_, rfl, .inl ⟨_, rfl, _, rfl, _, _, rfl, rfl, pos5, ?_⟩⟩
            exact fin _ _ ⟨ns, i + 1, _, upd_same, by rw [upd_ne ba]; exact hb2, hn, by omega⟩ (k2.trans kept_upd)
          skip
        | skip
      all_goals
        have y0 : ∀ x : Int, 0 ≤ x % 2147483497 ∧ x % 2147483497 < 2147483497 := fun x => by omega
        refine ⟨_, rfl, .inl ⟨_, rfl, _, _, rfl, rfl, (by show (0 : Int) < 2147483579; decide), _, rfl, _, _, rfl, rfl, (cm _).2.1, _, _, rfl, rfl, _, _, rfl, rfl, _, _, rfl, rfl, cp1 _ i1, .inl ⟨_, rfl, _, _, rfl, rfl, (by show (0 : Int) < 2147483497; decide), ?_⟩⟩⟩
        refine ⟨_, rfl, _, rfl, _, _, rfl, rfl, (cm _).2.2, _, _, rfl, rfl, _, _, rfl, rfl, .inl ⟨?_, ?_⟩, _, rfl, _, _, rfl, rfl, (cm _).1, _, rfl, _, _, rfl, rfl, .inl ⟨?_, ?_⟩, _, _, rfl, rfl, _, _, rfl, rfl, _, _, rfl, rfl, cp2 (y0 _).1 (y0 _).2 i1, .inl ⟨_, rfl, _, _, rfl, rfl, (by show (0 : Int) < 2147483423; decide), ?_⟩⟩
        · exact Int.lt_of_lt_of_le (by decide) (y0 _).1
        · exact Int.lt_trans (y0 _).2 (by decide)
        · omega
        · omega
        refine ⟨_, rfl, _, _, rfl, rfl, ⟨by decide, by decide⟩, .inl ⟨_, rfl, _, rfl, _, _, rfl, rfl, pos5, ?_⟩⟩
        exact fin _ _ pen k2
end
end Lr

set_option Elab.async false
set_option linter.all false
set_option maxRecDepth 100000
set_option maxHeartbeats 4000000
namespace Lr
open PySem PySem.Spec PyProof.Rows L2 Ow
section
variable {P : Program} {w : World} {K : PySem.W.Frag} {mg : Str → Option Value} {base : Heap}
abbrev s_pen : Stmt := topS 25
theorem sc_pen : FnScope ["_law_script"] ["_law_script"] (defScope s_pen) := ⟨rfl, rfl, rfl, by decide +kernel, rfl, by decide +kernel, by decide +kernel⟩
def spPen (K : PySem.W.Frag) : Sp := fun vs H Q _ => ∃ (a : Addr) (ns : List Int), vs = [.ref a] ∧ SqL K H a (ii ns) ∧ ns.length ≤ 63 ∧ ∀ (p b : Addr) (H' : Hp), PenAt H' p b 0 → Same H H' → H p = none → Q (.ref p) H'
theorem cut_ii (ns : List Int) (lo hi : Option Int) : ∃ ms, cutV (ii ns) lo hi = ii ms ∧ ms.length ≤ ns.length := by
  refine ⟨((ns.drop (HT.sIx (ii ns).length 0 lo)).take (HT.sIx (ii ns).length (ii ns).length hi - HT.sIx (ii ns).length 0 lo)), ?_, ?_⟩
  · unfold cutV ii
    rw [List.map_take, List.map_drop]
  · rw [List.length_take, List.length_drop]
    omega
theorem ok_pen {f : Addr} {fd : FuncData} (F : Fun K "_law_pen" "_law_pen" s_pen f fd) (T : Nm mg) : FnOk P w K mg base CX0 1 f fd ["_law_script"] (spPen K) := by
  refine F.ok sc_pen (fun vs H Q E h => ?_) (fun cdv A outer s H vs Q E hr h => ?_)
  · obtain ⟨a, ns, rfl, _⟩ := h
    rfl
  · obtain ⟨a, ns, rfl, hS, hl, q⟩ := h
    refine ⟨_, pss_one (ps_ret (pe_lst (pa_cons (pe_callTy call_list_of (by rfl) T.list PyProof.Rows.boot_list (pa_cons (pe_slice sl_list (pv 0) po_none (po_some pe_int)) pa_nil)) (pa_cons pe_int (pa_cons pe_int pa_nil))))), ?_⟩
    obtain ⟨ms, em, lm⟩ := cut_ii ns none (some 63)
    refine ⟨_, rfl, _, rfl, a, _, rfl, hS, fun p np => ?_⟩
    refine ⟨p, _, rfl, .inl (.of upd_same), fun p2 np2 => ?_⟩
    have e12 : p ≠ p2 := ne_of_none upd_same np2
    have nq : H p2 = none := by
      rw [upd_ne (Ne.symm e12)] at np2
      exact np2
    refine ⟨small1000 (by show 3 ≤ 1000; omega) |> Nat.le_of_lt, fun p3 np3 => ?_⟩
    have e23 : p2 ≠ p3 := ne_of_none upd_same np3
    have nr : (upd H p (.lst (cutV (ii ns) none (some 63)))) p3 = none := by
      rw [upd_ne (Ne.symm e23)] at np3
      exact np3
    have e13 : p ≠ p3 := ne_of_none upd_same nr
    have n3 : H p3 = none := by
      rw [upd_ne (Ne.symm e13)] at nr
      exact nr
    refine q p3 p2 _ ⟨ms, 0, 0, upd_same, ?_, by omega, Nat.le_refl _⟩ (same_put (same_put (same_upd np) nq) n3) n3
    rw [upd_ne e23, upd_same, em]
abbrev s_pick : Stmt := topS 27
theorem sc_pick : FnScope ["_law_pen_here", "_law_some"] ["_law_pen_here", "_law_some"] (defScope s_pick) := ⟨rfl, rfl, rfl, by decide +kernel, rfl, by decide +kernel, by decide +kernel⟩
def spPick : Sp := fun vs H Q _ => ∃ (a b p : Addr) (n : Nat) (l : List Nat), vs = [.ref a, .ref p] ∧ PenAt H a b n ∧ n ≤ 1000 ∧ H p = some (.lst (ri l)) ∧ 0 < l.length ∧ l.length ≤ 1000 ∧ ∀ (x : Nat) (H' : Hp), x ∈ l → PenAt H' a b (n + 1) → Kept a H H' → Q (vi x) H'
theorem ok_pick {f fD : Addr} {fd fdD : FuncData} (F : Fun K "_law_pick" "_law_pick" s_pick f fd) (FD : Fun K "_law_draw" "_law_draw" s_draw fD fdD) (bD : Binds K fdD ["_law_pen_here", "_law_many"] []) (gD : mg "_law_draw" = some (.ref fD)) (T : Nm mg) :
    FnOk P w K mg base CX0 2 f fd ["_law_pen_here", "_law_some"] spPick := by
  have GD : FnOk P w K mg base CX0 1 fD fdD ["_law_pen_here", "_law_many"] spDraw := ok_draw FD T
  refine F.ok sc_pick (fun vs H Q E h => ?_) (fun cdv A outer s H vs Q E hr h => ?_)
  · obtain ⟨a, b, p, n, l, rfl, _⟩ := h
    rfl
  · obtain ⟨a, b, p, n, l, rfl, hp, hn, hl, l0, l1, q⟩ := h
    refine ⟨_, pss_one (ps_ret (pe_ix ix_list (pv 1) (pe_call GD hr rfl gD FD.kp bD .nil pass0 (pa_cons (pv 0) (pa_cons (pe_callB call_len_seq (by rfl) T.len PySem.boot_len (pa_cons (pv 1) pa_nil)) pa_nil))) (fun _ _ => rfl))), ?_⟩
    have hp' := hp
    obtain ⟨ns, i, g, ha, hb, _⟩ := hp'
    have pa : p ≠ a := pen_ne ha (by rw [← ri_ii]; exact hl)
    refine ⟨_, rfl, _, rfl, _, rfl, p, _, rfl, .inl (.of hl), a, b, l.length, n, ?_, hp, hn, l0, by omega, fun d H' hd p' k => ?_⟩
    · rw [ri_len]
      rfl
    refine ⟨p, _, _, _, rfl, rfl, .of (k _ _ pa hl), at_of (j := d) rfl ?_, q l[d] H' (List.getElem_mem hd) p' k⟩
    unfold ri
    rw [List.getElem?_map, List.getElem?_eq_getElem hd]
    rfl
end
end Lr

set_option Elab.async false
set_option linter.all false
set_option maxRecDepth 100000
set_option maxHeartbeats 4000000
namespace Lr
open PySem PySem.Spec PyProof.Rows L2 Ow
section
variable {P : Program} {w : World} {K : PySem.W.Frag} {mg : Str → Option Value} {base : Heap}
theorem at_last {xs : List V} {n : Nat} {v : V} (hn : xs.length = n + 1) (h : xs[n]? = some v) : atI xs (-1) = some v := by
  unfold atI ixN
  rw [if_neg (by decide), if_pos (by omega)]
  show xs[(-1 + (xs.length : Int)).toNat]? = some v
  rw [hn]
  have e : (-1 + ((n + 1 : Nat) : Int)).toNat = n := by omega
  rw [e]
  exact h
theorem ri_at {l : List Nat} {i : Nat} (h : i < l.length) : (ri l)[i]? = some (vi l[i]) := by
  unfold ri
  rw [List.getElem?_map, List.getElem?_eq_getElem h]
  rfl
abbrev s_numbers : Stmt := topS 30
theorem sc_numbers : FnScope ["_law_pen_here", "_law_most", "_law_bits", "_law_found", "_law_turn_so", "_law_way"] ["_law_pen_here", "_law_most", "_law_bits"] (defScope s_numbers) := ⟨rfl, rfl, rfl, by decide +kernel, rfl, by decide +kernel, by decide +kernel⟩
def spNums : Sp := fun vs H Q _ => ∃ (a b : Addr) (n bits : Nat), vs = [.ref a, vi 5, vi bits] ∧ PenAt H a b n ∧ n ≤ 900 ∧ 1 ≤ bits ∧ bits ≤ 16 ∧
  ∀ (l : List Nat) (p : Addr) (H' : Hp), (∀ x ∈ l, x < 2 ^ bits) → l.length ≤ 6 → PenAt H' a b (n + 13) → Kept a H H' → H p = none → H' p = some (.lst (ri l)) → Q (.ref p) H'
theorem ok_numbers {f fD : Addr} {fd fdD : FuncData} (F : Fun K "_law_numbers" "_law_numbers" s_numbers f fd) (FD : Fun K "_law_draw" "_law_draw" s_draw fD fdD) (bD : Binds K fdD ["_law_pen_here", "_law_many"] []) (gD : mg "_law_draw" = some (.ref fD)) (T : Nm mg) :
    FnOk P w K mg base CX0 2 f fd ["_law_pen_here", "_law_most", "_law_bits"] spNums := by
  have GD : FnOk P w K mg base CX0 1 fD fdD ["_law_pen_here", "_law_many"] spDraw := ok_draw FD T
  refine F.ok sc_numbers (fun vs H Q E h => ?_) (fun cdv A outer s H vs Q E hr h => ?_)
  · obtain ⟨a, b, n, bits, rfl, _⟩ := h
    rfl
  · obtain ⟨a, b, n, bits, rfl, hp, hn, b1, b16, q⟩ := h
    refine ⟨_, (pss_cons (ps_set (i := 3) sc_numbers.nd rfl (Or.inl rfl) (pe_lst pa_nil))
    (pss_cons (ps_for PassesOwn.never rfl (pi_range1 rfl T.range (pa_cons (pe_call GD hr rfl gD FD.kp bD .nil pass0 (pa_cons (pv 0) (pa_cons (pe_op op_add (pv 1) pe_int) pa_nil))) pa_nil)) (pg_name (i := 4) sc_numbers.nd rfl (Or.inl rfl))
    (pss_cons (ps_set (i := 5) sc_numbers.nd rfl (Or.inl rfl) (pe_call GD hr rfl gD FD.kp bD .nil pass0 (pa_cons (pv 0) (pa_cons pe_int pa_nil))))
    (pss_one (ps_if (PW.pt (pw_and (pt_cmpR op_eq (pv 5) pe_int (nomark _)) (pw_and1 (pt_cmpR op_gt (pe_callB call_len_seq (by rfl) T.len PySem.boot_len (pa_cons (pv 3) pa_nil)) pe_int (nomark _))))) (pss_one (ps_expr (pe_bm PySem.F.plainAttrs_list PySem.F.slot_list_append PySem.F.type_list_append mt_append (pv 3) (pa_cons (pe_op op_xor (pe_ix ix_list (pv 3) (pe_un un_neg pe_int) (fun _ _ => rfl)) (pe_ix ix_list (pv 3) pe_int (fun _ _ => rfl))) pa_nil)))) (pss_one (ps_if (pt_cmpR op_eq (pv 5) pe_int (nomark _)) (pss_one (ps_expr (pe_bm PySem.F.plainAttrs_list PySem.F.slot_list_append PySem.F.type_list_append mt_append (pv 3) (pa_cons (pe_op op_shl pe_int (pe_call GD hr rfl gD FD.kp bD .nil pass0 (pa_cons (pv 0) (pa_cons (pv 2) pa_nil)))) pa_nil)))) (pss_one (ps_expr (pe_bm PySem.F.plainAttrs_list PySem.F.slot_list_append PySem.F.type_list_append mt_append (pv 3) (pa_cons (pe_call GD hr rfl gD FD.kp bD .nil pass0 (pa_cons (pv 0) (pa_cons (pe_op op_shl pe_int (pv 2)) pa_nil))) pa_nil))))))))))
    (pss_one (ps_ret (pv 3))))), ?_⟩
    refine ⟨Nat.zero_le _, fun p np => ?_⟩
    have hp1 : PenAt (upd H p (.lst [])) a b n := hp.same (same_upd np)
    have ap : p ≠ a := by
      rintro rfl
      obtain ⟨ns, i, g, ha, _⟩ := hp
      rw [ha] at np
      cases np
    refine ⟨_, rfl, _, rfl, _, _, rfl, rfl, a, b, 6, n, rfl, hp1, by omega, by decide, by decide, fun d H1 hd pd kd => ?_⟩
    refine ⟨_, rfl, by omega, by omega, ?_⟩
    refine for_range (lo := 0) (n := ((d : Nat) : Int).toNat) (fun i σ H' => ∃ (l : List Nat) (v4 v5 : Option V), σ = [some (.ref a), some (vi 5), some (vi bits), some (.ref p), v4, v5] ∧ H' p = some (.lst (ri l)) ∧ l.length = i ∧ (∀ x ∈ l, x < 2 ^ bits) ∧ PenAt H' a b (n + 1 + 2 * i) ∧ Kept a H H')
      ⟨[], none, none, rfl, kd _ _ ap upd_same, rfl, (fun x h => by cases h), pd, (Same.kept (same_upd np)).trans kd⟩ ?_ ?_
    · rintro i σ H2 hi ⟨l, v4, v5, rfl, e2, hl, hb, p2, k2⟩
      have i5 : i < 6 := by omega
      refine ⟨_, rfl, a, b, 5, _, rfl, p2, by omega, by decide, by decide, fun wy H3 hw p3 k3 => ?_⟩
      have e3 : H3 p = some (.lst (ri l)) := k3 _ _ ap e2
      have bp : b ≠ p := by
        rintro rfl
        obtain ⟨ns, i, g, ha, hb, _⟩ := hp
        rw [hb] at np
        cases np
      have fin : ∀ (x : Nat) (xv : V) (H4 : Hp) (v4 v5 : Option V), xv = vi x → x < 2 ^ bits → H4 p = some (.lst (ri l)) → PenAt H4 a b (n + 1 + 2 * (i + 1)) → Kept a H H4 → ∃ (l' : List Nat) (w4 w5 : Option V), [some (.ref a), some (vi 5), some (vi bits), some (.ref p), v4, v5] = [some (.ref a), some (vi 5), some (vi bits), some (.ref p), w4, w5] ∧ (upd H4 p (.lst (ri l ++ [xv]))) p = some (.lst (ri l')) ∧ l'.length = i + 1 ∧ (∀ x ∈ l', x < 2 ^ bits) ∧ PenAt (upd H4 p (.lst (ri l ++ [xv]))) a b (n + 1 + 2 * (i + 1)) ∧ Kept a H (upd H4 p (.lst (ri l ++ [xv]))) := by
        rintro x xv H4 v4 v5 rfl hx e4 p4 k4
        refine ⟨l ++ [x], v4, v5, rfl, ?_, by rw [List.length_append, hl]; rfl, fun y hy => ?_, ?_, fun c o nc e => ?_⟩
        · rw [upd_same, ri_append]
          rfl
        · rcases List.mem_append.mp hy with h | h
          · exact hb y h
          · rw [List.mem_singleton.mp h]
            exact hx
        · obtain ⟨ns, i, g, h1, h2, h3⟩ := p4
          exact ⟨ns, i, g, by rw [upd_ne (Ne.symm ap)]; exact h1, by rw [upd_ne bp]; exact h2, h3⟩
        · rw [upd_ne (ne_of_none e np)]
          exact k4 c o nc e
      have small : ∀ H4 : Hp, H4 p = some (.lst (ri l)) → (ri l).length < sizeLine := fun _ _ => small1000 (by rw [ri_len]; omega)
      have k23 := k2.trans k3
      refine ⟨_, rfl, rfl, _, rfl, ?_⟩
      refine ite2 (fun c0 => ?_) (fun c0 => ?_)
      · refine ⟨_, rfl, p, _, rfl, .inl (.of e3), _, _, rfl, rfl, _, rfl, ?_⟩
        refine ite2 (fun c1 => ?_) (fun c1 => ?_)
        · have l1 : 1 < l.length := by
            have c1' : decide ((1 : Int) < (((ri l).length : Nat) : Int)) = true := c1
            rw [ri_len] at c1'
            have := of_decide_eq_true c1'
            omega
          have hz : l.length = (l.length - 1) + 1 := by omega
          refine ⟨_, rfl, .inl ⟨rfl, _, .of e3⟩, _, rfl, _, rfl, p, _, _, _, rfl, rfl, .of e3, at_last (n := l.length - 1) (by rw [ri_len]; exact hz) (ri_at (by omega)), _, rfl, p, _, _, _, rfl, rfl, .of e3, at_of (j := 0) rfl (ri_at (by omega)), _, _, rfl, rfl, p, _, _, rfl, rfl, e3, small _ e3, ?_⟩
          exact fin _ _ H3 _ _ (congrArg V.int (bitXor_nat _ _)) (Nat.xor_lt_two_pow (hb _ (List.getElem_mem _)) (hb _ (List.getElem_mem _))) e3 (p3.mono (by omega)) k23
        · refine ⟨_, rfl, rfl, _, rfl, ?_⟩
          refine ite2 (fun c2 => ?_) (fun c2 => ?_)
          · refine ⟨_, rfl, .inl ⟨rfl, _, .of e3⟩, _, rfl, _, rfl, a, b, bits, _, rfl, p3, by omega, by omega, Nat.le_trans b16 (by decide), fun dd H4 hdd p4 k4 => ?_⟩
            refine ⟨_, _, rfl, rfl, cpow_one (by omega), p, _, _, rfl, rfl, k4 _ _ ap e3, small _ e3, ?_⟩
            exact fin (2 ^ dd) _ H4 _ _ (congrArg V.int (shl_one dd)) (Nat.pow_lt_pow_right (by decide) hdd) (k4 _ _ ap e3) p4 (k23.trans k4)
          · have hb16 : 2 ^ bits ≤ 2 ^ 16 := Nat.pow_le_pow_right (by decide) b16
            refine ⟨_, rfl, .inl ⟨rfl, _, .of e3⟩, _, rfl, _, rfl, _, _, rfl, rfl, cpow_one (by omega), ?_⟩
            refine ⟨a, b, 2 ^ bits, _, ?_, p3, by omega, Nat.two_pow_pos bits, Nat.le_trans hb16 (by decide), fun dd H4 hdd p4 k4 => ?_⟩
            · exact congrArg (fun x => [V.ref a, V.int x]) (shl_one bits)
            refine ⟨p, _, _, rfl, rfl, k4 _ _ ap e3, small _ e3, ?_⟩
            exact fin dd _ H4 _ _ rfl hdd (k4 _ _ ap e3) p4 (k23.trans k4)
      · refine iteF ?_
        refine ⟨_, rfl, rfl, _, rfl, ?_⟩
        refine ite2 (fun c2 => ?_) (fun c2 => ?_)
        · refine ⟨_, rfl, .inl ⟨rfl, _, .of e3⟩, _, rfl, _, rfl, a, b, bits, _, rfl, p3, by omega, by omega, Nat.le_trans b16 (by decide), fun dd H4 hdd p4 k4 => ?_⟩
          refine ⟨_, _, rfl, rfl, cpow_one (by omega), p, _, _, rfl, rfl, k4 _ _ ap e3, small _ e3, ?_⟩
          exact fin (2 ^ dd) _ H4 _ _ (congrArg V.int (shl_one dd)) (Nat.pow_lt_pow_right (by decide) hdd) (k4 _ _ ap e3) p4 (k23.trans k4)
        · have hb16 : 2 ^ bits ≤ 2 ^ 16 := Nat.pow_le_pow_right (by decide) b16
          refine ⟨_, rfl, .inl ⟨rfl, _, .of e3⟩, _, rfl, _, rfl, _, _, rfl, rfl, cpow_one (by omega), ?_⟩
          refine ⟨a, b, 2 ^ bits, _, ?_, p3, by omega, Nat.two_pow_pos bits, Nat.le_trans hb16 (by decide), fun dd H4 hdd p4 k4 => ?_⟩
          · exact congrArg (fun x => [V.ref a, V.int x]) (shl_one bits)
          refine ⟨p, _, _, rfl, rfl, k4 _ _ ap e3, small _ e3, ?_⟩
          exact fin dd _ H4 _ _ rfl hdd (k4 _ _ ap e3) p4 (k23.trans k4)
    · rintro σ H2 ⟨l, v4, v5, rfl, e2, hl, hb, p2, k2⟩
      refine ⟨_, rfl, q l p H2 hb (by omega) (p2.mono (by omega)) k2 np e2⟩
end
end Lr

set_option Elab.async false
set_option linter.all false
set_option maxRecDepth 100000
set_option maxHeartbeats 4000000
namespace Lr
open PySem PySem.Spec PyProof.Rows L2 Ow
theorem fnR_of {P : Program} {w : World} {K : PySem.W.Frag} {mg : Str → Option Value} {base : Heap} {CX : CXT} {k : Nat} {f : Addr} {fd : FuncData} {ps : List Str} {sp : Sp} (F : FnOk P w K mg base CX k f fd ps sp) (b : Binds K fd ps []) : FnR P w K mg base CX k f sp :=
  (F.raw b .nil).imp fun vs H Q E h => by
    rw [List.append_nil]
    exact h
/-- the class's own + -/
structure Ad (K : PySem.W.Frag) (C g : Addr) : Prop where
  fa : PySem.W.findIn K (.ref C) "__add__" = some (some (.ref g))
  fk : PySem.W.isFn K (.ref g) = true
theorem span_app {l m l' m' : List Nat} (h1 : ∀ u, Xr.Span l u ↔ Xr.Span l' u) (h2 : ∀ u, Xr.Span m u ↔ Xr.Span m' u) (u : Nat) : Xr.Span (l ++ m) u ↔ Xr.Span (l' ++ m') u := by
  rw [Xr.span_append, Xr.span_append]
  constructor
  · rintro ⟨y, z, a, b, c⟩
    exact ⟨y, z, (h1 y).mp a, (h2 z).mp b, c⟩
  · rintro ⟨y, z, a, b, c⟩
    exact ⟨y, z, (h1 y).mpr a, (h2 z).mpr b, c⟩
/-- a reduced list of numbers below 2 ^ n has at most n rows -/
theorem canon_len : ∀ {l : List Nat} {n : Nat}, l.Pairwise (· < ·) → (∀ x ∈ l, x < n) → l.length ≤ n := by
  intro l n h1 h2
  have nd : l.Nodup := List.nodup_iff_pairwise_ne.mpr (h1.imp fun h => Nat.ne_of_lt h)
  have := List.Nodup.length_le_of_subset (l₂ := List.range n) nd (fun x hx => List.mem_range.mpr (h2 x hx))
  rwa [List.length_range] at this
theorem red_len {l : List Nat} (h : Xr.Red l) {n : Nat} (hn : ∀ r ∈ l, r < 2 ^ n) : l.length ≤ n := by
  have nd : (l.map Xr.top).Nodup := by
    have := Xr.Red.tops_nodup h (p := fun _ => true)
    rwa [List.filter_eq_self.mpr (fun _ _ => rfl)] at this
  have := List.Nodup.length_le_of_subset (l₂ := List.range n) nd (fun x hx => by
    obtain ⟨r, hr, rfl⟩ := List.mem_map.mp hx
    exact List.mem_range.mpr (Xr.top_lt (hn r hr) (h.1 r hr)))
  rw [List.length_range, List.length_map] at this
  exact this
theorem t_seq {t u : TS} {D : Ends} {σ : L2.St} {H : Hp} (h : t { D with nx := u D } σ H) : tSeq t u D σ H := h
theorem t_asg {te : TE} {g : TG} {D : Ends} {σ : L2.St} {H : Hp} (h : te σ H fun x H1 => g x σ H1 D.nx) : tAsg te g D σ H := h
section
variable {P : Program} {w : World} {K : PySem.W.Frag} {mg : Str → Option Value} {base : Heap}
abbrev s_space : Stmt := topS 31
theorem sc_space : FnScope ["_law_numbers_here", "_law_found", "_law_number"] ["_law_numbers_here"] (defScope s_space) := ⟨rfl, rfl, rfl, by decide +kernel, rfl, by decide +kernel, by decide +kernel⟩
def spSpace (C : Addr) : Sp := fun vs H Q _ => ∃ (p : Addr) (l : List Nat), vs = [.ref p] ∧ H p = some (.lst (ri l)) ∧ (∀ r ∈ l, r < 2 ^ 16) ∧
  ∀ (m : List Nat) (z : Addr) (H' : Hp), (∀ u, Xr.Span m u ↔ Xr.Span l u) → SpA C H' z m → Same H H' → Q (.ref z) H'
theorem ok_space {C f fA f0 : Addr} {fd fdA : FuncData} (F : Fun K "_law_space" "_law_space" s_space f fd) (FA : Fun K "__add__" "Space.__add__" s_add fA fdA) (bA : Binds K fdA ["self", "other"] []) (D : Ad K C fA) (GI : FnR P w K mg base CX0 4 f0 (spInitS C)) (MM : Mk K C f0) (T : Nm mg) (S : Cs K mg C) :
    FnOk P w K mg base CX0 7 f fd ["_law_numbers_here"] (spSpace C) := by
  have GA : FnR P w K mg base CX0 6 fA (spAdd C) := fnR_of (ok_add FA GI MM T S) bA
  refine F.ok sc_space (fun vs H Q E h => ?_) (fun cdv A outer s H vs Q E hr h => ?_)
  · obtain ⟨p, l, rfl, _⟩ := h
    rfl
  · obtain ⟨p, l, rfl, hl, hb, q⟩ := h
    have hr4 : Room 5 _ := hr.mono (by decide)
    refine ⟨_, (pss_cons (ps_set (i := 1) sc_space.nd rfl (Or.inl rfl) (pe_makeR0 MM GI hr4 rfl S.gC pass0))
    (pss_cons (ps_for PassesOwn.never rfl (pi_list (pv 0)) (pg_name (i := 2) sc_space.nd rfl (Or.inl rfl))
    (pss_one (ps_set (i := 1) sc_space.nd rfl (Or.inl rfl) (pe_op (op_binO (E := E0) S.sf D.fa D.fk GA hr pass0) (pv 1) (pe_makeRs MM GI hr4 rfl S.gC pass0 (pa_cons (pv 2) pa_nil))))))
    (pss_one (ps_ret (pv 1))))), ?_⟩
    refine t_seq (t_asg ?_)
    show mkAsk C (spInitS C) E0 (ri []) H _
    refine ask_of (l := []) ⟨(fun r h => by cases h), by decide, fun m z H1 sm hz s1 nz => ?_⟩
    refine ⟨_, rfl, p, rfl, ⟨_, .of (s1 _ _ hl)⟩, for_list (K := K) (a := p) (xs := ri l) (fun i σ H' => ∃ (z : Addr) (m : List Nat) (v2 : Option V), σ = [some (.ref p), some (.ref z), v2] ∧ (∀ u, Xr.Span m u ↔ Xr.Span (l.take i) u) ∧ SpA C H' z m ∧ Same H H')
      ⟨z, m, none, rfl, sm, hz, s1⟩ (fun i σ H' _ ⟨_, _, _, _, _, _, e⟩ => .of (e _ _ hl)) ?_ ?_⟩
    · rintro i x σ H2 hi ⟨z, m, v2, rfl, sm, hz, s2⟩
      obtain ⟨n, hn, hg, rfl⟩ := ri_mem hi
      have il : i < l.length := (List.getElem?_eq_some_iff.mp hg).1
      refine ⟨_, rfl, _, rfl, ?_⟩
      unfold tNil
      show mkAsk C (spInitS C) E0 (ri [n]) H2 _
      refine ask_of (l := [n]) ⟨(fun r h => by rw [List.mem_singleton.mp h]; exact hb n hn), (by show 1 ≤ 1000; omega), fun m2 z2 H3 sm2 hz2 s3 nz2 => ?_⟩
      obtain ⟨dx, t, h1, h2, cm, hm⟩ := hz.keep s3
      obtain ⟨dx2, t2, h12, h22, cm2, hm2⟩ := hz2
      refine ⟨z, dx, _, z2, dx2, _, rfl, rfl, h1, h12, z, z2, m, m2, rfl, ⟨dx, t, h1, h2, cm, hm⟩, ⟨dx2, t2, h12, h22, cm2, hm2⟩, ?_, fun m4 z4 H4 sm4 hz4 s4 nz4 => ?_⟩
      · have := red_len cm.1 hm
        have := red_len cm2.1 hm2
        omega
      · refine ⟨z4, m4, _, rfl, fun u => ?_, hz4, (s2.trans s3).trans s4⟩
        rw [sm4 u, span_app sm sm2 u, List.take_add_one, hg]
        rfl
    · rintro σ H2 ⟨z, m, v2, rfl, sm, hz, s2⟩
      rw [ri_len, List.take_length] at sm
      exact ⟨_, rfl, q m z H2 sm hz s2⟩
end
end Lr

set_option autoImplicit false
set_option linter.unusedVariables false
namespace Xr
/-! ### maps that keep sums -/
theorem span_map {f : Nat → Nat} (h0 : f 0 = 0) (hx : ∀ x y, f (x ^^^ y) = f x ^^^ f y) : ∀ {l : List Nat} {u : Nat}, Span (l.map f) u ↔ ∃ v, Span l v ∧ u = f v
  | [], u => by
    constructor
    · intro h
      have h' : u = 0 := h
      exact ⟨0, rfl, by rw [h', h0]⟩
    · rintro ⟨v, h, rfl⟩
      have h' : v = 0 := h
      show f v = 0
      rw [h', h0]
  | r :: l, u => by
    have ih : ∀ {u}, Span (l.map f) u ↔ ∃ v, Span l v ∧ u = f v := span_map h0 hx
    constructor
    · rintro (h | h)
      · obtain ⟨v, h1, h2⟩ := ih.mp h
        exact ⟨v, .inl h1, h2⟩
      · obtain ⟨v, h1, h2⟩ := ih.mp h
        refine ⟨v ^^^ r, .inr ?_, ?_⟩
        · rw [Nat.xor_assoc, Nat.xor_self, Nat.xor_zero]
          exact h1
        · rw [hx, ← h2, Nat.xor_assoc, Nat.xor_self, Nat.xor_zero]
    · rintro ⟨v, h | h, rfl⟩
      · exact .inl (ih.mpr ⟨v, h, rfl⟩)
      · exact .inr (ih.mpr ⟨v ^^^ r, h, (hx v r).symm⟩)
/-! ### dimension -/
def Ind : List Nat → Prop
  | [] => True
  | r :: l => ¬ Span l r ∧ Ind l
def sums : List Nat → List Nat
  | [] => [0]
  | r :: l => sums l ++ (sums l).map (· ^^^ r)
theorem mem_sums : ∀ {l : List Nat} {x : Nat}, x ∈ sums l ↔ Span l x
  | [], x => List.mem_singleton
  | r :: l, x => by
    show x ∈ sums l ++ (sums l).map (· ^^^ r) ↔ Span l x ∨ Span l (x ^^^ r)
    rw [List.mem_append, List.mem_map, mem_sums]
    constructor
    · rintro (h | ⟨y, h, rfl⟩)
      · exact .inl h
      · refine .inr ?_
        rw [Nat.xor_assoc, Nat.xor_self, Nat.xor_zero]
        exact mem_sums.mp h
    · rintro (h | h)
      · exact .inl h
      · exact .inr ⟨x ^^^ r, mem_sums.mpr h, by rw [Nat.xor_assoc, Nat.xor_self, Nat.xor_zero]⟩
theorem len_sums : ∀ l : List Nat, (sums l).length = 2 ^ l.length
  | [] => rfl
  | r :: l => by
    show (sums l ++ (sums l).map (· ^^^ r)).length = _
    rw [List.length_append, List.length_map, len_sums l, List.length_cons, Nat.pow_succ]
    omega
theorem nodup_sums : ∀ {l : List Nat}, Ind l → (sums l).Nodup
  | [], _ => by simp [sums]
  | r :: l, h => by
    obtain ⟨h1, h2⟩ := h
    have ih := nodup_sums h2
    show (sums l ++ (sums l).map (· ^^^ r)).Nodup
    rw [List.nodup_append]
    refine ⟨ih, ?_, ?_⟩
    · rw [List.nodup_iff_pairwise_ne, List.pairwise_map]
      refine (List.nodup_iff_pairwise_ne.mp ih).imp fun {a b} hab e => hab ?_
      have := congrArg (· ^^^ r) e
      simpa [Nat.xor_assoc] using this
    · rintro a ha b hb rfl
      obtain ⟨y, hy, e⟩ := List.mem_map.mp hb
      have := span_xor l (mem_sums.mp ha) (mem_sums.mp hy)
      have e' : y ^^^ r = a := e
      rw [← e', xor_right_comm, Nat.xor_self, Nat.zero_xor] at this
      exact h1 this
theorem pow2_inj {a b : Nat} (h : 2 ^ a = 2 ^ b) : a = b := by
  rcases Nat.lt_trichotomy a b with c | c | c
  · have := Nat.pow_lt_pow_right (a := 2) (by decide) c
    omega
  · exact c
  · have := Nat.pow_lt_pow_right (a := 2) (by decide) c
    omega
theorem dim_eq {l m : List Nat} (hl : Ind l) (hm : Ind m) (h : ∀ x, Span l x ↔ Span m x) : l.length = m.length := by
  refine pow2_inj ?_
  rw [← len_sums, ← len_sums]
  refine Nat.le_antisymm ?_ ?_
  · exact List.Nodup.length_le_of_subset (nodup_sums hl) fun x hx => mem_sums.mpr ((h x).mp (mem_sums.mp hx))
  · exact List.Nodup.length_le_of_subset (nodup_sums hm) fun x hx => mem_sums.mpr ((h x).mpr (mem_sums.mp hx))
theorem red_ind : ∀ {l : List Nat}, Red l → Ind l
  | [], _ => trivial
  | r :: l, h => by
    obtain ⟨h1, h2, h3⟩ := Red.cons_iff.mp h
    refine ⟨fun hs => ?_, red_ind h3⟩
    obtain ⟨b, hb, e⟩ := span_top h3 hs h1
    have := (h2 b hb).2
    rw [← e, top_bit (h3.1 b hb)] at this
    cases this
theorem extend : ∀ (b c : List Nat), Ind c → ∃ b', Ind (b' ++ c) ∧ (∀ x, Span (b' ++ c) x ↔ Span (b ++ c) x) ∧ ∀ r ∈ b', r ∈ b
  | [], c, hc => ⟨[], hc, fun _ => Iff.rfl, fun _ h => h⟩
  | r :: b, c, hc => by
    obtain ⟨b', h1, h2, h3⟩ := extend b c hc
    by_cases hr : Span (b' ++ c) r
    · refine ⟨b', h1, fun x => ⟨fun h => .inl ((h2 x).mp h), ?_⟩, fun y hy => List.mem_cons_of_mem _ (h3 y hy)⟩
      rintro (h | h)
      · exact (h2 x).mpr h
      · have := span_xor _ ((h2 _).mpr h) hr
        rwa [Nat.xor_assoc, Nat.xor_self, Nat.xor_zero] at this
    · refine ⟨r :: b', ⟨hr, h1⟩, fun x => ?_, fun y hy => ?_⟩
      · show (Span (b' ++ c) x ∨ Span (b' ++ c) (x ^^^ r)) ↔ (Span (b ++ c) x ∨ Span (b ++ c) (x ^^^ r))
        rw [h2 x, h2 (x ^^^ r)]
      · rcases List.mem_cons.mp hy with rfl | hy
        · exact List.mem_cons_self
        · exact List.mem_cons_of_mem _ (h3 y hy)
theorem ind_over {a c B : List Nat} (ha : Ind a) (hc : ∀ x, Span a x → Span B x → Span c x) : ∀ {b' : List Nat}, Ind (b' ++ c) → (∀ r ∈ b', Span B r) → Ind (b' ++ a)
  | [], _, _ => ha
  | r :: b', h, hb => by
    obtain ⟨h1, h2⟩ := h
    refine ⟨fun hs => h1 ?_, ind_over ha hc h2 fun y hy => hb y (List.mem_cons_of_mem _ hy)⟩
    obtain ⟨s, t, hs1, ht, e⟩ := span_append.mp hs
    have sB : Span B s := span_sub (fun y hy => hb y (List.mem_cons_of_mem _ hy)) hs1
    have tB : Span B t := by
      have := span_xor B (hb r List.mem_cons_self) sB
      rw [e, xor_right_comm, Nat.xor_self, Nat.zero_xor] at this
      exact this
    exact span_append.mpr ⟨s, t, hs1, hc t ht tB, e⟩
/-- the sum's rows and the common part's -/
theorem dim_sum {a b c s : List Nat} (ha : Ind a) (hb : Ind b) (hc : Ind c) (hs : Ind s) (h1 : ∀ x, Span c x ↔ Span a x ∧ Span b x) (h2 : ∀ x, Span s x ↔ Span (a ++ b) x) : s.length + c.length = a.length + b.length := by
  obtain ⟨b', i1, i2, i3⟩ := extend b c hc
  have cb : ∀ x, Span (b ++ c) x ↔ Span b x := fun x => by
    refine ⟨span_sub fun r hr => ?_, fun h => span_append.mpr ⟨x, 0, h, span_zero _, (Nat.xor_zero x).symm⟩⟩
    rcases List.mem_append.mp hr with h | h
    · exact span_mem h
    · exact ((h1 r).mp (span_mem h)).2
  have e1 : (b' ++ c).length = b.length := dim_eq i1 hb fun x => (i2 x).trans (cb x)
  have i4 : Ind (b' ++ a) := ind_over ha (fun x x1 x2 => (h1 x).mpr ⟨x1, x2⟩) i1 fun r hr => span_mem (i3 r hr)
  have e2 : (b' ++ a).length = s.length := dim_eq i4 hs fun x => by
    rw [h2 x]
    constructor
    · refine span_sub fun r hr => ?_
      rcases List.mem_append.mp hr with h | h
      · exact span_mem (List.mem_append.mpr (.inr (i3 r h)))
      · exact span_mem (List.mem_append.mpr (.inl h))
    · refine span_sub fun r hr => ?_
      rcases List.mem_append.mp hr with h | h
      · exact span_mem (List.mem_append.mpr (.inr h))
      · obtain ⟨y, z, hy, hz, e⟩ := span_append.mp ((i2 r).mpr (span_mem (List.mem_append.mpr (.inl h))))
        exact span_append.mpr ⟨y, z, hy, ((h1 z).mp hz).1, e⟩
  rw [List.length_append] at e1 e2
  omega
/-! ### the low rows of a reduced list -/
theorem low_of {l : List Nat} (h : Red l) {k : Nat} : ∀ {u : Nat}, Span (l.filter fun r => decide (r < 2 ^ k)) u ↔ Span l u ∧ u < 2 ^ k := by
  induction l with
  | nil =>
    intro u
    constructor
    · intro z
      have z' : u = 0 := z
      subst z'
      exact ⟨rfl, Nat.two_pow_pos k⟩
    · rintro ⟨z, _⟩
      exact z
  | cons r l ih =>
    intro u
    obtain ⟨h1, h2, h3⟩ := Red.cons_iff.mp h
    have ih' := fun {u} => ih h3 (u := u)
    by_cases hr : r < 2 ^ k
    · rw [List.filter_cons, if_pos (decide_eq_true hr)]
      show (Span _ u ∨ Span _ (u ^^^ r)) ↔ (Span l u ∨ Span l (u ^^^ r)) ∧ u < 2 ^ k
      rw [ih', ih']
      constructor
      · rintro (⟨a, b⟩ | ⟨a, b⟩)
        · exact ⟨.inl a, b⟩
        · refine ⟨.inr a, ?_⟩
          have := Nat.xor_lt_two_pow b hr
          rwa [Nat.xor_assoc, Nat.xor_self, Nat.xor_zero] at this
      · rintro ⟨a | a, b⟩
        · exact .inl ⟨a, b⟩
        · exact .inr ⟨a, Nat.xor_lt_two_pow b hr⟩
    · rw [List.filter_cons, if_neg (by simpa using hr)]
      rw [ih']
      show _ ↔ (Span l u ∨ Span l (u ^^^ r)) ∧ u < 2 ^ k
      constructor
      · rintro ⟨a, b⟩
        exact ⟨.inl a, b⟩
      · rintro ⟨a | a, b⟩
        · exact ⟨a, b⟩
        · exfalso
          have keep : (u ^^^ r).testBit (top r) = false := span_least (S := fun z => z.testBit (top r) = false) (by simp) (fun x y p q => by rw [Nat.testBit_xor, p, q]; rfl) (fun b hb => (h2 b hb).2) a
          rw [Nat.testBit_xor, top_bit h1] at keep
          have ub : u.testBit (top r) = true := by
            cases hh : u.testBit (top r) with
            | true => rfl
            | false =>
              rw [hh] at keep
              cases keep
          have tk : k ≤ top r := by
            rcases Nat.lt_or_ge (top r) k with c | c
            · exfalso
              have : r < 2 ^ (top r + 1) := Nat.lt_log2_self
              have := Nat.pow_le_pow_right (n := 2) (by decide) (show top r + 1 ≤ k by omega)
              omega
            · exact c
          have : u < 2 ^ top r := Nat.lt_of_lt_of_le b (Nat.pow_le_pow_right (by decide) tk)
          rw [Nat.testBit_lt_two_pow this] at ub
          cases ub
/-! ### the common part, by numbers of twice the width -/
def dbl (r : Nat) : Nat := (r <<< 16) ^^^ r
def lft (r : Nat) : Nat := r <<< 16
theorem shl_xor (x y : Nat) : (x ^^^ y) <<< 16 = (x <<< 16) ^^^ (y <<< 16) := Nat.shiftLeft_xor_distrib ..
theorem common {a b : List Nat} (ha : ∀ r ∈ a, r < 2 ^ 16) (u : Nat) : (Span (a.map dbl ++ b.map lft) u ∧ u < 2 ^ 16) ↔ Span a u ∧ Span b u := by
  have hd0 : dbl 0 = 0 := rfl
  have hdx : ∀ x y, dbl (x ^^^ y) = dbl x ^^^ dbl y := fun x y => by
    unfold dbl
    rw [shl_xor, Nat.xor_assoc, Nat.xor_assoc]
    congr 1
    rw [← Nat.xor_assoc, ← Nat.xor_assoc, Nat.xor_comm (y <<< 16) x]
  have hlx : ∀ x y, lft (x ^^^ y) = lft x ^^^ lft y := shl_xor
  have lt : ∀ {x}, Span a x → x < 2 ^ 16 := fun hx => span_least (S := fun z => z < 2 ^ 16) (by decide) (fun x y p q => Nat.xor_lt_two_pow p q) ha hx
  rw [span_append]
  constructor
  · rintro ⟨⟨y, z, hy, hz, rfl⟩, hu⟩
    obtain ⟨v, hv, rfl⟩ := (span_map hd0 hdx).mp hy
    obtain ⟨w, hw, rfl⟩ := (span_map (f := lft) rfl hlx).mp hz
    have e : dbl v ^^^ lft w = lft (v ^^^ w) ^^^ v := by
      unfold dbl
      rw [hlx]
      unfold lft
      rw [xor_right_comm]
    rw [e] at hu ⊢
    have v16 := lt hv
    have z : (lft (v ^^^ w) ^^^ v) >>> 16 = v ^^^ w := by
      rw [Nat.shiftRight_xor_distrib]
      unfold lft
      rw [Nat.shiftLeft_shiftRight, Nat.shiftRight_eq_div_pow v, Nat.div_eq_of_lt v16, Nat.xor_zero]
    rw [Nat.shiftRight_eq_div_pow, Nat.div_eq_of_lt hu] at z
    rw [← z]
    have e2 : lft 0 ^^^ v = v := by
      unfold lft
      rw [Nat.zero_shiftLeft, Nat.zero_xor]
    rw [e2]
    have vw : v = w := by
      have := congrArg (· ^^^ w) z
      simp only [Nat.zero_xor, Nat.xor_assoc, Nat.xor_self, Nat.xor_zero] at this
      exact this.symm
    exact ⟨hv, by rw [vw]; exact hw⟩
  · rintro ⟨h1, h2⟩
    refine ⟨⟨dbl u, lft u, (span_map hd0 hdx).mpr ⟨u, h1, rfl⟩, (span_map (f := lft) rfl hlx).mpr ⟨u, h2, rfl⟩, ?_⟩, lt h1⟩
    unfold dbl lft
    rw [xor_right_comm, Nat.xor_self, Nat.zero_xor]
/-! ### one age more -/
theorem two_xor (x y : Nat) : 2 * (x ^^^ y) = 2 * x ^^^ 2 * y := by
  have := Nat.shiftLeft_xor_distrib (a := x) (b := y) (i := 1)
  simpa [Nat.shiftLeft_eq, Nat.mul_comm] using this
theorem older_span {l : List Nat} {u : Nat} : Span (l.map (2 * ·)) u ↔ ∃ v, Span l v ∧ u = 2 * v := span_map (f := (2 * ·)) rfl two_xor
end Xr

set_option Elab.async false
set_option linter.all false
set_option maxRecDepth 100000
set_option maxHeartbeats 4000000
/-! ==, != by an own __eq__: readings over the hand layer. -/
namespace Ow
open PySem PySem.Spec PyProof.Rows L2
section
variable {X : Cx} {CX : CXT} {pins : List (Addr × Obj)} {σ : L2.St} {H : Hp} {s : Shared} {a C g : Addr} {n : Nat} {sp : Sp} {E : XK}
/-- x == y (or another comparison with its own def), both instances of the class at C -/
theorem op_cmpO {op : CmpOp} (hop : ∀ a b, compareOp op a b = richCompare op a b) (hs : PySem.W.findIn X.K (.ref C) (cmpInfo op).2.1 = some (some (.ref g))) (hf : PySem.W.isFn X.K (.ref g) = true)
    (F : FnR X.prog X.w X.K X.mg X.base CX n g sp) (hr : Room n X.A) (hx : Passes CX X E) : OpR X (compareOp op) (rBinO C sp E) := by
  intro pins s σ H x y v u Q I rx ry h
  obtain ⟨a, dx, fs, b, dy, gs, rfl, rfl, ha, hb, q⟩ := h
  cases (show v = Value.ref a from rx)
  cases (show u = Value.ref b from ry)
  obtain ⟨ox, od, J, _⟩ := StX.insC_at (X := X) I (.inr ⟨dx, fs, ha⟩)
  obtain ⟨ox', od', J', _⟩ := StX.insC_at (X := X) I (.inr ⟨dy, gs, hb⟩)
  obtain ⟨m, hF⟩ := I.fr
  rw [hop]
  refine PySem.W.cmp_K (op := op) (tb := .ref C) hr.units0 hF I.ok.mod.kin J J'.type (by simp [PySem.W.notFirst]) hs hf ?_
  refine wpAny_mono (wpAny_call (run_fnR (us := [.ref a, .ref b]) (vs := [.ref a, .ref b]) F hr hx I (.cons rfl (.cons rfl .nil)) q)) (fun w s' z => ?_) fun _ _ x => x
  obtain ⟨z', H', I', rz, qz⟩ := z
  exact SlX.cmpback rz ⟨z', H', I', rz, qz⟩
/-- what != asks of a class with its own == and without an own != -/
structure NeC (K : PySem.W.Frag) (C g : Addr) : Prop where
  eq : PySem.W.findIn K (.ref C) "__eq__" = some (some (.ref g))
  fn : PySem.W.isFn K (.ref g) = true
  ne : PySem.W.findIn K (.ref C) "__ne__" = some (some (.builtin "object.__ne__"))
  ob : PySem.W.mroIn K C (.type "object") = some true
theorem bound_ne {K : PySem.W.Frag} {M : Model} {A : Around} {E : Value → Shared → Prop} {s : Shared} {x C : Addr} {ox : Obj} {od : Option Obj} {args : List Value} {Q : Option Value → Shared → Prop} (Xk : K.In s.heap) (I : PySem.W.InstAt s.heap x ox C od)
    (hs : PySem.W.findIn K (.ref C) "__ne__" = some (some (.builtin "object.__ne__")))
    (h : wpAny M A (call (.builtin "object.__ne__") (.ref x :: args)) (fun v => Q (some v)) E s) : wpAny M A (callSpecialIfBound? (.ref x) "__ne__" args) Q E s := by
  unfold callSpecialIfBound? bindSpecialIfBound?
  refine wpAny_holding (wpAny_bind (wpAny_bind (wpAny_bind (I.type.here ((PySem.W.looks_findIn Xk hs).here ?_)))))
  have hb := PySem.F.cmp_object.ne.bind (.ref x)
  simp only [hb]
  refine wpAny_bind (wpAny_askSetting (wpAny_ite ?_))
  have last : wpAny M A (call (.builtin "object.__ne__") ([.ref x] ++ args) >>= fun r => pure (some r)) Q E s :=
    wpAny_bind (wpAny_mono h (fun r s' z => wpAny_pure z) fun _ _ z => z)
  split
  · exact wpAny_bind (wpAny_pure (wpAny_pure last))
  · exact wpAny_tryCatch (wpAny_bind (wpAny_pure (wpAny_pure last)))
/-- x != y -/
def rNeO (C : Addr) (sp : Sp) (E : XK) : R2 := fun x y H Q => ∃ a dx fs b dy gs, x = .ref a ∧ y = .ref b ∧ H a = some (.ins C dx fs) ∧ H b = some (.ins C dy gs) ∧ sp [x, y] H (fun v H' => ∃ k, v = .bl k ∧ Q (.bl (!k)) H') E
theorem op_neO (c : NeC X.K C g) (F : FnR X.prog X.w X.K X.mg X.base CX n g sp) (hr : Room (n + 1) X.A) (hx : Passes CX X E) : OpR X (compareOp .NotEq) (rNeO C sp E) := by
  intro pins s σ H x y v u Q I rx ry h
  obtain ⟨a, dx, fs, b, dy, gs, rfl, rfl, ha, hb, q⟩ := h
  cases (show v = Value.ref a from rx)
  cases (show u = Value.ref b from ry)
  obtain ⟨ox, od, J, _⟩ := StX.insC_at (X := X) I (.inr ⟨dx, fs, ha⟩)
  obtain ⟨ox', od', J', _⟩ := StX.insC_at (X := X) I (.inr ⟨dy, gs, hb⟩)
  have hr1 : Room n X.A.in1 := hr.in1
  have body : wpAny (model X.prog X.w) X.A.in1 (call (.ref g) [.ref a, .ref b]) (EP X pins σ fun v H' => ∃ k, v = .bl k ∧ Q (.bl (!k)) H') X.xe s :=
    wpAny_call (SlX.run_at (us := [.ref a, .ref b]) (ws := [.ref a, .ref b]) F hr1 I.env0.in1 hx I (.cons rfl (.cons rfl .nil)) q)
  have entry : wpAny (model X.prog X.w) X.A.in1 (Builtin.«object.__ne__» ⟨[.ref a, .ref b], []⟩) (fun fin s' => ∃ k, fin = .done (.ret (.bool k)) ∧ EP X pins σ Q (.bool k) s') X.xe s := by
    unfold Builtin.«object.__ne__»
    repeat (first
      | with_reducible refine wpAny_cRoomFor hr1.units0 ?_
      | (refine wpAny_bind (m := callSpecialIfBound? (.ref a) (Str.ofString "__eq__") [.ref b])
          (PySem.W.ifBound_K I.kIn J c.eq c.fn (wpAny_mono body (fun r s' hr => by
            obtain ⟨z, H', I', rz, k, ek, qk⟩ := hr
            subst ek
            cases (show r = Value.bool k from rz)
            repeat (first | exact ⟨_, rfl, .bl (!k), H', I', rfl, qk⟩ | exact wpAny_pure ⟨_, rfl, .bl (!k), H', I', rfl, qk⟩ | exact wpAny_truthy_bool ⟨_, rfl, .bl (!k), H', I', rfl, qk⟩ | (refine wpAny_bind (m := truthy (.bool _)) (wpAny_truthy_bool ?_)) | wp_step)) fun _ _ e => e)))
      | wp_step)
  have called : wpAny (model X.prog X.w) X.A (call (.builtin "object.__ne__") [.ref a, .ref b]) (fun r s' => ∃ k, r = .bool k ∧ EP X pins σ Q (.bool k) s') X.xe s := by
    refine wpAny_call (codeAny_call_builtin PySem.F.cmp_object.ne.plain PySem.F.cmpEntry_ne (PySem.W.check_slot PySem.F.cmpKind_ne PySem.F.cmpSplit_ne (J.type.andThen (PySem.W.looks_mroIn I.kIn c.ob)) (PySem.F.cmpArgs_ne _ _) (wpAny_mono entry (fun fin s' z => ?_) fun _ _ z => z)))
    obtain ⟨k, rfl, z⟩ := z
    exact ⟨k, rfl, z⟩
  show wpAny (model X.prog X.w) X.A (richCompare .NotEq (.ref a) (.ref b)) _ _ s
  unfold richCompare
  simp only [oneThing_ref]
  refine wpAny_holding (wpAny_bind (wpAny_cRoomFor hr.units0 ?_))
  refine wpAny_bind (J.type.here (wpAny_bind (J'.type.here ?_)))
  rw [if_neg (by simp)]
  refine wpAny_bind (wpAny_pure ?_)
  rw [if_neg (by simp)]
  refine wpAny_bind (m := tryCompare (.ref a) (cmpInfo .NotEq).2.1 (.ref b)) ?_
  unfold tryCompare
  refine wpAny_bind (m := callSpecialIfBound? (.ref a) (Str.ofString "__ne__") [.ref b]) (bound_ne I.kIn J c.ne (wpAny_mono called (fun r s' z => ?_) fun _ _ z => z))
  obtain ⟨k, rfl, z⟩ := z
  first
    | exact wpAny_pure (wpAny_pure z)
    | exact wpAny_pure z
end
end Ow

set_option Elab.async false
set_option linter.all false
set_option maxRecDepth 100000
set_option maxHeartbeats 4000000
/-! len(x), e in x by own methods: readings over the hand layer. -/
namespace Ow
open PySem PySem.Spec PyProof.Rows L2
section
variable {X : Cx} {CX : CXT} {C g : Addr} {n : Nat} {sp : Sp} {E : XK}
def rLenO (C : Addr) (sp : Sp) (E : XK) : List V → Hp → VK → Prop := fun xs H Q => ∃ a dx fs, xs = [V.ref a] ∧ H a = some (.ins C dx fs) ∧ sp [.ref a] H (fun v H' => ∃ i : Nat, v = .int (i : Int) ∧ i < 1000000 ∧ Q v H') E
theorem call_lenO (hs : PySem.W.findIn X.K (.ref C) "__len__" = some (some (.ref g))) (hf : PySem.W.isFn X.K (.ref g) = true) (F : FnR X.prog X.w X.K X.mg X.base CX n g sp) (hr : Room (n + 1) X.A) (hx : Passes CX X E) : CallR X (.builtin "len") (rLenO C sp E) := by
  intro pins s σ H xs us Q I r h
  obtain ⟨a, dx, fs, rfl, ha, q⟩ := h
  obtain ⟨u, rfl, ru⟩ := r.one
  cases (show u = Value.ref a from ru)
  obtain ⟨ox, od, J, _⟩ := StX.insC_at (X := X) I (.inr ⟨dx, fs, ha⟩)
  obtain ⟨m, hF⟩ := I.fr
  have hr1 : Room n X.A.in1 := hr.in1
  refine PySem.W.len_K hF I.ok.mod.kin J hs hf (wpAny_mono (wpAny_call (SlX.run_at (us := [.ref a]) (ws := [.ref a]) F hr1 I.env0.in1 hx I (.cons rfl .nil) q)) (fun w s' z => ?_) fun _ _ e => e)
  obtain ⟨z', H', I', rz, i, ei, hi, qz⟩ := z
  subst ei
  obtain ⟨t, e⟩ := (show ∃ t, w = Value.int (i : Int) t from rz)
  subst e
  exact ⟨⟨by omega, by omega⟩, .int (i : Int), H', I'.tok _, ⟨_, rfl⟩, qz⟩
/-- e in x -/
def rInO (C : Addr) (sp : Sp) (E : XK) : R2 := fun x y H Q => ∃ a dx fs, y = V.ref a ∧ H a = some (.ins C dx fs) ∧ sp [.ref a, x] H (fun v H' => ∃ k, v = .bl k ∧ Q (.bl k) H') E
theorem op_inO (hs : PySem.W.findIn X.K (.ref C) "__contains__" = some (some (.ref g))) (hf : PySem.W.isFn X.K (.ref g) = true) (F : FnR X.prog X.w X.K X.mg X.base CX n g sp) (hr : Room n X.A) (hx : Passes CX X E) : OpR X (compareOp .In) (rInO C sp E) := by
  intro pins s σ H x y v u Q I rx ry h
  obtain ⟨a, dx, fs, rfl, ha, q⟩ := h
  cases (show u = Value.ref a from ry)
  obtain ⟨ox, od, J, _⟩ := StX.insC_at (X := X) I (.inr ⟨dx, fs, ha⟩)
  obtain ⟨m, hF⟩ := I.fr
  refine PySem.W.in_K hF I.ok.mod.kin J hs hf (wpAny_mono (wpAny_call (SlX.run_at (us := [.ref a, v]) (ws := [.ref a, x]) F hr I.env0 hx I (.cons rfl (.cons rx .nil)) q)) (fun w s' z => ?_) fun _ _ e => e)
  obtain ⟨z', H', I', rz, k, ek, qz⟩ := z
  subst ek
  cases (show w = Value.bool k from rz)
  exact wpAny_truthy_bool ⟨.bl k, H', I', rfl, qz⟩
end
end Ow

set_option Elab.async false
set_option linter.all false
set_option maxRecDepth 100000
set_option maxHeartbeats 4000000
/-! A walk over an instance whose __iter__ gives an iterator over a tuple. -/
namespace Ow
open PySem PySem.Spec PyProof.Rows L2
section
variable {prog : Program} {w : World} {A : Around} {E : Value → Shared → Prop} {s : Shared} {l : Addr} {items : Array Value}
theorem iter_tup {Q : Value → Shared → Prop} (hl : s.heap.IsTuple l items) (h : Q (.ref s.heap.objs.size) { s with heap := s.heap.push { cls := .type "tuple_iterator", data := .fields #[.ref l, .int 0 0] } }) : wpAny (model prog w) A (call (.builtin "iter") [.ref l]) Q E s := by
  have en := PySem.W.kdk_entry_iter
  refine Calls.call_function_entry (s := s) (by decide +kernel) (by decide +kernel) en (PySem.W.kdk_args_iter (.ref l)) ?_
  unfold Builtin.«iter»
  refine wpAny_bind (m := someArgs "iter" 1 2 ⟨[.ref l], []⟩) (wpAny_of_eq (a := [Value.ref l]) (by first | rfl | kernel_rfl) ?_)
  show wpAny (model prog w) _ (pyIter (.ref l) >>= fun z => ret z) _ _ s
  refine wpAny_bind (wpAny_pyIter_tuple hl ?_)
  exact wpAny_pure ⟨_, rfl, h⟩
end
/-- an iterator over the tuple at t stands at it, at its beginning -/
def ItT (t it : Addr) : HO := .ext fun h => h.IsTupleIter it t 0
section
variable {X : Cx}
/-- iter(t), a tuple -/
def rIterT (K : PySem.W.Frag) (n : Nat) : List V → Hp → VK → Prop := fun xs H Q => ∃ (t : Addr) (zs : List V), xs = [.ref t] ∧ SqT K H t zs ∧ ∀ it, H it = Option.none → n ≤ it → Q (.ref it) (upd H it (ItT t it))
theorem call_iterT : CallR X (.builtin "iter") (rIterT X.K X.s_0.heap.objs.size) := by
  intro pins s σ H xs us Q I r h
  obtain ⟨t, zs, rfl, hq, q⟩ := h
  obtain ⟨u, rfl, ru⟩ := vals1 r
  cases ru
  obtain ⟨its, rv, p, hz⟩ := I.tuple hq
  refine iter_tup (show s.heap.IsTuple t its.toArray from p) ?_
  have st : (s.heap.push { cls := .type "tuple_iterator", data := .fields #[.ref t, .int 0 0] }).IsTupleIter s.heap.objs.size t 0 := ⟨_, Heap.get?_push_size _ rfl, rfl, rfl⟩
  refine ⟨.ref s.heap.objs.size, _, I.laid (t' := s.toks) (o := ItT t s.heap.objs.size) (fun b u e => Heap.get?_push_of_some _ e) (Nat.le_refl _) ⟨st, ⟨_, Heap.get?_push_size _ rfl⟩, fun h1 h2 z k => ?_⟩, rfl, q _ (I.hok.fresh (Nat.le_refl _)) I.sz⟩
  exact z.at fun o e => k o e
end
/-- a def with one parameter, called at this state: what its body's reading gives -/
theorem run_here {CX : CXT} {P : Program} {w : World} {K : PySem.W.Frag} {mg : Str → Option Value} {base : Heap} {k : Nat} {f : Addr} {fd : FuncData} {x q : Str} {st : Stmt} {N ps : List Str} {A : Around} {outer : List Env} {s : Shared} {H : Hp} {us : List Value} {vs : List V} {R : V → Hp → Shared → Prop} {E : XK}
    (F : L2.Fun K x q st f fd) (S : FnScope N ps (defScope st)) (hl : vs.length = ps.length) (hr : Room (k + 1) A) (e0 : Env0 P w K mg base A outer s H) (hb : BindsTo s fd ⟨us, []⟩ (ps.zip us)) (r : Vals vs us)
    (body : ∀ cdv : Value, Room k (A.deeper (envOfC q (defScope st) s.heap.objs.size f cdv)) → ∃ t, PSs (cxOf CX P w K mg base N q (defScope st) f cdv A outer s H E).nox (defBody st) t ∧ t { nx := fun _ _ => False, rt := fun v H' => ∀ (pins : List (Addr × Obj)) (σ : L2.St) (s' : Shared), Inv (cxOf CX P w K mg base N q (defScope st) f cdv A outer s H E).nox pins σ H' s' → R v H' s' } (start N vs) H) :
    codeAny (model P w) A (.call (.ref f) ⟨us, []⟩) (fun r s' => ∃ v u H', r = .ok (.ret u) ∧ RelV v u ∧ R v H' s') s := by
  obtain ⟨oc, od, kV, doc, pm, an, cdv, ct, osl, rfl, lk, hcd⟩ := F.ex
  have Xin : K.In s.heap := e0.mod.kin.keeps fun b o z => (e0.bs b o z).1
  have free : s.heap.NoLimit := e0.mod.nolimit.keeps fun b o z => (e0.bs b o z).1
  have kinds : ∀ y ∈ ps.zip us, (defScope st).names.lookup y.1 = some .local ∨ ((defScope st).names.lookup y.1 = some .cell ∧ ((cellsFrom (s.heap.objs.size + 1) (defScope st).names []).lookup y.1).isSome = true) := by
    rintro ⟨n, v⟩ hy
    rcases S.par n (List.of_mem_zip hy).1 with z | z
    · exact .inl z
    · exact .inr ⟨z, PySem.W.cellsFrom_some _ _ _ (.inl z)⟩
  refine codeAny_call_function hr.depth (Xin _ _ lk) rfl S.co S.gen rfl (PySem.W.codeRec_of Xin hcd) (hb _ _ _ _ ?_)
  refine wpAny_newFunctionEnv_cells S.kind kinds fun env he s1 z => ?_
  subst he
  refine ⟨free.keeps z.toInCall.keep, codeAny_func ?_⟩
  obtain ⟨t, ht, hq⟩ := body cdv (hr.deeper _)
  have J := inv_start (CX := CX) (E := E) S hr.hd e0 hl r z
  refine wpAny_mono (ht.run [] s1 (start N vs) H _ (J.wish _) hq) (fun fl s' hs => ?_) fun e s' hs => False.elim hs
  cases fl with
  | ret u =>
    obtain ⟨v, σ', H', I', rv, hR⟩ := hs
    exact ⟨v, u, H', rfl, rv, hR _ _ _ I'⟩
  | next =>
    obtain ⟨_, _, _, z⟩ := hs
    exact z.elim
  | brk =>
    obtain ⟨_, _, _, z⟩ := hs
    exact z.elim
  | cont =>
    obtain ⟨_, _, _, z⟩ := hs
    exact z.elim
/-! ### the walk -/
/-- what the class's __iter__ does with an instance: a new iterator over the tuple that its field holds -/
def ItRun (P : Program) (w : World) (K : PySem.W.Frag) (mg : Str → Option Value) (base : Heap) (k : Nat) (C g : Addr) (nm : Str) : Prop := ∀ (A : Around) (outer : List Env) (s : Shared) (H : Hp) (a dx t : Addr) (zs : List V), Room k A → Env0 P w K mg base A outer s H →
  H a = some (.ins C dx [(nm, V.ref t)]) → SqT K H t zs →
  codeAny (model P w) A (.call (.ref g) ⟨[.ref a], []⟩) (fun r s' => ∃ it : Addr, r = .ok (.ret (.ref it)) ∧ s.heap.objs.size ≤ it ∧ s'.heap.IsTupleIter it t 0 ∧ CE outer P w H s (fun v H' => v = .ref it ∧ H' = H) (.ref it) s') s
theorem it_run {P : Program} {w : World} {K : PySem.W.Frag} {mg : Str → Option Value} {base : Heap} {C g : Addr} {fd : FuncData} {st : Stmt} {q nm : Str} (F : L2.Fun K "__iter__" q st g fd) (S : FnScope ["self"] ["self"] (defScope st)) (b : Binds K fd ["self"] []) (cl : Cls K C) (nR : NoAttr K C nm)
    (body : ∀ (cdv : Value) (A : Around) (outer : List Env) (s : Shared) (H : Hp), PSs (cxOf CX0 P w K mg base ["self"] q (defScope st) g cdv A outer s H E0).nox (defBody st) (tRet (tCB (rIterT K s.heap.objs.size) (tCons (tFld K (tVar 0) nm) tNil)))) : ItRun P w K mg base 1 C g nm := by
  intro A outer s H a dx t zs hr e0 ha ht
  have hb : BindsTo s fd ⟨[.ref a], []⟩ ([("self" : Str)].zip [Value.ref a]) := b s [.ref a] (e0.mod.kin.keeps fun c o z => (e0.bs c o z).1) rfl
  refine codeAny_mono (run_here (CX := CX0) (k := 0) (E := E0) (vs := [V.ref a]) (R := fun v H' s' => ∃ it, v = .ref it ∧ s.heap.objs.size ≤ it ∧ s'.heap.IsTupleIter it t 0 ∧ CE outer P w H s (fun v H' => v = .ref it ∧ H' = H) (.ref it) s') F S rfl hr e0 hb (.cons rfl .nil) fun cdv _ => ⟨_, body cdv A outer s H, ?_⟩) fun r s' z => ?_
  · refine ⟨_, rfl, a, C, dx, _, _, rfl, ha, cl, nR, by simp [List.lookup], t, zs, rfl, ht, fun it nit hit pins σ s' I => ⟨it, rfl, hit, ?_, ?_⟩⟩
    · exact (I.hok it _ upd_same).1
    · have I2 := ItX.inv_drop (φ := fun h => h.IsTupleIter it t 0) I upd_same
      rw [ItX.dropH_upd nit] at I2
      exact ⟨.ref it, H, I2.os, I2.bare, I2.base, I2.hok, rfl, rfl, rfl⟩
  · obtain ⟨v, u, H', rfl, ru, it, rfl, h1, h2, h3⟩ := z
    cases (show u = Value.ref it from ru)
    exact ⟨it, rfl, h1, h2, h3⟩
section
variable {X : Cx} {tg : Expr} {C g : Addr} {k : Nat} {nm : Str}
/-- an instance of the class at C walked: the items of the tuple in its field -/
def iOwn (K : PySem.W.Frag) (C : Addr) (nm : Str) (tl : TE) : TI := fun σ H R => tl σ H fun x H1 => ∃ a dx t, x = V.ref a ∧ H1 a = some (.ins C dx [(nm, V.ref t)]) ∧ (∃ zs, SqT K H1 t zs) ∧ R (Itt K t) H1
theorem pi_own {l : Expr} {tl : TE} (hs : PySem.W.findIn X.K (.ref C) "__iter__" = some (some (.ref g))) (hf : PySem.W.isFn X.K (.ref g) = true) (G : ItRun X.prog X.w X.K X.mg X.base k C g nm) (hr : Room k X.A) (hl : PE X l tl) : PI X tg l (iOwn X.K C nm tl) := by
  refine ⟨fun pins s σ H R I h => ?_⟩
  refine thn (hl.run pins s σ H _ I h) fun v s1 ⟨x, H1, I1, r1, a, dx, t, ex, ha, ⟨zs, ht⟩, q⟩ => ?_
  subst ex
  cases (show v = Value.ref a from r1)
  obtain ⟨ox, od, J, _⟩ := StX.insC_at (X := X) I1 (.inr ⟨dx, _, ha⟩)
  have called : wpAny (model X.prog X.w) X.A (call (.ref g) [.ref a]) (fun r s' => ∃ it : Addr, r = .ref it ∧ s1.heap.objs.size ≤ it ∧ s'.heap.IsTupleIter it t 0 ∧ CE X.stack X.prog X.w H1 s1 (fun v H' => v = .ref it ∧ H' = H1) (.ref it) s') X.xe s1 := by
    refine wpAny_call (codeAny_mono (G X.A X.stack s1 H1 a dx t zs hr I1.env0 ha ht) fun r s' z => ?_)
    obtain ⟨it, rfl, z1, z2, z3⟩ := z
    exact ⟨it, rfl, z1, z2, z3⟩
  obtain ⟨m, hF⟩ := I1.fr
  refine PySem.W.owit_iter hF I1.ok.mod.kin J hs hf (wpAny_mono called (fun r s' z => ?_) fun _ _ z => z)
  obtain ⟨it, rfl, z1, z2, z3⟩ := z
  unfold PySem.W.OwitIt
  refine wpAny_specialOf z2.typeIs PySem.F.slot_tuple_iterator_next.lookup ?_
  obtain ⟨v, H', I2, rv, ev, eH⟩ := I1.after z3
  subst eH
  refine ⟨it, [it], _, _, H', rfl, I2, turn_tuple t it, z2, fun b hb => ?_, q⟩
  obtain rfl := List.mem_singleton.mp hb
  exact I1.fpOk z1 (I1.hok.fresh z1)
end
end Ow

set_option Elab.async false
set_option linter.all false
set_option maxRecDepth 100000
set_option maxHeartbeats 4000000
namespace Lr
open PySem PySem.Spec PyProof.Rows L2 Ow
theorem eqv_intsB : ∀ a b : List Int, PyData.eqvAll (a.map PyData.int) (b.map PyData.int) = decide (a = b)
  | [], [] => rfl
  | [], _ :: _ => rfl
  | _ :: _, [] => rfl
  | x :: a, y :: b => by
    show (x == y && PyData.eqvAll (a.map PyData.int) (b.map PyData.int)) = _
    rw [eqv_intsB a b]
    by_cases h : x = y
    · subst h
      by_cases k : a = b
      · subst k; simp
      · simp [k]
    · simp [h]
theorem nat_inj {a b : List Nat} : (a.map fun n : Nat => (n : Int)) = (b.map fun n : Nat => (n : Int)) ↔ a = b := by
  constructor
  · intro h
    have := congrArg (List.map Int.toNat) h
    rw [List.map_map, List.map_map] at this
    have e : (Int.toNat ∘ fun n : Nat => (n : Int)) = id := by
      funext n
      exact Int.toNat_natCast n
    rw [e, List.map_id, List.map_id] at this
    exact this
  · intro h
    rw [h]
theorem shaped_tup (ns : List Int) : SeqAt.shaped (.tuple (ns.map PyData.int)) = true := by
  refine Bool.and_eq_true_iff.mpr ⟨?_, decide_eq_true ?_⟩
  · show PyData.canLay0 (.tuple _) = true
    rw [PyData.canLay0]
    exact canlay_ints ns
  · show PyData.depth (.tuple _) ≤ 64
    rw [PyData.depth]
    have := depth_ints ns
    omega
section
variable {P : Program} {w : World} {K : PySem.W.Frag} {mg : Str → Option Value} {base : Heap}
/-! ### == -/
abbrev s_eq : Stmt := inClass (topS 23) 5
theorem sc_eq : FnScope ["self", "other"] ["self", "other"] (defScope s_eq) := ⟨rfl, rfl, rfl, by decide +kernel, rfl, by decide +kernel, by decide +kernel⟩
def spEqS (C : Addr) : Sp := fun vs H Q _ => ∃ (x y : Addr) (a b : List Nat), vs = [.ref x, .ref y] ∧ SpA C H x a ∧ SpA C H y b ∧ Q (.bl (decide (a = b))) H
theorem ok_eq {C f : Addr} {fd : FuncData} (F : Fun K "__eq__" "Space.__eq__" s_eq f fd) (T : Nm mg) (S : Cs K mg C) : FnOk P w K mg base CX0 1 f fd ["self", "other"] (spEqS C) := by
  refine F.ok sc_eq (fun vs H Q E h => ?_) (fun cdv A outer s H vs Q E hr h => ?_)
  · obtain ⟨x, y, a, b, rfl, _⟩ := h
    rfl
  · obtain ⟨x, y, a, b, rfl, ⟨dx, t, hx, ht, ca, ha⟩, ⟨dy, u, hy, hu, cb, hb⟩, q⟩ := h
    have hun := hr.units
    refine ⟨_, (pss_one (ps_ret (pe_and (pe_callB call_isi (by rfl) T.isi boot_isinstance (pa_cons (pv 1) (pa_cons (pe_glob (v := .ref C) rfl S.gC rfl) pa_nil))) (pe_one (pe_cmpR (op_eqD hun) (pe_fld (pv 0) rfl) (pe_fld (pv 1) rfl) (nomark _)))))), ?_⟩
    refine ⟨_, rfl, .ref y, .ref C, .ref C, .ref C, true, rfl, .own C, .base (.ins hy S.cl S.ca S.cn S.ct S.cm), S.kC, true, rfl, iteT ?_⟩
    refine ⟨_, rfl, x, C, dx, _, _, rfl, hx, S.cl, S.nR, lookup_rows, _, rfl, y, C, dy, _, _, rfl, hy, S.cl, S.nR, lookup_rows, ?_⟩
    refine ⟨.tuple ((a.map fun n : Nat => (n : Int)).map PyData.int), .tuple ((b.map fun n : Nat => (n : Int)).map PyData.int), .tup (.of ht) (by rw [ri_ii]; exact dp_ints _), .tup (.of hu) (by rw [ri_ii]; exact dp_ints _), shaped_tup _, shaped_tup _, ?_⟩
    have e : PyData.eqv (.tuple ((a.map fun n : Nat => (n : Int)).map PyData.int)) (.tuple ((b.map fun n : Nat => (n : Int)).map PyData.int)) = decide (a = b) := by
      rw [PyData.eqv, eqv_intsB]
      exact decide_eq_decide.mpr nat_inj
    rw [e]
    exact q
/-! ### len -/
abbrev s_len : Stmt := inClass (topS 23) 2
theorem sc_len : FnScope ["self"] ["self"] (defScope s_len) := ⟨rfl, rfl, rfl, by decide +kernel, rfl, by decide +kernel, by decide +kernel⟩
def spLenS (C : Addr) : Sp := fun vs H Q _ => ∃ (x : Addr) (a : List Nat), vs = [.ref x] ∧ SpA C H x a ∧ Q (vi a.length) H
theorem ok_len {C f : Addr} {fd : FuncData} (F : Fun K "__len__" "Space.__len__" s_len f fd) (T : Nm mg) (S : Cs K mg C) : FnOk P w K mg base CX0 1 f fd ["self"] (spLenS C) := by
  refine F.ok sc_len (fun vs H Q E h => ?_) (fun cdv A outer s H vs Q E hr h => ?_)
  · obtain ⟨x, a, rfl, _⟩ := h
    rfl
  · obtain ⟨x, a, rfl, ⟨dx, t, hx, ht, ca, ha⟩, q⟩ := h
    refine ⟨_, (pss_one (ps_ret (pe_callB call_len_seq (by rfl) T.len PySem.boot_len (pa_cons (pe_fld (pv 0) rfl) pa_nil)))), ?_⟩
    refine ⟨_, rfl, x, C, dx, _, _, rfl, hx, S.cl, S.nR, lookup_rows, t, _, rfl, .inr (.of ht), ?_⟩
    rw [ri_len]
    exact q
/-! ### in -/
abbrev s_contains : Stmt := inClass (topS 23) 4
theorem sc_contains : FnScope ["self", "x"] ["self", "x"] (defScope s_contains) := ⟨rfl, rfl, rfl, by decide +kernel, rfl, by decide +kernel, by decide +kernel⟩
def spHasS (C : Addr) : Sp := fun vs H Q _ => ∃ (x : Addr) (a : List Nat) (n : Nat), vs = [.ref x, vi n] ∧ SpA C H x a ∧ n < 2 ^ 16 ∧ ∀ k : Bool, (k = true ↔ Xr.Span a n) → Q (.bl k) H
theorem ok_contains {C f fW fI fL : Addr} {fd fdW fdI fdL : FuncData} (F : Fun K "__contains__" "Space.__contains__" s_contains f fd)
    (FW : Fun K "is_within" "is_within" s_is_within fW fdW) (bW : Binds K fdW ["value", "least", "most"] []) (gW : mg "is_within" = some (.ref fW)) (FI : Fun K "is_integer" "is_integer" s_is_integer fI fdI) (bI : Binds K fdI ["value"] []) (gI : mg "is_integer" = some (.ref fI))
    (FL : Fun K "lessened" "lessened" s_lessened fL fdL) (bL : Binds K fdL ["bits", "rows"] []) (gL : mg "lessened" = some (.ref fL)) (T : Nm mg) (S : Cs K mg C) : FnOk P w K mg base CX0 3 f fd ["self", "x"] (spHasS C) := by
  have GW : FnOk P w K mg base CX0 2 fW fdW ["value", "least", "most"] spWithin := ok_within FW FI bI gI T
  have GL : FnOk P w K mg base CX0 1 fL fdL ["bits", "rows"] (spLessT K) := ok_lessT FL
  obtain ⟨tb, gM⟩ := T.mb
  refine F.ok sc_contains (fun vs H Q E h => ?_) (fun cdv A outer s H vs Q E hr h => ?_)
  · obtain ⟨x, a, n, rfl, _⟩ := h
    rfl
  · obtain ⟨x, a, n, rfl, ⟨dx, t, hx, ht, ca, ha⟩, hn, q⟩ := h
    have hr1 : Room 1 _ := hr.mono (by decide)
    refine ⟨_, (pss_one (ps_ret (pe_and (pe_call GW hr rfl gW FW.kp bW .nil pass0 (pa_cons (pv 1) (pa_cons pe_int (pa_cons (pe_glob (v := .int 65535) rfl gM ⟨_, rfl⟩) pa_nil)))) (pe_one (pe_cmpR op_eq (pe_call GL hr1 rfl gL FL.kp bL .nil pass0 (pa_cons (pv 1) (pa_cons (pe_fld (pv 0) rfl) pa_nil))) pe_int (nomark _)))))), ?_⟩
    refine ⟨_, rfl, n, 0, 65535, rfl, true, congrArg V.bl (decide_eq_true ⟨by omega, by omega⟩), iteT ?_⟩
    refine ⟨_, rfl, _, rfl, x, C, dx, _, _, rfl, hx, S.cl, S.nR, lookup_rows, n, t, a, rfl, .of ht, rfl, ?_⟩
    refine q _ ?_
    rw [dec_int, ← Xr.lessened_zero ca.1 n]
    simp only [beq_iff_eq]
    omega
end
end Lr

set_option Elab.async false
set_option linter.all false
set_option maxRecDepth 100000
set_option maxHeartbeats 4000000
namespace Lr
open PySem PySem.Spec PyProof.Rows L2 Ow
theorem bitOr_nat (a b : Nat) : Builtin.bitOr (a : Int) (b : Int) = ((a ||| b : Nat) : Int) := by
  rw [Bits.bitOr_pp (Int.natCast_nonneg a) (Int.natCast_nonneg b)]
  simp only [Int.toNat_natCast]
theorem or_xor {a b : Nat} (h : a &&& b = 0) : a ||| b = a ^^^ b := by
  refine Nat.eq_of_testBit_eq fun j => ?_
  rw [Nat.testBit_or, Nat.testBit_xor]
  have := congrArg (fun z => z.testBit j) h
  simp only [Nat.testBit_and, Nat.zero_testBit] at this
  cases hx : a.testBit j <;> cases hy : b.testBit j <;> simp_all
theorem dbl_or {r : Nat} (h : r < 2 ^ 16) : (r <<< 16) ||| r = Xr.dbl r := by
  refine or_xor (Nat.eq_of_testBit_eq fun j => ?_)
  rw [Nat.testBit_and, Nat.testBit_shiftLeft, Nat.zero_testBit]
  by_cases c : 16 ≤ j
  · rw [Nat.testBit_lt_two_pow (Nat.lt_of_lt_of_le h (Nat.pow_le_pow_right (by decide) c)), Bool.and_false]
  · simp [c]
theorem shl16 (r : Nat) : (r : Int) * (2 : Int) ^ (16 : Int).toNat = ((r <<< 16 : Nat) : Int) := by
  rw [Nat.shiftLeft_eq]
  show (r : Int) * (2 : Int) ^ 16 = _
  rw [Int.natCast_mul, Int.natCast_pow]
  rfl
/-- a reduced list's span has a power of two exactly if it is a row -/
theorem pow_row {l : List Nat} (h : Xr.Red l) {t : Nat} : Xr.Span l (2 ^ t) ↔ 2 ^ t ∈ l := by
  refine ⟨fun hs => ?_, Xr.span_mem⟩
  have p0 : 2 ^ t ≠ 0 := Nat.ne_of_gt (Nat.two_pow_pos t)
  have tp : Xr.top (2 ^ t) = t := Nat.log2_two_pow
  obtain ⟨r, hr, e⟩ := Xr.span_top h hs p0
  rw [tp] at e
  have z := Xr.span_no_top h (Xr.span_xor l hs (Xr.span_mem hr)) fun b hb => ?_
  · have : 2 ^ t = r := by
      have := congrArg (· ^^^ r) z
      simp only [Nat.xor_assoc, Nat.xor_self, Nat.xor_zero, Nat.zero_xor] at this
      exact this
    rw [this]
    exact hr
  · rw [Nat.testBit_xor, Nat.testBit_two_pow]
    by_cases c : b = r
    · subst c
      rw [Xr.top_bit (h.1 b hb), e]
      simp
    · have rb : r.testBit (Xr.top b) = false := by
        cases hh : r.testBit (Xr.top b) with
        | false => rfl
        | true => exact absurd (Xr.Red.inj h hr hb hh).symm c
      have ne : t ≠ Xr.top b := fun z => by
        rw [← e, ] at z
        have := Xr.top_bit (h.1 r hr)
        rw [z, rb] at this
        cases this
      rw [rb]
      simp [ne]
section
variable {P : Program} {w : World} {K : PySem.W.Frag} {mg : Str → Option Value} {base : Heap}
/-! ### within -/
abbrev s_withinS : Stmt := inClass (topS 23) 9
theorem sc_withinS : FnScope ["self", "other", "row"] ["self", "other"] (defScope s_withinS) := ⟨rfl, rfl, rfl, by decide +kernel, rfl, by decide +kernel, by decide +kernel⟩
def spWith (C : Addr) : Sp := fun vs H Q _ => ∃ (x y : Addr) (a b : List Nat), vs = [.ref x, .ref y] ∧ SpA C H x a ∧ SpA C H y b ∧ a.length ≤ 1000 ∧ ∀ (k : Bool) (H' : Hp), (k = true ↔ ∀ u, Xr.Span a u → Xr.Span b u) → Same H H' → Q (.bl k) H'
theorem ok_withinS {C f fL : Addr} {fd fdL : FuncData} (F : Fun K "within" "Space.within" s_withinS f fd) (FL : Fun K "lessened" "lessened" s_lessened fL fdL) (bL : Binds K fdL ["bits", "rows"] []) (gL : mg "lessened" = some (.ref fL)) (T : Nm mg) (S : Cs K mg C) :
    FnOk P w K mg base CX0 2 f fd ["self", "other"] (spWith C) := by
  have GL : FnOk P w K mg base CX0 1 fL fdL ["bits", "rows"] (spLessT K) := ok_lessT FL
  refine F.ok sc_withinS (fun vs H Q E h => ?_) (fun cdv A outer s H vs Q E hr h => ?_)
  · obtain ⟨x, y, a, b, rfl, _⟩ := h
    rfl
  · obtain ⟨x, y, a, b, rfl, ⟨dx, t, hx, ht, ca, ha⟩, ⟨dy, u, hy, hu, cb, hb⟩, hl, q⟩ := h
    refine ⟨_, (pss_cons (ps_if (pt_not (pt_val (pe_callB call_isi (by rfl) T.isi boot_isinstance (pa_cons (pv 1) (pa_cons (pe_glob (v := .ref C) rfl S.gC rfl) pa_nil))))) (pss_one ps_never) pss_nil)
    (pss_one (ps_ret (pe_callB (cr_all rfl) (by rfl) T.all PyProof.Rows.boot_all (pa_cons (pe_lc (wi := iTup K (tFld K (tVar 0) "rows")) (own := [("row", 2)]) (g := (gName 2)) (tt := tYes) (te := tOp rEq (tCall (spLessT K) [] E0 (tCons (tVar 2) (tCons (tFld K (tVar 1) "rows") tNil))) (tC (.int 0))) rfl sc_withinS.nd (by exact pi_tup (pe_fld (pv 0) rfl)) (blkOk_by (by kernel_rfl)) (fun _ _ _ _ _ => pg_name (i := 2) sc_withinS.nd rfl (Or.inl rfl)) (fun _ _ _ _ _ => pts_nil) (fun _ _ _ _ _ => (by exact pe_cmpR op_eq (pe_call GL hr rfl gL FL.kp bL .nil pass0 (pa_cons (pv 2) (pa_cons (pe_fld (pv 1) rfl) pa_nil))) pe_int (nomark _)))) pa_nil))))), ?_⟩
    refine ⟨_, rfl, .ref y, .ref C, .ref C, .ref C, true, rfl, .own C, .base (.ins hy S.cl S.ca S.cn S.ct S.cm), S.kC, true, rfl, iteF ?_⟩
    refine ⟨_, rfl, x, C, dx, _, _, rfl, hx, S.cl, S.nR, lookup_rows, t, rfl, ⟨_, .of ht⟩, fun D nD => ?_⟩
    refine lc_tup (K := K) (a := t) (xs := ri a) (fun j H3 => Same H H3 ∧ H3 D = some (.lst (((a.take j).map fun r => Xr.lessened r b == 0).map V.bl))) ⟨same_upd nD, upd_same⟩ (fun j H3 _ ⟨e, _⟩ => .of (e _ _ ht)) ?_ ?_
    · rintro j z H3 hj ⟨s3, e3⟩
      obtain ⟨r, hr', rfl⟩ := ri_get hj
      refine ⟨rfl, _, rfl, _, rfl, y, C, dy, _, _, rfl, s3 _ _ hy, S.cl, S.nR, lookup_rows, r, u, b, rfl, .of (s3 _ _ hu), rfl, _, e3, ?_, same_put s3 nD, ?_⟩
      · rw [List.length_map, List.length_map, List.length_take]
        exact small1000 (by omega)
      · rw [upd_same, List.take_add_one, hr', List.map_append, List.map_append]
        have e : decide (vi (Xr.lessened r b) = V.int 0) = (Xr.lessened r b == 0) := by
          rw [dec_int]
          cases Xr.lessened r b <;> rfl
        exact congrArg (fun v => some (HO.lst (((a.take j).map fun r => Xr.lessened r b == 0).map V.bl ++ [V.bl v]))) e
    · rintro H3 ⟨s3, e3⟩
      rw [ri_len, List.take_length] at e3
      refine ⟨D, _, rfl, .of e3, q _ H3 ?_ s3⟩
      rw [List.all_map, List.all_eq_true]
      constructor
      · intro h v
        refine Xr.span_sub fun r hr' => ?_
        have := h r hr'
        exact (Xr.lessened_zero cb.1 r).mp (by simpa using this)
      · intro h r hr'
        have := (Xr.lessened_zero cb.1 r).mpr (h r (Xr.span_mem hr'))
        simpa using this
/-! ### older -/
abbrev s_older : Stmt := inClass (topS 23) 10
def spOlder (C : Addr) : Sp := fun vs H Q _ => ∃ (x : Addr) (a : List Nat), vs = [.ref x] ∧ SpA C H x a ∧ a.length ≤ 1000 ∧ (∀ r ∈ a, r < 2 ^ 15) ∧
  ∀ (m : List Nat) (z : Addr) (H' : Hp), (∀ u, Xr.Span m u ↔ Xr.Span (a.map (2 * ·)) u) → SpA C H' z m → Same H H' → Q (.ref z) H'
/-! ### below -/
abbrev s_below : Stmt := inClass (topS 23) 11
theorem sc_below : FnScope ["self", "many", "rows", "row"] ["self", "many"] (defScope s_below) := ⟨rfl, rfl, rfl, by decide +kernel, rfl, by decide +kernel, by decide +kernel⟩
def spBelow (C : Addr) : Sp := fun vs H Q _ => ∃ (x : Addr) (a : List Nat) (n : Nat), vs = [.ref x, vi n] ∧ SpA C H x a ∧ a.length ≤ 1000 ∧ n ≤ 16 ∧
  ∀ (m : List Nat) (z : Addr) (H' : Hp), (∀ u, Xr.Span m u ↔ Xr.Span a u ∧ u < 2 ^ n) → SpA C H' z m → Same H H' → Q (.ref z) H'
theorem bits_le {r n : Nat} (h : r ≠ 0) : decide (((Builtin.Int.intBits (r : Int) : Nat) : Int) ≤ (n : Int)) = decide (r < 2 ^ n) := by
  have e := intBits_nat h
  have key : Xr.top r + 1 ≤ n ↔ r < 2 ^ n := by
    constructor
    · intro z
      have h1 : r < 2 ^ (Xr.top r + 1) := Nat.lt_log2_self
      exact Nat.lt_of_lt_of_le h1 (Nat.pow_le_pow_right (by decide) z)
    · intro z
      exact Xr.top_lt z h
  rw [decide_eq_decide]
  omega
theorem ok_below {C f f0 fW fI : Addr} {fd fdW fdI : FuncData} (F : Fun K "below" "Space.below" s_below f fd) (GI : FnR P w K mg base CX0 4 f0 (spInitS C)) (MM : Mk K C f0)
    (FW : Fun K "is_within" "is_within" s_is_within fW fdW) (bW : Binds K fdW ["value", "least", "most"] []) (gW : mg "is_within" = some (.ref fW)) (FI : Fun K "is_integer" "is_integer" s_is_integer fI fdI) (bI : Binds K fdI ["value"] []) (gI : mg "is_integer" = some (.ref fI))
    (T : Nm mg) (S : Cs K mg C) (M : Ms K C) : FnOk P w K mg base CX0 6 f fd ["self", "many"] (spBelow C) := by
  have GW : FnOk P w K mg base CX0 2 fW fdW ["value", "least", "most"] spWithin := ok_within FW FI bI gI T
  obtain ⟨mc, uu, cr, cv⟩ := M.most
  refine F.ok sc_below (fun vs H Q E h => ?_) (fun cdv A outer s H vs Q E hr h => ?_)
  · obtain ⟨x, a, n, rfl, _⟩ := h
    rfl
  · obtain ⟨x, a, n, rfl, ⟨dx, t, hx, ht, ca, ha⟩, hl, hn, q⟩ := h
    have hr1 : Room 2 _ := hr.mono (by decide)
    refine ⟨_, (pss_cons (ps_if (pt_not (pt_val (pe_call GW hr1 rfl gW FW.kp bW .nil pass0 (pa_cons (pv 1) (pa_cons pe_int (pa_cons (pe_op op_add (ClX.pe_cval (pe_glob (v := .ref C) rfl S.gC rfl)) pe_int) pa_nil)))))) (pss_one ps_never) pss_nil)
      (pss_cons (ps_setLc (i := 2) (wi := iTup K (tFld K (tVar 0) "rows")) (own := [("row", 3)]) (g := (gName 3)) (tt := _) rfl sc_below.nd rfl rfl (sw_true rfl rfl rfl (by decide +kernel)) (by exact pi_tup (pe_fld (pv 0) rfl)) (blkOk_by (by kernel_rfl)) (fun _ _ _ _ _ => pg_name (i := 3) sc_below.nd rfl (Or.inl rfl)) (fun _ _ _ _ _ => pts_one (pt_cmpR op_le (pe_bits (pv 3)) (pv 1) (nomark _))) (fun _ _ _ _ _ => (pv 3)))
      (pss_one (ps_ret (pe_makeS1 MM GI hr rfl S.gC pass0 (pv 2)))))), ?_⟩
    refine ⟨_, rfl, C, mc, _, _, rfl, cr, cv, _, _, rfl, rfl, n, 0, 16, rfl, _, rfl, ?_⟩
    have e : decide ((0 : Int) ≤ (n : Int) ∧ (n : Int) ≤ 16) = true := decide_eq_true ⟨by omega, by omega⟩
    rw [e]
    refine iteF ?_
    refine ⟨_, rfl, x, C, dx, _, _, rfl, hx, S.cl, S.nR, lookup_rows, t, rfl, ⟨_, .of ht⟩, fun D nD => ?_⟩
    refine lc_tup (K := K) (a := t) (xs := ri a) (fun j H3 => Same H H3 ∧ H3 D = some (.lst (ri ((a.take j).filter fun r => decide (r < 2 ^ n))))) ⟨same_upd nD, upd_same⟩ (fun j H3 _ ⟨e, _⟩ => .of (e _ _ ht)) ?_ ?_
    · rintro j z H3 hj ⟨s3, e3⟩
      obtain ⟨r, hr', rfl⟩ := ri_get hj
      have r0 : r ≠ 0 := ca.1.1 r (List.mem_of_getElem? hr')
      refine ⟨rfl, _, rfl, _, rfl, _, rfl, _, _, rfl, rfl, _, rfl, ?_⟩
      have eb := bits_le (n := n) r0
      refine ite2 (fun c => ?_) (fun c => ?_)
      · have c' : decide (r < 2 ^ n) = true := eb.symm.trans c
        refine ⟨_, rfl, _, e3, ?_, same_put s3 nD, ?_⟩
        · rw [ri_len]
          refine small1000 (Nat.le_trans (List.length_filter_le _ _) ?_)
          rw [List.length_take]
          omega
        · rw [upd_same, List.take_add_one, hr', List.filter_append, ri_append]
          simp only [Option.toList_some, List.filter_cons, List.filter_nil, c', if_true]
          rfl
      · have c' : decide (r < 2 ^ n) = false := by
          rw [← eb]
          simpa using c
        refine ⟨s3, ?_⟩
        rw [e3, List.take_add_one, hr', List.filter_append]
        simp only [Option.toList_some, List.filter_cons, List.filter_nil, c', Bool.false_eq_true, if_false, List.append_nil]
    · rintro H3 ⟨s3, e3⟩
      rw [ri_len, List.take_length] at e3
      refine ⟨_, rfl, D, _, rfl, .inr (.of e3), ask_of ⟨fun r hr' => ha r (List.mem_filter.mp hr').1, Nat.le_trans (List.length_filter_le _ _) hl, fun m z H' sm hz s2 nz => q m z H' (fun u => (sm u).trans (Xr.low_of ca.1)) hz (s3.trans s2)⟩⟩
end
end Lr

set_option Elab.async false
set_option linter.all false
set_option maxRecDepth 100000
set_option maxHeartbeats 4000000
namespace Lr
open PySem PySem.Spec PyProof.Rows L2 Ow
section
variable {P : Program} {w : World} {K : PySem.W.Frag} {mg : Str → Option Value} {base : Heap}
/-! ### tells -/
abbrev s_tells : Stmt := inClass (topS 23) 12
def spTells (C : Addr) : Sp := fun vs H Q _ => ∃ (x : Addr) (a : List Nat) (n : Nat), vs = [.ref x, vi n] ∧ SpA C H x a ∧ n < 16 ∧ ∀ k : Bool, (k = true ↔ Xr.Span a (2 ^ n)) → Q (.bl k) H
/-! ### told -/
abbrev s_told : Stmt := inClass (topS 23) 13
def tolds (a : List Nat) (j : Nat) : List Nat := (List.range j).filter fun t => a.contains (2 ^ t)
def spTold (C : Addr) : Sp := fun vs H Q _ => ∃ (x : Addr) (a : List Nat), vs = [.ref x] ∧ SpA C H x a ∧ ∀ (p : Addr) (H' : Hp), Same H H' → H' p = some (.tup (ri (tolds a 16))) → Q (.ref p) H'
/-! ### & -/
abbrev s_and : Stmt := inClass (topS 23) 8
theorem sc_and : FnScope ["self", "other", "upper", "doubled", "lifted", "rows", "row"] ["self", "other"] (defScope s_and) := ⟨rfl, rfl, rfl, by decide +kernel, rfl, by decide +kernel, by decide +kernel⟩
def spAnd (C : Addr) : Sp := fun vs H Q _ => ∃ (x y : Addr) (a b : List Nat), vs = [.ref x, .ref y] ∧ SpA C H x a ∧ SpA C H y b ∧ a.length + b.length ≤ 1000 ∧
  ∀ (m : List Nat) (z : Addr) (H' : Hp), (∀ u, Xr.Span m u ↔ Xr.Span a u ∧ Xr.Span b u) → SpA C H' z m → Same H H' → Q (.ref z) H'
theorem low_len {R : List Nat} (h : Xr.Red R) : (R.filter fun r => decide (r < 2 ^ 16)).length ≤ 16 := by
  have nd : (R.filter fun r => decide (r < 2 ^ 16)).length ≤ 16 := by
    have n1 : ((R.filter fun r => decide (r < 2 ^ 16)).map Xr.top).Nodup := Xr.Red.tops_nodup h
    have := List.Nodup.length_le_of_subset (l₂ := List.range 16) n1 (fun x hx => by
      obtain ⟨r, hr, rfl⟩ := List.mem_map.mp hx
      have := List.mem_filter.mp hr
      exact List.mem_range.mpr (Xr.top_lt (of_decide_eq_true this.2) (h.1 r this.1)))
    rw [List.length_range, List.length_map] at this
    exact this
  exact nd
theorem ok_and {C f f0 fR fL fV : Addr} {fd fdR fdL fdV : FuncData} (F : Fun K "__and__" "Space.__and__" s_and f fd) (GI : FnR P w K mg base CX0 4 f0 (spInitS C)) (MM : Mk K C f0)
    (FR : Fun K "reduced" "reduced" s_reduced fR fdR) (bR : Binds K fdR ["rows"] []) (gR : mg "reduced" = some (.ref fR)) (FL : Fun K "lessened" "lessened" s_lessened fL fdL) (bL : Binds K fdL ["bits", "rows"] []) (gL : mg "lessened" = some (.ref fL)) (FV : Fun K "widened" "widened" s_widened fV fdV) (bV : Binds K fdV ["rows", "added"] []) (gV : mg "widened" = some (.ref fV))
    (T : Nm mg) (S : Cs K mg C) (M : Ms K C) : FnOk P w K mg base CX0 6 f fd ["self", "other"] (spAnd C) := by
  have GR : FnOk P w K mg base CX0 3 fR fdR ["rows"] (spRedL K) := ok_redL FR FV bV gV FL bL gL T
  obtain ⟨mc, uu, cr, cv⟩ := M.most
  obtain ⟨tb, gM⟩ := T.mb
  refine F.ok sc_and (fun vs H Q E h => ?_) (fun cdv A outer s H vs Q E hr h => ?_)
  · obtain ⟨x, y, a, b, rfl, _⟩ := h
    rfl
  · obtain ⟨x, y, a, b, rfl, ⟨dx, t, hx, ht, ca, ha⟩, ⟨dy, u, hy, hu, cb, hb⟩, hl, q⟩ := h
    have hr2 : Room 3 _ := hr.mono (by decide)
    refine ⟨_, (pss_cons (ps_if (pt_not (pt_val (pe_callB call_isi (by rfl) T.isi boot_isinstance (pa_cons (pv 1) (pa_cons (pe_glob (v := .ref C) rfl S.gC rfl) pa_nil))))) (pss_one ps_never) pss_nil)
    (pss_cons (ps_set (i := 2) sc_and.nd rfl (Or.inr rfl) (pe_op op_add (ClX.pe_cval (pe_glob (v := .ref C) rfl S.gC rfl)) pe_int))
    (pss_cons (ps_setLc (i := 3) (wi := iTup K (tFld K (tVar 0) "rows")) (own := [("row", 6)]) (g := (gName 6)) (tt := tYes) rfl sc_and.nd rfl rfl (sw_true rfl rfl rfl (by decide +kernel)) (by exact pi_tup (pe_fld (pv 0) rfl)) (blkOk_by (by kernel_rfl)) (fun _ _ _ _ _ => pg_name (i := 6) sc_and.nd rfl (Or.inl rfl)) (fun _ _ _ _ _ => pts_nil) (fun _ _ _ _ _ => (pe_op op_or (pe_op op_shl (pv 6) (pv 2)) (pv 6))))
    (pss_cons (ps_setLc (i := 4) (wi := iTup K (tFld K (tVar 1) "rows")) (own := [("row", 6)]) (g := (gName 6)) (tt := tYes) rfl sc_and.nd rfl rfl (sw_true rfl rfl rfl (by decide +kernel)) (by exact pi_tup (pe_fld (pv 1) rfl)) (blkOk_by (by kernel_rfl)) (fun _ _ _ _ _ => pg_name (i := 6) sc_and.nd rfl (Or.inl rfl)) (fun _ _ _ _ _ => pts_nil) (fun _ _ _ _ _ => (pe_op op_shl (pv 6) (pv 2))))
    (pss_cons (ps_setLc (i := 5) (own := [("row", 6)]) (g := (gName 6)) (tt := _) rfl sc_and.nd rfl rfl (sw_true rfl rfl rfl (by decide +kernel)) (pi_tup (pe_call GR hr2 rfl gR FR.kp bR .nil pass0 (pa_cons (pe_op op_cat (pv 3) (pv 4)) pa_nil))) (blkOk_by (by kernel_rfl)) (fun _ _ _ _ _ => pg_name (i := 6) sc_and.nd rfl (Or.inl rfl)) (fun _ _ _ _ _ => pts_one (pt_cmpR op_le (pv 6) (pe_glob (v := .int 65535) rfl gM ⟨_, rfl⟩) (nomark _))) (fun _ _ _ _ _ => (pv 6)))
    (pss_one (ps_ret (pe_makeS1 MM GI hr rfl S.gC pass0 (pv 5))))))))), ?_⟩
    refine ⟨_, rfl, .ref y, .ref C, .ref C, .ref C, true, rfl, .own C, .base (.ins hy S.cl S.ca S.cn S.ct S.cm), S.kC, true, rfl, iteF ?_⟩
    refine ⟨C, mc, _, _, rfl, cr, cv, _, _, rfl, rfl, ?_⟩
    refine ⟨_, rfl, x, C, dx, _, _, rfl, hx, S.cl, S.nR, lookup_rows, t, rfl, ⟨_, .of ht⟩, fun D nD => ?_⟩
    refine lc_tup (K := K) (a := t) (xs := ri a) (fun j H3 => Same H H3 ∧ H3 D = some (.lst (ri ((a.take j).map Xr.dbl)))) ⟨same_upd nD, upd_same⟩ (fun j H3 _ ⟨e, _⟩ => .of (e _ _ ht)) ?_ ?_
    · rintro j z H3 hj ⟨s3, e3⟩
      obtain ⟨r, hr', rfl⟩ := ri_get hj
      have r16 := ha r (List.mem_of_getElem? hr')
      refine ⟨rfl, _, rfl, _, rfl, _, _, rfl, rfl, ⟨by decide, by decide, by omega⟩, _, rfl, _, _, rfl, rfl, _, e3, ?_, same_put s3 nD, ?_⟩
      · rw [ri_len, List.length_map, List.length_take]
        exact small1000 (by omega)
      · rw [upd_same, List.take_add_one, hr', List.map_append, ri_append]
        have e : Builtin.bitOr ((r : Int) * 2 ^ ((15 : Int) + 1).toNat) (r : Int) = ((Xr.dbl r : Nat) : Int) := by
          have := shl16 r
          show Builtin.bitOr ((r : Int) * (2 : Int) ^ (16 : Int).toNat) (r : Int) = _
          rw [this, bitOr_nat, dbl_or r16]
        exact congrArg (fun v => some (HO.lst (ri ((a.take j).map Xr.dbl) ++ [V.int v]))) e
    · rintro H3 ⟨s3, e3⟩
      rw [ri_len, List.take_length] at e3
      refine ⟨_, rfl, y, C, dy, _, _, rfl, s3 _ _ hy, S.cl, S.nR, lookup_rows, u, rfl, ⟨_, .of (s3 _ _ hu)⟩, fun D2 nD2 => ?_⟩
      have d12 : D ≠ D2 := ne_of_none e3 nD2
      have n2 := s3.free nD2
      refine lc_tup (K := K) (a := u) (xs := ri b) (fun j H4 => Same H H4 ∧ H4 D = some (.lst (ri (a.map Xr.dbl))) ∧ H4 D2 = some (.lst (ri ((b.take j).map Xr.lft)))) ⟨same_put s3 n2, by rw [upd_ne d12]; exact e3, upd_same⟩ (fun j H4 _ ⟨e, _⟩ => .of (e _ _ hu)) ?_ ?_
      · rintro j z H4 hj ⟨s4, e4, f4⟩
        obtain ⟨r, hr', rfl⟩ := ri_get hj
        have r16 := hb r (List.mem_of_getElem? hr')
        refine ⟨rfl, _, rfl, _, rfl, _, _, rfl, rfl, ⟨by decide, by decide, by omega⟩, _, f4, ?_, same_put s4 n2, by rw [upd_ne d12]; exact e4, ?_⟩
        · rw [ri_len, List.length_map, List.length_take]
          exact small1000 (by omega)
        · rw [upd_same, List.take_add_one, hr', List.map_append, ri_append]
          exact congrArg (fun v => some (HO.lst (ri ((b.take j).map Xr.lft) ++ [V.int v]))) (shl16 r)
      · rintro H4 ⟨s4, e4, f4⟩
        rw [ri_len, List.take_length] at f4
        refine ⟨_, rfl, _, rfl, D, D2, _, _, rfl, rfl, e4, f4, ?_, fun p np => ?_⟩
        · rw [ri_len, ri_len, List.length_map, List.length_map]
          exact Nat.le_of_lt (small1000 hl)
        have np2 := s4.free np
        refine ⟨p, a.map Xr.dbl ++ b.map Xr.lft, rfl, .of (by rw [upd_same, ri_append]), by rw [List.length_append, List.length_map, List.length_map]; exact hl, fun m p2 H5 cm sm s5 np5 e5 => ?_⟩
        have s5' : Same H H5 := (same_put s4 np2).trans s5
        refine ⟨p2, rfl, ⟨_, .of e5⟩, fun D3 nD3 => ?_⟩
        have n3 := s5'.free nD3
        have d3 : p2 ≠ D3 := ne_of_none e5 nD3
        have low : ∀ r : Nat, decide ((r : Int) ≤ 65535) = decide (r < 2 ^ 16) := fun r => by
          rw [decide_eq_decide]
          omega
        refine lc_tup (K := K) (a := p2) (xs := ri m) (fun j H6 => Same H H6 ∧ H6 p2 = some (.tup (ri m)) ∧ H6 D3 = some (.lst (ri ((m.take j).filter fun r => decide (r < 2 ^ 16))))) ⟨same_put s5' n3, by rw [upd_ne d3]; exact e5, upd_same⟩ (fun j H6 _ ⟨_, e, _⟩ => .of e) ?_ ?_
        · rintro j z H6 hj ⟨s6, e6, f6⟩
          obtain ⟨r, hr', rfl⟩ := ri_get hj
          refine ⟨rfl, _, rfl, _, _, rfl, rfl, _, rfl, ?_⟩
          refine ite2 (fun c => ?_) (fun c => ?_)
          · have c' : decide (r < 2 ^ 16) = true := (low r).symm.trans c
            refine ⟨_, rfl, _, f6, ?_, same_put s6 n3, by rw [upd_ne d3]; exact e6, ?_⟩
            · rw [ri_len]
              have : ((m.take j).filter fun r => decide (r < 2 ^ 16)).length ≤ (m.filter fun r => decide (r < 2 ^ 16)).length := List.Sublist.length_le ((List.take_sublist j m).filter _)
              have := low_len cm.1
              exact small1000 (by omega)
            · rw [upd_same, List.take_add_one, hr', List.filter_append, ri_append]
              simp only [Option.toList_some, List.filter_cons, List.filter_nil, c', if_true]
              rfl
          · have c' : decide (r < 2 ^ 16) = false := by
              rw [← low r]
              exact Bool.eq_false_iff.mpr c
            refine ⟨s6, e6, ?_⟩
            rw [f6, List.take_add_one, hr', List.filter_append]
            simp only [Option.toList_some, List.filter_cons, List.filter_nil, c', Bool.false_eq_true, if_false, List.append_nil]
        · rintro H6 ⟨s6, e6, f6⟩
          rw [ri_len, List.take_length] at f6
          refine ⟨_, rfl, D3, _, rfl, .inr (.of f6), ask_of ⟨fun r hr' => of_decide_eq_true (List.mem_filter.mp hr').2, Nat.le_trans (low_len cm.1) (by decide), fun m2 z H7 sm2 hz s7 nz => q m2 z H7 (fun v => ?_) hz (s6.trans s7)⟩⟩
          rw [sm2 v, Xr.low_of cm.1, sm v]
          exact Xr.common ha v
end
end Lr

set_option Elab.async false
set_option linter.all false
set_option maxRecDepth 100000
set_option maxHeartbeats 4000000
namespace Lr
open PySem PySem.Spec PyProof.Rows L2 Ow
section
variable {P : Program} {w : World} {K : PySem.W.Frag} {mg : Str → Option Value} {base : Heap}
/-! ### the sums -/
abbrev s_sums : Stmt := topS 28
theorem sc_sums : FnScope ["_law_numbers_here", "_law_found", "_law_number", "_law_one"] ["_law_numbers_here"] (defScope s_sums) := ⟨rfl, rfl, rfl, by decide +kernel, rfl, by decide +kernel, by decide +kernel⟩
def spSums : Sp := fun vs H Q _ => ∃ (p : Addr) (l : List Nat), vs = [.ref p] ∧ H p = some (.lst (ri l)) ∧ l.length ≤ 12 ∧
  ∀ (m : List Nat) (z : Addr) (H' : Hp), (∀ u, u ∈ m ↔ Xr.Span l u) → H' z = some (.lst (ri m)) → m.Nodup → Same H H' → H z = none → Q (.ref z) H'
theorem sums_step {f l : List Nat} {n : Nat} (hf : ∀ u, u ∈ f ↔ Xr.Span l u) (u : Nat) : u ∈ f ++ f.map (· ^^^ n) ↔ Xr.Span (l ++ [n]) u := by
  rw [List.mem_append, List.mem_map, Xr.span_append]
  constructor
  · rintro (h | ⟨a, h, rfl⟩)
    · exact ⟨u, 0, (hf u).mp h, Xr.span_zero _, (Nat.xor_zero u).symm⟩
    · exact ⟨a, n, (hf a).mp h, Xr.span_head, rfl⟩
  · rintro ⟨y, z, hy, hz, rfl⟩
    rcases hz with hz | hz
    · have hz' : z = 0 := hz
      rw [hz', Nat.xor_zero]
      exact .inl ((hf y).mpr hy)
    · have hz' : z ^^^ n = 0 := hz
      have e : z = n := by
        have := congrArg (· ^^^ n) hz'
        simp only [Nat.xor_assoc, Nat.xor_self, Nat.xor_zero, Nat.zero_xor] at this
        exact this
      rw [e]
      exact .inr ⟨y, (hf y).mpr hy, rfl⟩
theorem sums_skip {f l : List Nat} {n : Nat} (hf : ∀ u, u ∈ f ↔ Xr.Span l u) (hn : n ∈ f) (u : Nat) : u ∈ f ↔ Xr.Span (l ++ [n]) u := by
  rw [hf u]
  refine Xr.span_eq (fun r hr => Xr.span_mem (List.mem_append.mpr (.inl hr))) (fun r hr => ?_) u
  rcases List.mem_append.mp hr with h | h
  · exact Xr.span_mem h
  · rw [List.mem_singleton.mp h]
    exact (hf n).mp hn
theorem sums_nodup {f l : List Nat} {n : Nat} (hf : ∀ u, u ∈ f ↔ Xr.Span l u) (nd : f.Nodup) (hn : n ∉ f) : (f ++ f.map (· ^^^ n)).Nodup := by
  refine List.nodup_append.mpr ⟨nd, ?_, ?_⟩
  · refine List.pairwise_map.mpr (nd.imp ?_)
    intro a b h e
    refine h ?_
    have := congrArg (· ^^^ n) e
    simpa only [Nat.xor_assoc, Nat.xor_self, Nat.xor_zero] using this
  · rintro a ha b hb rfl
    obtain ⟨c, hc, e⟩ := List.mem_map.mp hb
    refine hn ((hf n).mpr ?_)
    have h1 := Xr.span_xor l ((hf a).mp ha) ((hf c).mp hc)
    have : a ^^^ c = n := by
      rw [← e]
      show c ^^^ n ^^^ c = n
      rw [Nat.xor_comm c n, Nat.xor_assoc, Nat.xor_self, Nat.xor_zero]
    rw [this] at h1
    exact h1
/-- all sums of a list -/
def allS : List Nat → List Nat
  | [] => [0]
  | r :: l => allS l ++ (allS l).map (· ^^^ r)
theorem allS_len : ∀ l : List Nat, (allS l).length = 2 ^ l.length
  | [] => rfl
  | r :: l => by
    rw [allS, List.length_append, List.length_map, allS_len l, List.length_cons, Nat.pow_succ]
    omega
theorem allS_mem : ∀ {l : List Nat} {x : Nat}, Xr.Span l x → x ∈ allS l
  | [], x, h => by
    have e : x = 0 := h
    rw [e]
    exact List.mem_singleton.mpr rfl
  | r :: l, x, h => by
    rcases h with h | h
    · exact List.mem_append_left _ (allS_mem h)
    · refine List.mem_append_right _ (List.mem_map.mpr ⟨x ^^^ r, allS_mem h, ?_⟩)
      show x ^^^ r ^^^ r = x
      rw [Nat.xor_assoc, Nat.xor_self, Nat.xor_zero]
theorem span_card {m G : List Nat} (nd : m.Nodup) (h : ∀ u ∈ m, Xr.Span G u) : m.length ≤ 2 ^ G.length := by
  rw [← allS_len G]
  exact List.Nodup.length_le_of_subset nd fun u hu => allS_mem (h u hu)
theorem ok_sums {f : Addr} {fd : FuncData} (F : Fun K "_law_sums" "_law_sums" s_sums f fd) (T : Nm mg) : FnOk P w K mg base CX0 1 f fd ["_law_numbers_here"] spSums := by
  refine F.ok sc_sums (fun vs H Q E h => ?_) (fun cdv A outer s H vs Q E hr h => ?_)
  · obtain ⟨p, l, rfl, _⟩ := h
    rfl
  · obtain ⟨p, l, rfl, hl, h12, q⟩ := h
    refine ⟨_, (pss_cons (ps_set (i := 1) sc_sums.nd rfl (Or.inl rfl) (pe_lst (pa_cons pe_int pa_nil)))
    (pss_cons (ps_for PassesOwn.never rfl (pi_list (pv 0)) (pg_name (i := 2) sc_sums.nd rfl (Or.inr rfl))
    (pss_one (ps_if (pt_cmpR (r := rIn K true) op_notIn_seq (pv 2) (pv 1) (by rfl)) (pss_one (ps_set (i := 1) sc_sums.nd rfl (Or.inl rfl) (pe_op op_cat (pv 1) (pe_lc (own := [("_law_one", 3)]) (g := (gName 3)) (tt := tYes) rfl sc_sums.nd (pi_list (pv 1)) (blkOk_by (by kernel_rfl)) (fun _ _ _ _ _ => pg_name (i := 3) sc_sums.nd rfl (Or.inl rfl)) (fun _ _ _ _ _ => pts_nil) (fun _ _ _ _ _ => (pe_op op_xor (pv 3) (pv 2))))))) pss_nil)))
    (pss_one (ps_ret (pe_callB cr_sortedI (by rfl) T.sorted PyProof.Rows.boot_sorted (pa_cons (pe_lc (own := [("_law_one", 3)]) (g := (gName 3)) (tt := tYes) rfl sc_sums.nd (pi_list (pv 1)) (blkOk_by (by kernel_rfl)) (fun _ _ _ _ _ => pg_name (i := 3) sc_sums.nd rfl (Or.inl rfl)) (fun _ _ _ _ _ => pts_nil) (fun _ _ _ _ _ => (pe_callTy call_int1 (by rfl) T.int PyProof.Rows.boot_int (pa_cons (pv 3) pa_nil)))) pa_nil)))))), ?_⟩
    refine ⟨by show 1 ≤ sizeLine; exact Nat.le_of_lt (small1000 (by omega)), fun z0 nz0 => ?_⟩
    refine ⟨_, rfl, p, rfl, ⟨_, .of ((same_upd nz0) _ _ hl)⟩, for_list (K := K) (a := p) (xs := ri l) (fun i σ H' => ∃ (z : Addr) (m : List Nat) (v2 v3 : Option V), σ = [some (.ref p), some (.ref z), v2, v3] ∧ (∀ u, u ∈ m ↔ Xr.Span (l.take i) u) ∧ H' z = some (.lst (ri m)) ∧ m.length ≤ 2 ^ i ∧ m.Nodup ∧ Same H H')
      ⟨z0, [0], none, none, rfl, ?_, upd_same, Nat.le_refl _, by decide, same_upd nz0⟩ (fun i σ H' _ ⟨_, _, _, _, _, _, _, _, _, e⟩ => .of (e _ _ hl)) ?_ ?_⟩
    · intro u
      rw [List.mem_singleton]
      rfl
    · rintro i x σ H2 hi ⟨z, m, v2, v3, rfl, sm, hz, hm, nd, s2⟩
      obtain ⟨n, hn, hg, rfl⟩ := ri_mem hi
      have il : i < l.length := (List.getElem?_eq_some_iff.mp hg).1
      have tk : l.take (i + 1) = l.take i ++ [n] := by rw [List.take_add_one, hg]; rfl
      have p12 : 2 ^ i ≤ 2 ^ 11 := Nat.pow_le_pow_right (by decide) (by omega)
      refine ⟨_, rfl, _, rfl, z, _, rfl, .inl (.of hz), rfl, ri_all _, _, rfl, ?_⟩
      rw [inV_ri]
      refine ite2 (fun c => ?_) (fun c => ?_)
      · refine ⟨_, rfl, _, rfl, z, rfl, ⟨_, .of hz⟩, fun D nD => ?_⟩
        have zD : z ≠ D := ne_of_none hz nD
        refine lc_list (K := K) (a := z) (xs := ri m) (fun j H3 => Same H2 H3 ∧ H3 D = some (.lst (ri ((m.take j).map (· ^^^ n))))) ⟨same_upd nD, upd_same⟩ (fun j H3 _ ⟨e, _⟩ => .of (e _ _ hz)) ?_ ?_
        · rintro j y H3 hj ⟨s3, e3⟩
          obtain ⟨o, ho, rfl⟩ := ri_get hj
          have jl : j < m.length := (List.getElem?_eq_some_iff.mp ho).1
          refine ⟨rfl, _, rfl, _, rfl, _, _, rfl, rfl, _, e3, ?_, same_put s3 nD, ?_⟩
          · rw [ri_len, List.length_map, List.length_take, sizeLine_eq]
            omega
          · rw [upd_same, List.take_add_one, ho, List.map_append, ri_append]
            exact congrArg (fun v => some (HO.lst (ri ((m.take j).map (· ^^^ n)) ++ [V.int v]))) (bitXor_nat o n)
        · rintro H3 ⟨s3, e3⟩
          rw [ri_len, List.take_length] at e3
          refine ⟨z, D, _, _, rfl, rfl, s3 _ _ hz, e3, ?_, fun r nr => ?_⟩
          · rw [ri_len, ri_len, List.length_map, sizeLine_eq]
            omega
          · have nr2 : H r = none := s2.free (s3.free nr)
            refine ⟨r, m ++ m.map (· ^^^ n), _, _, rfl, fun u => ?_, ?_, ?_, ?_, same_put (s2.trans s3) nr2⟩
            · rw [tk]
              exact sums_step sm u
            · rw [upd_same, ri_append]
            · rw [List.length_append, List.length_map, Nat.pow_succ]
              omega
            · refine sums_nodup sm nd ?_
              have c1 : m.contains n = false := by simpa using c
              intro z
              rw [List.contains_iff_mem.mpr z] at c1
              cases c1
      · have c' : n ∈ m := by
          have : m.contains n = true := by simpa using c
          simpa using this
        refine ⟨z, m, _, _, rfl, fun u => ?_, hz, by rw [Nat.pow_succ]; omega, nd, s2⟩
        rw [tk]
        exact sums_skip sm c' u
    · rintro σ H2 ⟨z, m, v2, v3, rfl, sm, hz, hm, nd, s2⟩
      rw [ri_len, List.take_length] at sm
      rw [ri_len] at hm
      have p12 : 2 ^ l.length ≤ 2 ^ 12 := Nat.pow_le_pow_right (by decide) h12
      refine ⟨_, rfl, z, rfl, ⟨_, .of hz⟩, fun D nD => ?_⟩
      have zD : z ≠ D := ne_of_none hz nD
      refine lc_list (K := K) (a := z) (xs := ri m) (fun j H3 => Same H2 H3 ∧ H3 D = some (.lst (ri (m.take j)))) ⟨same_upd nD, upd_same⟩ (fun j H3 _ ⟨e, _⟩ => .of (e _ _ hz)) ?_ ?_
      · rintro j y H3 hj ⟨s3, e3⟩
        obtain ⟨o, ho, rfl⟩ := ri_get hj
        have jl : j < m.length := (List.getElem?_eq_some_iff.mp ho).1
        refine ⟨rfl, _, rfl, .inl ⟨_, rfl, _, e3, ?_, same_put s3 nD, ?_⟩⟩
        · rw [ri_len, List.length_take, sizeLine_eq]
          omega
        · rw [upd_same, List.take_add_one, ho, ri_append]
          rfl
      · rintro H3 ⟨s3, e3⟩
        rw [ri_len, List.take_length] at e3
        refine ⟨D, m.map (fun n : Nat => (n : Int)), rfl, .of (by rw [e3, ri_int]), fun ns r hp hs nr => ?_⟩
        have hnn : ∀ x ∈ ns, 0 ≤ x := fun x hx => by
          obtain ⟨n, _, e⟩ := List.mem_map.mp (hp.mem_iff.mp hx)
          omega
        have en : ns = (ns.map Int.toNat).map fun n : Nat => (n : Int) := by
          rw [List.map_map]
          refine (List.map_id ns).symm.trans (List.map_congr_left fun x hx => ?_)
          exact (Int.toNat_of_nonneg (hnn x hx)).symm
        have pm : (ns.map Int.toNat).Perm m := by
          have := hp.map Int.toNat
          rw [List.map_map] at this
          refine this.trans (List.Perm.of_eq ?_)
          refine (List.map_congr_left fun x _ => ?_).trans (List.map_id m)
          exact Int.toNat_natCast x
        refine q (ns.map Int.toNat) r _ (fun u => pm.mem_iff.trans (sm u)) ?_ ?_ (same_put (s2.trans s3) (s2.free (s3.free nr))) (s2.free (s3.free nr))
        · rw [upd_same, ri_int, ← en]
        · exact pm.nodup_iff.mpr nd
end
end Lr

set_option Elab.async false
set_option linter.all false
set_option maxRecDepth 100000
set_option maxHeartbeats 4000000
namespace Ow
open PySem PySem.Spec PyProof.Rows L2
/-- what set() has laid down before anything is put in -/
abbrev bareSet (w : World) : Obj := { cls := .type "set", data := .set #[] 0 (.fresh 0 0 (!w.params.followText "set-order")) }
/-- the shared things behind that -/
abbrev withBare (w : World) (s : Shared) : Shared := { s with heap := s.heap.push (bareSet w) }
section
variable {P : Program} {w : World} {A : Around} {E : Value → Shared → Prop} {s : Shared}
/-- a bare set holds none of the ints yet -/
theorem bare_none {h : Heap} {a : Addr} {ns : List Int} (e : h.get? a = some (bareSet w)) : SetR w h a (fun j => decide (j ∈ ns.take 0)) 0 := by
  refine SetR.congr (S := fun _ => false) ?_ (fun k => by simp)
  refine ⟨bareSet w, #[], 0, _, e, ⟨rfl, rfl, rfl⟩, rfl, ?_, List.nodup_nil, ?_, by decide, rfl, rfl, List.Pairwise.nil, ?_⟩
  · intro x hx
    cases hx
  · intro k
    constructor
    · intro z; cases z
    · intro z; cases z
  · by_cases c : w.params.followText "set-order" = true
    · exact Or.inl c
    · refine Or.inr ?_
      show (!w.params.followText "set-order") = true
      rw [Bool.not_eq_true] at c
      rw [c]
      rfl
/-- what stands behind set(list of ints) -/
def SetMade (w : World) (s : Shared) (ns : List Int) (z : Shared) : Prop := ∃ (g : Heap) (k c : Nat), z = { s with heap := g, toks := k } ∧ SetR w g s.heap.objs.size (fun j => decide (j ∈ ns)) c ∧ c ≤ ns.length ∧ ∀ b o, s.heap.get? b = some o → g.get? b = some o
theorem set_list_ints {l : Addr} {xs : Array Value} {ns : List Int} {Q : Value → Shared → Prop} (nh : A.handled = none) (isl : s.heap.IsList l xs) (hI : IntsAre xs.toList ns) (few : ns.length + 1 < scanBound)
    (out : ∀ z, SetMade w s ns z → Q (.ref s.heap.objs.size) z) : wpAny (model P w) A (call (.type "set") [.ref l]) Q E s := by
  have sz : xs.size = ns.length := by rw [← Array.length_toList]; exact IntsAre.length hI
  have ⟨c, tl, hm⟩ := F.called_set.mro
  have k0 := F.called_set.made
  have k1 := F.called_set.sub
  have k2 := F.called_set.notType
  have k3 := F.called_set.canCreate
  have k4 := F.typeCall_set_1 (.ref l)
  apply wpAny_call
  apply codeAny_of_tree
  apply wpAny_pure
  refine And.intro (Code.quiet_builtin _ (by decide +kernel)) (codeAny_builtin F.entry_type_call ?_)
  rw [Around.under_plain (weight_type_call_type "set" [.ref l] []) rfl]
  repeat (any_goals (first | assumption | wp_step))
  refine codeAny_mono (code_set_led1 (.ref l) (E := E) (Q₁ := fun x z => x = .ref s.heap.objs.size ∧ z = withBare w s) ⟨rfl, rfl⟩) ?_
  intro r z hz
  match r, hz with
  | .error e, hz => exact hz
  | .ok (.ret x), ⟨ex, ez⟩ =>
    subst ex ez
    have got : (s.heap.push (bareSet w)).get? s.heap.objs.size = some (bareSet w) := Heap.get?_push_size _ rfl
    have ty : (withBare w s).TypeIs (.ref s.heap.objs.size) "set" := ⟨_, got, rfl⟩
    have k5 := F.called_set.init.lookup
    have k6 := F.called_set.init.bind (.ref s.heap.objs.size)
    repeat (any_goals (first | assumption | wp_step))
    refine codeAny_mono (codeAny_call_builtin (R := wants (fun r z => r = .none ∧ SetMade w s ns z) E) F.called_set.init.plain F.entry_set_init (check_set_init_1 ty ?_)) ?_
    · obtain ⟨⟨oc, od, oe, os⟩, at0, cl, nl, dt⟩ := isl
      dsimp only at cl dt
      subst cl dt
      have at1 := Heap.get?_push_of_some (bareSet w) at0
      have isl1 : (s.heap.push (bareSet w)).IsList l xs := ⟨_, at1, rfl, nl, rfl⟩
      have n1 := F.sub_list_set
      have n2 := F.sub_list_frozenset
      have n3 : (Value.type "list" == .type "dict") = false := by decide
      unfold Builtin.«set.__init__» noKeywords
      unfold Builtin.Frozenset.updateFrom
      generalize gi : pyIter = it
      wp_walk
      subst gi
      apply wpAny_pyIter_list isl1
      refine wpAny_bind (wpAny_runValue ?_)
      have lS : l < s.heap.objs.size := Heap.lt_size at0
      have nh3 : A.in1.in1.in1.handled = none := by simpa using nh
      have up : (s.heap.push (bareSet w)).objs.size = s.heap.objs.size + 1 := Heap.size_push ..
      have apart : l ≠ (s.heap.push (bareSet w)).objs.size := Nat.ne_of_lt (by rw [up]; exact Nat.lt_succ_of_lt lS)
      have notIn : s.heap.objs.size ∉ [(s.heap.push (bareSet w)).objs.size, l] := by
        intro z
        rcases List.mem_cons.mp z with z | z
        · exact absurd (up ▸ z : _ = _ + 1) (Nat.ne_of_lt (Nat.lt_succ_self _))
        · exact absurd (List.mem_singleton.mp z) (Nat.ne_of_gt lS)
      have each : ∀ (i : Nat) (v : Value), xs[i]? = some v → ∃ k t, ns[i]? = some k ∧ v = .int k t := by
        intro i v e
        have il : i < ns.length := sz ▸ (Array.getElem?_eq_some_iff.mp e).1
        have ⟨t, ht⟩ := PyProof.Rows.IntsAre.int_at hI i v (Array.getElem?_toList.trans e)
        refine ⟨_, t, List.getElem?_eq_getElem il, ht.trans ?_⟩
        rw [List.getD_eq_getElem?_getD, List.getElem?_eq_getElem il, Option.getD_some]
      have lay : ∀ o, ((s.heap.push (bareSet w)).push o).get? s.heap.objs.size = some (bareSet w) := fun o => Heap.get?_push_of_some _ got
      refine set_update_ints (Walks.list nh3 _ l apart xs).toS s.heap.objs.size notIn ns sz few each xs.size 0 _ rfl (Nat.zero_le _) ⟨⟨_, Heap.get?_push_size _ rfl, rfl, rfl⟩, isl1.push _⟩ ⟨0, Nat.le_refl 0, bare_none (lay _)⟩ ?_
      intro z c2 mv le made
      have ⟨g, gg, dd, tk, oo⟩ := z
      have e1 : gg = s.gens := mv.gens
      have e2 : dd = s.drawn := mv.drawn
      have e3 : oo = s.os := mv.os
      subst e1 e2 e3
      refine wpAny_pure ?_
      show wpAny _ _ (ret Value.none) _ _ _
      refine wpAny_pure ⟨rfl, g, tk, c2, rfl, made, sz ▸ le, fun b o e => ?_⟩
      have bl := Heap.lt_size e
      refine mv.heap b o (fun y => ?_) (Heap.get?_push_of_some _ (Heap.get?_push_of_some _ e))
      rcases List.mem_cons.mp y with y | y
      · exact absurd y (Nat.ne_of_lt bl)
      · have y1 := List.mem_singleton.mp y
        rw [up] at y1
        exact absurd y1 (Nat.ne_of_lt (Nat.lt_succ_of_lt bl))
    · intro r z hr
      match r, hr with
      | .error e, hr => exact hr
      | .ok (.ret x), ⟨ex, made⟩ =>
        subst ex
        repeat (any_goals (first | assumption | wp_step))
        exact out z made
/-- set(a list of ints), fewer than 4000 of them; the set is one that sorted() of the layer takes -/
def rSetL (K : PySem.W.Frag) (w : World) : List V → Hp → VK → Prop := fun vs H Q => ∃ (l : Addr) (ns : List Int), vs = [.ref l] ∧ SqL K H l (ns.map V.int) ∧ ns.length + 1 < scanBound ∧
  ∀ (p : Addr) (c : Nat), H p = none → (∀ T : List Int, (∀ k ∈ ns, k ∈ T) → c ≤ T.length) → Q (.ref p) (upd H p (SetO w p (fun j => decide (j ∈ ns)) c))
/-- how many the set holds -/
theorem set_count {w : World} {h : Heap} {a : Addr} {ns T : List Int} {c : Nat} (R : SetR w h a (fun j => decide (j ∈ ns)) c) (le : ∀ k ∈ ns, k ∈ T) : c ≤ T.length := by
  obtain ⟨o, es, ep, t, _, _, _, _, nd, mem, _, _, rfl, _⟩ := R
  have := List.Nodup.length_le_of_subset nd (l₂ := T) fun k hk => le k (of_decide_eq_true ((mem k).mpr hk))
  simpa using this
theorem cr_setL {X : Cx} (calm : X.calm = true) : CallR X (.type "set") (rSetL X.K X.w) := by
  intro pins s σ H vs us Q I r h
  obtain ⟨l, ns, rfl, sl, few, q⟩ := h
  rw [Vals.ref1 r]
  obtain ⟨its, rv, pl, hz⟩ := I.list sl
  refine set_list_ints (ns := ns) (I.ok.hd calm) pl.isList (by simpa using ints_of_vals rv) few fun z ⟨g, k, c, ez, made, le, keep⟩ => ?_
  subst ez
  have free : H s.heap.objs.size = none := I.hok.fresh (Nat.le_refl _)
  exact ⟨.ref s.heap.objs.size, _, I.laid keep (Nat.le_refl _) (setO_new made), rfl, q _ c free fun T hT => set_count made hT⟩
end
end Ow

set_option Elab.async false
set_option linter.all false
set_option maxRecDepth 100000
set_option maxHeartbeats 4000000
namespace Lr
open PySem PySem.Spec PyProof.Rows L2 Ow
/-! ### the law's own reduced rows: pure part -/
def bl (x : Nat) : Nat := Builtin.Int.intBits (x : Int)
theorem bl_zero : bl 0 = 0 := rfl
theorem bl_eq {x : Nat} (h : x ≠ 0) : bl x = Xr.top x + 1 := by
  have e := intBits_nat h
  show Builtin.Int.intBits (x : Int) = _
  omega
theorem asc_ext : ∀ {a b : List Int}, a.Pairwise (· < ·) → b.Pairwise (· < ·) → (∀ k, k ∈ a ↔ k ∈ b) → a = b
  | [], [], _, _, _ => rfl
  | [], y :: b, _, _, h => by
    have := (h y).mpr List.mem_cons_self
    cases this
  | x :: a, [], _, _, h => by
    have := (h x).mp List.mem_cons_self
    cases this
  | x :: a, y :: b, ha, hb, h => by
    have ha' := List.pairwise_cons.mp ha
    have hb' := List.pairwise_cons.mp hb
    have e : x = y := by
      rcases List.mem_cons.mp ((h x).mp List.mem_cons_self) with z | z
      · exact z
      · rcases List.mem_cons.mp ((h y).mpr List.mem_cons_self) with u | u
        · exact u.symm
        · have := hb'.1 x z
          have := ha'.1 y u
          omega
    subst e
    rw [asc_ext ha'.2 hb'.2 fun k => ⟨fun z => ?_, fun z => ?_⟩]
    · rcases List.mem_cons.mp ((h k).mp (List.mem_cons_of_mem _ z)) with u | u
      · have := ha'.1 k z
        omega
      · exact u
    · rcases List.mem_cons.mp ((h k).mpr (List.mem_cons_of_mem _ z)) with u | u
      · have := hb'.1 k z
        omega
      · exact u
/-- the greatest bits of the rows, counted from one -/
def tps (m : List Nat) : List Nat := m.map bl
theorem tps_asc {m : List Nat} (c : Xr.Canon m) : ((tps m).map fun n : Nat => (n : Int)).Pairwise (· < ·) := by
  unfold tps
  rw [List.map_map, List.pairwise_map]
  have both := List.pairwise_and_iff.mpr ⟨c.1.2, c.2⟩
  refine List.Pairwise.imp_of_mem ?_ both
  intro a b ma mb h
  have z := Xr.top_lt_of_lt (c.1.1 a ma) (c.1.1 b mb) h.1.1 h.2
  show ((bl a : Nat) : Int) < ((bl b : Nat) : Int)
  rw [bl_eq (c.1.1 a ma), bl_eq (c.1.1 b mb)]
  omega
theorem tps_mem {m L : List Nat} (c : Xr.Canon m) (h : ∀ u, u ∈ L ↔ Xr.Span m u) (k : Int) : k ∈ (tps m).map (fun n : Nat => (n : Int)) ↔ k ∈ ((L.filter fun x => decide (0 < x)).map bl).map (fun n : Nat => (n : Int)) := by
  simp only [tps, List.mem_map, List.mem_filter, decide_eq_true_eq]
  constructor
  · rintro ⟨_, ⟨r, hr, rfl⟩, rfl⟩
    exact ⟨_, ⟨r, ⟨(h r).mpr (Xr.span_mem hr), Nat.pos_of_ne_zero (c.1.1 r hr)⟩, rfl⟩, rfl⟩
  · rintro ⟨_, ⟨x, ⟨hx, px⟩, rfl⟩, rfl⟩
    have x0 : x ≠ 0 := by omega
    obtain ⟨r, hr, e⟩ := Xr.span_top c.1 ((h x).mp hx) x0
    exact ⟨_, ⟨r, hr, rfl⟩, by rw [bl_eq (c.1.1 r hr), bl_eq x0, e]⟩
/-- what stands in the way of x as the row with the greatest bit t -/
def bars (T : List Nat) (t x : Nat) : List Nat := T.filter fun s => decide (s ≠ t) && x.testBit (s - 1)
/-- the law's choice for one greatest bit -/
def chosen (L T : List Nat) (t : Nat) : List Nat := (L.filter fun x => decide (bl x = t)).filter fun x => (bars T t x).isEmpty
theorem top_inj {m : List Nat} (c : Xr.Canon m) {r s : Nat} (hr : r ∈ m) (hs : s ∈ m) (e : bl r = bl s) : r = s := by
  rw [bl_eq (c.1.1 r hr), bl_eq (c.1.1 s hs)] at e
  have e2 : Xr.top r = Xr.top s := by omega
  cases hh : r.testBit (Xr.top s) with
  | true => exact Xr.Red.inj c.1 hr hs hh
  | false =>
    rw [← e2, Xr.top_bit (c.1.1 r hr)] at hh
    cases hh
theorem chosen_head {m L : List Nat} (c : Xr.Canon m) (h : ∀ u, u ∈ L ↔ Xr.Span m u) {r : Nat} (hr : r ∈ m) : (chosen L (tps m) (bl r))[0]? = some r := by
  have r0 := c.1.1 r hr
  have mem : r ∈ chosen L (tps m) (bl r) := by
    refine List.mem_filter.mpr ⟨List.mem_filter.mpr ⟨(h r).mpr (Xr.span_mem hr), decide_eq_true rfl⟩, ?_⟩
    rw [List.isEmpty_iff]
    refine List.filter_eq_nil_iff.mpr fun s hs => ?_
    obtain ⟨b, hb, rfl⟩ := List.mem_map.mp hs
    intro z
    rw [Bool.and_eq_true, decide_eq_true_eq] at z
    rw [bl_eq (c.1.1 b hb), Nat.add_sub_cancel] at z
    have := Xr.Red.inj c.1 hr hb z.2
    exact z.1 (by rw [this, bl_eq (c.1.1 b hb)])
  have all : ∀ x ∈ chosen L (tps m) (bl r), x = r := by
    intro x hx
    obtain ⟨h1, h2⟩ := List.mem_filter.mp hx
    obtain ⟨h3, h4⟩ := List.mem_filter.mp h1
    have e : bl x = bl r := of_decide_eq_true h4
    have x0 : x ≠ 0 := by
      rintro rfl
      rw [bl_zero, bl_eq r0] at e
      cases e
    have et : Xr.top x = Xr.top r := by
      rw [bl_eq x0, bl_eq r0] at e
      omega
    have z := Xr.span_no_top c.1 (Xr.span_xor m ((h x).mp h3) (Xr.span_mem hr)) fun b hb => ?_
    · have := congrArg (· ^^^ r) z
      simp only [Nat.xor_assoc, Nat.xor_self, Nat.xor_zero, Nat.zero_xor] at this
      exact this
    · rw [Nat.testBit_xor]
      by_cases k : b = r
      · subst k
        rw [Xr.top_bit r0, ← et, Xr.top_bit x0]
        rfl
      · have rb : r.testBit (Xr.top b) = false := by
          cases hh : r.testBit (Xr.top b) with
          | false => rfl
          | true => exact absurd (Xr.Red.inj c.1 hr hb hh).symm k
        have xb : x.testBit (Xr.top b) = false := by
          rw [List.isEmpty_iff] at h2
          have q := List.filter_eq_nil_iff.mp h2 (bl b) (List.mem_map.mpr ⟨b, hb, rfl⟩)
          have ne : bl b ≠ bl r := fun z => k (top_inj c hb hr z)
          cases hh : x.testBit (Xr.top b) with
          | false => rfl
          | true =>
            refine absurd ?_ q
            rw [Bool.and_eq_true, decide_eq_true_eq, bl_eq (c.1.1 b hb), Nat.add_sub_cancel]
            exact ⟨fun z => ne (by rw [bl_eq (c.1.1 b hb)]; exact z), hh⟩
        rw [rb, xb]
        rfl
  cases hc : chosen L (tps m) (bl r) with
  | nil => rw [hc] at mem; cases mem
  | cons y ys =>
    rw [hc] at all
    rw [all y List.mem_cons_self]
    rfl
theorem shaped_lst (ns : List Int) : SeqAt.shaped (.list (ns.map PyData.int)) = true := by
  refine Bool.and_eq_true_iff.mpr ⟨?_, decide_eq_true ?_⟩
  · show PyData.canLay0 (.list _) = true
    rw [PyData.canLay0]
    exact canlay_ints ns
  · show PyData.depth (.list _) ≤ 64
    rw [PyData.depth]
    have := depth_ints ns
    omega
theorem eqv_nilL (ns : List Int) : PyData.eqv (.list (ns.map PyData.int)) (.list []) = ns.isEmpty := by
  cases ns <;> rfl
theorem shr_one (n t : Nat) : decide (V.int (Builtin.bitAnd ((n : Int) / 2 ^ ((t : Nat) : Int).toNat) 1) = V.int 1) = n.testBit t := by
  have e := shr_bit n t
  have f : Builtin.bitAnd ((n / 2 ^ t : Nat) : Int) ((1 : Nat) : Int) = (((n / 2 ^ t) &&& 1 : Nat) : Int) := bitAnd_nat _ 1
  have g : ((n : Int) / 2 ^ ((t : Nat) : Int).toNat) = ((n / 2 ^ t : Nat) : Int) := by
    rw [Int.toNat_natCast]
    simp
  rw [g] at e ⊢
  have f' : Builtin.bitAnd ((n / 2 ^ t : Nat) : Int) 1 = (((n / 2 ^ t) % 2 : Nat) : Int) := by
    rw [← Nat.and_one_is_mod]
    exact f
  rw [f'] at e ⊢
  rw [dec_int]
  rcases Nat.mod_two_eq_zero_or_one (n / 2 ^ t) with h | h <;> rw [h] at e ⊢ <;> exact e
end Lr

set_option Elab.async false
set_option linter.all false
set_option maxRecDepth 100000
set_option maxHeartbeats 4000000
namespace Lr
open PySem PySem.Spec PyProof.Rows L2 Ow
section
variable {P : Program} {w : World} {K : PySem.W.Frag} {mg : Str → Option Value} {base : Heap}
/-! ### the law's own reduced rows -/
abbrev s_lred : Stmt := topS 29
theorem sc_lred : FnScope ["_law_sums_here", "_law_tops", "_law_found", "_law_top", "_law_some", "_law_one", "_law_low"] ["_law_sums_here"] (defScope s_lred) := ⟨rfl, rfl, rfl, by decide +kernel, rfl, by decide +kernel, by decide +kernel⟩
def spLRed (K : PySem.W.Frag) : Sp := fun vs H Q _ => ∃ (p : Addr) (L m : List Nat), vs = [.ref p] ∧ H p = some (.lst (ri L)) ∧ L.length ≤ 1024 ∧ Xr.Canon m ∧ m.length ≤ 17 ∧ (∀ u, u ∈ L ↔ Xr.Span m u) ∧
  ∀ (z : Addr) (H' : Hp), Same H H' → H z = none → SqT K H' z (ri m) → Q (.ref z) H'
theorem small9k {n : Nat} (h : n ≤ 9000) : n < sizeLine := Nat.lt_of_le_of_lt h (by decide)
theorem small_scan : 1024 < scanBound := by decide
theorem ok_lred {f : Addr} {fd : FuncData} (F : Fun K "_law_reduced" "_law_reduced" s_lred f fd) (T : Nm mg) (gS : mg "set" = none) : FnOk P w K mg base CX0 1 f fd ["_law_sums_here"] (spLRed K) := by
  refine F.ok sc_lred (fun vs H Q E h => ?_) (fun cdv A outer s H vs Q E hr h => ?_)
  · obtain ⟨p, L, m, rfl, _⟩ := h
    rfl
  · obtain ⟨p, L, m, rfl, hp, hL, cm, hm, hs, q⟩ := h
    have hu := hr.units
    refine ⟨_, (pss_cons (ps_set (i := 1) sc_lred.nd rfl (Or.inr rfl) (pe_callB (cr_sortedSet rfl) (by rfl) T.sorted PyProof.Rows.boot_sorted (pa_cons (pe_callTy (cr_setL rfl) (by rfl) gS PyProof.Rows.boot_set (pa_cons (pe_lc (own := [("_law_one", 5)]) (g := (gName 5)) (tt := _) rfl sc_lred.nd (pi_list (pv 0)) (blkOk_by (by kernel_rfl)) (fun _ _ _ _ _ => pg_name (i := 5) sc_lred.nd rfl (Or.inl rfl)) (fun _ _ _ _ _ => pts_one (pt_cmpR op_gt (pv 5) pe_int (nomark _))) (fun _ _ _ _ _ => (pe_bits (pv 5)))) pa_nil)) pa_nil)))
    (pss_cons (ps_set (i := 2) sc_lred.nd rfl (Or.inl rfl) (pe_lst pa_nil))
    (pss_cons (ps_for PassesOwn.never rfl (pi_list (pv 1)) (pg_name (i := 3) sc_lred.nd rfl (Or.inr rfl))
    (pss_cons (ps_setLc (i := 4) (own := [("_law_one", 5)]) (g := (gName 5)) (tt := _) rfl sc_lred.nd rfl rfl (sw_true rfl rfl rfl (by decide +kernel)) (pi_list (pv 0)) (blkOk_by (by kernel_rfl)) (fun _ _ _ _ _ => pg_name (i := 5) sc_lred.nd rfl (Or.inl rfl)) (fun _ _ _ _ _ => pts_one (pt_cmpR op_eq (pe_bits (pv 5)) (pv 3) (nomark _))) (fun _ _ _ _ _ => (pv 5)))
    (pss_one (ps_expr (pe_bm PySem.F.plainAttrs_list PySem.F.slot_list_append PySem.F.type_list_append mt_append (pv 2) (pa_cons (pe_ix ix_list (pe_lc (own := [("_law_one", 5)]) (g := (gName 5)) (tt := _) rfl sc_lred.nd (pi_list (pv 4)) (blkOk_by (by kernel_rfl)) (fun _ _ _ _ _ => pg_name (i := 5) sc_lred.nd rfl (Or.inr rfl))
      (fun _ _ _ _ _ => by exact pts_one (pt_cmpR (r := rEqD K) (by exact op_eqD hu) (pe_lc (own := [("_law_low", 6)]) (g := (gName 6)) (wi := iList K (tVar 1)) (tt := _) rfl sc_lred.nd (by exact pi_list (pv 1)) (blkOk_by (by kernel_rfl)) (fun _ _ _ _ _ => pg_name (i := 6) sc_lred.nd rfl (Or.inl rfl)) (fun _ _ _ _ _ => pts_one (PW.pt (pw_and (pt_cmpR op_ne (pv 6) (pv 3) (nomark _)) (pw_and1 (pt_cmpR op_eq (pe_op op_and (pe_op op_shr (pv 5) (pe_op op_sub (pv 6) pe_int)) pe_int) pe_int (nomark _)))))) (fun _ _ _ _ _ => (pv 6))) (pe_lst pa_nil) (nomark _)))
      (fun _ _ _ _ _ => (pv 5))) pe_int (fun _ _ => rfl)) pa_nil))))))
    (pss_one (ps_ret (pe_callTy call_tuple_of (by rfl) T.tuple PyProof.Rows.boot_tuple (pa_cons (pv 2) pa_nil))))))), ?_⟩
    refine ⟨_, rfl, p, rfl, ⟨_, .of hp⟩, fun D nD => ?_⟩
    refine lc_list (K := K) (a := p) (xs := ri L) (fun j H3 => Same H H3 ∧ H3 D = some (.lst (ri (((L.take j).filter fun x => decide (0 < x)).map bl)))) ⟨same_upd nD, upd_same⟩ (fun j H3 _ ⟨e, _⟩ => .of (e _ _ hp)) ?_ ?_
    · rintro j y H3 hj ⟨s3, e3⟩
      obtain ⟨x, hx, rfl⟩ := ri_get hj
      have jl : j < L.length := (List.getElem?_eq_some_iff.mp hx).1
      refine ⟨rfl, _, rfl, _, _, rfl, rfl, _, rfl, ?_⟩
      have eb : decide ((0 : Int) < (x : Int)) = decide (0 < x) := decide_eq_decide.mpr (by omega)
      refine ite2 (fun c => ?_) (fun c => ?_)
      · have c' : decide (0 < x) = true := eb.symm.trans c
        refine ⟨_, rfl, _, rfl, _, e3, ?_, same_put s3 nD, ?_⟩
        · rw [ri_len, List.length_map]
          refine small9k (Nat.le_trans (List.length_filter_le _ _) ?_)
          rw [List.length_take]
          omega
        · rw [upd_same, List.take_add_one, hx, List.filter_append, List.map_append, ri_append]
          simp only [Option.toList_some, List.filter_cons, List.filter_nil, c', if_true]
          rfl
      · have c' : decide (0 < x) = false := by
          rw [← eb]
          exact Bool.eq_false_iff.mpr c
        refine ⟨s3, ?_⟩
        rw [e3, List.take_add_one, hx, List.filter_append]
        simp only [Option.toList_some, List.filter_cons, List.filter_nil, c', Bool.false_eq_true, if_false, List.append_nil]
    · rintro H3 ⟨s3, e3⟩
      rw [ri_len, List.take_length] at e3
      have few : ((L.filter fun x => decide (0 < x)).map bl).length < 1024 := by
        rw [List.length_map]
        have z0 : 0 ∈ L := (hs 0).mpr (Xr.span_zero m)
        have := (List.length_filter_lt_length_iff_exists (l := L) (p := fun x => decide (0 < x))).mpr ⟨0, z0, by decide⟩
        omega
      refine ⟨D, ((L.filter fun x => decide (0 < x)).map bl).map fun n : Nat => (n : Int), rfl, .of (by rw [e3, ri_int]), ?_, fun p1 c1 n1 le1 => ?_⟩
      · rw [List.length_map]
        have := small_scan
        omega
      refine ⟨p1, _, c1, rfl, upd_same, ?_, fun ks T asc mem len nT => ?_⟩
      · have := le1 ((tps m).map fun n : Nat => (n : Int)) fun k hk => (tps_mem cm hs k).mpr hk
        rw [List.length_map, tps, List.length_map] at this
        omega
      have eT : ks = (tps m).map fun n : Nat => (n : Int) := asc_ext asc (tps_asc cm) fun k => (mem k).trans (decide_eq_true_iff.trans (tps_mem cm hs k).symm)
      subst eT
      have nT3 : H3 T = none := (same_upd n1).free nT
      have nTH : H T = none := s3.free nT3
      have s4 : Same H (upd (upd H3 p1 (SetO w p1 (fun j => decide (j ∈ ((L.filter fun x => decide (0 < x)).map bl).map fun n : Nat => (n : Int))) c1)) T (.lst (((tps m).map fun n : Nat => (n : Int)).map V.int))) := same_put (same_put s3 (s3.free n1)) nTH
      have hT4 : (upd (upd H3 p1 (SetO w p1 (fun j => decide (j ∈ ((L.filter fun x => decide (0 < x)).map bl).map fun n : Nat => (n : Int))) c1)) T (.lst (((tps m).map fun n : Nat => (n : Int)).map V.int))) T = some (.lst (ri (tps m))) := by rw [upd_same, ri_int]
      have tl : (tps m).length = m.length := List.length_map ..
      refine ⟨Nat.zero_le _, fun fo nfo => ?_⟩
      have Tf : T ≠ fo := ne_of_none hT4 nfo
      have nfoH : H fo = none := s4.free nfo
      refine ⟨_, rfl, T, rfl, ⟨_, .of ((same_upd nfo) _ _ hT4)⟩, for_list (K := K) (a := T) (xs := ri (tps m)) (fun i σ H' => ∃ v3 v4 v5 v6, σ = [some (.ref p), some (.ref T), some (.ref fo), v3, v4, v5, v6] ∧ H' fo = some (.lst (ri (m.take i))) ∧ H' T = some (.lst (ri (tps m))) ∧ Same H H')
        ⟨none, none, none, none, rfl, upd_same, (same_upd nfo) _ _ hT4, same_put s4 nfoH⟩ (fun i σ H' _ ⟨_, _, _, _, _, _, h, _⟩ => .of h) ?_ ?_⟩
      · rintro i y σ H2 hi ⟨v3, v4, v5, v6, rfl, hfo, hT, s2⟩
        obtain ⟨t, ht, rfl⟩ := ri_get hi
        obtain ⟨r, hr, rfl⟩ : ∃ r, m[i]? = some r ∧ bl r = t := by
          rw [tps, List.getElem?_map] at ht
          cases hm' : m[i]? with
          | none => rw [hm'] at ht; cases ht
          | some r => rw [hm'] at ht; exact ⟨r, rfl, Option.some.inj ht⟩
        have rm : r ∈ m := List.mem_of_getElem? hr
        have b1 : 1 ≤ bl r := by rw [bl_eq (cm.1.1 r rm)]; omega
        have il : i < m.length := (List.getElem?_eq_some_iff.mp hr).1
        have hp2 : H2 p = some (.lst (ri L)) := s2 _ _ hp
        refine ⟨_, rfl, p, rfl, ⟨_, .of hp2⟩, fun D2 nD2 => ?_⟩
        refine lc_list (K := K) (a := p) (xs := ri L) (fun j H5 => Same H2 H5 ∧ H5 D2 = some (.lst (ri ((L.take j).filter fun x => decide (bl x = bl r))))) ⟨same_upd nD2, upd_same⟩ (fun j H5 _ ⟨e, _⟩ => .of (e _ _ hp2)) ?_ ?_
        · rintro j y H5 hj ⟨s5, e5⟩
          obtain ⟨x, hx, rfl⟩ := ri_get hj
          have jl : j < L.length := (List.getElem?_eq_some_iff.mp hx).1
          refine ⟨rfl, _, rfl, _, rfl, _, rfl, rfl, _, rfl, ?_⟩
          have eb : decide (V.int ((Builtin.Int.intBits (x : Int) : Nat) : Int) = vi (bl r)) = decide (bl x = bl r) := by
            rw [decide_eq_decide]
            constructor
            · intro z
              injection z with z
              exact Int.ofNat.inj z
            · intro z
              exact congrArg vi z
          refine ite2 (fun c => ?_) (fun c => ?_)
          · have c' : decide (bl x = bl r) = true := eb.symm.trans c
            refine ⟨_, rfl, _, e5, ?_, same_put s5 nD2, ?_⟩
            · rw [ri_len]
              refine small9k (Nat.le_trans (List.length_filter_le _ _) ?_)
              rw [List.length_take]
              omega
            · rw [upd_same, List.take_add_one, hx, List.filter_append, ri_append]
              simp only [Option.toList_some, List.filter_cons, List.filter_nil, c', if_true]
              rfl
          · have c' : decide (bl x = bl r) = false := by
              rw [← eb]
              exact Bool.eq_false_iff.mpr c
            refine ⟨s5, ?_⟩
            rw [e5, List.take_add_one, hx, List.filter_append]
            simp only [Option.toList_some, List.filter_cons, List.filter_nil, c', Bool.false_eq_true, if_false, List.append_nil]
        · rintro H5 ⟨s5, e5⟩
          rw [ri_len, List.take_length] at e5
          have f5 : H5 fo = some (.lst (ri (m.take i))) := s5 _ _ hfo
          have T5 : H5 T = some (.lst (ri (tps m))) := s5 _ _ hT
          refine ⟨_, rfl, .inl ⟨rfl, _, .of f5⟩, _, rfl, D2, rfl, ⟨_, .of e5⟩, fun D6 nD6 => ?_⟩
          refine lc_list (K := K) (a := D2) (xs := ri (L.filter fun x => decide (bl x = bl r))) (fun j H7 => Same H5 H7 ∧ H7 D6 = some (.lst (ri (((L.filter fun x => decide (bl x = bl r)).take j).filter fun x => (bars (tps m) (bl r) x).isEmpty)))) ⟨same_upd nD6, upd_same⟩ (fun j H7 _ ⟨e, _⟩ => .of (e _ _ e5)) ?_ ?_
          · rintro j y H7 hj ⟨s7, e7⟩
            obtain ⟨x, hx, rfl⟩ := ri_get hj
            have jl : j < (L.filter fun x => decide (bl x = bl r)).length := (List.getElem?_eq_some_iff.mp hx).1
            have jL : j < 1024 := Nat.lt_of_lt_of_le jl (Nat.le_trans (List.length_filter_le _ _) hL)
            have T7 := s7 _ _ T5
            refine ⟨rfl, _, rfl, T, rfl, ⟨_, .of T7⟩, fun D8 nD8 => ?_⟩
            refine lc_list (K := K) (a := T) (xs := ri (tps m)) (fun k H9 => Same H7 H9 ∧ H9 D8 = some (.lst (ri (bars ((tps m).take k) (bl r) x)))) ⟨same_upd nD8, upd_same⟩ (fun k H9 _ ⟨e, _⟩ => .of (e _ _ T7)) ?_ ?_
            · rintro k y H9 hk ⟨s9, e9⟩
              obtain ⟨s, hs', rfl⟩ := ri_get hk
              have kl : k < (tps m).length := (List.getElem?_eq_some_iff.mp hs').1
              obtain ⟨b, hb, rfl⟩ := List.mem_map.mp (List.mem_of_getElem? hs')
              have bb : ((bl b : Nat) : Int) - 1 = ((bl b - 1 : Nat) : Int) := by
                have := bl_eq (cm.1.1 b hb)
                omega
              have fin : ∀ H' : Hp, (decide (bl b ≠ bl r) && x.testBit (bl b - 1)) = false → Same H7 H9 ∧ H9 D8 = some (.lst (ri (bars ((tps m).take (k + 1)) (bl r) x))) := fun _ z => by
                refine ⟨s9, ?_⟩
                rw [e9, List.take_add_one, hs', bars, bars, List.filter_append]
                simp only [Option.toList_some, List.filter_cons, List.filter_nil, z, Bool.false_eq_true, if_false, List.append_nil]
              refine ⟨rfl, _, rfl, _, rfl, rfl, _, rfl, ?_⟩
              have e1 : (!decide (vi (bl b) = vi (bl r))) = decide (bl b ≠ bl r) := by
                by_cases z : bl b = bl r
                · rw [z]; simp
                · have z2 : vi (bl b) ≠ vi (bl r) := fun u => z (by injection u with u; exact Int.ofNat.inj u)
                  simp [z, z2]
              refine ite2 (fun c => ?_) (fun c => ?_)
              · have c1 : decide (bl b ≠ bl r) = true := e1.symm.trans c
                refine ⟨_, rfl, _, rfl, _, _, rfl, rfl, _, _, rfl, rfl, by rw [bb]; exact Int.natCast_nonneg _, _, _, rfl, rfl, rfl, _, rfl, ?_⟩
                have e2 : decide (V.int (Builtin.bitAnd ((x : Int) / 2 ^ (((bl b : Nat) : Int) - 1).toNat) 1) = V.int 1) = x.testBit (bl b - 1) := by
                  rw [bb]
                  exact shr_one x _
                refine ite2 (fun d => ?_) (fun d => ?_)
                · have d1 : x.testBit (bl b - 1) = true := e2.symm.trans d
                  refine ⟨_, rfl, _, e9, ?_, same_put s9 nD8, ?_⟩
                  · rw [ri_len, bars]
                    refine small9k (Nat.le_trans (List.length_filter_le _ _) ?_)
                    rw [List.length_take]
                    omega
                  · rw [upd_same, List.take_add_one, hs', bars, bars, List.filter_append, ri_append]
                    simp only [Option.toList_some, List.filter_cons, List.filter_nil, c1, d1, Bool.and_self, if_true]
                    rfl
                · have d1 : x.testBit (bl b - 1) = false := by
                    rw [← e2]
                    exact Bool.eq_false_iff.mpr d
                  exact fin H9 (by rw [d1, Bool.and_false])
              · have c1 : decide (bl b ≠ bl r) = false := by
                  rw [← e1]
                  exact Bool.eq_false_iff.mpr c
                exact fin H9 (by rw [c1, Bool.false_and])
            · rintro H9 ⟨s9, e9⟩
              rw [ri_len, List.take_length] at e9
              refine ⟨Nat.zero_le _, fun en nen => ?_⟩
              have e10 := (same_upd (o := HO.lst []) nen) _ _ e9
              refine ⟨.list (((bars (tps m) (bl r) x).map fun n : Nat => (n : Int)).map PyData.int), .list [], .lst (.of e10) (by rw [ri_ii]; exact dp_ints _), .lst (.of upd_same) .nil, shaped_lst _, rfl, _, rfl, ?_⟩
              have e3 : PyData.eqv (.list (((bars (tps m) (bl r) x).map fun n : Nat => (n : Int)).map PyData.int)) (.list []) = (bars (tps m) (bl r) x).isEmpty := by
                rw [eqv_nilL]
                cases bars (tps m) (bl r) x <;> rfl
              have s10 : Same H5 (upd H9 en (.lst [])) := s7.trans (s9.trans (same_upd nen))
              have e11 : (upd H9 en (.lst [])) D6 = some (.lst (ri (((L.filter fun x => decide (bl x = bl r)).take j).filter fun x => (bars (tps m) (bl r) x).isEmpty))) := (s9.trans (same_upd nen)) _ _ e7
              refine ite2 (fun c => ?_) (fun c => ?_)
              · have c' : (bars (tps m) (bl r) x).isEmpty = true := e3.symm.trans c
                refine ⟨_, rfl, _, e11, ?_, same_put s10 nD6, ?_⟩
                · rw [ri_len]
                  refine small9k (Nat.le_trans (List.length_filter_le _ _) ?_)
                  rw [List.length_take]
                  omega
                · rw [upd_same, List.take_add_one, hx, List.filter_append, ri_append]
                  simp only [Option.toList_some, List.filter_cons, List.filter_nil, c', if_true]
                  rfl
              · have c' : (bars (tps m) (bl r) x).isEmpty = false := by
                  rw [← e3]
                  exact Bool.eq_false_iff.mpr c
                refine ⟨s10, ?_⟩
                rw [e11, List.take_add_one, hx, List.filter_append]
                simp only [Option.toList_some, List.filter_cons, List.filter_nil, c', Bool.false_eq_true, if_false, List.append_nil]
          · rintro H7 ⟨s7, e7⟩
            rw [ri_len, List.take_length] at e7
            have ch : (ri (chosen L (tps m) (bl r)))[0]? = some (vi r) := by
              rw [ri, List.getElem?_map, chosen_head cm hs rm]
              rfl
            have f7 := s7 _ _ f5
            refine ⟨D6, _, _, vi r, rfl, rfl, .of e7, at_of (j := 0) rfl ch, fo, _, _, rfl, rfl, f7, ?_, ?_⟩
            · rw [ri_len, List.length_take]
              exact small9k (by omega)
            · have s57 : Same H H7 := s2.trans (s5.trans s7)
              refine ⟨_, _, _, _, rfl, ?_, ?_, same_put s57 nfoH⟩
              · rw [upd_same, List.take_add_one, hr, ri_append]
                rfl
              · rw [upd_ne Tf]
                exact s7 _ _ T5
      · rintro σ H2 ⟨v3, v4, v5, v6, rfl, hfo, hT, s2⟩
        rw [ri_len, tl, List.take_length] at hfo
        refine ⟨_, rfl, fo, _, rfl, .inl ⟨.of hfo, fun p9 np9 => ?_⟩⟩
        exact q p9 _ (same_put s2 (s2.free np9)) (s2.free np9) (.of upd_same)
end
end Lr

set_option Elab.async false
set_option linter.all false
set_option maxRecDepth 100000
set_option maxHeartbeats 4000000
namespace Lr
open PySem PySem.Spec PyProof.Rows L2 Ow
section
variable {P : Program} {w : World} {K : PySem.W.Frag} {mg : Str → Option Value} {base : Heap}
/-! ### the checks and tells, for any value -/
/-- a value that is no integer (a bool is none) -/
def NoInt (K : PySem.W.Frag) (H : Hp) (v : V) : Prop := ∃ (t : Value) (b : Bool), TyX K H v t ∧ PySem.W.kitOne K t (.type "int") = some b ∧ (b = true → PySem.W.kitOne K t (.type "bool") = some true)
theorem noInt_non {H : Hp} : NoInt K H .non := ⟨_, false, .base .non, kit_ty (by decide +kernel), fun z => nomatch z⟩
theorem noInt_bl {H : Hp} (b : Bool) : NoInt K H (.bl b) := ⟨_, true, .base (.bl b), kit_ty (by decide +kernel), fun _ => kit_ty (by decide +kernel)⟩
theorem noInt_str {H : Hp} (x : Str) : NoInt K H (.str x) := ⟨_, false, .base (.str x), kit_ty (by decide +kernel), fun z => nomatch z⟩
theorem noInt_tup {H : Hp} {a : Addr} {xs : List V} (h : H a = some (.tup xs)) : NoInt K H (.ref a) := ⟨_, false, .base (.tup h), kit_ty (by decide +kernel), fun z => nomatch z⟩
theorem noInt_lst {H : Hp} {a : Addr} {xs : List V} (h : H a = some (.lst xs)) : NoInt K H (.ref a) := ⟨_, false, .base (.lst h), kit_ty (by decide +kernel), fun z => nomatch z⟩
/-- a value as the checks take it: an integer, or no integer -/
inductive Arg (K : PySem.W.Frag) (H : Hp) : V → Option Int → Prop
  | int (i : Int) : Arg K H (.int i) (some i)
  | no {v : V} (h : NoInt K H v) : Arg K H v none
def spIsIntV (K : PySem.W.Frag) : Sp := fun vs H Q _ => ∃ (v : V) (o : Option Int), vs = [v] ∧ Arg K H v o ∧ Q (.bl o.isSome) H
theorem ok_isIntV {f : Addr} {fd : FuncData} (F : Fun K "is_integer" "is_integer" s_is_integer f fd) (T : Nm mg) : FnOk P w K mg base CX0 1 f fd ["value"] (spIsIntV K) := by
  refine F.ok sc_is_integer (fun vs H Q E h => ?_) (fun cdv A outer s H vs Q E hr h => ?_)
  · obtain ⟨v, o, rfl, _⟩ := h
    rfl
  · obtain ⟨v, o, rfl, g, q⟩ := h
    refine ⟨_, pss_one (ps_ret (pe_and (pe_callB call_isi (by rfl) T.isi boot_isinstance (pa_cons (pv 0) (pa_cons (pe_bltn (v := .ty "int") (by rfl) T.int PyProof.Rows.boot_int rfl) pa_nil)))
      (pe_one (pe_not (pe_callB call_isi (by rfl) T.isi boot_isinstance (pa_cons (pv 0) (pa_cons (pe_bltn (v := .ty "bool") (by rfl) T.bool PyProof.Rows.boot_bool rfl) pa_nil))))))), ?_⟩
    cases g with
    | int i =>
      refine ⟨_, rfl, _, _, _, _, true, rfl, .ty "int", .base (.int i), kit_ty (by decide +kernel), true, rfl, iteT ?_⟩
      exact ⟨_, rfl, _, _, _, _, false, rfl, .ty "bool", .base (.int i), kit_ty (by decide +kernel), false, rfl, q⟩
    | no h =>
      obtain ⟨t, b, ty, k1, k2⟩ := h
      refine ⟨_, rfl, _, _, _, _, b, rfl, .ty "int", ty, k1, b, rfl, ?_⟩
      cases b with
      | false => exact iteF q
      | true => exact iteT ⟨_, rfl, _, _, _, _, true, rfl, .ty "bool", ty, k2 rfl, true, rfl, q⟩
def within? (lo hi : Int) : Option Int → Bool
  | none => false
  | some i => decide (lo ≤ i ∧ i ≤ hi)
def spWithinV (K : PySem.W.Frag) : Sp := fun vs H Q _ => ∃ (v : V) (o : Option Int) (lo hi : Int), vs = [v, .int lo, .int hi] ∧ Arg K H v o ∧ Q (.bl (within? lo hi o)) H
theorem ok_withinV {f fI : Addr} {fd fdI : FuncData} (F : Fun K "is_within" "is_within" s_is_within f fd) (FI : Fun K "is_integer" "is_integer" s_is_integer fI fdI) (bI : Binds K fdI ["value"] []) (gI : mg "is_integer" = some (.ref fI)) (T : Nm mg) :
    FnOk P w K mg base CX0 2 f fd ["value", "least", "most"] (spWithinV K) := by
  have GI : FnOk P w K mg base CX0 1 fI fdI ["value"] (spIsIntV K) := ok_isIntV FI T
  refine F.ok sc_is_within (fun vs H Q E h => ?_) (fun cdv A outer s H vs Q E hr h => ?_)
  · obtain ⟨v, o, lo, hi, rfl, _⟩ := h
    rfl
  · obtain ⟨v, o, lo, hi, rfl, g, q⟩ := h
    refine ⟨_, pss_one (ps_ret (pe_and (pe_call GI hr rfl gI FI.kp bI .nil pass0 (pa_cons (pv 0) pa_nil)) (pe_one (pe_chain op_le op_le (pv 1) (pv 0) (pv 2))))), ?_⟩
    cases g with
    | no h => exact ⟨_, rfl, v, none, rfl, .no h, false, rfl, iteF q⟩
    | int i =>
      refine ⟨_, rfl, _, some i, rfl, .int i, true, rfl, iteT ?_⟩
      refine ⟨_, rfl, _, rfl, _, _, rfl, rfl, _, rfl, ?_⟩
      by_cases c : lo ≤ i
      · rw [decide_eq_true c]
        refine iteT ⟨_, rfl, _, _, rfl, rfl, ?_⟩
        have e : within? lo hi (some i) = decide (i ≤ hi) := by simp [within?, c]
        rw [e] at q
        exact q
      · rw [decide_eq_false c]
        refine iteF ?_
        have e : within? lo hi (some i) = false := by simp [within?, c]
        rw [e] at q
        exact q
/-- what tells answers -/
def Told (a : List Nat) (o : Option Int) (k : Bool) : Prop := k = true ↔ ∃ n : Nat, o = some (n : Int) ∧ n < 16 ∧ Xr.Span a (2 ^ n)
def spTellsV (K : PySem.W.Frag) (C : Addr) : Sp := fun vs H Q _ => ∃ (x : Addr) (a : List Nat) (v : V) (o : Option Int), vs = [.ref x, v] ∧ SpA C H x a ∧ Arg K H v o ∧ ∀ k : Bool, Told a o k → Q (.bl k) H
end
end Lr

set_option Elab.async false
set_option linter.all false
set_option maxRecDepth 100000
set_option maxHeartbeats 4000000
namespace Lr
open PySem PySem.Spec PyProof.Rows L2 Ow
theorem noL {t : V} {nm : Str} (h : ¬ nm = "rows") : (([("rows", t)] : List (Str × V))).lookup nm = none := by
  have : (nm == ("rows" : Str)) = false := by simpa using h
  simp [List.lookup, this]
structure Use (K : PySem.W.Frag) (mg : Str → Option Value) (nm : Str) (f : Addr) (fd : FuncData) (ps : List Str) : Prop where
  g : mg nm = some (.ref f)
  kp : PySem.W.keepIn K (.ref f) = true
  b : Binds K fd ps []
structure UseM (K : PySem.W.Frag) (C : Addr) (nm : Str) (f : Addr) (fd : FuncData) (ps : List Str) : Prop where
  m : Meth K C nm f
  b : Binds K fd ps []
/-! ### readings of expressions whose value is a space, a value, a truth -/
section
variable {C : Addr} {σ : L2.St} {H0 : Hp}
/-- a space with just the span A -/
def SX (C : Addr) (te : TE) (σ : L2.St) (H0 : Hp) (A : Nat → Prop) : Prop := ∀ (H : Hp) (Q : VK), Same H0 H → (∀ (m : List Nat) (z : Addr) (H' : Hp), (∀ u, Xr.Span m u ↔ A u) → SpA C H' z m → Same H H' → Q (.ref z) H') → te σ H Q
def VX (te : TE) (σ : L2.St) (H0 : Hp) (v : V) : Prop := ∀ (H : Hp) (Q : VK), Same H0 H → (∀ H' : Hp, Same H H' → Q v H') → te σ H Q
def BX (tt : TT) (σ : L2.St) (H0 : Hp) (k : Bool) : Prop := ∀ (H : Hp) (Q : Bool → Hp → Prop), Same H0 H → (∀ H' : Hp, Same H H' → Q k H') → tt σ H Q
theorem SX.mono {te : TE} {A : Nat → Prop} {H1 : Hp} (h : SX C te σ H0 A) (s : Same H0 H1) : SX C te σ H1 A := fun H Q s1 q => h H Q (s.trans s1) q
theorem SX.iff {te : TE} {A B : Nat → Prop} (h : SX C te σ H0 A) (e : ∀ u, A u ↔ B u) : SX C te σ H0 B := fun H Q s q => h H Q s fun m z H' hm => q m z H' fun u => (hm u).trans (e u)
theorem same_refl (H : Hp) : Same H H := fun _ _ h => h
theorem SpA.len {H : Hp} {x : Addr} {m : List Nat} (h : SpA C H x m) : m.length ≤ 16 := by
  obtain ⟨_, _, _, _, c, l⟩ := h
  exact red_len c.1 l
theorem SpA.canon {H : Hp} {x : Addr} {m : List Nat} (h : SpA C H x m) : Xr.Canon m := by
  obtain ⟨_, _, _, _, c, l⟩ := h
  exact c
theorem sx_var {i : Nat} {x : Addr} {a : List Nat} (hs : σ[i]? = some (some (.ref x))) (h : SpA C H0 x a) : SX C (tVar i) σ H0 (Xr.Span a) := fun H Q s q => ⟨.ref x, hs, q a x H (fun _ => Iff.rfl) (h.keep s) (same_refl H)⟩
/-- the sums of two spans -/
def Sum (A B : Nat → Prop) (u : Nat) : Prop := ∃ y z, A y ∧ B z ∧ u = y ^^^ z
theorem sx_add {ta tb : TE} {A B : Nat → Prop} (ha : SX C ta σ H0 A) (hb : SX C tb σ H0 B) : SX C (tOp (rBinO C (spAdd C) E0) ta tb) σ H0 (Sum A B) := fun H Q s q => by
  refine ha H _ s fun m1 z1 H1 e1 h1 s1 => ?_
  refine hb H1 _ (s.trans s1) fun m2 z2 H2 e2 h2 s2 => ?_
  have l1 := h1.len
  have l2 := h2.len
  obtain ⟨dx, t, x1, x2, x3⟩ := id (h1.keep s2)
  obtain ⟨dy, u, y1, y2, y3⟩ := id h2
  refine ⟨z1, dx, _, z2, dy, _, rfl, rfl, x1, y1, z1, z2, m1, m2, rfl, h1.keep s2, h2, by omega, fun m z H3 sm hz s3 nz => ?_⟩
  refine q m z H3 (fun v => ?_) hz ((s1.trans s2).trans s3)
  rw [sm v, Xr.span_append]
  constructor
  · rintro ⟨y, w, p1, p2, p3⟩
    exact ⟨y, w, (e1 y).mp p1, (e2 w).mp p2, p3⟩
  · rintro ⟨y, w, p1, p2, p3⟩
    exact ⟨y, w, (e1 y).mpr p1, (e2 w).mpr p2, p3⟩
theorem sx_and {ta tb : TE} {A B : Nat → Prop} (ha : SX C ta σ H0 A) (hb : SX C tb σ H0 B) : SX C (tOp (rBinO C (spAnd C) E0) ta tb) σ H0 (fun u => A u ∧ B u) := fun H Q s q => by
  refine ha H _ s fun m1 z1 H1 e1 h1 s1 => ?_
  refine hb H1 _ (s.trans s1) fun m2 z2 H2 e2 h2 s2 => ?_
  have l1 := h1.len
  have l2 := h2.len
  obtain ⟨dx, t, x1, x2, x3⟩ := id (h1.keep s2)
  obtain ⟨dy, u, y1, y2, y3⟩ := id h2
  refine ⟨z1, dx, _, z2, dy, _, rfl, rfl, x1, y1, z1, z2, m1, m2, rfl, h1.keep s2, h2, by omega, fun m z H3 sm hz s3 => ?_⟩
  refine q m z H3 (fun v => ?_) hz ((s1.trans s2).trans s3)
  rw [sm v, e1 v, e2 v]
theorem sx_make0 : SX C (fun σ H Q => mkAsk C (spInitS C) E0 [] H Q) σ H0 (fun u => u = 0) := fun H Q s q => by
  show mkAsk C (spInitS C) E0 (ri []) H Q
  exact ask_of ⟨(fun r h => by cases h), (by show 0 ≤ 1000; omega), fun m x H' hm hx s' nx => q m x H' hm hx s'⟩
theorem sx_below {ta tn : TE} {A : Nat → Prop} {n : Nat} (ha : SX C ta σ H0 A) (hn : VX tn σ H0 (vi n)) (h16 : n ≤ 16) : SX C (tMeth C "below" (spBelow C) [] E0 ta (tCons tn tNil)) σ H0 (fun u => A u ∧ u < 2 ^ n) := fun H Q s q => by
  refine ha H _ s fun m1 z1 H1 e1 h1 s1 => ?_
  obtain ⟨dx, t, x1, x2, x3⟩ := id h1
  refine ⟨z1, dx, _, rfl, x1, noL (by decide +kernel), ?_⟩
  refine hn H1 _ (s.trans s1) fun H2 s2 => ?_
  have l1 := h1.len
  refine ⟨z1, m1, n, rfl, h1.keep s2, by omega, h16, fun m z H3 sm hz s3 => ?_⟩
  refine q m z H3 (fun v => ?_) hz ((s1.trans s2).trans s3)
  rw [sm v, e1 v]
theorem sx_older {ta : TE} {A : Nat → Prop} (ha : SX C ta σ H0 A) (h15 : ∀ u, A u → u < 2 ^ 15) : SX C (tMeth C "older" (spOlder C) [] E0 ta tNil) σ H0 (fun u => ∃ v, A v ∧ u = 2 * v) := fun H Q s q => by
  refine ha H _ s fun m1 z1 H1 e1 h1 s1 => ?_
  obtain ⟨dx, t, x1, x2, x3⟩ := id h1
  refine ⟨z1, dx, _, rfl, x1, noL (by decide +kernel), ?_⟩
  have l1 := h1.len
  refine ⟨z1, m1, rfl, h1, by omega, fun r hr => h15 r ((e1 r).mp (Xr.span_mem hr)), fun m z H3 sm hz s3 => ?_⟩
  refine q m z H3 (fun v => ?_) hz (s1.trans s3)
  rw [sm v, Xr.older_span]
  constructor
  · rintro ⟨y, p1, p2⟩
    exact ⟨y, (e1 y).mp p1, p2⟩
  · rintro ⟨y, p1, p2⟩
    exact ⟨y, (e1 y).mpr p1, p2⟩
theorem span_whole {n u : Nat} : Xr.Span ((List.range n).map (2 ^ ·)) u ↔ u < 2 ^ n := by
  constructor
  · intro h
    refine Xr.span_least (S := fun x => x < 2 ^ n) (Nat.two_pow_pos n) (fun x y a b => Nat.xor_lt_two_pow a b) (fun r hr => ?_) h
    obtain ⟨b, hb, rfl⟩ := List.mem_map.mp hr
    exact Nat.pow_lt_pow_right (by decide) (List.mem_range.mp hb)
  · induction n generalizing u with
    | zero =>
      intro h
      have : u = 0 := by
        have : (2 : Nat) ^ 0 = 1 := rfl
        omega
      rw [this]
      exact Xr.span_zero _
    | succ n ih =>
      intro h
      rw [List.range_succ, List.map_append, Xr.span_append]
      cases hb : u.testBit n with
      | false =>
        refine ⟨u, 0, ih ?_, Xr.span_zero _, (Nat.xor_zero u).symm⟩
        refine Xr.lt_of_bits fun j hj => ?_
        rcases Nat.lt_or_ge n j with c | c
        · exact Nat.testBit_lt_two_pow (Nat.lt_of_lt_of_le h (Nat.pow_le_pow_right (by decide) c))
        · have : j = n := by omega
          rw [this, hb]
      | true =>
        refine ⟨u ^^^ 2 ^ n, 2 ^ n, ih ?_, Xr.span_head, by rw [Nat.xor_assoc, Nat.xor_self, Nat.xor_zero]⟩
        refine Xr.lt_of_bits fun j hj => ?_
        rw [Nat.testBit_xor, Nat.testBit_two_pow]
        rcases Nat.lt_or_ge n j with c | c
        · rw [Nat.testBit_lt_two_pow (Nat.lt_of_lt_of_le h (Nat.pow_le_pow_right (by decide) c))]
          have : n ≠ j := by omega
          simp [this]
        · have : j = n := by omega
          rw [this, hb]
          simp
theorem sx_whole {tn : TE} {n : Nat} (hn : VX tn σ H0 (vi n)) (h16 : n ≤ 16) : SX C (tSMeth C (spWhole C) E0 (tC (.ref C)) (tCons tn tNil)) σ H0 (fun u => u < 2 ^ n) := fun H Q s q => by
  refine ⟨rfl, ?_⟩
  refine hn H _ s fun H2 s2 => ?_
  refine ⟨n, rfl, h16, fun m z H3 sm hz s3 nz => q m z H3 (fun v => ?_) hz (s2.trans s3)⟩
  rw [sm v, span_whole]
/-! values -/
theorem vx_var {i : Nat} {v : V} (hs : σ[i]? = some (some v)) : VX (tVar i) σ H0 v := fun H Q s q => ⟨v, hs, q H (same_refl H)⟩
theorem vx_c {v : V} : VX (tC v) σ H0 v := fun H Q s q => q H (same_refl H)
open Classical in
theorem vx_within {ta tb : TE} {A B : Nat → Prop} (ha : SX C ta σ H0 A) (hb : SX C tb σ H0 B) : VX (tMeth C "within" (spWith C) [] E0 ta (tCons tb tNil)) σ H0 (.bl (decide (∀ u, A u → B u))) := fun H Q s q => by
  refine ha H _ s fun m1 z1 H1 e1 h1 s1 => ?_
  obtain ⟨dx, t, x1, x2, x3⟩ := id h1
  refine ⟨z1, dx, _, rfl, x1, noL (by decide +kernel), ?_⟩
  refine hb H1 _ (s.trans s1) fun m2 z2 H2 e2 h2 s2 => ?_
  have l1 := h1.len
  refine ⟨z1, z2, m1, m2, rfl, h1.keep s2, h2, by omega, fun k H3 hk s3 => ?_⟩
  have e : k = decide (∀ u, A u → B u) := by
    rw [Bool.eq_iff_iff, hk, decide_eq_true_iff]
    constructor
    · intro h u hu
      exact (e2 u).mp (h u ((e1 u).mpr hu))
    · intro h u hu
      exact (e2 u).mpr (h u ((e1 u).mp hu))
  rw [e]
  exact q H3 ((s1.trans s2).trans s3)
theorem eq_spans {H1 H2 : Hp} {z1 z2 : Addr} {m1 m2 : List Nat} {A B : Nat → Prop} (e1 : ∀ u, Xr.Span m1 u ↔ A u) (h1 : SpA C H1 z1 m1) (e2 : ∀ u, Xr.Span m2 u ↔ B u) (h2 : SpA C H2 z2 m2) : m1 = m2 ↔ ∀ u, A u ↔ B u := by
  constructor
  · rintro rfl u
    rw [← e1, ← e2]
  · intro h
    exact Xr.Canon.ext h1.canon h2.canon fun u => (e1 u).trans ((h u).trans (e2 u).symm)
open Classical in
theorem vx_eq {ta tb : TE} {A B : Nat → Prop} (ha : SX C ta σ H0 A) (hb : SX C tb σ H0 B) : VX (tOp (rBinO C (spEqS C) E0) ta tb) σ H0 (.bl (decide (∀ u, A u ↔ B u))) := fun H Q s q => by
  refine ha H _ s fun m1 z1 H1 e1 h1 s1 => ?_
  refine hb H1 _ (s.trans s1) fun m2 z2 H2 e2 h2 s2 => ?_
  obtain ⟨dx, t, x1, x2, x3⟩ := id (h1.keep s2)
  obtain ⟨dy, u, y1, y2, y3⟩ := id h2
  refine ⟨z1, dx, _, z2, dy, _, rfl, rfl, x1, y1, z1, z2, m1, m2, rfl, h1.keep s2, h2, ?_⟩
  have e : decide (m1 = m2) = decide (∀ u, A u ↔ B u) := by
    rw [decide_eq_decide]
    exact eq_spans e1 h1 e2 h2
  rw [e]
  exact q H2 (s1.trans s2)
/-! truths -/
theorem bx_ne {ta tb : TE} {A B : Nat → Prop} (ha : SX C ta σ H0 A) (hb : SX C tb σ H0 B) (e : ∀ u, A u ↔ B u) : BX (tTest (tOp (rNeO C (spEqS C) E0) ta tb)) σ H0 false := fun H Q s q => by
  refine ha H _ s fun m1 z1 H1 e1 h1 s1 => ?_
  refine hb H1 _ (s.trans s1) fun m2 z2 H2 e2 h2 s2 => ?_
  obtain ⟨dx, t, x1, x2, x3⟩ := id (h1.keep s2)
  obtain ⟨dy, u, y1, y2, y3⟩ := id h2
  refine ⟨z1, dx, _, z2, dy, _, rfl, rfl, x1, y1, z1, z2, m1, m2, rfl, h1.keep s2, h2, ?_⟩
  have e' : decide (m1 = m2) = true := decide_eq_true ((eq_spans e1 h1 e2 h2).mpr e)
  rw [e']
  exact ⟨true, rfl, false, rfl, q H2 (s1.trans s2)⟩
theorem bx_val {te : TE} {k : Bool} (h : VX te σ H0 (.bl k)) : BX (tB te) σ H0 k := fun H Q s q => h H _ s fun H' s' => ⟨k, rfl, q H' s'⟩
theorem bx_test {te : TE} {k : Bool} (h : VX te σ H0 (.bl k)) : BX (tTest te) σ H0 k := fun H Q s q => h H _ s fun H' s' => ⟨k, rfl, q H' s'⟩
theorem bx_or {t u : TT} {k : Bool} (ht : BX t σ H0 false) (hu : BX u σ H0 k) : BX (tOr t u) σ H0 k := fun H Q s q => ht H _ s fun H1 s1 => by
  refine iteF ?_
  exact hu H1 Q (s.trans s1) fun H2 s2 => q H2 (s1.trans s2)
theorem bx_not {t : TT} {k : Bool} (ht : BX t σ H0 k) : BX (tNot t) σ H0 (!k) := fun H Q s q => ht H _ s fun H1 s1 => q H1 s1
theorem bx_and {t u : TT} {j k : Bool} (ht : BX t σ H0 j) (hu : j = true → BX u σ H0 k) : BX (tAnd t u) σ H0 (j && k) := fun H Q s q => ht H _ s fun H1 s1 => by
  cases j with
  | true =>
    refine iteT ?_
    exact hu rfl H1 Q (s.trans s1) fun H2 s2 => q H2 (s1.trans s2)
  | false =>
    refine iteF ?_
    exact q H1 s1
theorem vx_neB {ta tb : TE} {j k : Bool} (ha : VX ta σ H0 (.bl j)) (hb : VX tb σ H0 (.bl k)) (e : j = k) : VX (tOp rNe ta tb) σ H0 (.bl false) := fun H Q s q => ha H _ s fun H1 s1 => hb H1 _ (s.trans s1) fun H2 s2 => by
  subst e
  refine ⟨rfl, ?_⟩
  have : (!decide (V.bl j = V.bl j)) = false := by
    rw [decide_eq_true rfl]
    rfl
  rw [this]
  exact q H2 (s1.trans s2)
end
end Lr

set_option Elab.async false
set_option linter.all false
set_option maxRecDepth 100000
set_option maxHeartbeats 4000000
namespace Lr
open PySem PySem.Spec PyProof.Rows L2 Ow
/-! ### sums and common parts of spans -/
structure Lin (A : Nat → Prop) : Prop where
  z : A 0
  x : ∀ y w, A y → A w → A (y ^^^ w)
theorem lin_span (l : List Nat) : Lin (Xr.Span l) := ⟨Xr.span_zero l, fun _ _ a b => Xr.span_xor l a b⟩
theorem Lin.sum {A B : Nat → Prop} (a : Lin A) (b : Lin B) : Lin (Sum A B) := ⟨⟨0, 0, a.z, b.z, rfl⟩, by
  rintro _ _ ⟨y, z, h1, h2, rfl⟩ ⟨y', z', h3, h4, rfl⟩
  refine ⟨y ^^^ y', z ^^^ z', a.x _ _ h1 h3, b.x _ _ h2 h4, ?_⟩
  rw [Nat.xor_assoc, Nat.xor_assoc]
  congr 1
  rw [← Nat.xor_assoc, ← Nat.xor_assoc, Nat.xor_comm z y']⟩
theorem Lin.inter {A B : Nat → Prop} (a : Lin A) (b : Lin B) : Lin (fun u => A u ∧ B u) := ⟨⟨a.z, b.z⟩, fun y w h1 h2 => ⟨a.x _ _ h1.1 h2.1, b.x _ _ h1.2 h2.2⟩⟩
theorem sum_l {A B : Nat → Prop} (b : Lin B) {u : Nat} (h : A u) : Sum A B u := ⟨u, 0, h, b.z, (Nat.xor_zero u).symm⟩
theorem sum_r {A B : Nat → Prop} (a : Lin A) {u : Nat} (h : B u) : Sum A B u := ⟨0, u, a.z, h, (Nat.zero_xor u).symm⟩
theorem sum_sub {A B D : Nat → Prop} (d : Lin D) (h1 : ∀ u, A u → D u) (h2 : ∀ u, B u → D u) {u : Nat} (h : Sum A B u) : D u := by
  obtain ⟨y, z, a, b, rfl⟩ := h
  exact d.x _ _ (h1 y a) (h2 z b)
theorem sum_comm {A B : Nat → Prop} (a : Lin A) (b : Lin B) (u : Nat) : Sum A B u ↔ Sum B A u := ⟨sum_sub (b.sum a) (fun v h => sum_r b h) (fun v h => sum_l a h), sum_sub (a.sum b) (fun v h => sum_r a h) (fun v h => sum_l b h)⟩
theorem sum_assoc {A B D : Nat → Prop} (a : Lin A) (b : Lin B) (d : Lin D) (u : Nat) : Sum (Sum A B) D u ↔ Sum A (Sum B D) u :=
  ⟨sum_sub (a.sum (b.sum d)) (fun v h => sum_sub (a.sum (b.sum d)) (fun w k => sum_l (b.sum d) k) (fun w k => sum_r a (sum_l d k)) h) (fun v h => sum_r a (sum_r b h)),
   sum_sub ((a.sum b).sum d) (fun v h => sum_l d (sum_l b h)) (fun v h => sum_sub ((a.sum b).sum d) (fun w k => sum_l d (sum_r a k)) (fun w k => sum_r (a.sum b) k) h)⟩
theorem sum_absorb {A B : Nat → Prop} (a : Lin A) (b : Lin B) (h : ∀ u, B u → A u) (u : Nat) : Sum A B u ↔ A u := ⟨sum_sub a (fun _ k => k) h, fun k => sum_l b k⟩
theorem lin_zero : Lin (fun u => u = 0) := ⟨rfl, by rintro _ _ rfl rfl; rfl⟩
section
variable {C : Addr} {σ : L2.St} {H0 : Hp}
theorem if_f {H : Hp} {tc : TT} {t rest : TS} {D : Ends} (hb : BX tc σ H0 false) (s : Same H0 H) (h : ∀ H', Same H H' → rest D σ H') : tSeq (tIfS tc t tNext) rest D σ H := hb H _ s fun H1 s1 => by
  refine iteF ?_
  exact h H1 s1
theorem if_fL {H : Hp} {tc : TT} {t : TS} {D : Ends} (hb : BX tc σ H0 false) (s : Same H0 H) (h : ∀ H', Same H H' → D.nx σ H') : tIfS tc t tNext D σ H := hb H _ s fun H1 s1 => by
  refine iteF ?_
  exact h H1 s1
theorem vx_notV {te : TE} {k : Bool} (h : VX te σ H0 (.bl k)) : VX (tNotV te) σ H0 (.bl (!k)) := fun H Q s q => h H _ s fun H1 s1 => ⟨k, rfl, q H1 s1⟩
theorem vx_andV {ta tb : TE} {j k : Bool} (ha : VX ta σ H0 (.bl j)) (hb : VX tb σ H0 (.bl k)) : VX (tAndV ta tb) σ H0 (.bl (j && k)) := fun H Q s q => ha H _ s fun H1 s1 => by
  cases j with
  | true => exact ⟨true, rfl, iteT (hb H1 _ (s.trans s1) fun H2 s2 => q H2 (s1.trans s2))⟩
  | false => exact ⟨false, rfl, iteF (q H1 s1)⟩
theorem vx_orV {ta tb : TE} {j k : Bool} (ha : VX ta σ H0 (.bl j)) (hb : VX tb σ H0 (.bl k)) : VX (tOrV ta tb) σ H0 (.bl (j || k)) := fun H Q s q => ha H _ s fun H1 s1 => by
  cases j with
  | true => exact ⟨true, rfl, iteT (q H1 s1)⟩
  | false => exact ⟨false, rfl, iteF (hb H1 _ (s.trans s1) fun H2 s2 => q H2 (s1.trans s2))⟩
theorem len_of {te : TE} {A : Nat → Prop} {H : Hp} {Q : VK} (ha : SX C te σ H0 A) (s : Same H0 H) (q : ∀ (m : List Nat) (H' : Hp), Xr.Canon m → m.length ≤ 16 → (∀ u, Xr.Span m u ↔ A u) → Same H H' → Q (vi m.length) H') : tCB (rLenO C (spLenS C) E0) (tCons te tNil) σ H Q := by
  refine ha H _ s fun m z H1 e h1 s1 => ?_
  obtain ⟨dx, t, x1, x2, x3⟩ := id h1
  have l := h1.len
  exact ⟨z, dx, _, rfl, x1, z, m, rfl, h1, m.length, rfl, by omega, q m H1 h1.canon l e s1⟩
theorem bx_lens {ta tb tc td : TE} {A B : Nat → Prop} (ha : SX C ta σ H0 (Sum A B)) (hb : SX C tb σ H0 fun u => A u ∧ B u) (hc : SX C tc σ H0 A) (hd : SX C td σ H0 B) :
    BX (tTest (tOp rNe (tOp (rI0 fun i j => V.int (i + j)) (tCB (rLenO C (spLenS C) E0) (tCons ta tNil)) (tCB (rLenO C (spLenS C) E0) (tCons tb tNil))) (tOp (rI0 fun i j => V.int (i + j)) (tCB (rLenO C (spLenS C) E0) (tCons tc tNil)) (tCB (rLenO C (spLenS C) E0) (tCons td tNil))))) σ H0 false := fun H Q s q => by
  refine len_of ha s fun m1 H1 c1 l1 e1 s1 => ?_
  refine len_of hb (s.trans s1) fun m2 H2 c2 l2 e2 s2 => ?_
  refine ⟨_, _, rfl, rfl, ?_⟩
  refine len_of hc ((s.trans s1).trans s2) fun m3 H3 c3 l3 e3 s3 => ?_
  refine len_of hd (((s.trans s1).trans s2).trans s3) fun m4 H4 c4 l4 e4 s4 => ?_
  refine ⟨_, _, rfl, rfl, rfl, false, ?_, q H4 (((s1.trans s2).trans s3).trans s4)⟩
  have dim := Xr.dim_sum (Xr.red_ind c3.1) (Xr.red_ind c4.1) (Xr.red_ind c2.1) (Xr.red_ind c1.1) (fun x => by rw [e2 x, e3 x, e4 x]) (fun x => by
    rw [e1 x, Xr.span_append]
    constructor
    · rintro ⟨y, z, p1, p2, p3⟩
      exact ⟨y, z, (e3 y).mpr p1, (e4 z).mpr p2, p3⟩
    · rintro ⟨y, z, p1, p2, p3⟩
      exact ⟨y, z, (e3 y).mp p1, (e4 z).mp p2, p3⟩)
  have e : decide (V.int ((m1.length : Int) + (m2.length : Int)) = V.int ((m3.length : Int) + (m4.length : Int))) = true := decide_eq_true (congrArg V.int (by omega))
  show V.bl (!decide (V.int ((m1.length : Int) + (m2.length : Int)) = V.int ((m3.length : Int) + (m4.length : Int)))) = V.bl false
  rw [e]
  rfl
end
section
variable {P : Program} {w : World} {K : PySem.W.Frag} {mg : Str → Option Value} {base : Heap}
/-- what own operators of spaces ask -/
structure Ops (P : Program) (w : World) (K : PySem.W.Frag) (mg : Str → Option Value) (base : Heap) (C fA fN fE fL : Addr) : Prop where
  add : PySem.W.findIn K (.ref C) "__add__" = some (some (.ref fA))
  addF : PySem.W.isFn K (.ref fA) = true
  gA : FnR P w K mg base CX0 6 fA (spAdd C)
  and : PySem.W.findIn K (.ref C) "__and__" = some (some (.ref fN))
  andF : PySem.W.isFn K (.ref fN) = true
  gN : FnR P w K mg base CX0 6 fN (spAnd C)
  ne : NeC K C fE
  gE : FnR P w K mg base CX0 1 fE (spEqS C)
  len : PySem.W.findIn K (.ref C) "__len__" = some (some (.ref fL))
  lenF : PySem.W.isFn K (.ref fL) = true
  gL : FnR P w K mg base CX0 1 fL (spLenS C)
end
end Lr

set_option Elab.async false
set_option linter.all false
set_option maxRecDepth 100000
set_option maxHeartbeats 4000000
/-! x op= y of an own class that has op alone. -/
namespace Oi
open PySem PySem.W PySem.Calls PyProof.Rows
section
variable {prog : Program} {w : World} {A : Around} {E : Value → Shared → Prop} {s : Shared} {K : Frag} {x C L f : Addr} {h₀ : Heap} {m : Str → Option Value} {ox : Obj} {od : Option Obj} {nm : String}
/-- the class has no method in place, nor has its one base -/
theorem no_inplace {M : Model} {h : Heap} {cd : ClassData} {add : Bool} (X : K.In h) (hc : clsIn K C = some cd) (hm : cd.mro = [.ref C, .type "object"]) (h1 : findIn K (.ref C) (dunderI nm) = some none) (h2 : findIn K (.type "object") (dunderI nm) = some none) :
    Looks M h (fillsInplaceSlot (.ref C) nm add) false := by
  intro A Q E s k q
  have Lm : Looks M h (mroOf (.ref C)) cd.mro := (looks_clsIn X hc).andThen (f := fun cd => pure cd.mro) .now
  have Lm' := Lm.keeps k
  obtain ⟨hh, g, d, tt, os⟩ := s
  have X' : K.In hh := X.keeps k
  have L1 : Looks M hh (typeLookup (.ref C) (dunderI nm)) none := looks_findIn X' h1
  have L2 : Looks M hh (typeLookup (.type "object") (dunderI nm)) none := looks_findIn X' h2
  unfold fillsInplaceSlot
  refine wpAny_bind (Lm'.at ?_)
  rw [hm, List.anyM_cons]
  refine wpAny_bind ?_
  refine wpAny_bind (L1.at ?_)
  refine wpAny_pure ?_
  rw [List.anyM_cons]
  refine wpAny_bind ?_
  refine wpAny_bind (L2.at ?_)
  refine wpAny_pure ?_
  exact wpAny_pure q
theorem inplace_by {op : Operator} {b : Value} {Q : Value → Shared → Prop} {cd : ClassData} (F : Fr h₀ L s.heap m) (X₀ : K.In h₀) (I : InstAt s.heap x ox C od) (hb : Looks (model prog w) s.heap (typeOf b) (.ref C)) (hcd : clsIn K C = some cd) (hm : cd.mro = [.ref C, .type "object"])
    (n1 : findIn K (.ref C) (dunderI op.info.2) = some none) (n2 : findIn K (.type "object") (dunderI op.info.2) = some none) (hs : findIn K (.ref C) (PySem.dunder op.info.2) = some (some (.ref f))) (hf : isFn K (.ref f) = true)
    (h : wpAny (model prog w) A (call (.ref f) [.ref x, b]) (PySem.W.CmpBack Q) E s) : wpAny (model prog w) A (inplaceOp op (.ref x) b) Q E s := by
  have X := X₀.keeps F.keep
  unfold inplaceOp
  refine wpAny_holding (wpAny_bind (I.type.here (wpAny_bind ((no_inplace X hcd hm n1 n2).here ?_))))
  simp only [Bool.false_eq_true, if_false]
  refine wpAny_bind (m := binaryOp1 op.info.2 (.ref x) b) ?_
  unfold binaryOp1
  refine wpAny_bind (I.type.here (wpAny_bind (hb.here (wpAny_bind ((fills_K X hcd hm hs).here ?_)))))
  simp only [beq_self_eq_true, if_true]
  refine wpAny_bind (wpAny_pure ?_)
  simp only [Bool.and_false, Bool.false_eq_true, if_false, Bool.false_and]
  refine wpAny_bind (wpAny_pure ?_)
  simp only [Bool.false_eq_true, if_false]
  refine wpAny_bind (m := tryMethod (.ref x) _ b) ?_
  unfold tryMethod
  refine wpAny_bind (special_fn X I hs (beq_iff_eq.mp hf) (wpAny_mono h (fun v s' hv => ?_) fun _ _ e => e))
  cases v <;> first | exact hv.elim | exact wpAny_pure (wpAny_pure (wpAny_pure hv))
end
end Oi

set_option Elab.async false
set_option linter.all false
set_option maxRecDepth 100000
set_option maxHeartbeats 4000000
/-! Defs that are called while no repr is under way: their promise, their body, their call, the law's end; repr of data of any depth. -/
namespace Og
open PySem PySem.Spec PyProof.Rows L2 Ow
/-- the promise of a def at a state under which no repr is under way -/
structure FnG (P : Program) (w : World) (K : PySem.W.Frag) (mg : Str → Option Value) (base : Heap) (CX : CXT) (k : Nat) (f : Addr) (fd : FuncData) (ps : List Str) (sp : Sp) : Prop where
  len : ∀ {vs H Q E}, sp vs H Q E → vs.length = ps.length
  go : ∀ {A : Around} {outer : List Env} {s : Shared} {H : Hp} {ar : Args} {us : List Value} {vs : List V} {Q : VK} {E : XK}, Room k A → A.guards = some [] → Env0 P w K mg base A outer s H → BindsTo s fd ar (ps.zip us) → Vals vs us →
    sp vs H Q E → codeAny (model P w) A (.call (.ref f) ar) (CR CX outer P w H s Q E) s
section
variable {P : Program} {w : World} {K : PySem.W.Frag} {mg : Str → Option Value} {base : Heap} {CX : CXT} {j k : Nat} {f : Addr} {fd : FuncData} {ps : List Str} {sp sp' : Sp}
theorem FnG.of (F : FnOk P w K mg base CX k f fd ps sp) : FnG P w K mg base CX k f fd ps sp := ⟨fun h => F.len _ _ _ _ h, fun hr _ e0 hb r h => F.run _ _ _ _ _ _ _ _ _ hr e0 hb r h⟩
theorem FnG.mono (F : FnG P w K mg base CX j f fd ps sp) (h : j ≤ k) : FnG P w K mg base CX k f fd ps sp := ⟨F.len, fun hr => F.go (hr.mono h)⟩
theorem FnG.imp (F : FnG P w K mg base CX k f fd ps sp) (h : ∀ vs H Q E, sp' vs H Q E → sp vs H Q E) : FnG P w K mg base CX k f fd ps sp' := ⟨fun q => F.len (h _ _ _ _ q), fun hr hg e0 hb r q => F.go hr hg e0 hb r (h _ _ _ _ q)⟩
/-- a def's body, run at this state -/
theorem run_gen {x q : Str} {st : Stmt} {N : List Str} {A : Around} {outer : List Env} {s : Shared} {H : Hp} {ar : Args} {us : List Value} {vs : List V} {Q : VK} {E : XK}
    (F : L2.Fun K x q st f fd) (S : FnScope N ps (defScope st)) (hl : vs.length = ps.length) (hr : Room (k + 1) A) (e0 : Env0 P w K mg base A outer s H) (hb : BindsTo s fd ar (ps.zip us)) (r : Vals vs us)
    (body : ∀ cdv : Value, Room k (A.deeper (envOfC q (defScope st) s.heap.objs.size f cdv)) → ∃ t, PSs (cxOf CX P w K mg base N q (defScope st) f cdv A outer s H E) (defBody st) t ∧ t { nx := fun _ H' => Q .non H', rt := Q } (start N vs) H) :
    codeAny (model P w) A (.call (.ref f) ar) (CR CX outer P w H s Q E) s := by
  obtain ⟨oc, od, kV, doc, pm, an, cdv, ct, osl, rfl, lk, hcd⟩ := F.ex
  have Xin : K.In s.heap := e0.mod.kin.keeps fun b o z => (e0.bs b o z).1
  have free : s.heap.NoLimit := e0.mod.nolimit.keeps fun b o z => (e0.bs b o z).1
  have kinds : ∀ y ∈ ps.zip us, (defScope st).names.lookup y.1 = some .local ∨ ((defScope st).names.lookup y.1 = some .cell ∧ ((cellsFrom (s.heap.objs.size + 1) (defScope st).names []).lookup y.1).isSome = true) := by
    rintro ⟨n, v⟩ hy
    rcases S.par n (List.of_mem_zip hy).1 with z | z
    · exact .inl z
    · exact .inr ⟨z, PySem.W.cellsFrom_some _ _ _ (.inl z)⟩
  refine codeAny_call_function hr.depth (Xin _ _ lk) rfl S.co S.gen rfl (PySem.W.codeRec_of Xin hcd) (hb _ _ _ _ ?_)
  refine wpAny_newFunctionEnv_cells S.kind kinds fun env he s1 z => ?_
  subst he
  refine ⟨free.keeps z.toInCall.keep, codeAny_func ?_⟩
  obtain ⟨t, ht, hq⟩ := body cdv (hr.deeper _)
  have J := inv_start (CX := CX) (E := E) S hr.hd e0 hl r z
  have fin : ∀ {σ' : L2.St} {H' : Hp} {v : V} {u : Value} {s' : Shared}, Inv (cxOf CX P w K mg base N q (defScope st) f cdv A outer s H E) [] σ' H' s' → RelV v u → Q v H' → CE outer P w H s Q u s' :=
    fun J2 rv y => ⟨_, _, J2.os, J2.bare, J2.base, J2.hok, rv, y⟩
  refine wpAny_mono (ht.run [] s1 (start N vs) H _ J hq) (fun fl s' hs => ?_) fun e s' hs => hs
  cases fl with
  | ret u =>
    obtain ⟨v, σ', H', J2, rv, y⟩ := hs
    exact fin J2 rv y
  | next =>
    obtain ⟨σ', H', J2, y⟩ := hs
    exact fin (v := V.non) (u := Value.none) J2 rfl y
  | brk =>
    obtain ⟨_, _, _, z⟩ := hs
    exact z.elim
  | cont =>
    obtain ⟨_, _, _, z⟩ := hs
    exact z.elim
/-- the rule for a def of which nothing is let out -/
theorem okG {x q : Str} {st : Stmt} {N : List Str} (F : L2.Fun K x q st f fd) (S : FnScope N ps (defScope st)) (len : ∀ vs H Q E, sp vs H Q E → vs.length = ps.length)
    (body : ∀ (cdv : Value) (A : Around) (outer : List Env) (s : Shared) (H : Hp) (vs : List V) (Q : VK) (E : XK), Room k (A.deeper (envOfC q (defScope st) s.heap.objs.size f cdv)) → A.guards = some [] → sp vs H Q E →
      ∃ t, PSs (cxOf CX P w K mg base N q (defScope st) f cdv A outer s H E).nox (defBody st) t ∧ t { nx := fun _ H' => Q .non H', rt := Q } (start N vs) H) : FnG P w K mg base CX (k + 1) f fd ps sp :=
  ⟨fun h => len _ _ _ _ h, fun hr hg e0 hb r h => run_gen F S (len _ _ _ _ h) hr e0 hb r fun cdv hr2 => by
    obtain ⟨t, ht, hq⟩ := body cdv _ _ _ _ _ _ _ hr2 hg h
    exact ⟨t, ht.nox, hq⟩⟩
/-- .. for a def that may raise -/
theorem okGX {x q : Str} {st : Stmt} {N : List Str} (F : L2.Fun K x q st f fd) (S : FnScope N ps (defScope st)) (len : ∀ vs H Q E, sp vs H Q E → vs.length = ps.length)
    (body : ∀ (cdv : Value) (A : Around) (outer : List Env) (s : Shared) (H : Hp) (vs : List V) (Q : VK) (E : XK), Room k (A.deeper (envOfC q (defScope st) s.heap.objs.size f cdv)) → A.guards = some [] → sp vs H Q E →
      ∃ t, PSs (cxOf CX P w K mg base N q (defScope st) f cdv A outer s H E) (defBody st) t ∧ t { nx := fun _ H' => Q .non H', rt := Q } (start N vs) H) : FnG P w K mg base CX (k + 1) f fd ps sp :=
  ⟨fun h => len _ _ _ _ h, fun hr hg e0 hb r h => run_gen F S (len _ _ _ _ h) hr e0 hb r fun cdv hr2 => body cdv _ _ _ _ _ _ _ hr2 hg h⟩
end
section
variable {X : Cx} {CX : CXT} {k : Nat} {f : Addr} {fd : FuncData} {ps : List Str} {sp : Sp} {dvs : List V} {ds : List Value} {E : XK} {x : Str} {p pos : Pos} {e : Expr} {es : List Expr} {t : TA}
theorem pe_callG (F : FnG X.prog X.w X.K X.mg X.base CX k f fd ps sp) (hr : Room k X.A) (hG : X.A.guards = some []) (hg : Gl X x) (hm : X.mg x = some (.ref f)) (hk : PySem.W.keepIn X.K (.ref f) = true) (hb : Binds X.K fd ps ds) (hd : Vals dvs ds) (hx : Passes CX X E)
    (ha : PA X (e :: es) t) (hdb : (x == ("__debug__" : Str)) = false := by decide) (he : starEach (e :: es) X.env = (false, eval e X.env) :: starEach es X.env := by rfl) (hpl : (backTo pos (starEach es X.env)).any (·.1) = false := by rfl) :
    PE X (.Call (.Name x p) (e :: es) [] pos) (tCall sp dvs E t) := by
  refine ⟨fun pins s σ H Q I h => wpAny_Call_Name_kw (ld_glob I hg hm ?_ hdb)⟩
  refine PySem.W.callWith_K (h₀ := X.base) I.ok.mod.kin hk (thn (ha.run pos pins s σ H _ I h) fun us s1 ⟨vs, H1, J, r, q⟩ => ⟨J.kIn, ?_⟩) he hpl
  have rr : Vals (vs ++ dvs) (us ++ ds) := r.append hd
  have ll : (us ++ ds).length = ps.length := rr.length.symm.trans (F.len q)
  refine wpAny_call (codeAny_mono (F.go hr hG J.env0 (hb s1 us J.kIn ll) rr q) fun z s' hq => ?_)
  cases z with
  | error e => exact hx pins σ H1 s1 e s' J hq
  | ok fl =>
    cases fl with
    | ret u => exact J.after hq
    | next => exact hq.elim
    | brk => exact hq.elim
    | cont => exact hq.elim
/-- repr(x), x data of any depth without dicts -/
def rRepr (K : PySem.W.Frag) : List V → Hp → VK → Prop := fun xs H Q => ∃ (x : V) (d : PyData), xs = [x] ∧ Dp K H x d ∧ d.showable = true ∧ d.depth ≤ 20 ∧ d.shown.length ≤ sizeLine ∧ Q (.str d.shown) H
theorem dp_noDict {K : PySem.W.Frag} {H : Hp} : ∀ (d : PyData) {v : V}, Dp K H v d → d.hasDict = false := by
  intro d v h
  refine Dp.rec (motive_1 := fun v d _ => d.hasDict = false) (motive_2 := fun vs ds _ => PyData.hasDictAll ds = false) ?_ ?_ ?_ ?_ ?_ ?_ ?_ ?_ h
  · rfl
  · intro b; rfl
  · intro i; rfl
  · intro x; rfl
  · intro a xs ds h1 h2 ih
    simpa only [PyData.hasDict] using ih
  · intro a xs ds h1 h2 ih
    simpa only [PyData.hasDict] using ih
  · rfl
  · intro v vs d ds h1 h2 i1 i2
    simp only [PyData.hasDictAll, i1, i2, Bool.or_self]
theorem call_reprD (hG : X.A.guards = some []) (hu : X.A.units + 64 < cLine) : CallR X (.builtin "repr") (rRepr X.K) := by
  intro pins s σ H xs us Q I r h
  obtain ⟨x, d, rfl, hd, hs, hdep, hsz, q⟩ := h
  obtain ⟨u, rfl, ru⟩ := r.one
  obtain ⟨as, R⟩ := Dp.reads I d x u hd ru
  have fin : ∀ (h' : Heap) (t : Tok) (tk : Tok), (∀ b o, s.heap.get? b = some o → h'.get? b = some o) → EP X pins σ Q (.str d.shown t) { s with heap := h', toks := tk } := fun h' t tk hk => ⟨.str _, H, I.kept hk, ⟨_, rfl⟩, q⟩
  have same : EP X pins σ Q (.str d.shown s.toks) { s with toks := s.toks + 1 } := ⟨.str _, H, I.tok _, ⟨_, rfl⟩, q⟩
  cases R with
  | none => exact PySem.P.repr_of_none same
  | bool b => exact PySem.P.repr_of_bool same
  | int i t => exact PySem.P.repr_of_int (by simpa [PyData.showable] using hs) same
  | str x t => exact PySem.P.repr_of_str same hsz
  | list a b c d' => exact repr_of_reads' (Reads.list a b c d') hs (fun z => by rw [dp_noDict _ hd] at z; cases z) hG (by omega) (fun _ _ e => e) (fun h' u tk hk => fin h' u tk hk) hsz
  | tuple a b c d' => exact repr_of_reads' (Reads.tuple a b c d') hs (fun z => by rw [dp_noDict _ hd] at z; cases z) hG (by omega) (fun _ _ e => e) (fun h' u tk hk => fin h' u tk hk) hsz
  | dict a b c d' e => cases hd
end
/-! ### the law's end -/
section
variable {P : Program} {w : World} {K : PySem.W.Frag} {mg mb : Str → Option Value} {CX : CXT} {k : Nat} {fa a : Addr} {fd : FuncData} {x : Str} {sp : Sp} {s0 : Shared} {vs : List Value} {ns : List Int}
/-- the law's call at a heap in which at most the script is tracked -/
theorem end_at {H : Hp} (Ki : K.In s0.heap) (g1 : s0.heap.Ns mainGlobals mg) (g2 : s0.heap.Ns builtinsNs mb) (g3 : ∀ x : Str, x ≠ "__name__" → mb x = bootBuiltins x) (g4 : s0.heap.NoLimit) (g5 : s0.gens = #[])
    (ea : s0.heap.get? a = some { cls := .type "list", data := .seq vs.toArray }) (hr : Room k callerA) (F : ∀ base : Heap, K.In base → base.Ns mainGlobals mg → FnG P w K mg base CX k fa fd [x] sp)
    (hb : ∀ (s : Shared) (u : Value), BindsTo s fd ⟨[u], []⟩ [(x, u)]) (hO : Only H) (only : ∀ b, H b ≠ none → b = a) (own : H a ≠ none → K.lookup a = none) (hok : HOk P w H s0.heap) (hs : sp [.ref a] H (fun v _ => v = .bl true) fun _ _ _ => False)
    (hX : ∀ e s', CX [] H s0 (fun _ _ _ => False) e s' → False) :
    codeAny (model P w) callerA (.call (.ref fa) ⟨[.ref a], []⟩) (fun r s' => r = .ok (.ret (.bool true)) ∧ OldK s0.heap s'.heap ∧ s'.os = s0.os ∧ AllBare s'.gens) s0 := by
  -- what is tracked is the script, a list: no dict
  have dfree : ∀ {b : Addr} {o : Obj} {es : Array DictEntry} {ep : Nat}, s0.heap.get? b = some o → o.data = .dict es ep → H b = none := by
    intro b o es ep e1 e2
    rcases Option.eq_none_or_eq_some (H b) with z | ⟨y, z⟩
    · exact z
    · obtain rfl := only b (by rw [z]; exact Option.some_ne_none _)
      rw [ea] at e1
      cases e1
      exact nomatch e2
  have names : ∀ {b : Addr} {m : Str → Option Value}, s0.heap.Ns b m → (hidT s0.heap H).Ns b m := by
    rintro b m ⟨o, es, ep, e1, e2, r⟩
    exact ⟨o, es, ep, hidT_get e1 (dfree e1 e2), e2, r⟩
  have Kb : K.In (hidT s0.heap H) := fun b o e => hidT_get (Ki b o e) (by
    rcases Option.eq_none_or_eq_some (H b) with z | ⟨y, z⟩
    · exact z
    · obtain rfl := only b (by rw [z]; exact Option.some_ne_none _)
      rw [own (by rw [z]; exact Option.some_ne_none _)] at e
      cases e)
  obtain ⟨mc, l1, l2⟩ := g4
  have M : Mod K mg (hidT s0.heap H) := ⟨Kb, names g1, ⟨mb, names g2, g3⟩, ⟨mc, names l1, l2⟩⟩
  have e0 : Env0 P w K mg (hidT s0.heap H) callerA [] s0 H := by
    refine ⟨rfl, M, fun b o e => of_hidT e, Nat.le_of_eq (hidT_size _ _), trivial, fun b z => ?_, hok, .of_eq g5⟩
    cases (show b ∈ ([] : List Addr) from z)
  refine codeAny_mono ((F _ Kb (names g1)).go (us := [.ref a]) (vs := [.ref a]) hr rfl e0 (hb s0 (.ref a)) (.cons (show RelV (.ref a) (.ref a) from rfl) .nil) hs) fun r s' z => ?_
  cases r with
  | error e => exact (hX e s' z).elim
  | ok fl =>
    cases fl with
    | ret u =>
      obtain ⟨v, H', os, bare, un, hok', ru, y⟩ := z
      obtain rfl : v = .bl true := y
      cases (show u = Value.bool true from ru)
      refine ⟨rfl, OldK.of_keep fun b o e => ?_, os, bare⟩
      rcases hO b with y | ⟨ob, xs, y⟩
      · exact un.keep b o e y (fun q => nomatch (show b ∈ ([] : List Addr) from q)) (by simp)
      · have e1 := (hok b _ y).1
        have e2 := (hok' b _ (un.frzs b ob _ y)).1
        rw [e] at e1
        cases e1
        exact e2
    | next => exact z.elim
    | brk => exact z.elim
    | cont => exact z.elim
theorem end_call (Ki : K.In s0.heap) (g1 : s0.heap.Ns mainGlobals mg) (g2 : s0.heap.Ns builtinsNs mb) (g3 : ∀ x : Str, x ≠ "__name__" → mb x = bootBuiltins x) (g4 : s0.heap.NoLimit) (g5 : s0.gens = #[])
    (ea : s0.heap.get? a = some { cls := .type "list", data := .seq vs.toArray }) (hi : IntsAre vs ns) (hl : ns.length ≤ sizeLine) (hr : Room k callerA) (F : ∀ base : Heap, K.In base → base.Ns mainGlobals mg → FnG P w K mg base CX k fa fd [x] sp)
    (hb : ∀ (s : Shared) (u : Value), BindsTo s fd ⟨[u], []⟩ [(x, u)]) (hs : ∀ H : Hp, Only H → SqL K H a (ns.map V.int) → sp [.ref a] H (fun v _ => v = .bl true) fun _ _ _ => False)
    (hX : ∀ H e s', CX [] H s0 (fun _ _ _ => False) e s' → False) :
    codeAny (model P w) callerA (.call (.ref fa) ⟨[.ref a], []⟩) (fun r s' => r = .ok (.ret (.bool true)) ∧ OldK s0.heap s'.heap ∧ s'.os = s0.os ∧ AllBare s'.gens) s0 := by
  have rv : Vals (ns.map V.int) vs := vals_ints hi
  rcases Option.eq_none_or_eq_some (K.lookup a) with kn | ⟨o, kn⟩
  · -- the script is tracked, as an object that nothing changes
    have at_a : (fun b => if b = a then some (HO.frz { cls := .type "list", data := .seq vs.toArray } (.lst (ns.map V.int))) else none : Hp) a = some (.frz { cls := .type "list", data := .seq vs.toArray } (.lst (ns.map V.int))) := if_pos rfl
    have off : ∀ b, b ≠ a → (fun b => if b = a then some (HO.frz { cls := .type "list", data := .seq vs.toArray } (.lst (ns.map V.int))) else none : Hp) b = none := fun b h => if_neg h
    generalize (fun b => if b = a then some (HO.frz { cls := .type "list", data := .seq vs.toArray } (.lst (ns.map V.int))) else none : Hp) = H at at_a off
    have oo : Only H := fun b => by
      by_cases h : b = a
      · subst h
        exact .inr ⟨_, _, at_a⟩
      · exact .inl (off b h)
    refine end_at Ki g1 g2 g3 g4 g5 ea hr F hb oo (fun b h => Classical.byContradiction fun n => h (off b n)) (fun _ => kn) (fun b u z => ?_) (hs H oo (.inl (.inr ⟨_, at_a⟩))) (hX H)
    by_cases h : b = a
    · subst h
      rw [at_a] at z
      cases z
      exact ⟨ea, by rw [List.length_map]; exact hl, vs, _, rv, ea⟩
    · rw [off b h] at z
      cases z
  · -- the script is an object of the module
    have e := Ki a o kn
    rw [ea] at e
    cases e
    have oo : Only (fun _ => none) := fun _ => .inl rfl
    refine end_at Ki g1 g2 g3 g4 g5 ea hr F hb oo (fun b h => (h rfl).elim) (fun h => (h rfl).elim) (fun b u z => nomatch (show (none : Option HO) = some u from z)) (hs _ oo (.inr ⟨_, vs.toArray, _, kn, rfl, rfl, rfl, ?_, by simpa using rv⟩)) (hX _)
    rw [List.size_toArray, ← rv.length, List.length_map]
    exact hl
end
/-- the end: what the law's def promises, at each heap that the top leaves -/
theorem walk_end {l : PySem.W.OpenLaw} {n k : Nat} {q : Program} {loose : List Str} {XP : (Str → Option Value) → Heap → Prop} {YP : World → Heap → Prop} {d : DefRec} {CX : CXT} {x : Str} (most : l.most = some n) (lt : n ≤ sizeLine) (nod : d.params.defaults = []) (room : Room k callerA)
    (F : ∀ (w : World) (mg : Str → Option Value) (fa : Addr) (h : Heap), YP w h → h.Ns mainGlobals mg → mg d.name = some (.ref fa) → ∃ (K : PySem.W.Frag) (fd : FuncData) (sp : Sp), K.In h ∧ (∀ (s : Shared) (u : Value), BindsTo s fd ⟨[u], []⟩ [(x, u)]) ∧
      (∀ (H : Hp) (a : Addr) (ns : List Int), ns.length ≤ n → Only H → SqL K H a (ns.map V.int) → sp [.ref a] H (fun v _ => v = .bl true) fun _ _ _ => False) ∧ ∀ base : Heap, K.In base → base.Ns mainGlobals mg → FnG l.prog w K mg base CX k fa fd [x] sp)
    (hX : ∀ (H : Hp) (s : Shared) (e : Value) (s' : Shared), CX [] H s (fun _ _ _ => False) e s' → False) : PySem.W.WalkO q loose XP YP l.row.toRowW d [] (fun f vs => PySem.call f vs) := by
  refine Att.attach_call most nod fun w s₀ s1 mg mb fa o pm cd doc a vs ns G Y z1 z2 z3 z4 obj its short gens => ?_
  obtain ⟨K, fd, sp, Ki, bd, pr, fn⟩ := F w mg fa _ Y G.T.g z4
  exact end_call Ki G.T.g G.T.b G.T.builtins G.T.nolimit gens obj its (Nat.le_trans short lt) room fn bd (fun H o q => pr H a ns short o q) fun H e s' => hX H s1 e s'
end Og

set_option Elab.async false
set_option linter.all false
set_option maxRecDepth 100000
set_option maxHeartbeats 4000000
/-! x op= y of an own class that has op alone, over the hand layer; parallel assignment of pairs. -/
namespace Oi
open PySem PySem.Spec PyProof.Rows L2 Ow
/-- the class stands right below object, and neither has the method in place -/
structure NoIn (K : PySem.W.Frag) (C : Addr) (nm : Str) : Prop where
  mro : ∃ cd, PySem.W.clsIn K C = some cd ∧ cd.mro = [.ref C, .type "object"]
  own : PySem.W.findIn K (.ref C) nm = some none
  obj : PySem.W.findIn K (.type "object") nm = some none
section
variable {X : Cx} {CX : CXT} {C g : Addr} {n : Nat} {sp : Sp} {E : XK}
theorem ip_binO {op : Operator} (N : NoIn X.K C (dunderI op.info.2)) (hs : PySem.W.findIn X.K (.ref C) (PySem.dunder op.info.2) = some (some (.ref g))) (hf : PySem.W.isFn X.K (.ref g) = true) (F : FnR X.prog X.w X.K X.mg X.base CX n g sp)
    (hr : Room n X.A) (hx : Passes CX X E) : PIp X op (rBinO C sp E) := by
  intro pins s σ H x y v u Q I rx ry h
  obtain ⟨a, dx, fs, b, dy, gs, rfl, rfl, ha, hb, q⟩ := h
  obtain ⟨cd, k1, k2⟩ := N.mro
  cases (show v = Value.ref a from rx)
  cases (show u = Value.ref b from ry)
  obtain ⟨ox, od, J, _⟩ := StX.insC_at (X := X) I (.inr ⟨dx, fs, ha⟩)
  obtain ⟨ox', od', J', _⟩ := StX.insC_at (X := X) I (.inr ⟨dy, gs, hb⟩)
  obtain ⟨m, hF⟩ := I.fr
  refine inplace_by (op := op) hF I.ok.mod.kin J J'.type k1 k2 N.own N.obj hs hf (wpAny_mono (wpAny_call (run_fnR (us := [.ref a, .ref b]) (vs := [.ref a, .ref b]) F hr hx I (.cons rfl (.cons rfl .nil)) q)) (fun w s' z => ?_) fun _ _ e => e)
  obtain ⟨z', H', I', rz, qz⟩ := z
  exact SlX.cmpback rz ⟨z', H', I', rz, qz⟩
end
end Oi

set_option Elab.async false
set_option linter.all false
set_option maxRecDepth 100000
set_option maxHeartbeats 4000000
/-! Readings of expressions whose value is a list of numbers, a tuple of them, a text. -/
namespace Lr
open PySem PySem.Spec PyProof.Rows L2 Ow Og Oi
theorem iteFe {c : Bool} {A B : Prop} (e : c = false) (h : B) : if c = true then A else B := by
  subst e
  exact iteF h
theorem iteTe {c : Bool} {A B : Prop} (e : c = true) (h : A) : if c = true then A else B := by
  subst e
  exact iteT h
theorem t_par2 {i j : Nat} {ta tb : TE} {D : Ends} {σ : L2.St} {H : Hp} (h : ta σ H fun x H1 => tb σ H1 fun y H2 => ∃ v w, [x, y] = [v, w] ∧ D.nx ((σ.set i (some v)).set j (some w)) H2) : tPar i j (tCons ta (tCons tb tNil)) D σ H := h
theorem eqTup (l : List Nat) : PyData.eqv (.tuple ((l.map fun n : Nat => (n : Int)).map PyData.int)) (.tuple ((l.map fun n : Nat => (n : Int)).map PyData.int)) = true := by
  rw [PyData.eqv, eqv_intsB]
  exact decide_eq_true rfl
theorem neTup (l : List Nat) : (!PyData.eqv (.tuple ((l.map fun n : Nat => (n : Int)).map PyData.int)) (.tuple ((l.map fun n : Nat => (n : Int)).map PyData.int))) = false := by
  rw [eqTup]
  rfl
section
variable {K : PySem.W.Frag} {C : Addr} {mg : Str → Option Value}
theorem dpT {H : Hp} {t : Addr} {l : List Nat} (h : SqT K H t (ri l)) : Dp K H (.ref t) (.tuple ((l.map fun n : Nat => (n : Int)).map PyData.int)) := .tup h (by rw [ri_ii]; exact dp_ints _)
theorem dpL {H : Hp} {t : Addr} {l : List Nat} (h : SqL K H t (ri l)) : Dp K H (.ref t) (.list ((l.map fun n : Nat => (n : Int)).map PyData.int)) := .lst h (by rw [ri_ii]; exact dp_ints _)
/-- x.rows, x a space -/
theorem rows_of {i : Nat} {x : Addr} {m : List Nat} {σ : L2.St} {H : Hp} {Q : VK} (S : Cs K mg C) (hs : σ[i]? = some (some (.ref x))) (h : SpA C H x m) (q : ∀ t, SqT K H t (ri m) → Q (.ref t) H) : tFld K (tVar i) "rows" σ H Q := by
  obtain ⟨dx, t, x1, x2, _⟩ := h
  exact ⟨_, hs, x, C, dx, _, _, rfl, x1, S.cl, S.nR, lookup_rows, q t (.of x2)⟩
/-- a truth, told by a repr of two -/
theorem repr_two {a b : Bool} : (PyData.list [.bool a, .bool b]).showable = true ∧ (PyData.list [.bool a, .bool b]).depth ≤ 20 ∧ (PyData.list [.bool a, .bool b]).shown.length ≤ sizeLine := by
  cases a <;> cases b <;> exact ⟨by decide, by decide, Nat.le_trans (by decide +kernel : _ ≤ 100) (Nat.le_of_lt (small1000 (by omega)))⟩
end
section
variable {K : PySem.W.Frag} {C : Addr} {mg : Str → Option Value} {σ : L2.St} {H0 : Hp}
/-- a list of numbers of which A holds -/
def LX (te : TE) (σ : L2.St) (H0 : Hp) (A : List Nat → Prop) : Prop := ∀ (H : Hp) (Q : VK), Same H0 H → (∀ (L : List Nat) (z : Addr) (H' : Hp), A L → H' z = some (.lst (ri L)) → Same H H' → Q (.ref z) H') → te σ H Q
/-- the tuple of these numbers -/
def TX (K : PySem.W.Frag) (te : TE) (σ : L2.St) (H0 : Hp) (l : List Nat) : Prop := ∀ (H : Hp) (Q : VK), Same H0 H → (∀ (t : Addr) (H' : Hp), SqT K H' t (ri l) → Same H H' → Q (.ref t) H') → te σ H Q
theorem lx_var {i : Nat} {p : Addr} {L : List Nat} (hs : σ[i]? = some (some (.ref p))) (h : H0 p = some (.lst (ri L))) : LX (tVar i) σ H0 (fun M => M = L) := fun H Q s q => ⟨.ref p, hs, q L p H rfl (s _ _ h) (same_refl H)⟩
theorem lx_cat {ta tb : TE} {A B : List Nat → Prop} (ha : LX ta σ H0 A) (hb : LX tb σ H0 B) (hz : ∀ a b, A a → B b → a.length + b.length ≤ 9000) : LX (tOp rCat ta tb) σ H0 (fun M => ∃ a b, A a ∧ B b ∧ M = a ++ b) := fun H Q s q => by
  refine ha H _ s fun a x H1 pa h1 s1 => ?_
  refine hb H1 _ (s.trans s1) fun b y H2 pb h2 s2 => ?_
  refine ⟨x, y, _, _, rfl, rfl, s2 _ _ h1, h2, ?_, fun p np => ?_⟩
  · rw [ri_len, ri_len]
    exact Nat.le_of_lt (small9k (hz a b pa pb))
  · rw [← ri_append]
    exact q (a ++ b) p _ ⟨a, b, pa, pb, rfl⟩ upd_same ((s1.trans s2).trans (same_upd np))
theorem lx_sums {ta : TE} {A : List Nat → Prop} (ha : LX ta σ H0 A) (h12 : ∀ L, A L → L.length ≤ 12) : LX (tCall spSums [] E0 (tCons ta tNil)) σ H0 (fun M => ∃ L, A L ∧ (∀ u, u ∈ M ↔ Xr.Span L u) ∧ M.Nodup) := fun H Q s q => by
  refine ha H _ s fun L x H1 pa h1 s1 => ?_
  exact ⟨x, L, rfl, h1, h12 L pa, fun m z H2 hm hz nd s2 nz => q m z H2 ⟨L, pa, hm, nd⟩ hz (s1.trans s2)⟩
theorem lx_in {neg : Bool} {i j k : Nat} {zs zm : Addr} {ms mm : List Nat} (hi : σ[i]? = some (some (.ref zs))) (hw : ∀ v : V, wipe ((wipe σ [j]).set j (some v)) [j] = wipe σ [j]) (hj : ∀ v : V, ((wipe σ [j]).set j (some v))[j]? = some (some v)) (hk : ∀ v : V, ((wipe σ [j]).set j (some v))[k]? = some (some (.ref zm)))
    (h1 : H0 zs = some (.lst (ri ms))) (h2 : H0 zm = some (.lst (ri mm))) (hz : ms.length ≤ 9000) : LX (tLc (iList K (tVar i)) (gName j) (tTest (tOp (rIn K neg) (tVar j) (tVar k))) (tVar j) [j]) σ H0 (fun M => M = ms.filter fun u => mm.contains u != neg) := fun H Q s q => by
  refine ⟨_, hi, zs, rfl, ⟨_, .of (s _ _ h1)⟩, fun D nD => ?_⟩
  refine lc_list (K := K) (a := zs) (xs := ri ms) (fun n H' => Same H H' ∧ H' D = some (.lst (ri ((ms.take n).filter fun u => mm.contains u != neg)))) ⟨same_upd nD, upd_same⟩ (fun n H' _ ⟨e, _⟩ => .of (e _ _ (s _ _ h1))) ?_ ?_
  · rintro n y H' hn ⟨sn, en⟩
    obtain ⟨u, hu, rfl⟩ := ri_get hn
    have nl : n < ms.length := (List.getElem?_eq_some_iff.mp hu).1
    refine ⟨hw _, _, hj _, _, hk _, zm, _, rfl, .inl (.of (sn _ _ (s _ _ h2))), rfl, ri_all _, _, rfl, ?_⟩
    rw [inV_ri]
    have eb : (if neg = true then !mm.contains u else mm.contains u) = (mm.contains u != neg) := by cases neg <;> cases mm.contains u <;> rfl
    refine ite2 (fun c => ?_) (fun c => ?_)
    · have c' : (mm.contains u != neg) = true := eb.symm.trans c
      refine ⟨_, hj _, _, en, ?_, same_put sn nD, ?_⟩
      · rw [ri_len]
        refine small9k (Nat.le_trans (List.length_filter_le _ _) ?_)
        rw [List.length_take]
        omega
      · rw [upd_same, List.take_add_one, hu, List.filter_append, ri_append]
        simp only [Option.toList_some, List.filter_cons, List.filter_nil, c', if_true]
        rfl
    · have c' : (mm.contains u != neg) = false := by
        rw [← eb]
        exact Bool.eq_false_iff.mpr c
      refine ⟨sn, ?_⟩
      rw [en, List.take_add_one, hu, List.filter_append]
      simp only [Option.toList_some, List.filter_cons, List.filter_nil, c', Bool.false_eq_true, if_false, List.append_nil]
  · rintro H' ⟨sn, en⟩
    rw [ri_len, List.take_length] at en
    exact q _ D H' rfl en sn
theorem tx_lred {ta : TE} {A : List Nat → Prop} {m : List Nat} (ha : LX ta σ H0 A) (cm : Xr.Canon m) (hm : m.length ≤ 17) (hA : ∀ L, A L → L.length ≤ 1024 ∧ ∀ u, u ∈ L ↔ Xr.Span m u) : TX K (tCall (spLRed K) [] E0 (tCons ta tNil)) σ H0 m := fun H Q s q => by
  refine ha H _ s fun L x H1 pa h1 s1 => ?_
  exact ⟨x, L, m, rfl, h1, (hA L pa).1, cm, hm, (hA L pa).2, fun z H2 s2 nz hz => q z H2 hz (s1.trans s2)⟩
theorem vx_nilL {ta : TE} {L : List Nat} (ha : LX ta σ H0 (fun M => M = L)) : VX (tOp (rEqD K) ta (tLst tNil)) σ H0 (.bl L.isEmpty) := fun H Q s q => by
  refine ha H _ s fun M z H1 pa h1 s1 => ?_
  subst pa
  refine ⟨Nat.zero_le _, fun e ne => ?_⟩
  refine ⟨_, .list [], dpL (.of ((same_upd ne) _ _ h1)), .lst (.of upd_same) .nil, shaped_lst _, rfl, ?_⟩
  rw [eqv_nilL]
  have em : (M.map fun n : Nat => (n : Int)).isEmpty = M.isEmpty := by cases M <;> rfl
  rw [em]
  exact q _ (s1.trans (same_upd ne))
theorem tx_rows {i : Nat} {x : Addr} {m : List Nat} (S : Cs K mg C) (hs : σ[i]? = some (some (.ref x))) (h : SpA C H0 x m) : TX K (tFld K (tVar i) "rows") σ H0 m := fun H Q s q => rows_of S hs (h.keep s) fun t ht => q t H ht (same_refl H)
theorem tx_rowsOf {te : TE} {A : Nat → Prop} {m : List Nat} (S : Cs K mg C) (h : SX C te σ H0 A) (cm : Xr.Canon m) (e : ∀ u, A u ↔ Xr.Span m u) : TX K (tFld K te "rows") σ H0 m := fun H Q s q => h H _ s fun m1 z H1 e1 h1 s1 => by
  have em : m1 = m := Xr.Canon.ext h1.canon cm fun u => (e1 u).trans (e u)
  subst em
  obtain ⟨dx, t, x1, x2, _⟩ := h1
  exact ⟨z, C, dx, _, _, rfl, x1, S.cl, S.nR, lookup_rows, q t H1 (.of x2) s1⟩
theorem keepT {H H' : Hp} {t : Addr} {l : List Nat} (h : SqT K H t (ri l)) (s : Same H H') : SqT K H' t (ri l) := same_tup s h
theorem bx_neT {ta tb : TE} {l : List Nat} (ha : TX K ta σ H0 l) (hb : TX K tb σ H0 l) : BX (tTest (tOp (rNeD K) ta tb)) σ H0 false := fun H Q s q => by
  refine ha H _ s fun t H1 h1 s1 => ?_
  refine hb H1 _ (s.trans s1) fun u H2 h2 s2 => ?_
  refine ⟨_, _, dpT (keepT h1 s2), dpT h2, shaped_tup _, shaped_tup _, _, rfl, ?_⟩
  rw [neTup]
  exact q H2 (s1.trans s2)
theorem vx_eqT {ta tb : TE} {l : List Nat} (ha : TX K ta σ H0 l) (hb : TX K tb σ H0 l) : VX (tOp (rEqD K) ta tb) σ H0 (.bl true) := fun H Q s q => by
  refine ha H _ s fun t H1 h1 s1 => ?_
  refine hb H1 _ (s.trans s1) fun u H2 h2 s2 => ?_
  refine ⟨_, _, dpT (keepT h1 s2), dpT h2, shaped_tup _, shaped_tup _, ?_⟩
  rw [eqTup]
  exact q H2 (s1.trans s2)
theorem tx_tup {ts : TA} {l : List Nat} (h : ∀ (H : Hp) (Q : List V → Hp → Prop), Same H0 H → (∀ H', Same H H' → Q (ri l) H') → ts σ H Q) (hl : l.length ≤ 1000) : TX K (tTup ts) σ H0 l := fun H Q s q => h H _ s fun H' s' => ⟨by rw [ri_len]; exact Nat.le_of_lt (small1000 hl), fun p np => q p _ (.of upd_same) (s'.trans (same_upd np))⟩
/-- repr of a list of two truths -/
theorem vx_repr2 {ta tb : TE} {a b : Bool} (ha : VX ta σ H0 (.bl a)) (hb : VX tb σ H0 (.bl b)) : VX (tCB (rRepr K) (tCons (tLst (tCons ta (tCons tb tNil))) tNil)) σ H0 (.str (PyData.list [.bool a, .bool b]).shown) := fun H Q s q => by
  refine ha H _ s fun H1 s1 => ?_
  refine hb H1 _ (s.trans s1) fun H2 s2 => ?_
  refine ⟨by show 2 ≤ sizeLine; exact Nat.le_of_lt (small1000 (by omega)), fun p np => ?_⟩
  exact ⟨_, _, rfl, .lst (.of upd_same) (.cons (.bl a) (.cons (.bl b) .nil)), repr_two.1, repr_two.2.1, repr_two.2.2, q _ ((s1.trans s2).trans (same_upd np))⟩
theorem bx_neS {ta tb : TE} {x y : Str} (ha : VX ta σ H0 (.str x)) (hb : VX tb σ H0 (.str y)) (e : x = y) : BX (tTest (tOp rNe ta tb)) σ H0 false := fun H Q s q => by
  subst e
  refine ha H _ s fun H1 s1 => ?_
  refine hb H1 _ (s.trans s1) fun H2 s2 => ?_
  refine ⟨rfl, ?_⟩
  have : (!decide (V.str x = V.str x)) = false := by
    rw [decide_eq_true rfl]
    rfl
  rw [this]
  exact ⟨false, rfl, q H2 (s1.trans s2)⟩
open Classical in
theorem vx_withinK {ta tb : TE} {A B : Nat → Prop} (ha : SX C ta σ H0 A) (hb : SX C tb σ H0 B) : VX (tMethK C "within" 1 (spWith C) E0 ta (tCons tb tNil)) σ H0 (.bl (decide (∀ u, A u → B u))) := fun H Q s q => by
  refine ha H _ s fun m1 z1 H1 e1 h1 s1 => ?_
  obtain ⟨dx, t, x1, x2, x3⟩ := id h1
  refine ⟨z1, dx, _, rfl, x1, noL (by decide +kernel), ?_⟩
  refine hb H1 _ (s.trans s1) fun m2 z2 H2 e2 h2 s2 => ?_
  have l1 := h1.len
  refine ⟨rfl, z1, z2, m1, m2, rfl, h1.keep s2, h2, by omega, fun k H3 hk s3 => ?_⟩
  have e : k = decide (∀ u, A u → B u) := by
    rw [Bool.eq_iff_iff, hk, decide_eq_true_iff]
    constructor
    · intro h u hu
      exact (e2 u).mp (h u ((e1 u).mpr hu))
    · intro h u hu
      exact (e2 u).mpr (h u ((e1 u).mp hu))
  rw [e]
  exact q H3 ((s1.trans s2).trans s3)
end
end Lr

set_option Elab.async false
set_option linter.all false
set_option maxRecDepth 100000
set_option maxHeartbeats 4000000
/-! Words that tell a number; the reduced rows that words tell. -/
namespace Lr
open PySem PySem.Spec PyProof.Rows L2 Ow TL
def digs (w : Str) : Bool := (tl w).all fun c => decide (48 ≤ c) && decide (c ≤ 57)
def valW (w : Str) : Nat := NumText.digitsVal (tl w)
/-- the row that a word tells -/
def numW (w : Str) : Option Nat := if digs w = true ∧ tl w ≠ [] ∧ (tl w).head? ≠ some 48 ∧ (tl w).length ≤ 5 ∧ valW w ≤ 65535 then some (valW w) else none
def numS (n : Nat) : Str := Str.ofString (toString ((n : Nat) : Int))
theorem digs_all {w : Str} (h : digs w = true) : NumText.AllDigits (tl w) := fun c hc => by
  have := List.all_eq_true.mp h c hc
  simp only [Bool.and_eq_true, decide_eq_true_eq] at this
  exact this
theorem numW_some {w : Str} {n : Nat} (h : numW w = some n) : digs w = true ∧ tl w ≠ [] ∧ (tl w).head? ≠ some 48 ∧ (tl w).length ≤ 5 ∧ n ≤ 65535 ∧ n = valW w := by
  unfold numW at h
  by_cases c : digs w = true ∧ tl w ≠ [] ∧ (tl w).head? ≠ some 48 ∧ (tl w).length ≤ 5 ∧ valW w ≤ 65535
  · rw [if_pos c] at h
    cases h
    exact ⟨c.1, c.2.1, c.2.2.1, c.2.2.2.1, c.2.2.2.2, rfl⟩
  · rw [if_neg c] at h
    cases h
theorem head49 {w : Str} (d : digs w = true) (ne : tl w ≠ []) (h : (tl w).head? ≠ some 48) : ∃ c r, tl w = c :: r ∧ 49 ≤ c := by
  have a := digs_all d
  generalize tl w = l at a ne h
  cases l with
  | nil => exact absurd rfl ne
  | cons c r =>
    have := a c List.mem_cons_self
    refine ⟨c, r, rfl, ?_⟩
    have : c ≠ 48 := fun e => h (by rw [e]; rfl)
    omega
theorem numW_pos {w : Str} {n : Nat} (h : numW w = some n) : 0 < n := by
  obtain ⟨d, ne, h0, _, _, rfl⟩ := numW_some h
  obtain ⟨c, r, e, hc⟩ := head49 d ne h0
  unfold valW
  rw [e]
  exact NumText.digitsVal_pos hc
/-- a word is what str makes of its number -/
theorem numW_str {w : Str} {n : Nat} (h : numW w = some n) : numS n = w := by
  obtain ⟨d, ne, h0, _, _, rfl⟩ := numW_some h
  have a := digs_all d
  obtain ⟨c, r, e, hc⟩ := head49 d ne h0
  refine ext_tl ?_
  unfold numS
  rw [tl_num]
  unfold numL valW
  have hl : (tl w).length = ((tl w).length - 1) + 1 := by rw [e]; rfl
  rw [NumText.toDigits_digitsVal _ _ hl a (.inr ⟨c, r, e, hc⟩), List.map_map]
  have : ∀ l : List Nat, NumText.AllDigits l → l.map (Char.toNat ∘ Char.ofNat) = l := by
    intro l
    induction l with
    | nil => intro _; rfl
    | cons x l ih =>
      intro hx
      rw [List.map_cons, ih hx.tail]
      have hx1 := hx.head
      have : Char.toNat (Char.ofNat x) = x := by
        have : ∀ y : Nat, y < 58 → Char.toNat (Char.ofNat y) = y := by decide
        exact this x (by omega)
      exact congrArg (· :: l) this
  exact this _ a
theorem numS_numW {n : Nat} (h0 : 0 < n) (h : n ≤ 65535) : numW (numS n) = some n := by
  have et : tl (numS n) = numL n := tl_num n
  have hv : valW (numS n) = n := by
    unfold valW
    rw [et]
    exact numL_val n
  have hd : digs (numS n) = true := by
    unfold digs
    rw [et, List.all_eq_true]
    intro c hc
    have := numL_digits n c hc
    simp only [Bool.and_eq_true, decide_eq_true_eq]
    exact this
  have hl : (numL n).length ≤ 5 := numL_len (by decide) (by omega)
  have hh : (numL n).head? ≠ some 48 := by
    intro e
    have ne := numL_ne n
    generalize el : numL n = l at e ne hl
    cases l with
    | nil => exact ne rfl
    | cons c r =>
      cases e
      have dg : NumText.AllDigits (48 :: r) := by
        rw [← el]
        exact numL_digits n
      have hv2 : NumText.digitsVal r = n := by
        have := numL_val n
        rw [el, NumText.digitsVal_zero] at this
        exact this
      cases r with
      | nil =>
        have : NumText.digitsVal [] = 0 := rfl
        omega
      | cons c2 r2 =>
        -- n's numeral is one longer than the rest's
        have l1 : (Nat.toDigits 10 n).length ≤ (c2 :: r2).length := by
          rw [← hv2]
          rw [NumText.toDigits_all _ dg.tail]
          have dw : ∀ l : List Nat, (match l.dropWhile (· == 48) with | [] => ['0'] | c :: r => (c :: r).map Char.ofNat).length ≤ max 1 l.length := by
            intro l
            have := (List.dropWhile_sublist (l := l) (p := (· == 48))).length_le
            generalize l.dropWhile (· == 48) = m at this
            cases m with
            | nil => show 1 ≤ _; omega
            | cons c r => show (List.map Char.ofNat (c :: r)).length ≤ _; rw [List.length_map]; omega
          have := dw (c2 :: r2)
          have e3 : max 1 (c2 :: r2).length = (c2 :: r2).length := by
            show max 1 (r2.length + 1) = r2.length + 1
            omega
          rw [e3] at this
          exact this
        have l2 : (numL n).length = (Nat.toDigits 10 n).length := by
          unfold numL
          rw [List.length_map]
        rw [el] at l2
        have : (48 :: c2 :: r2).length = (c2 :: r2).length + 1 := rfl
        omega
  unfold numW
  rw [hv, et, if_pos ⟨hd, numL_ne n, hh, hl, h⟩]
theorem numS_inj {m n : Nat} (h : numS m = numS n) : m = n := numL_inj (by rw [← tl_num m, ← tl_num n]; exact congrArg tl h)
/-! ### the words of a text of rows -/
/-- n can stand behind these rows -/
def Beh (n : Nat) (rows : List Nat) : Bool := rows.all fun o => decide (Xr.top o < Xr.top n) && !n.testBit (Xr.top o)
/-- the index of the first word that cannot stand, or the rows -/
def scan : List Str → List Nat → Nat → _root_.Sum Nat (List Nat)
  | [], rows, _ => .inr rows
  | x :: ws, rows, i => match numW x with
    | none => .inl i
    | some n => if Beh n rows = true then scan ws (rows ++ [n]) (i + 1) else .inl i
def due (ws : List Str) : _root_.Sum Nat (List Nat) := if ws[0]? = some ("-" : Str) then (if ws.length = 1 then .inr [] else .inl 1) else scan ws [] 0
theorem scan_none {x : Str} {ws : List Str} {rows : List Nat} {i : Nat} (h : numW x = none) : scan (x :: ws) rows i = .inl i := by
  rw [scan, h]
theorem scan_no {x : Str} {ws : List Str} {rows : List Nat} {i n : Nat} (h : numW x = some n) (b : Beh n rows = false) : scan (x :: ws) rows i = .inl i := by
  rw [scan, h]
  show (if Beh n rows = true then _ else _) = _
  rw [b]
  rfl
theorem scan_yes {x : Str} {ws : List Str} {rows : List Nat} {i n : Nat} (h : numW x = some n) (b : Beh n rows = true) : scan (x :: ws) rows i = scan ws (rows ++ [n]) (i + 1) := by
  rw [scan, h]
  show (if Beh n rows = true then _ else _) = _
  rw [b]
  rfl
theorem canon_snoc {rows : List Nat} {n : Nat} (c : Xr.Canon rows) (n0 : n ≠ 0) (b : Beh n rows = true) : Xr.Canon (rows ++ [n]) := by
  have hb : ∀ o ∈ rows, Xr.top o < Xr.top n ∧ n.testBit (Xr.top o) = false := fun o ho => by
    have := List.all_eq_true.mp b o ho
    simp only [Bool.and_eq_true, decide_eq_true_eq, Bool.not_eq_true'] at this
    exact this
  have r : Xr.Red (n :: rows) := Xr.Red.cons_iff.mpr ⟨n0, fun o ho => ⟨(hb o ho).2, Nat.testBit_lt_two_pow (Nat.lt_of_lt_of_le Nat.lt_log2_self (Nat.pow_le_pow_right (by decide) (hb o ho).1))⟩, c.1⟩
  refine ⟨Xr.Red.perm (List.perm_append_singleton n rows).symm r, ?_⟩
  rw [List.pairwise_append]
  refine ⟨c.2, List.pairwise_singleton _ _, fun o ho m hm => ?_⟩
  rw [List.mem_singleton.mp hm]
  exact Xr.lt_of_top_lt (hb o ho).1
theorem beh_of {rows : List Nat} {n : Nat} (c : Xr.Canon (rows ++ [n])) : Beh n rows = true := by
  rw [Beh, List.all_eq_true]
  intro o ho
  have hp := (List.pairwise_append.mp c.2).2.2 o ho n (List.mem_singleton.mpr rfl)
  have r := Xr.Red.cons_iff.mp (Xr.Red.perm (List.perm_append_singleton n rows) c.1)
  have o0 : o ≠ 0 := c.1.1 o (List.mem_append_left _ ho)
  simp only [Bool.and_eq_true, decide_eq_true_eq, Bool.not_eq_true']
  have e := r.2.1 o ho
  exact ⟨Xr.top_lt_of_lt o0 r.1 e.2 hp |> fun z => z, e.1⟩
/-- what is known in the midst of the words -/
structure Mid (ws : List Str) (i : Nat) (rows : List Nat) : Prop where
  eq : scan ws [] 0 = scan (ws.drop i) rows i
  len : rows.length = i
  canon : Xr.Canon rows
  lt : ∀ r ∈ rows, r < 2 ^ 16
  str : rows.map numS = ws.take i
theorem Mid.zero (ws : List Str) : Mid ws 0 [] := ⟨by rw [List.drop_zero], rfl, ⟨Xr.Red.nil, .nil⟩, fun r h => (by cases h), by simp⟩
theorem Mid.step {ws : List Str} {i : Nat} {rows : List Nat} {x : Str} {n : Nat} (m : Mid ws i rows) (hx : ws[i]? = some x) (h : numW x = some n) (b : Beh n rows = true) : Mid ws (i + 1) (rows ++ [n]) := by
  obtain ⟨hi, e⟩ := List.getElem?_eq_some_iff.mp hx
  have n0 : n ≠ 0 := Nat.ne_of_gt (numW_pos h)
  refine ⟨?_, by rw [List.length_append, m.len]; rfl, canon_snoc m.canon n0 b, fun r hr => ?_, ?_⟩
  · rw [m.eq, List.drop_eq_getElem_cons hi, e, scan_yes h b]
  · rcases List.mem_append.mp hr with hr | hr
    · exact m.lt r hr
    · rw [List.mem_singleton.mp hr]
      have := (numW_some h).2.2.2.2.1
      omega
  · rw [List.map_append, m.str, List.take_add_one, hx, List.map_singleton, numW_str h]
    rfl
theorem Mid.none {ws : List Str} {i : Nat} {rows : List Nat} {x : Str} (m : Mid ws i rows) (hx : ws[i]? = some x) (h : numW x = none) : scan ws [] 0 = .inl i := by
  obtain ⟨hi, e⟩ := List.getElem?_eq_some_iff.mp hx
  rw [m.eq, List.drop_eq_getElem_cons hi, e, scan_none h]
theorem Mid.no {ws : List Str} {i : Nat} {rows : List Nat} {x : Str} {n : Nat} (m : Mid ws i rows) (hx : ws[i]? = some x) (h : numW x = some n) (b : Beh n rows = false) : scan ws [] 0 = .inl i := by
  obtain ⟨hi, e⟩ := List.getElem?_eq_some_iff.mp hx
  rw [m.eq, List.drop_eq_getElem_cons hi, e, scan_no h b]
theorem Mid.done {ws : List Str} {rows : List Nat} (m : Mid ws ws.length rows) : scan ws [] 0 = .inr rows := by
  rw [m.eq, List.drop_length, scan]
/-! ### the text of rows -/
def pageOf (rows : List Nat) : Str := if rows = [] then "-" else Txt.join " " (rows.map numS)
def sp1 : Str := " "
theorem join_words (x : Str) : Txt.join sp1 (Txt.split x sp1) = x := by rw [join_eq, PySem.StrLaws.join_split]
end Lr

set_option Elab.async false
set_option linter.all false
set_option maxRecDepth 100000
set_option maxHeartbeats 4000000
/-! A caught exception that stays a value behind its handler: tracked, asked by isinstance, its fields read. -/
namespace Oe
open PySem PySem.Spec PyProof.Rows L2
/-- at a: an exception object of the class cls, its dict at d -/
def ExK (cls : Value) (d : Option Addr) (a : Addr) : HO := .ext fun h => ∃ (oe : Obj) (vs : Array Value), h.get? a = some oe ∧ Zc cls d oe ∧ oe.data = .fields vs
theorem exK_ok {P : Program} {w : World} {H : Hp} {h : Heap} {a : Addr} {cls : Value} {d : Option Addr} {oe : Obj} {vs : Array Value} (e : h.get? a = some oe) (z : Zc cls d oe) (hd : oe.data = .fields vs) : ObjOk P w H h a (ExK cls d a) :=
  ⟨⟨oe, vs, e, z, hd⟩, ⟨oe, e⟩, fun _ _ ⟨o, v, q, r⟩ k => ⟨o, v, k o q, r⟩⟩
section
variable {X : Cx} {pins : List (Addr × Obj)} {σ : L2.St} {H : Hp} {s : Shared}
theorem Inv.track {a : Addr} {cls : Value} {d : Option Addr} {oe : Obj} {vs : Array Value} (I : Inv X pins σ H s) (he : s.heap.get? a = some oe) (hz : Zc cls d oe) (hd : oe.data = .fields vs) (na : H a = none) (n0 : X.s_0.heap.get? a = none) (nL : a ≠ X.env.locals)
    (nc : ∀ y c, X.env.cells.lookup y = some c → c ≠ a) (np : ∀ p ∈ X.pn ++ pins, p.1 ≠ a) : Inv X pins σ (upd H a (ExK cls d a)) s := by
  have ne0 : ∀ b o, X.s_0.heap.get? b = some o → b ≠ a := fun b o e z => by
    rw [z, n0] at e
    cases e
  refine ⟨I.ok, I.os, I.bare, ⟨I.base.keep, I.base.slot, fun b o e n hq => ?_, I.base.there, fun b xs e => ?_, fun b o u e => ?_, fun b ps e => ?_⟩, I.loc, I.cell, ?_, fun x c e => ?_, fun p hp => ?_, I.hok.laidN (fun _ _ q => q) na (exK_ok he hz hd), I.len⟩
  · rw [upd_ne (ne0 b o e)]
    exact I.base.free b o e n hq
  · have q := I.base.tups b xs e
    rw [upd_ne (ne_of_none q na)]
    exact q
  · have q := I.base.frzs b o u e
    rw [upd_ne (ne_of_none q na)]
    exact q
  · obtain ⟨m, q⟩ := I.base.tbls b ps e
    exact ⟨m, by rw [upd_ne (ne_of_none q na)]; exact q⟩
  · rw [upd_ne (Ne.symm nL)]
    exact I.free
  · rw [upd_ne (nc x c e)]
    exact I.freeC x c e
  · obtain ⟨e, n, ne, nf, d⟩ := I.pin p hp
    exact ⟨e, by rw [upd_ne (np p hp)]; exact n, ne, nf, d⟩
end
/-- what 'except x as n: m = n' wishes of an exception of the body: x's class takes it, slot j is m's, and the exception stays a value -/
def wHeld (K : PySem.W.Frag) (c : Value) (i j n : Nat) (D : Ends) : WX := fun cls d σ H =>
  PySem.W.exmOne K cls c = some true ∧ ∀ a, H a = none → σ.length = n → D.nx (((σ.set i (some (.ref a))).set j (some (.ref a))).set i none) (upd H a (ExK cls d a))
section
variable {X : Cx} {x n m : Str} {c : Value} {i j : Nat} {body : List Stmt} {q1 q2 q3 np pos pos' : Pos} {tb : WX → TS}
/-- try: body / except x as n: m = n, every exception of the body one that x takes -/
theorem ps_try_held (hex : X.ex = []) (hs : X.stack = X.env :: X.outer) (hf : X.env.frame = some X.env.locals) (hN : X.N.Nodup) (hi : X.N[i]? = some n) (hj : X.N[j]? = some m) (hln : X.env.kindOf n = some .local) (hlm : X.env.kindOf m = some .local) (hc : Names X x c)
    (hb : ∀ (W : WX) (pn : List (Addr × Obj)) (xe : Value → Shared → Prop), Takes (X.tr pn xe) W → PassesOwn (model X.prog X.w) X.A X.env xe → PSs (X.tr pn xe) body (tb W))
    (hsu : ∀ (a : Addr) (oe : Obj) (pn : List (Addr × Obj)), PSs (X.suite a ((a, oe) :: pn)) [.Assign [.Name m q1] (.Name n q2) q3] (tAsg (tVar i) (gName j))) :
    PS X (.Try body [.ExceptHandler (some (.Name x np)) (some n) [.Assign [.Name m q1] (.Name n q2) q3] pos'] [] [] pos) (fun D σ H => tb (wHeld X.K c i j X.N.length D) D σ H) := by
  refine ⟨fun pins s σ H D I h => ?_⟩
  have ok := I.ok
  have hfr : X.A.frames = some (X.env :: X.outer) := by rw [ok.frames, hs]
  refine wpAny_Try_except ?_
  let land : Value → Shared → Prop := fun e t => wpAny (model X.prog X.w) X.A (noteFrame e X.env) (fun _ t2 => wpAny (model X.prog X.w) X.A (setFlight e none) (fun _ t3 =>
    wpAny (model X.prog X.w) X.A (handleBy e X.env [.ExceptHandler (some (.Name x np)) (some n) [.Assign [.Name m q1] (.Name n q2) q3] pos']) (SP X pins D) X.xe t3) X.xe t2) X.xe t
  have tk : Takes (X.tr (X.pn ++ pins) land) (wHeld X.K c i j X.N.length D) := fun u s' xx => ?caught
  refine wpAny_mono ((hb (wHeld X.K c i j X.N.length D) (X.pn ++ pins) land tk PassesOwn.looking).run [] s σ H D (I.toTry _) h) (fun f s1 hsp => ?through) (fun e s1 he => he)
  case through =>
    cases f with
    | next => exact hsp.elim fun σ' z => z.elim fun H' y => wpAny_execs_nil ⟨σ', H', y.1.ofTry ok, y.2⟩
    | brk => exact hsp.elim fun σ' z => z.elim fun H' y => ⟨σ', H', y.1.ofTry ok, y.2⟩
    | cont => exact hsp.elim fun σ' z => z.elim fun H' y => ⟨σ', H', y.1.ofTry ok, y.2⟩
    | ret u => exact hsp.elim fun v z => z.elim fun σ' y => y.elim fun H' x => ⟨v, σ', H', x.1.ofTry ok, x.2⟩
  case caught =>
    obtain ⟨a, B, sI, pins', σ', H', cls, d, rfl, J', nb, up, sky, na, os, ag, hx1, hyes⟩ := xx
    have J : Inv X pins σ' H' sI := J'.ofTry ok
    rw [show X.stack = X.env :: X.outer from hs] at nb
    show land (.ref a) s'
    refine Sky.land Zc.steady hfr hf (show Sky B (X.env :: X.outer) a (Zc cls d) X.env.locals s'.heap by rw [← hs]; exact sky) fun h3 fl3 up3 => ?_
    -- where the exception lies: no frame, not there at the entry
    have far : ∀ {h : Heap}, HandSPX.FlyingZ B (X.env :: X.outer) a (Zc cls d) h → a ∉ frs (X.env :: X.outer) := fun fl hm => by
      obtain ⟨oe, vs, e, _, dd⟩ := fl.there
      obtain ⟨_, o', e', hnf⟩ := fl.2.2.1.mem hm
      rw [e] at e'
      cases e'
      exact hnf _ dd
    have nfr := far fl3
    have nL : a ≠ X.env.locals := fun z => nfr (List.mem_filterMap.mpr ⟨X.env, List.mem_cons_self, by rw [hf, z]⟩)
    have nF : a ∉ X.fs := fun hm => by
      obtain ⟨e, he, q⟩ := List.mem_filterMap.mp hm
      exact nfr (List.mem_filterMap.mpr ⟨e, List.mem_cons_of_mem _ he, q⟩)
    have s0 : sI.heap.get? a = none := by
      cases z : sI.heap.get? a with
      | none => rfl
      | some o =>
        have z2 := nb a o z nfr
        rw [fl3.2.1] at z2
        cases z2
    have gone : ∀ {b : Addr} {o : Obj}, sI.heap.get? b = some o → b ≠ a := fun {b o} e z => by
      rw [z, s0] at e
      cases e
    have n0 : X.s_0.heap.get? a = none := by
      cases z : X.s_0.heap.get? a with
      | none => rfl
      | some o =>
        obtain ⟨o', z2⟩ := J.base.there a o z (by rw [hex]; exact fun z => nomatch z)
        exact absurd rfl (gone z2)
    obtain ⟨oe3, vs3, he3, hz3, hd3⟩ := fl3.there
    have back : ∀ {h4 : Heap}, HandSPX.FlyingZ B (X.env :: X.outer) a (Zc cls d) h4 → sI.heap.UpToSlots h4 → Inv X pins σ' H' { s' with heap := h4 } := fun fl u => J.landed (by rw [hs]; exact nb) fl.1 u os ag
    have J3 := back fl3 (up.trans up3)
    have S3 := J3.suite he3 hd3 na nL nF
    -- the class fits
    refine wpAny_handleBy_cons (codeAny_handlers_test ?_) (by intro q; cases q)
    have LT : PySem.W.Looks (model X.prog X.w) h3 (typeOf (.ref a)) cls := fun A Q E s k q => wpAny_typeOf_ref (k _ _ he3) (by rw [hz3.1]; exact q)
    have fits := PySem.W.exm_one (M := model X.prog X.w) J3.kIn LT hx1
    have named : ∀ {Q E : Value → Shared → Prop}, Q c { s' with heap := h3 } → wpAny (model X.prog X.w) (X.A.mark (some (.ref a))) (eval (.Name x np) X.env) Q E { s' with heap := h3 } := fun {Q E} q => by
      obtain ⟨hg, hdbg, hm | ⟨hm, hv, hnn⟩⟩ := hc
      · exact ld_glob (X := X.suite a ((a, oe3) :: (X.pn ++ pins))) S3 hg hm q hdbg
      · exact ld_blt (X := X.suite a ((a, oe3) :: (X.pn ++ pins))) S3 hg hm hv q hnn hdbg
    refine named (fits.here (codeAny_handlers_suite_as (HandSPX.lands_againZ fl3 fun h4 fl4 up4 => ?_)))
    obtain ⟨oe4, vs4, he4, hz4, hd4⟩ := fl4.there
    have S4 := (back fl4 ((up.trans up3).trans up4)).suite he4 hd4 na nL nF
    refine store_ok (X := X.suite a ((a, oe4) :: (X.pn ++ pins))) (v := .ref a) S4 hN hi (.inl hln) rfl (fun s5 S5 => ?_) (.inr hln)
    refine wpAny_mono ((hsu a oe4 (X.pn ++ pins)).run [] s5 _ H' { nx := fun σ6 H6 => σ6 = (σ'.set i (some (.ref a))).set j (some (.ref a)) ∧ H6 = H', rt := fun _ _ => False, bk := fun _ _ => False, ct := fun _ _ => False } S5 ?_) (fun f s6 hsp => ?_) (fun _ _ z => False.elim z)
    · have li : i < σ'.length := by
        rw [J.len]
        exact (List.getElem?_eq_some_iff.mp hi).1
      exact ⟨.ref a, List.getElem?_set_self li, rfl, rfl⟩
    cases f with
    | brk => exact hsp.elim fun _ z => z.elim fun _ y => y.2.elim
    | cont => exact hsp.elim fun _ z => z.elim fun _ y => y.2.elim
    | ret u => exact hsp.elim fun _ w => w.elim fun _ z => z.elim fun _ y => y.2.2.elim
    | next =>
      obtain ⟨σ6, H6, S6, rfl, rfl⟩ := hsp
      have hp6 := S6.pin (a, oe4) (List.mem_append_left _ List.mem_cons_self)
      have T6 := Inv.track (S6.unsuite ok) hp6.1 hz4 hd4 na n0 nL (fun y c e => (J.cell y c e).elim fun v z => z.elim fun o z2 => gone z2.1) fun p hp => gone (J.pin p hp).1
      exact gone_ok T6 hN hi hln fun s7 J7 => ⟨_, _, J7, hyes a na J.len⟩
end
/-! ### isinstance of it, a field of it -/
section
variable {X : Cx}
/-- isinstance(x, c), x an exception value of the own class D -/
def rIsX (K : PySem.W.Frag) : List V → Hp → VK → Prop := fun xs H Q => ∃ (a D : Addr) (d : Option Addr) (c : V) (cv : Value) (b : Bool), xs = [.ref a, c] ∧ H a = some (ExK (.ref D) d a) ∧ (∀ dd, d = some dd → ∃ fs, H dd = some (.xd fs)) ∧ L2.ExcC K D ∧ (∀ u, RelV c u → u = cv) ∧ PySem.W.kitOne K (.ref D) cv = some b ∧ Q (.bl b) H
theorem exK_at {P : Program} {w : World} {H : Hp} {h : Heap} {a : Addr} {cls : Value} {d : Option Addr} (hok : HOk P w H h) (he : H a = some (ExK cls d a)) : ∃ (oe : Obj) (vs : Array Value), h.get? a = some oe ∧ Zc cls d oe ∧ oe.data = .fields vs := by
  have x : ObjOk P w H h a (.ext fun h => ∃ (oe : Obj) (vs : Array Value), h.get? a = some oe ∧ Zc cls d oe ∧ oe.data = .fields vs) := hok a _ he
  exact x.1
/-- the object of a dict of an exception -/
theorem xd_obj {P : Program} {w : World} {H : Hp} {h : Heap} {dd : Addr} {fs : List (Str × V)} (hok : HOk P w H h) (e : H dd = some (.xd fs)) : ∃ mA, h.Ns1 dd mA ∧ ∀ f, RelO (fs.lookup f) (mA f) := by
  have hx : ObjOk P w H h dd (.xd fs) := hok dd _ e
  obtain ⟨mA, hns, hr⟩ := hx
  exact ⟨mA, hns, hr⟩
theorem exK_inst {P : Program} {w : World} {H : Hp} {h : Heap} {a D : Addr} {d : Option Addr} (hok : HOk P w H h) (he : H a = some (ExK (.ref D) d a)) (hd : ∀ dd, d = some dd → ∃ fs, H dd = some (.xd fs)) : ∃ oe od, PySem.W.InstAt h a oe D od := by
  obtain ⟨oe, vs, e1, hz, e2⟩ := exK_at hok he
  cases d with
  | none => exact ⟨oe, none, e1, hz.1, by unfold PySem.W.notCls; rw [e2] <;> rfl, by rw [hz.2]; trivial⟩
  | some dd =>
    obtain ⟨fs, ed⟩ := hd dd rfl
    obtain ⟨mA, hns, _⟩ := xd_obj hok ed
    obtain ⟨od, es, ep, ho, _⟩ := hns
    exact ⟨oe, some od, e1, hz.1, by unfold PySem.W.notCls; rw [e2] <;> rfl, by rw [hz.2]; exact ho⟩
theorem call_isX : CallR X (.builtin "isinstance") (rIsX X.K) := by
  intro pins s σ H xs us Q I r h
  obtain ⟨a, D, d, c, cv, b, rfl, he, hd, C, hcv, e, q⟩ := h
  cases r with
  | cons rx rr =>
    cases rr with
    | cons rt rr =>
      cases rr
      cases rx
      have ec := hcv _ rt
      subst ec
      obtain ⟨oe, od, J⟩ := exK_inst I.hok he hd
      have hcl : (PySem.W.clsIn X.K D).isSome = true := by
        obtain ⟨cd, hc, _⟩ := PySem.W.any_some C.hd
        rw [hc]
        rfl
      exact PySem.W.kia_one (PySem.W.kitx_exc hcl C.hg C.hk C.hs C.ha C.hn C.ht C.hm) I.kIn J e (fun z => nomatch z) fun tk => ⟨.bl b, H, I.kept (t' := tk) fun _ _ z => z, rfl, q⟩
/-- x.f, x an exception value of the own class C -/
def tXk (K : PySem.W.Frag) (f : Str) (te : TE) : TE := fun σ H Q => te σ H fun x H1 => ∃ (a C dd : Addr) (fs : List (Str × V)) (v : V), x = .ref a ∧ H1 a = some (ExK (.ref C) (some dd) a) ∧ H1 dd = some (.xd fs) ∧ XfC K C ∧ PySem.W.findIn K (.ref C) f = some none ∧ fs.lookup f = some v ∧ Q v H1
theorem pe_xk {e : Expr} {te : TE} {pos : Pos} {n : Str} (he : PE X e te) (hb : attributeBase e n X.env (eval e X.env) = eval e X.env := by rfl) : PE X (.Attribute e n pos) (tXk X.K n te) := by
  refine ⟨fun pins s σ H Q I h => ?_⟩
  refine attr_of hb (thn (he.run pins s σ H _ I h) fun u s1 hh => ?_)
  obtain ⟨x, H1, I1, rx, a, C, dd, fs, v, ex, ea, ed, T, hno, l, q⟩ := hh
  subst ex
  obtain rfl : u = Value.ref a := rx
  obtain ⟨oe, vs, e1, hz, e2⟩ := exK_at I1.hok ea
  obtain ⟨mA, hns, hr⟩ := xd_obj I1.hok ed
  obtain ⟨od, ho, hl⟩ := lookIn_ns hns
  obtain ⟨u, hu, ru⟩ := RelO.some_of (v := v) (o := mA n) (by rw [← l]; exact hr n)
  have J : PySem.W.InstAt s1.heap a oe C (some od) := ⟨e1, hz.1, by unfold PySem.W.notCls; rw [e2] <;> rfl, by rw [hz.2]; exact ho⟩
  exact HandSPX.exc_get I1.kIn J T.ga T.gg T.exC (PySem.W.findObj_own T.hdC hno rfl (by rw [hl, hu])) (handed_of ru) ⟨v, H1, I1.tok _, ru, q⟩
end
end Oe

set_option Elab.async false
set_option linter.all false
set_option maxRecDepth 100000
set_option maxHeartbeats 4000000
/-! The program's words: what stands at an index, whether it tells a number, whether a row can stand behind others. -/
namespace Lr
open PySem PySem.Spec PyProof.Rows L2 Ow Og Oe TL
def ss (l : List Str) : List V := l.map V.str
theorem ss_len (l : List Str) : (ss l).length = l.length := List.length_map ..
theorem ss_at {l : List Str} {i : Nat} {x : Str} (h : l[i]? = some x) : (ss l)[i]? = some (.str x) := by
  unfold ss
  rw [List.getElem?_map, h]
  rfl
/-! ### any, over integers -/
def rAnyI (K : PySem.W.Frag) : List V → Hp → VK → Prop := fun vs H Q => ∃ (a : Addr) (is : List Int), vs = [V.ref a] ∧ SqL K H a (is.map V.int) ∧ Q (.bl (is.any (· != 0))) H
theorem truth_ints {prog : Program} {w : World} {A : Around} {is : List Int} {its : List Value} (r : Vals (is.map V.int) its) :
    TruthOf prog w A (fun i v => its.toArray[i]? = some v) (fun i => is.getD i 0 != 0) := fun i v s Q E hv hq => by
  have hv' : its[i]? = some v := by simpa using hv
  have hl : is.length = its.length := by
    have := r.length
    rwa [List.length_map] at this
  obtain ⟨hi, _⟩ := List.getElem?_eq_some_iff.mp hv'
  have hx : (is.map V.int)[i]? = some (V.int (is[i]'(by omega))) := by
    rw [List.getElem?_map, List.getElem?_eq_getElem (by omega)]
    rfl
  obtain ⟨u, hu, t, rfl⟩ := r.get hx
  rw [hv'] at hu
  cases hu
  have hg : is.getD i 0 = is[i]'(by omega) := by rw [List.getD_eq_getElem?_getD, List.getElem?_eq_getElem (by omega)] <;> rfl
  have hq' : Q (is.getD i 0 != 0) s := hq
  rw [hg] at hq'
  exact truthy_int hq'
theorem any_rangeI : ∀ is : List Int, (List.range is.length).any (fun i => is.getD i 0 != 0) = is.any (· != 0)
  | [] => rfl
  | b :: bs => by
    rw [List.length_cons, List.range_succ_eq_map, List.any_cons, List.any_map, List.any_cons, ← any_rangeI bs]
    all_goals rfl
theorem cr_anyI {X : Cx} (hc : X.calm = true) : CallR X (.builtin "any") (rAnyI X.K) := by
  intro pins s σ H vs us Q I r h
  obtain ⟨a, is, rfl, hs, q⟩ := h
  obtain ⟨its, rv, hl, _⟩ := I.list hs
  rw [Vals.ref1 r]
  refine call_any_walk (iter_any hl.isList fun s₂ e2 st hne => ?_)
  subst e2
  refine ⟨_, _, _, _, _, _, _, rfl, Walks.list (A := X.A.in1) (I.ok.hd hc) _ a hne its.toArray, st, truth_ints rv, fun h' tk hk => ?_⟩
  refine ⟨.bl _, H, I.kept fun b o eo => hk b o (fun hmem => ?_) (Heap.get?_push_of_some _ eo), ?_, q⟩
  · rcases List.mem_cons.mp hmem with e1 | hmem
    · exact absurd (e1 ▸ Heap.lt_size eo) (Nat.lt_irrefl _)
    · cases hmem
  · show Value.bool _ = Value.bool _
    have : its.toArray.size = is.length := by
      have := rv.length
      rw [List.length_map] at this
      rw [List.size_toArray, ← this]
    rw [← any_rangeI, this]
/-! ### BadText -/
section
variable {P : Program} {w : World} {K : PySem.W.Frag} {mg : Str → Option Value} {base : Heap}
structure ErrT (K : PySem.W.Frag) (mg : Str → Option Value) (C fI : Addr) : Prop where
  T : OexC K C
  iC : PySem.W.findIn K (.ref C) "__init__" = some (some (.ref fI))
  tI : PySem.W.typeIn K (.ref fI) = some (.type "function")
  gC : mg "BadText" = some (.ref C)
  nl : PySem.W.findIn K (.ref C) "line" = some none
  nw : PySem.W.findIn K (.ref C) "word" = some none
/-- raised: a new BadText with this line and word, all else as it was -/
def OutT (E : XK) (C : Addr) (y z : V) (H : Hp) : Prop := ∀ (d : Addr) (H' : Hp), Same H H' → H' d = some (.xd [("word", z), ("line", y)]) → E (.ref C) (some d) H'
theorem OutT.same {E : XK} {C : Addr} {y z : V} {H H1 : Hp} (o : OutT E C y z H) (s : Same H H1) : OutT E C y z H1 := fun d H' s' => o d H' (s.trans s')
def spErT (K : PySem.W.Frag) : Sp := fun vs H Q _ => ∃ (a C : Addr) (y z : V), vs = [.ref a, y, z] ∧ OexC K C ∧ PySem.W.findIn K (.ref C) "line" = some none ∧ PySem.W.findIn K (.ref C) "word" = some none ∧ H a = some (exo a C none) ∧
  ∀ dx, H dx = none → dx ≠ a → Q .non (upd (upd (upd H dx (exd dx [("line", y)])) a (exo a C (some dx))) dx (exd dx [("word", z), ("line", y)]))
theorem raise_outT {C : Addr} {y z : V} {H : Hp} {E Ef : XK} (T : OexC K C) (nl : PySem.W.findIn K (.ref C) "line" = some none) (nw : PySem.W.findIn K (.ref C) "word" = some none) (out : OutT E C y z H) : ∀ a, H a = none → spErT K (.ref a :: ([y, z] ++ [])) (upd H a (exo a C none))
    (fun v H2 => v = .non ∧ ∃ (d : Addr) (fs : List (Str × V)), H2 a = some (exo a C (some d)) ∧ H2 d = some (exd d fs) ∧ H d = none ∧ E (.ref C) (some d) (upd (del H2 a) d (.xd fs))) Ef := by
  intro a na
  refine ⟨a, C, y, z, rfl, T, nl, nw, upd_same, fun dx nd ne => ⟨rfl, dx, _, ?_, upd_same, ?_, out _ _ (fun b o e => ?_) upd_same⟩⟩
  · rw [upd_ne (Ne.symm ne), upd_same]
  · rw [upd_ne ne] at nd
    exact nd
  · have nd' : H dx = none := by
      rw [upd_ne ne] at nd
      exact nd
    have ba : b ≠ a := ne_of_none e na
    have bd : b ≠ dx := ne_of_none e nd'
    rw [upd_ne bd, del_ne ba, upd_ne bd, upd_ne ba, upd_ne bd, upd_ne ba]
    exact e
abbrev s_teI : Stmt := inClass (topS 9) 0
theorem sc_teI : FnScope ["self", "line", "word"] ["self", "line", "word"] (defScope s_teI) := ⟨rfl, rfl, rfl, by decide +kernel, rfl, by decide +kernel, by decide +kernel⟩
theorem ok_teI {f : Addr} {fd : FuncData} (F : Fun K "__init__" "BadText.__init__" s_teI f fd) : FnOk P w K mg base CX0 1 f fd ["self", "line", "word"] (spErT K) := by
  refine F.ok sc_teI (fun vs H Q E h => ?_) (fun cdv A outer s H vs Q E hr h => ?_)
  · obtain ⟨a, C, y, z, rfl, _⟩ := h
    rfl
  · obtain ⟨a, C, y, z, rfl, T, no, no2, ha, q⟩ := h
    refine ⟨_, pss_cons (ps_ost (pv 0) (pv 1)) (pss_one (ps_ost (pv 0) (pv 2))), ?_⟩
    refine ⟨_, rfl, _, rfl, a, C, rfl, T, no, .inl ⟨ha, fun dx nd ne => ?_⟩⟩
    refine ⟨_, rfl, _, rfl, a, C, rfl, T, no2, .inr ⟨dx, _, upd_same, ?_, (by show 1 ≤ 900; omega), q dx nd ne⟩⟩
    rw [upd_ne ne, upd_same]
/-! ### a text's words -/
/-- a value that should be a text -/
inductive TxA (K : PySem.W.Frag) (H : Hp) : V → Option Str → Prop
  | tx (x : Str) (h : x.length ≤ 900) : TxA K H (.str x) (some x)
  | no {v : V} {t : Value} (ty : TyX K H v t) (k : PySem.W.kitOne K t (.type "str") = some false) : TxA K H v none
def spWords (K : PySem.W.Frag) (CT : Addr) : Sp := fun vs H Q E => ∃ (v : V) (o : Option Str), vs = [v] ∧ TxA K H v o ∧ (∀ x, o = some x → ∀ p, H p = none → Q (.ref p) (upd H p (.lst (ss (Txt.split x sp1))))) ∧ (o = none → OutT E CT (vi 0) (vi 0) H)
abbrev s_words_of : Stmt := topS 11
theorem sc_words_of : FnScope ["text"] ["text"] (defScope s_words_of) := ⟨rfl, rfl, rfl, by decide +kernel, rfl, by decide +kernel, by decide +kernel⟩
theorem ok_words {CT fI f : Addr} {fd fdI : FuncData} (F : Fun K "words_of" "words_of" s_words_of f fd) (FB : FnOk P w K mg base CX0 1 fI fdI ["self", "line", "word"] (spErT K)) (bB : Binds K fdI ["self", "line", "word"] []) (R : ErrT K mg CT fI) (T : Nm mg) (gS : mg "str" = none) :
    FnOk P w K mg base (L2.CX P w) 3 f fd ["text"] (spWords K CT) := by
  refine F.okX sc_words_of (fun vs H Q E h => ?_) (fun cdv A outer s H vs Q E hr h => ?_)
  · obtain ⟨v, o, rfl, _⟩ := h
    rfl
  · obtain ⟨v, o, rfl, hv, q1, q2⟩ := h
    refine ⟨_, (pss_cons (ps_if (pt_not (pt_val (pe_callB call_isi (by rfl) T.isi boot_isinstance (pa_cons (pv 0) (pa_cons (pe_bltn (v := .ty "str") (by rfl) gS PyProof.Rows.boot_str rfl) pa_nil))))) (pss_one (ps_raise rfl (takes_of rfl rfl rfl rfl) (pmk_oex R.T R.iC R.tI FB hr bB .nil pass0 rfl R.gC (pa_cons pe_int (pa_cons pe_int pa_nil))))) pss_nil)
      (pss_one (ps_ret (pe_split (pv 0) pe_str)))), ?_⟩
    cases hv with
    | tx x hl =>
      refine ⟨_, rfl, _, _, _, _, true, rfl, .ty "str", .base (.str x), kit_ty (by decide +kernel), true, rfl, iteF ?_⟩
      refine ⟨_, rfl, ⟨x, rfl⟩, x, sp1, rfl, rfl, by decide, ?_, fun p np => q1 x rfl p np⟩
      exact Nat.le_of_lt (small1000 (by omega))
    | no ty k =>
      refine ⟨_, rfl, _, _, _, _, false, rfl, .ty "str", ty, k, false, rfl, iteT ?_⟩
      exact ⟨by decide, raise_outT R.T R.nl R.nw (q2 rfl)⟩
def wV : Option Str → V
  | none => .non
  | some x => .str x
def spWordAt (K : PySem.W.Frag) : Sp := fun vs H Q _ => ∃ (p : Addr) (ws : List Str) (i : Nat), vs = [.ref p, vi i] ∧ SqL K H p (ss ws) ∧ Q (wV ws[i]?) H
abbrev s_word_at : Stmt := topS 12
theorem sc_word_at : FnScope ["words", "at"] ["words", "at"] (defScope s_word_at) := ⟨rfl, rfl, rfl, by decide +kernel, rfl, by decide +kernel, by decide +kernel⟩
theorem ok_wordAt {f : Addr} {fd : FuncData} (F : Fun K "word_at" "word_at" s_word_at f fd) (T : Nm mg) : FnOk P w K mg base CX0 1 f fd ["words", "at"] (spWordAt K) := by
  refine F.ok sc_word_at (fun vs H Q E h => ?_) (fun cdv A outer s H vs Q E hr h => ?_)
  · obtain ⟨p, ws, i, rfl, _⟩ := h
    rfl
  · obtain ⟨p, ws, i, rfl, hp, q⟩ := h
    refine ⟨_, (pss_cons (ps_if (pt_cmpR op_lt (pv 1) (pe_callB call_len_seq (by rfl) T.len boot_len (pa_cons (pv 0) pa_nil)) (nomark _)) (pss_one (ps_ret (pe_ix ix_list (pv 0) (pv 1) (fun _ _ => rfl)))) pss_nil)
      (pss_one (ps_ret pe_non))), ?_⟩
    refine ⟨_, rfl, _, rfl, p, _, rfl, .inl hp, _, _, rfl, rfl, _, rfl, ?_⟩
    rw [ss_len]
    refine ite2 (fun c => ?_) (fun c => ?_)
    · have hi : i < ws.length := by
        have := of_decide_eq_true c
        omega
      rw [List.getElem?_eq_getElem hi] at q
      refine ⟨_, rfl, _, rfl, p, _, _, _, rfl, rfl, hp, ?_, q⟩
      exact atI_nat (ss_at (List.getElem?_eq_getElem hi))
    · have hi : ws.length ≤ i := by simpa using c
      rw [List.getElem?_eq_none hi] at q
      exact q
def spEnded (K : PySem.W.Frag) (CT : Addr) : Sp := fun vs H Q E => ∃ (p : Addr) (ws : List Str) (i : Nat), vs = [.ref p, vi i] ∧ SqL K H p (ss ws) ∧ (i < ws.length → OutT E CT (vi 0) (vi i) H) ∧ (ws.length ≤ i → Q .non H)
abbrev s_ended : Stmt := topS 13
theorem sc_ended : FnScope ["words", "at"] ["words", "at"] (defScope s_ended) := ⟨rfl, rfl, rfl, by decide +kernel, rfl, by decide +kernel, by decide +kernel⟩
theorem ok_ended {CT fI f : Addr} {fd fdI : FuncData} (F : Fun K "ended" "ended" s_ended f fd) (FB : FnOk P w K mg base CX0 1 fI fdI ["self", "line", "word"] (spErT K)) (bB : Binds K fdI ["self", "line", "word"] []) (R : ErrT K mg CT fI) (T : Nm mg) :
    FnOk P w K mg base (L2.CX P w) 3 f fd ["words", "at"] (spEnded K CT) := by
  refine F.okX sc_ended (fun vs H Q E h => ?_) (fun cdv A outer s H vs Q E hr h => ?_)
  · obtain ⟨p, ws, i, rfl, _⟩ := h
    rfl
  · obtain ⟨p, ws, i, rfl, hp, q1, q2⟩ := h
    refine ⟨_, (pss_one (ps_if (pt_cmpR op_lt (pv 1) (pe_callB call_len_seq (by rfl) T.len boot_len (pa_cons (pv 0) pa_nil)) (nomark _)) (pss_one (ps_raise rfl (takes_of rfl rfl rfl rfl) (pmk_oex R.T R.iC R.tI FB hr bB .nil pass0 rfl R.gC (pa_cons pe_int (pa_cons (pv 1) pa_nil))))) pss_nil)), ?_⟩
    refine ⟨_, rfl, _, rfl, p, _, rfl, .inl hp, _, _, rfl, rfl, _, rfl, ?_⟩
    rw [ss_len]
    refine ite2 (fun c => ?_) (fun c => ?_)
    · have := of_decide_eq_true c
      exact ⟨_, rfl, (by show 2 ≤ 1000; omega), raise_outT R.T R.nl R.nw (q1 (by omega))⟩
    · exact q2 (by simpa using c)
end
end Lr

set_option Elab.async false
set_option linter.all false
set_option maxRecDepth 100000
set_option maxHeartbeats 4000000
namespace Lr
open PySem PySem.Spec PyProof.Rows L2 Ow Og Oe TL
def natW (w : Str) : Bool := digs w && !(tl w).isEmpty && (decide ((tl w).head? ≠ some 48) || decide ((tl w).length = 1))
theorem dig_low : ∀ c : Nat, c < 128 → Unicode.isDigit c = (decide (48 ≤ c) && decide (c ≤ 57)) := by decide +kernel
theorem asc_dig (w : Str) : (Txt.isascii w && Txt.isdigit w) = (digs w && !(tl w).isEmpty) := by
  have e1 : Txt.isascii w = (tl w).all (fun c => decide (c < 128)) := by
    unfold Txt.isascii
    rw [← Array.all_toList]
  have e2 : Txt.isdigit w = (decide ((tl w).length > 0) && (tl w).all Unicode.isDigit) := by
    unfold Txt.isdigit
    rw [← Array.all_toList, len_tl]
  rw [e1, e2]
  unfold digs
  generalize tl w = l
  have h : (l.all (fun c => decide (c < 128)) && l.all Unicode.isDigit) = l.all fun c => decide (48 ≤ c) && decide (c ≤ 57) := by
    induction l with
    | nil => rfl
    | cons c l ih =>
      rw [List.all_cons, List.all_cons, List.all_cons, ← ih]
      by_cases hc : c < 128
      · rw [dig_low c hc, decide_eq_true hc]
        generalize (decide (48 ≤ c) && decide (c ≤ 57)) = a
        generalize (l.all fun c => decide (c < 128)) = b
        generalize l.all Unicode.isDigit = d
        cases a <;> cases b <;> cases d <;> rfl
      · rw [decide_eq_false hc, decide_eq_false (show ¬ c ≤ 57 by omega), Bool.and_false, Bool.false_and, Bool.false_and, Bool.false_and]
  rw [← h]
  cases l with
  | nil => rfl
  | cons c l =>
    generalize (c :: l).all (fun c => decide (c < 128)) = a
    generalize (c :: l).all Unicode.isDigit = b
    have : decide ((c :: l).length > 0) = true := decide_eq_true (by simp)
    rw [this]
    cases a <;> cases b <;> rfl
theorem nat_num {w : Str} : (natW w = true ∧ (tl w).length ≤ 5 ∧ 1 ≤ valW w ∧ valW w ≤ 65535) ↔ numW w = some (valW w) := by
  unfold natW numW
  simp only [Bool.and_eq_true, Bool.not_eq_true', List.isEmpty_eq_false_iff, Bool.or_eq_true, decide_eq_true_eq]
  constructor
  · rintro ⟨⟨⟨h1, h2⟩, h3⟩, h4, h5, h6⟩
    rw [if_pos]
    refine ⟨h1, h2, ?_, h4, h6⟩
    rcases h3 with h3 | h3
    · exact h3
    · intro e
      unfold valW at h5
      generalize tl w = l at h2 h3 e h5
      match l, h3 with
      | [c], _ =>
        cases e
        have : NumText.digitsVal [48] = 0 := rfl
        omega
  · intro h
    by_cases c : digs w = true ∧ tl w ≠ [] ∧ (tl w).head? ≠ some 48 ∧ (tl w).length ≤ 5 ∧ valW w ≤ 65535
    · have hp := numW_pos (w := w) (n := valW w) (by unfold numW; exact if_pos c)
      exact ⟨⟨⟨c.1, c.2.1⟩, .inl c.2.2.1⟩, c.2.2.2.1, by omega, c.2.2.2.2⟩
    · rw [if_neg c] at h
      cases h
theorem nat_int {w : Str} (h : natW w = true) (hl : (tl w).length ≤ 5) : intText? w = some ((valW w : Nat) : Int) := by
  unfold natW at h
  simp only [Bool.and_eq_true, Bool.not_eq_true', List.isEmpty_eq_false_iff] at h
  exact PySem.intText_digits (digs_all h.1.1) h.1.2 (by rw [len_tl]; omega)
section
variable {P : Program} {w : World} {K : PySem.W.Frag} {mg : Str → Option Value} {base : Heap}
def spNat : Sp := fun vs H Q _ => ∃ o : Option Str, vs = [wV o] ∧ (∀ x, o = some x → x.length ≤ 1000) ∧ Q (.bl (o.elim false natW)) H
abbrev s_tells_natural : Stmt := topS 14
theorem sc_tells_natural : FnScope ["word"] ["word"] (defScope s_tells_natural) := ⟨rfl, rfl, rfl, by decide +kernel, rfl, by decide +kernel, by decide +kernel⟩
theorem at_head {w : Str} {c : Nat} {r : List Nat} (e : tl w = c :: r) : atI w.cps.toList 0 = some c := atI_nat (j := 0) (by rw [show w.cps.toList = c :: r from e]; rfl)
theorem str1 {a b : Nat} : decide (V.str (⟨#[a]⟩ : Str) = V.str (⟨#[b]⟩ : Str)) = decide (a = b) := by
  by_cases h : a = b
  · rw [h, decide_eq_true rfl, decide_eq_true rfl]
  · rw [decide_eq_false h, decide_eq_false]
    intro z
    injection z with z
    injection z with z
    exact h (by simpa using z)
theorem ok_tellsNat {f : Addr} {fd : FuncData} (F : Fun K "tells_natural" "tells_natural" s_tells_natural f fd) (T : Nm mg) : FnOk P w K mg base CX0 1 f fd ["word"] spNat := by
  refine F.ok sc_tells_natural (fun vs H Q E h => ?_) (fun cdv A outer s H vs Q E hr h => ?_)
  · obtain ⟨o, rfl, _⟩ := h
    rfl
  · obtain ⟨o, rfl, hl, q⟩ := h
    refine ⟨_, (pss_cons (ps_if (PW.pt (pw_or (pt_cmpR op_isN (pv 0) pe_non (nomark _)) (pw_or1 (pt_not (PW.pt (pw_and (pt_val (pe_m0 PySem.F.slot_str_isascii PySem.F.type_str_isascii mt_isascii (pv 0))) (pw_and1 (pt_val (pe_m0 PySem.F.slot_str_isdigit PySem.F.type_str_isdigit mt_isdigit (pv 0)))))))))) (pss_one (ps_ret pe_bl)) pss_nil)
      (pss_one (ps_ret (pe_or (pe_cmpR op_ne (pe_ix ix_str (pv 0) pe_int (fun _ _ => rfl)) pe_str (nomark _)) (pe_one (pe_cmpR op_eq (pe_callB call_len_str (by rfl) T.len boot_len (pa_cons (pv 0) pa_nil)) pe_int (nomark _))))))), ?_⟩
    cases o with
    | none => exact ⟨_, rfl, rfl, true, rfl, iteT (iteT q)⟩
    | some x =>
      have hx := hl x rfl
      have lz := Nat.le_of_lt (small1000 hx)
      have q' : Q (.bl (natW x)) H := q
      have ad := asc_dig x
      refine ⟨_, rfl, rfl, false, rfl, iteF ?_⟩
      refine ⟨_, rfl, ⟨x, rfl⟩, x, rfl, rfl, trivial, _, rfl, ?_⟩
      have bad : (digs x && !(tl x).isEmpty) = false → Q (.bl false) H := fun h => by
        have : natW x = false := by
          unfold natW
          rw [h]
          rfl
        rw [this] at q'
        exact q'
      by_cases c1 : Txt.isascii x = true
      · rw [c1]
        refine iteT ⟨_, rfl, ⟨x, rfl⟩, x, rfl, rfl, trivial, _, rfl, ?_⟩
        by_cases c2 : Txt.isdigit x = true
        · rw [c2]
          refine iteF ?_
          rw [c1, c2] at ad
          have ad' : digs x = true ∧ (!(tl x).isEmpty) = true := by simpa using ad.symm
          obtain ⟨c, r, e⟩ : ∃ c r, tl x = c :: r := by
            have := ad'.2
            generalize tl x = l at this ⊢
            cases l with
            | nil => cases this
            | cons c r => exact ⟨c, r, rfl⟩
          have hn : natW x = (decide (c ≠ 48) || decide ((tl x).length = 1)) := by
            unfold natW
            rw [ad'.1, ad'.2, e]
            simp
          rw [hn] at q'
          refine ⟨_, rfl, _, 0, c, rfl, rfl, lz, at_head e, by rfl, ?_⟩
          have e48 : (!decide (V.str (⟨#[c]⟩ : Str) = V.str ("0" : Str))) = decide (c ≠ 48) := by
            rw [show ("0" : Str) = (⟨#[48]⟩ : Str) from by decide, str1]
            simp
          refine ⟨_, rfl, ?_⟩
          rw [e48]
          by_cases c3 : c ≠ 48
          · rw [decide_eq_true c3] at q' ⊢
            exact iteT q'
          · rw [decide_eq_false c3] at q' ⊢
            refine iteF ⟨_, rfl, x, rfl, lz, by rfl, ?_⟩
            have e1 : decide (V.int ((x.length : Nat) : Int) = V.int 1) = decide ((tl x).length = 1) := by
              rw [← len_tl]
              by_cases h : x.length = 1
              · rw [h]
                rfl
              · rw [decide_eq_false h, decide_eq_false]
                intro z
                injection z with z
                omega
            rw [e1]
            exact q'
        · have c2 : Txt.isdigit x = false := by simpa using c2
          rw [c2]
          refine iteT (bad ?_)
          rw [← ad, c2, Bool.and_false]
      · have c1 : Txt.isascii x = false := by simpa using c1
        rw [c1]
        refine iteF (iteT (bad ?_))
        rw [← ad, c1, Bool.false_and]
end
end Lr

set_option Elab.async false
set_option linter.all false
set_option maxRecDepth 100000
set_option maxHeartbeats 4000000
namespace Lr
open PySem PySem.Spec PyProof.Rows L2 Ow Og Oe TL
theorem five : (Str.ofString (toString (65535 : Int))).length = 5 := by decide +kernel
theorem numW_none {x : Str} (h : ¬ (natW x = true ∧ (tl x).length ≤ 5 ∧ 1 ≤ valW x ∧ valW x ≤ 65535)) : numW x = none := by
  rcases Option.eq_none_or_eq_some (numW x) with e | ⟨n, e⟩
  · exact e
  · have := (numW_some e).2.2.2.2.2
    rw [this] at e
    exact absurd (nat_num.mpr e) h
theorem top_of_bl {m n : Nat} (hm : m ≠ 0) (hn : n ≠ 0) : bl m ≤ bl n ↔ Xr.top m ≤ Xr.top n := by
  rw [bl_eq hm, bl_eq hn]
  omega
theorem beh_last {rows : List Nat} {n o : Nat} (c : Xr.Canon rows) (ho : rows.getLast? = some o) : Beh n rows = (decide (Xr.top o < Xr.top n) && !(rows.any fun r => n.testBit (Xr.top r))) := by
  have om : o ∈ rows := List.mem_of_getLast? ho
  have ol : ∀ r ∈ rows, Xr.top r ≤ Xr.top o := by
    intro r hr
    obtain ⟨ini, e⟩ := List.getLast?_eq_some_iff.mp ho
    rw [e] at hr
    rcases List.mem_append.mp hr with h | h
    · have p := c.2
      rw [e] at p
      have := (List.pairwise_append.mp p).2.2 r h o (List.mem_singleton.mpr rfl)
      apply Classical.byContradiction
      intro k
      have := Xr.lt_of_top_lt (a := o) (b := r) (by omega)
      omega
    · rw [List.mem_singleton.mp h]
      exact Nat.le_refl _
  rw [Bool.eq_iff_iff]
  unfold Beh
  simp only [List.all_eq_true, Bool.and_eq_true, decide_eq_true_eq, Bool.not_eq_true', List.any_eq_false]
  constructor
  · intro h
    exact ⟨(h o om).1, fun r hr => by rw [(h r hr).2]; exact Bool.false_ne_true⟩
  · rintro ⟨h1, h2⟩ r hr
    exact ⟨Nat.lt_of_le_of_lt (ol r hr) h1, by simpa using h2 r hr⟩
section
variable {P : Program} {w : World} {K : PySem.W.Frag} {mg : Str → Option Value} {base : Heap}
def spNumb : Sp := fun vs H Q _ => ∃ o : Option Str, vs = [wV o, .int 1, .int 65535] ∧ (∀ x, o = some x → x.length ≤ 1000) ∧ Q (.bl (o.bind numW).isSome) H
abbrev s_tells_number : Stmt := topS 15
theorem sc_tells_number : FnScope ["word", "least", "most"] ["word", "least", "most"] (defScope s_tells_number) := ⟨rfl, rfl, rfl, by decide +kernel, rfl, by decide +kernel, by decide +kernel⟩
theorem ok_tellsNum {f fN : Addr} {fd fdN : FuncData} (F : Fun K "tells_number" "tells_number" s_tells_number f fd) (FN : Fun K "tells_natural" "tells_natural" s_tells_natural fN fdN) (bN : Binds K fdN ["word"] []) (gN : mg "tells_natural" = some (.ref fN)) (T : Nm mg) (gS : mg "str" = none) :
    FnOk P w K mg base CX0 2 f fd ["word", "least", "most"] spNumb := by
  have GN : FnOk P w K mg base CX0 1 fN fdN ["word"] spNat := ok_tellsNat FN T
  refine F.ok sc_tells_number (fun vs H Q E h => ?_) (fun cdv A outer s H vs Q E hr h => ?_)
  · obtain ⟨o, rfl, _⟩ := h
    rfl
  · obtain ⟨o, rfl, hl, q⟩ := h
    refine ⟨_, (pss_cons (ps_if (PW.pt (pw_or (pt_not (pt_val (pe_call GN hr rfl gN FN.kp bN .nil pass0 (pa_cons (pv 0) pa_nil)))) (pw_or1 (pt_cmpR op_gt (pe_callB call_len_str (by rfl) T.len boot_len (pa_cons (pv 0) pa_nil)) (pe_callB call_len_str (by rfl) T.len boot_len (pa_cons (pe_callTy call_str_int (by rfl) gS PyProof.Rows.boot_str (pa_cons (pv 2) pa_nil)) pa_nil)) (nomark _))))) (pss_one (ps_ret pe_bl)) pss_nil)
      (pss_one (ps_ret (pe_chain op_le op_le (pv 1) (pe_callTy call_int_str (by rfl) T.int PyProof.Rows.boot_int (pa_cons (pv 0) pa_nil)) (pv 2))))), ?_⟩
    refine ⟨_, rfl, o, rfl, hl, ?_⟩
    cases o with
    | none => exact ⟨_, rfl, iteT q⟩
    | some x =>
      have lz := Nat.le_of_lt (small1000 (hl x rfl))
      have q' : Q (.bl (numW x).isSome) H := q
      have bad : ¬ (natW x = true ∧ (tl x).length ≤ 5 ∧ 1 ≤ valW x ∧ valW x ≤ 65535) → Q (.bl false) H := fun h => by
        rw [numW_none h] at q'
        exact q'
      by_cases c1 : natW x = true
      · refine ⟨_, congrArg V.bl c1, iteF ?_⟩
        refine ⟨_, rfl, x, rfl, lz, _, rfl, 65535, rfl, by decide +kernel, _, rfl, ?_, _, _, rfl, rfl, _, rfl, ?_⟩
        · exact Nat.le_trans (Nat.le_of_eq five) (by decide)
        · rw [show ((Str.ofString (toString (65535 : Int))).length : Int) = 5 from by rw [five]; rfl]
          refine ite2 (fun c2 => ?_) (fun c2 => ?_)
          · refine bad fun h => ?_
            have := of_decide_eq_true c2
            rw [len_tl] at this
            omega
          · have h5 : (tl x).length ≤ 5 := by
              have : ¬ (5 : Int) < ((x.length : Nat) : Int) := by simpa using c2
              rw [len_tl] at this
              omega
            refine ⟨_, rfl, _, rfl, x, _, rfl, nat_int c1 h5, by rw [len_tl]; omega, _, _, rfl, rfl, _, rfl, ?_⟩
            refine ite2 (fun c3 => ?_) (fun c3 => ?_)
            · have c3' := of_decide_eq_true c3
              refine ⟨_, rfl, _, _, rfl, rfl, ?_⟩
              show Q (.bl (decide (((valW x : Nat) : Int) ≤ 65535))) H
              by_cases c4 : valW x ≤ 65535
              · have : numW x = some (valW x) := nat_num.mp ⟨c1, h5, by omega, c4⟩
                rw [this] at q'
                rw [decide_eq_true (show ((valW x : Nat) : Int) ≤ 65535 by omega)]
                exact q'
              · rw [decide_eq_false (show ¬ ((valW x : Nat) : Int) ≤ 65535 by omega)]
                exact bad fun h => c4 h.2.2.2
            · have c3' : ¬ (1 : Int) ≤ ((valW x : Nat) : Int) := by simpa using c3
              exact bad fun h => c3' (by have := h.2.2.1; omega)
      · have c1' : natW x = false := by simpa using c1
        refine ⟨_, congrArg V.bl c1', iteT ?_⟩
        exact iteT (bad fun h => c1 h.1)
def spNumAt (K : PySem.W.Frag) (CT : Addr) : Sp := fun vs H Q E => ∃ (p : Addr) (ws : List Str) (i : Nat), vs = [.ref p, vi i, .int 1, .int 65535] ∧ SqL K H p (ss ws) ∧ (∀ x ∈ ws, x.length ≤ 1000) ∧ (∀ n, (ws[i]?).bind numW = some n → Q (vi n) H) ∧ ((ws[i]?).bind numW = none → OutT E CT (vi 0) (vi i) H)
abbrev s_number_at : Stmt := topS 16
theorem sc_number_at : FnScope ["words", "at", "least", "most", "word"] ["words", "at", "least", "most"] (defScope s_number_at) := ⟨rfl, rfl, rfl, by decide +kernel, rfl, by decide +kernel, by decide +kernel⟩
theorem ok_numAt {CT fI f fW fT fN : Addr} {fd fdI fdW fdT fdN : FuncData} (F : Fun K "number_at" "number_at" s_number_at f fd) (FW : Fun K "word_at" "word_at" s_word_at fW fdW) (bW : Binds K fdW ["words", "at"] []) (gW : mg "word_at" = some (.ref fW))
    (FT : Fun K "tells_number" "tells_number" s_tells_number fT fdT) (bT : Binds K fdT ["word", "least", "most"] []) (gT : mg "tells_number" = some (.ref fT)) (FN : Fun K "tells_natural" "tells_natural" s_tells_natural fN fdN) (bN : Binds K fdN ["word"] []) (gN : mg "tells_natural" = some (.ref fN))
    (FB : FnOk P w K mg base CX0 1 fI fdI ["self", "line", "word"] (spErT K)) (bB : Binds K fdI ["self", "line", "word"] []) (R : ErrT K mg CT fI) (T : Nm mg) (gS : mg "str" = none) : FnOk P w K mg base (L2.CX P w) 4 f fd ["words", "at", "least", "most"] (spNumAt K CT) := by
  have GT : FnOk P w K mg base CX0 2 fT fdT ["word", "least", "most"] spNumb := ok_tellsNum FT FN bN gN T gS
  have GW : FnOk P w K mg base CX0 1 fW fdW ["words", "at"] (spWordAt K) := ok_wordAt FW T
  refine F.okX sc_number_at (fun vs H Q E h => ?_) (fun cdv A outer s H vs Q E hr h => ?_)
  · obtain ⟨p, ws, i, rfl, _⟩ := h
    rfl
  · obtain ⟨p, ws, i, rfl, hp, hl, q1, q2⟩ := h
    refine ⟨_, (pss_cons (ps_set (i := 4) sc_number_at.nd rfl (Or.inl rfl) (pe_call GW (hr.mono (by decide)) rfl gW FW.kp bW .nil pass0 (pa_cons (pv 0) (pa_cons (pv 1) pa_nil))))
      (pss_cons (ps_if (pt_not (pt_val (pe_call GT (hr.mono (by decide)) rfl gT FT.kp bT .nil pass0 (pa_cons (pv 4) (pa_cons (pv 2) (pa_cons (pv 3) pa_nil)))))) (pss_one (ps_raise rfl (takes_of rfl rfl rfl rfl) (pmk_oex R.T R.iC R.tI FB (hr.mono (by decide)) bB .nil pass0 rfl R.gC (pa_cons pe_int (pa_cons (pv 1) pa_nil))))) pss_nil)
      (pss_one (ps_ret (pe_callTy call_int_str (by rfl) T.int PyProof.Rows.boot_int (pa_cons (pv 4) pa_nil)))))), ?_⟩
    have hx : ∀ x, ws[i]? = some x → x.length ≤ 1000 := fun x e => hl x (List.mem_of_getElem? e)
    refine ⟨_, rfl, _, rfl, p, ws, i, rfl, hp, ?_⟩
    refine ⟨_, rfl, _, rfl, _, rfl, ws[i]?, rfl, hx, ?_⟩
    rcases Option.eq_none_or_eq_some ((ws[i]?).bind numW) with e | ⟨n, e⟩
    · rw [e]
      exact ⟨_, rfl, iteT ⟨_, rfl, (by show 2 ≤ 1000; omega), raise_outT R.T R.nl R.nw (q2 e)⟩⟩
    · rw [e]
      refine ⟨_, rfl, iteF ?_⟩
      obtain ⟨x, ex, en⟩ := Option.bind_eq_some_iff.mp e
      have nn := (numW_some en).2.2.2.2.2
      have hn := nat_num.mpr (by rw [← nn]; exact en)
      have lx := hn.2.1
      refine ⟨_, rfl, x, _, congrArg (fun o => [wV o]) ex, nat_int hn.1 hn.2.1, by rw [len_tl]; omega, ?_⟩
      rw [← nn]
      exact q1 n e
def spBeh (K : PySem.W.Frag) : Sp := fun vs H Q _ => ∃ (p : Addr) (rows : List Nat) (n : Nat), vs = [vi n, .ref p] ∧ SqL K H p (ri rows) ∧ Xr.Canon rows ∧ rows ≠ [] ∧ n ≠ 0 ∧ rows.length ≤ 1000 ∧ ∀ H', Same H H' → Q (.bl (Beh n rows)) H'
abbrev s_stands_behind : Stmt := topS 18
theorem sc_stands_behind : FnScope ["row", "rows", "other"] ["row", "rows"] (defScope s_stands_behind) := ⟨rfl, rfl, rfl, by decide +kernel, rfl, by decide +kernel, by decide +kernel⟩
theorem ok_behind {f : Addr} {fd : FuncData} (F : Fun K "stands_behind" "stands_behind" s_stands_behind f fd) (T : Nm mg) (gA : mg "any" = none) : FnOk P w K mg base CX0 1 f fd ["row", "rows"] (spBeh K) := by
  refine F.ok sc_stands_behind (fun vs H Q E h => ?_) (fun cdv A outer s H vs Q E hr h => ?_)
  · obtain ⟨p, rows, n, rfl, _⟩ := h
    rfl
  · obtain ⟨p, rows, n, rfl, hp, c, ne, n0, hl, q⟩ := h
    refine ⟨_, (pss_cons (ps_if (pt_cmpR op_le (pe_bits (pv 0)) (pe_bits (pe_ix ix_list (pv 1) (pe_un un_neg pe_int) (fun _ _ => rfl))) (nomark _)) (pss_one (ps_ret pe_bl)) pss_nil)
      (pss_one (ps_ret (pe_not (pe_callB (cr_anyI rfl) (by rfl) gA PyProof.Rows.boot_any (pa_cons (pe_lc (own := [("other", 2)]) (g := (gName 2)) (tt := tYes) rfl sc_stands_behind.nd (pi_list (pv 1)) (blkOk_by (by kernel_rfl)) (fun _ _ _ _ _ => pg_name (i := 2) sc_stands_behind.nd rfl (Or.inl rfl)) (fun _ _ _ _ _ => pts_nil) (fun _ _ _ _ _ => (pe_op op_and (pe_op op_shr (pv 0) (pe_op op_sub (pe_bits (pv 2)) pe_int)) pe_int))) pa_nil)))))), ?_⟩
    obtain ⟨o, ho⟩ : ∃ o, rows.getLast? = some o := by
      cases h : rows.getLast? with
      | none => exact absurd (List.getLast?_eq_none_iff.mp h) ne
      | some o => exact ⟨o, rfl⟩
    obtain ⟨ini, ei⟩ := List.getLast?_eq_some_iff.mp ho
    have o0 : o ≠ 0 := c.1.1 o (List.mem_of_getLast? ho)
    have eb := beh_last (n := n) c ho
    have hlast : atI (ri rows) (-1) = some (vi o) := by
      rw [ei, ri_append]
      exact atI_last (ri ini) (vi o)
    refine ⟨_, rfl, _, rfl, _, rfl, _, rfl, p, _, _, _, rfl, rfl, hp, hlast, _, rfl, _, _, rfl, rfl, _, rfl, ?_⟩
    · show if decide (((bl n : Nat) : Int) ≤ ((bl o : Nat) : Int)) = true then _ else _
      refine ite2 (fun k => ?_) (fun k => ?_)
      · have k' := of_decide_eq_true k
        have : Xr.top n ≤ Xr.top o := (top_of_bl n0 o0).mp (by omega)
        rw [decide_eq_false (show ¬ Xr.top o < Xr.top n by omega), Bool.false_and] at eb
        rw [eb] at q
        exact q H (fun _ _ e => e)
      · have k' : ¬ ((bl n : Nat) : Int) ≤ ((bl o : Nat) : Int) := by simpa using k
        have : Xr.top o < Xr.top n := by
          have := (not_congr (top_of_bl n0 o0)).mp (by omega)
          omega
        rw [decide_eq_true this, Bool.true_and] at eb
        refine ⟨_, rfl, p, rfl, ⟨_, hp⟩, fun D nD => ?_⟩
        refine lc_list (K := K) (a := p) (xs := ri rows) (fun j H3 => Same H H3 ∧ H3 D = some (.lst (((rows.take j).map fun r => Builtin.bitAnd ((n : Int) / 2 ^ ((Xr.top r : Nat) : Int).toNat) 1).map V.int))) ⟨same_upd nD, upd_same⟩ (fun j H3 _ ⟨e, _⟩ => e.seq hp) ?_ ?_
        · rintro j z H3 hj ⟨s3, e3⟩
          obtain ⟨r, hr', rfl⟩ := ri_get hj
          have r0 : r ≠ 0 := c.1.1 r (List.mem_of_getElem? hr')
          have et := intBits_nat r0
          refine ⟨rfl, _, rfl, _, rfl, _, rfl, _, _, rfl, rfl, _, _, rfl, rfl, by rw [et]; omega, _, _, rfl, rfl, _, e3, ?_, same_put s3 nD, ?_⟩
          · rw [List.length_map, List.length_map, List.length_take]
            exact small1000 (by omega)
          · rw [upd_same, List.take_add_one, hr', List.map_append, List.map_append, et]
            rfl
        · rintro H3 ⟨s3, e3⟩
          rw [ri_len, List.take_length] at e3
          refine ⟨D, _, rfl, .of e3, _, rfl, ?_⟩
          have e : (rows.map fun r => Builtin.bitAnd ((n : Int) / 2 ^ ((Xr.top r : Nat) : Int).toNat) 1).any (· != 0) = rows.any fun r => n.testBit (Xr.top r) := by
            rw [List.any_map]
            congr 1
            funext r
            exact shr_bit n (Xr.top r)
          rw [e, ← eb]
          exact q H3 s3
end
end Lr

set_option Elab.async false
set_option linter.all false
set_option maxRecDepth 100000
set_option maxHeartbeats 4000000
namespace Lr
open PySem PySem.Spec PyProof.Rows L2 Ow Og Oe TL
theorem numS_len {n : Nat} (h : n < 2 ^ 16) : (numS n).length ≤ 5 := by
  rw [len_tl, show tl (numS n) = numL n from tl_num n]
  exact numL_len (by decide) (by omega)
theorem scan_inr : ∀ (ws : List Str) (rows : List Nat) (i : Nat) (r : List Nat), scan ws rows i = .inr r → Xr.Canon rows → (∀ x ∈ rows, x < 2 ^ 16) → Xr.Canon r ∧ (∀ x ∈ r, x < 2 ^ 16) ∧ r.map numS = rows.map numS ++ ws
  | [], rows, i, r, h, c, lt => by
    rw [scan] at h
    cases h
    exact ⟨c, lt, by rw [List.append_nil]⟩
  | x :: ws, rows, i, r, h, c, lt => by
    cases e : numW x with
    | none =>
      rw [scan_none e] at h
      cases h
    | some n =>
      cases b : Beh n rows with
      | false =>
        rw [scan_no e b] at h
        cases h
      | true =>
        rw [scan_yes e b] at h
        have n0 : n ≠ 0 := Nat.ne_of_gt (numW_pos e)
        obtain ⟨h1, h2, h3⟩ := scan_inr ws _ _ r h (canon_snoc c n0 b) (fun y hy => by
          rcases List.mem_append.mp hy with hy | hy
          · exact lt y hy
          · rw [List.mem_singleton.mp hy]
            have := (numW_some e).2.2.2.2.1
            omega)
        refine ⟨h1, h2, ?_⟩
        rw [h3, List.map_append, List.map_singleton, numW_str e, List.append_assoc]
        rfl
theorem canon_nil : Xr.Canon [] := ⟨Xr.Red.nil, .nil⟩
theorem due_inr {ws : List Str} {r : List Nat} (h : due ws = .inr r) (ne : ws ≠ []) : Xr.Canon r ∧ (∀ x ∈ r, x < 2 ^ 16) ∧ pageOf r = Txt.join sp1 ws := by
  unfold due at h
  by_cases c : ws[0]? = some ("-" : Str)
  · rw [if_pos c] at h
    by_cases c2 : ws.length = 1
    · rw [if_pos c2] at h
      cases h
      refine ⟨canon_nil, fun x hx => (by cases hx), ?_⟩
      match ws, c2 with
      | [x], _ =>
        cases c
        rw [join_eq]
        rfl
    · rw [if_neg c2] at h
      cases h
  · rw [if_neg c] at h
    obtain ⟨h1, h2, h3⟩ := scan_inr ws [] 0 r h canon_nil (fun x hx => (by cases hx))
    refine ⟨h1, h2, ?_⟩
    rw [List.map_nil, List.nil_append] at h3
    unfold pageOf
    rw [h3, if_neg]
    · rfl
    · intro e
      rw [e] at h3
      exact ne h3.symm
section
variable {X : Cx} {CX : CXT} {C f : Addr} {sp : Sp} {E : XK} {k : Nat} {x : Str} {e : Expr} {te tn : TE} {p pos sp_ : Pos}
/-- c(*e), c a name that stands for the class -/
theorem pe_makeLS (M : Mk X.K C f) (F : FnR X.prog X.w X.K X.mg X.base CX k f sp) (hr : Room (k + 1) X.A) (hn : PE X (.Name x p) tn) (hx : Passes CX X E) (he : PE X e te)
    (hst : starEach [.Starred e sp_] X.env = [(true, eval e X.env)] := by rfl) :
    PE X (.Call (.Name x p) [.Starred e sp_] [] pos) (fun σ H Q => tn σ H fun y0 H0 => y0 = V.ref C ∧ te σ H0 fun y H1 => ∃ a xs, y = V.ref a ∧ (SqT X.K H1 a xs ∨ SqL X.K H1 a xs) ∧ mkAsk C sp E xs H1 Q) := by
  refine ⟨fun pins s σ H Q I h => ?_⟩
  refine wpAny_Call_Name_kw (thn (hn.run pins s σ H _ I h) fun f0 s0 ⟨y0, H0, I0, r0, e0, q0⟩ => ?_)
  subst e0
  obtain rfl : f0 = Value.ref C := r0
  refine PySem.W.callWith_S (h₀ := X.base) I.ok.mod.kin M.kp (thn (he.run pins s0 σ H0 _ I0 q0) fun v s1 ⟨y, H1, I1, ry, a, xs, ey, hxs, q⟩ => ?_) hst
  subst ey
  obtain rfl : v = Value.ref a := ry
  exact StX.star_any I1 hxs fun us s2 I2 rv => ⟨I2.kIn, StX.run_makeR M F hr hx I2 rv q⟩
end
section
variable {P : Program} {w : World} {K : PySem.W.Frag} {mg : Str → Option Value} {base : Heap}
def spRows (K : PySem.W.Frag) (CT : Addr) : Sp := fun vs H Q E => ∃ (p : Addr) (ws : List Str), vs = [.ref p, vi 0] ∧ H p = some (.lst (ss ws)) ∧ ws ≠ [] ∧ ws.length ≤ 1000 ∧ (∀ x ∈ ws, x.length ≤ 1000) ∧
  (∀ k, due ws = .inl k → OutT E CT (vi 0) (vi k) H) ∧ (∀ rows, due ws = .inr rows → ∀ t H', Same H H' → H' t = some (.tup (ri rows)) → Q (.ref t) H')
abbrev s_space_rows : Stmt := topS 17
theorem sc_space_rows : FnScope ["words", "at", "rows", "place", "row"] ["words", "at"] (defScope s_space_rows) := ⟨rfl, rfl, rfl, by decide +kernel, rfl, by decide +kernel, by decide +kernel⟩
theorem ok_rows {CT f fW fE fM fB : Addr} {fd fdW fdE fdM fdB : FuncData} (F : Fun K "space_rows" "space_rows" s_space_rows f fd) (FW : Fun K "word_at" "word_at" s_word_at fW fdW) (bW : Binds K fdW ["words", "at"] []) (gW : mg "word_at" = some (.ref fW))
    (FE : Fun K "ended" "ended" s_ended fE fdE) (bE : Binds K fdE ["words", "at"] []) (gE : mg "ended" = some (.ref fE)) (GE : FnOk P w K mg base (L2.CX P w) 3 fE fdE ["words", "at"] (spEnded K CT))
    (FM : Fun K "number_at" "number_at" s_number_at fM fdM) (bM : Binds K fdM ["words", "at", "least", "most"] []) (gM : mg "number_at" = some (.ref fM)) (GM : FnOk P w K mg base (L2.CX P w) 4 fM fdM ["words", "at", "least", "most"] (spNumAt K CT))
    (FB : Fun K "stands_behind" "stands_behind" s_stands_behind fB fdB) (bB : Binds K fdB ["row", "rows"] []) (gB : mg "stands_behind" = some (.ref fB)) {fI : Addr} {fdI : FuncData} (FT : FnOk P w K mg base CX0 1 fI fdI ["self", "line", "word"] (spErT K)) (bT : Binds K fdI ["self", "line", "word"] []) (R : ErrT K mg CT fI) (T : Nm mg) (gA : mg "any" = none) :
    FnOk P w K mg base (L2.CX P w) 5 f fd ["words", "at"] (spRows K CT) := by
  have GW : FnOk P w K mg base CX0 1 fW fdW ["words", "at"] (spWordAt K) := ok_wordAt FW T
  have GB : FnOk P w K mg base CX0 1 fB fdB ["row", "rows"] (spBeh K) := ok_behind FB T gA
  obtain ⟨tb, gMB⟩ := T.mb
  refine F.okX sc_space_rows (fun vs H Q E h => ?_) (fun cdv A outer s H vs Q E hr h => ?_)
  · obtain ⟨p, ws, rfl, _⟩ := h
    rfl
  · obtain ⟨p, ws, rfl, hp, ne, hl, hx, q1, q2⟩ := h
    refine ⟨_, (pss_cons (ps_if (pt_cmpR op_eq (pe_call GW (hr.mono (by decide)) rfl gW FW.kp bW .nil pass0 (pa_cons (pv 0) (pa_cons (pv 1) pa_nil))) pe_str (nomark _)) (pss_cons (ps_expr (pe_call GE (hr.mono (by decide)) rfl gE FE.kp bE .nil (passes_call (takes_of rfl rfl rfl rfl) (fun _ _ _ _ h => h)) (pa_cons (pv 0) (pa_cons (pe_op op_add (pv 1) pe_int) pa_nil))))
      (pss_one (ps_ret (pe_tup pa_nil)))) pss_nil)
      (pss_cons (ps_set (i := 2) sc_space_rows.nd rfl (Or.inl rfl) (pe_lst (pa_cons (pe_call GM hr rfl gM FM.kp bM .nil (passes_call (takes_of rfl rfl rfl rfl) (fun _ _ _ _ h => h)) (pa_cons (pv 0) (pa_cons (pv 1) (pa_cons pe_int (pa_cons (pe_glob (v := .int 65535) rfl gMB ⟨_, rfl⟩) pa_nil))))) pa_nil)))
      (pss_cons (ps_for (passes_of rfl) rfl (pi_range2 rfl T.range (pa_cons (pe_op op_add (pv 1) pe_int) (pa_cons (pe_callB call_len_seq (by rfl) T.len boot_len (pa_cons (pv 0) pa_nil)) pa_nil))) (pg_name (i := 3) sc_space_rows.nd rfl (Or.inl rfl))
      (pss_cons (ps_set (i := 4) sc_space_rows.nd rfl (Or.inl rfl) (pe_call GM hr rfl gM FM.kp bM .nil (passes_call (takes_of rfl rfl rfl rfl) (fun _ _ _ _ h => h)) (pa_cons (pv 0) (pa_cons (pv 3) (pa_cons pe_int (pa_cons (pe_glob (v := .int 65535) rfl gMB ⟨_, rfl⟩) pa_nil))))))
      (pss_cons (ps_if (pt_not (pt_val (pe_call GB (hr.mono (by decide)) rfl gB FB.kp bB .nil pass0 (pa_cons (pv 4) (pa_cons (pv 2) pa_nil))))) (pss_one (ps_raise rfl (takes_of rfl rfl rfl rfl) (pmk_oex R.T R.iC R.tI FT (hr.mono (by decide)) bT .nil pass0 rfl R.gC (pa_cons pe_int (pa_cons (pv 3) pa_nil))))) pss_nil)
      (pss_one (ps_expr (pe_bm PySem.F.plainAttrs_list PySem.F.slot_list_append PySem.F.type_list_append mt_append (pv 2) (pa_cons (pv 4) pa_nil)))))))
      (pss_one (ps_ret (pe_callTy call_tuple_of (by rfl) T.tuple PyProof.Rows.boot_tuple (pa_cons (pv 2) pa_nil))))))), ?_⟩
    have l0 : 0 < ws.length := List.length_pos_iff.mpr ne
    obtain ⟨x0, hx0⟩ : ∃ x0, ws[0]? = some x0 := ⟨ws[0], List.getElem?_eq_getElem l0⟩
    refine ⟨_, rfl, _, rfl, p, ws, 0, rfl, .of hp, ?_⟩
    rw [hx0]
    refine ⟨by rfl, _, rfl, ?_⟩
    refine ite2 (fun c => ?_) (fun c => ?_)
    · have e0 : x0 = ("-" : Str) := by
        have := of_decide_eq_true c
        injection this
      subst e0
      refine ⟨_, rfl, _, rfl, _, _, rfl, rfl, p, ws, 1, rfl, .of hp, fun k => ?_, fun k => ?_⟩
      · refine q1 1 ?_
        unfold due
        rw [if_pos hx0, if_neg (by omega)]
      · refine ⟨Nat.zero_le _, fun t nt => q2 [] ?_ t _ (same_upd nt) upd_same⟩
        unfold due
        rw [if_pos hx0, if_pos (by omega)]
    · have e0 : ws[0]? ≠ some ("-" : Str) := by
        rw [hx0]
        intro z
        cases z
        exact c rfl
      have ed : due ws = scan ws [] 0 := by
        unfold due
        rw [if_neg e0]
      rw [ed] at q1 q2
      have m0 := Mid.zero ws
      refine ⟨_, rfl, _, rfl, p, ws, 0, rfl, .of hp, hx, fun n hn => ?_, fun hn => q1 0 (m0.none hx0 (by rw [hx0] at hn; exact hn))⟩
      have hn' : numW x0 = some n := by
        rw [hx0] at hn
        exact hn
      have m1 := m0.step hx0 hn' (by rfl)
      refine ⟨by show 1 ≤ sizeLine; exact Nat.le_of_lt (small1000 (by omega)), fun L nL => ?_⟩
      have s1 := same_upd (o := HO.lst [vi n]) nL
      refine ⟨_, rfl, _, _, rfl, rfl, _, rfl, p, _, rfl, .inl (.of (s1 _ _ hp)), _, _, rfl, ⟨by decide, by decide, ?_, ?_⟩, ?_⟩
      · rw [ss_len]
        omega
      · rw [ss_len]
        omega
      have en : ((((ss ws).length : Nat) : Int) - (((0 : Nat) : Int) + 1)).toNat = ws.length - 1 := by
        rw [ss_len]
        omega
      rw [en]
      refine for_range (lo := ((0 : Nat) : Int) + 1) (n := ws.length - 1) (fun i σ H' => ∃ (rows : List Nat) (v3 v4 : Option V), σ = [some (.ref p), some (vi 0), some (.ref L), v3, v4] ∧ H' L = some (.lst (ri rows)) ∧ Mid ws (i + 1) rows ∧ Same H H') ⟨[n], none, none, rfl, upd_same, m1, s1⟩ ?_ ?_
      · rintro i σ H2 hi ⟨rows, v3, v4, rfl, hL, m, s2⟩
        have hi2 : i + 1 < ws.length := by omega
        obtain ⟨xw, hxw⟩ : ∃ y, ws[i + 1]? = some y := ⟨ws[i + 1], List.getElem?_eq_getElem hi2⟩
        have ei : (((0 : Nat) : Int) + 1 + (i : Int)) = ((i + 1 : Nat) : Int) := by omega
        rw [ei]
        refine ⟨_, rfl, _, rfl, p, ws, i + 1, rfl, .of (s2 _ _ hp), hx, fun r hr' => ?_, fun hn => (q1 (i + 1) (m.none hxw (by rw [hxw] at hn; exact hn))).same s2⟩
        have hr2 : numW xw = some r := by
          rw [hxw] at hr'
          exact hr'
        have r0 : r ≠ 0 := Nat.ne_of_gt (numW_pos hr2)
        have rl : rows.length = i + 1 := m.len
        refine ⟨_, rfl, _, rfl, L, rows, r, rfl, .of hL, m.canon, ?_, r0, by omega, fun H3 s3 => ?_⟩
        · intro z
          rw [z] at rl
          simp at rl
        cases hb : Beh r rows with
        | false => exact ⟨_, rfl, iteT ⟨_, rfl, (by show 2 ≤ 1000; omega), raise_outT R.T R.nl R.nw ((q1 (i + 1) (m.no hxw hr2 hb)).same (s2.trans s3))⟩⟩
        | true =>
          refine ⟨_, rfl, iteF ?_⟩
          have hL3 := s3 _ _ hL
          refine ⟨_, rfl, .inl ⟨rfl, _, .of hL3⟩, _, rfl, L, _, _, rfl, rfl, hL3, small1000 (by rw [ri_len]; omega), ?_⟩
          refine ⟨rows ++ [r], _, _, rfl, ?_, m.step hxw hr2 hb, same_put (s2.trans s3) nL⟩
          rw [upd_same, ri_append]
          rfl
      · rintro σ H2 ⟨rows, v3, v4, rfl, hL, m, s2⟩
        have el : ws.length - 1 + 1 = ws.length := by omega
        rw [el] at m
        refine ⟨_, rfl, L, _, rfl, .inl ⟨.of hL, fun t nt => q2 rows m.done t _ (s2.trans (same_upd nt)) upd_same⟩⟩
end
end Lr

set_option Elab.async false
set_option linter.all false
set_option maxRecDepth 100000
set_option maxHeartbeats 4000000
/-! str(x), x an instance with a __str__ of its own; C.m(k = v), m a class method. -/
namespace Ow
open PySem PySem.Spec PyProof.Rows L2
section
variable {X : Cx} {CX : CXT} {C g : Addr} {sp : Sp} {E : XK} {n : Nat}
def rStrO (C : Addr) (sp : Sp) (E : XK) : List V → Hp → VK → Prop := fun xs H Q => ∃ a dx fs, xs = [V.ref a] ∧ H a = some (.ins C dx fs) ∧ sp [.ref a] H (fun v H' => ∃ y : Str, v = .str y ∧ Q v H') E
theorem call_strO (hs : PySem.W.findIn X.K (.ref C) "__str__" = some (some (.ref g))) (hf : PySem.W.isFn X.K (.ref g) = true) (F : FnR X.prog X.w X.K X.mg X.base CX n g sp) (hr : Room (n + 2) X.A) (hx : Passes CX X E) : CallR X (.type "str") (rStrO C sp E) := by
  intro pins s σ H xs us Q I r h
  obtain ⟨a, dx, fs, rfl, ha, q⟩ := h
  obtain ⟨u, rfl, ru⟩ := r.one
  cases (show u = Value.ref a from ru)
  obtain ⟨ox, od, J, _⟩ := StX.insC_at (X := X) I (.inr ⟨dx, fs, ha⟩)
  have hr2 : Room n X.A.in1.in1 := hr.in1.in1
  refine PySem.W.kso_call (Nat.lt_of_succ_lt (hu_of hr2)) I.kIn J hs hf (wpAny_mono (wpAny_call (SlX.run_at (us := [.ref a]) (ws := [.ref a]) F hr2 I.env0.in1.in1 hx I (.cons rfl .nil) q)) (fun w s' z => ?_) fun _ _ e => e)
  obtain ⟨z', H', I', rz, y, ey, qz⟩ := z
  subst ey
  obtain ⟨t, e⟩ := (show ∃ t, w = Value.str y t from rz)
  subst e
  exact ⟨.str y, H', I', ⟨_, rfl⟩, qz⟩
end
def tCMethK (C : Addr) (nk : Nat) (sp : Sp) (E : XK) (ta : TE) (tk : TA) : TE := fun σ H Q => ta σ H fun x H1 => x = .ref C ∧ tk σ H1 fun zs H2 => zs.length = nk ∧ sp (.ref C :: zs) H2 Q E
section
variable {X : Cx} {CX : CXT} {C g : Addr} {sp : Sp} {E : XK}
theorem pe_cmethK {fd : FuncData} {ps ks : List Str} {m : Str} {k : Nat} {mc : Value} {p : Addr} {pl : Sem Bool} {o : Expr} {kws : List Keyword} {ta : TE} {tk : TA} {apos pos : Pos} (he : PE X o ta) (r : ClX.CRead X.K C mc) (c : ClX.CMet X.K C mc m p g) (F : FnOk X.prog X.w X.K X.mg X.base CX k g fd ps sp) (hr : Room k X.A) (hb : KB1 X.K fd ps ks) (hx : Passes CX X E)
    (hkw : PK X kws tk) (hall : (backToKw pos (keywordEach kws X.env)).all (·.1.isSome) = true := by rfl) (hks : (backToKw pos (keywordEach kws X.env)).filterMap (·.1) = ks := by rfl)
    (hpl : ((backTo pos (starEach [] X.env)).any (·.1) || (backToKw pos (keywordEach kws X.env)).any (·.1.isNone)) = false := by rfl)
    (ht : eval (.Call (.Attribute o m apos) [] kws pos) X.env = (do
      let ov ← eval o X.env
      standAt apos.atName
      let (f, first) ← holding [ov] (getMethod ov m pl)
      callWith pos f first (backTo pos (starEach [] X.env)) (backToKw pos (keywordEach kws X.env))) := by rfl) :
    PE X (.Call (.Attribute o m apos) [] kws pos) (tCMethK C ks.length sp E ta tk) := by
  refine ⟨fun pins s σ H Q I h => ?_⟩
  refine PySem.W.methodCall_KW (pl := pl) (thn (he.run pins s σ H _ I h) fun u s1 ⟨x, H1, I1, rx, ex, q⟩ => ?_) ht
  subst ex
  obtain rfl : u = Value.ref C := rx
  refine ClX.getmethcm_ok I1 r c fun s2 I2 => ?_
  refine PySem.W.callWith_of hpl (PySem.W.keeps_M (K := X.K) (self := .ref C) c.fi) (PyProof.Rows.evalArgs_kw2_nil hall ?_)
  refine thn (hkw.run pos _ _ σ H1 _ I2 q) fun ws s3 ⟨zs, H2, I3, rz, hl, q2⟩ => ⟨⟨ClX.pin_at I3, I3.kIn⟩, ?_⟩
  rw [hks]
  have hlw : ws.length = ks.length := by rw [← rz.length]; exact hl
  refine wpAny_call (PySem.W.method_call (ClX.pin_at I3) (codeAny_mono (F.run X.A X.stack s3 H2 ⟨[.ref C], ks.zip ws⟩ (.ref C :: ws) (.ref C :: zs) Q E hr I3.env0 (hb s3 (.ref C) ws I3.kIn hlw) (.cons rfl rz) q2) fun r s' hq => ?_))
  cases r with
  | error e => exact hx _ σ H2 s3 e s' I3 hq
  | ok fl =>
    cases fl with
    | ret u => exact ClX.unpinE (I3.after hq)
    | next => exact False.elim hq
    | brk => exact False.elim hq
    | cont => exact False.elim hq
end
end Ow
namespace Lr
open PySem PySem.Spec PyProof.Rows L2 Ow Og Oe TL
theorem joinL_len (S : List Nat) : ∀ parts : List (List Nat), (joinL S parts).length ≤ (parts.map List.length).sum + parts.length * S.length
  | [] => Nat.zero_le _
  | [p] => by
    show p.length ≤ _
    simp
  | p :: q :: r => by
    have ih := joinL_len S (q :: r)
    show (p ++ (S ++ joinL S (q :: r))).length ≤ _
    rw [List.length_append, List.length_append, List.map_cons, List.sum_cons, List.length_cons, Nat.succ_mul]
    omega
theorem sum_le {α : Type} (f : α → Nat) (k : Nat) : ∀ l : List α, (∀ x ∈ l, f x ≤ k) → (l.map f).sum ≤ l.length * k
  | [], _ => by simp
  | x :: l, h => by
    have := sum_le f k l fun y hy => h y (List.mem_cons_of_mem _ hy)
    have := h x List.mem_cons_self
    rw [List.map_cons, List.sum_cons, List.length_cons, Nat.succ_mul]
    omega
theorem join_len (ys : List Str) : (Txt.join sp1 ys).length ≤ (ys.map (·.length)).sum + ys.length := by
  rw [join_eq, len_tl, tl_join]
  have := joinL_len (tl sp1) (ys.map tl)
  rw [List.map_map, List.length_map, show (tl sp1).length = 1 from by decide, Nat.mul_one] at this
  refine Nat.le_trans this (Nat.le_of_eq ?_)
  congr 2
theorem page_len {m : List Nat} (h : ∀ r ∈ m, r < 2 ^ 16) (hl : m.length ≤ 16) : (pageOf m).length ≤ 96 := by
  unfold pageOf
  by_cases e : m = []
  · rw [if_pos e]
    decide
  · rw [if_neg e]
    refine Nat.le_trans (join_len _) ?_
    rw [List.map_map, List.length_map]
    have := sum_le (fun n => (numS n).length) 5 m fun x hx => numS_len (h x hx)
    show (m.map fun n => (numS n).length).sum + m.length ≤ 96
    omega
section
variable {P : Program} {w : World} {K : PySem.W.Frag} {mg : Str → Option Value} {base : Heap}
abbrev s_str : Stmt := inClass (topS 23) 6
theorem sc_str : FnScope ["self", "row"] ["self"] (defScope s_str) := ⟨rfl, rfl, rfl, by decide +kernel, rfl, by decide +kernel, by decide +kernel⟩
def spStr (C : Addr) : Sp := fun vs H Q _ => ∃ (x : Addr) (m : List Nat), vs = [.ref x] ∧ SpA C H x m ∧ ∀ H', Same H H' → Q (.str (pageOf m)) H'
theorem ok_str {C f : Addr} {fd : FuncData} (F : Fun K "__str__" "Space.__str__" s_str f fd) (T : Nm mg) (S : Cs K mg C) (gS : mg "str" = none) : FnOk P w K mg base CX0 1 f fd ["self"] (spStr C) := by
  refine F.ok sc_str (fun vs H Q E h => ?_) (fun cdv A outer s H vs Q E hr h => ?_)
  · obtain ⟨x, m, rfl, _⟩ := h
    rfl
  · obtain ⟨x, m, rfl, hS, q⟩ := h
    have hl := hS.len
    obtain ⟨dx, t, hx, ht, ca, ha⟩ := hS
    refine ⟨_, (pss_cons (ps_if (pt_not (pt_tru (pe_fld (pv 0) rfl) (fun _ => rfl))) (pss_one (ps_ret pe_str)) pss_nil)
      (pss_one (ps_ret (pe_join pe_str (pe_lc (wi := iTup K (tFld K (tVar 0) "rows")) (own := [("row", 1)]) (g := (gName 1)) (tt := tYes) rfl sc_str.nd (by exact pi_tup (pe_fld (pv 0) rfl)) (blkOk_by (by kernel_rfl)) (fun _ _ _ _ _ => pg_name (i := 1) sc_str.nd rfl (Or.inl rfl)) (fun _ _ _ _ _ => pts_nil) (fun _ _ _ _ _ => (pe_callTy call_str_int (by rfl) gS PyProof.Rows.boot_str (pa_cons (pv 1) pa_nil)))))))), ?_⟩
    refine ⟨_, rfl, x, C, dx, _, _, rfl, hx, S.cl, S.nR, lookup_rows, !(ri m).isEmpty, .inr (.inl ⟨_, .of ht, rfl⟩), ?_⟩
    cases m with
    | nil => exact iteT (q H fun _ _ e => e)
    | cons m0 mr =>
      have me0 : m0 :: mr ≠ [] := fun z => nomatch z
      refine iteF ?_
      generalize m0 :: mr = m at hl ht ca ha q me0
      have me := me0
      refine ⟨⟨_, rfl⟩, _, rfl, x, C, dx, _, _, rfl, hx, S.cl, S.nR, lookup_rows, t, rfl, ⟨_, .of ht⟩, fun D nD => ?_⟩
      refine lc_tup (K := K) (a := t) (xs := ri m) (fun j H3 => Same H H3 ∧ H3 D = some (.lst (ss ((m.take j).map numS)))) ⟨same_upd nD, upd_same⟩ (fun j H3 _ ⟨e, _⟩ => .of (e _ _ ht)) ?_ ?_
      · rintro j z H3 hj ⟨s3, e3⟩
        obtain ⟨r, hr', rfl⟩ := ri_get hj
        have r16 := ha r (List.mem_of_getElem? hr')
        refine ⟨rfl, _, rfl, _, rfl, ?_, _, e3, ?_, same_put s3 nD, ?_⟩
        · rw [Int.natAbs_natCast]
          exact Nat.lt_of_lt_of_le ((Nat.log2_lt (ca.1.1 r (List.mem_of_getElem? hr'))).mpr r16) (by decide)
        · rw [ss_len, List.length_map, List.length_take]
          exact small1000 (by omega)
        · rw [upd_same, List.take_add_one, hr', List.map_append]
          unfold ss
          rw [List.map_append]
          rfl
      · rintro H3 ⟨s3, e3⟩
        rw [ri_len, List.take_length] at e3
        refine ⟨sp1, D, m.map numS, rfl, rfl, .inl (.of e3), ?_, ?_⟩
        · have := sum_le (fun n => (numS n).length) 5 m fun x hx => numS_len (ha x hx)
          rw [List.map_map, List.length_map, show sp1.length = 1 from by decide]
          show (m.map fun n => (numS n).length).sum + m.length * 1 ≤ 16777216
          omega
        · have e : pageOf m = Txt.join sp1 (m.map numS) := by
            unfold pageOf
            rw [if_neg me]
            rfl
          rw [← e]
          exact q H3 s3
def verdict : Option Str → _root_.Sum Nat (List Nat)
  | none => .inl 0
  | some x => due (Txt.split x sp1)
abbrev s_read : Stmt := inClass (topS 23) 17
theorem sc_read : FnScope ["cls", "text", "rows"] ["cls", "text"] (defScope s_read) := ⟨rfl, rfl, rfl, by decide +kernel, rfl, by decide +kernel, by decide +kernel⟩
def spRead (K : PySem.W.Frag) (C CT : Addr) : Sp := fun vs H Q E => ∃ (v : V) (o : Option Str), vs = [.ref C, v] ∧ TxA K H v o ∧ (∀ k, verdict o = .inl k → OutT E CT (vi 0) (vi k) H) ∧ (∀ rows, verdict o = .inr rows → ∀ z H', Same H H' → SpA C H' z rows → Q (.ref z) H')
theorem spl_ne (S : List Nat) : ∀ (l : List Nat) (k : Nat) (acc : List Nat), spl S k acc l ≠ []
  | [], k, acc => by
    rw [spl_nil]
    exact fun z => nomatch z
  | c :: l, 0, acc => by
    rw [spl]
    split
    · exact fun z => nomatch z
    · exact spl_ne S l 0 _
  | c :: l, k + 1, acc => by
    rw [spl]
    exact spl_ne S l k _
theorem split_ne (x : Str) : Txt.split x sp1 ≠ [] := by
  intro e
  have h := split_spl x sp1 (by decide) (kind_ok (by decide +kernel))
  rw [e] at h
  exact spl_ne _ _ _ _ h.symm
theorem le_sum_mem : ∀ {l : List Nat} {n : Nat}, n ∈ l → n ≤ l.sum
  | _ :: l, n, h => by
    rw [List.sum_cons]
    rcases List.mem_cons.mp h with h | h
    · omega
    · have := le_sum_mem h
      omega
theorem split_lens {x : Str} (h : x.length ≤ 900) : (Txt.split x sp1).length ≤ 901 ∧ ∀ y ∈ Txt.split x sp1, y.length ≤ 901 := by
  have w := PyProof.Rows.split_weight x sp1 (by decide)
  refine ⟨by omega, fun y hy => ?_⟩
  have : y.length ≤ ((Txt.split x sp1).map (·.length)).sum := le_sum_mem (List.mem_map.mpr ⟨y, hy, rfl⟩)
  omega
theorem ok_read {C CT f f0 fO fR : Addr} {fd fdO fdR : FuncData} (F : Fun K "read" "Space.read" s_read f fd) (FO : Fun K "words_of" "words_of" s_words_of fO fdO) (bO : Binds K fdO ["text"] []) (gO : mg "words_of" = some (.ref fO)) (GO : FnOk P w K mg base (L2.CX P w) 3 fO fdO ["text"] (spWords K CT))
    (FR : Fun K "space_rows" "space_rows" s_space_rows fR fdR) (bR : Binds K fdR ["words", "at"] []) (gR : mg "space_rows" = some (.ref fR)) (GR : FnOk P w K mg base (L2.CX P w) 5 fR fdR ["words", "at"] (spRows K CT)) (GI : FnR P w K mg base CX0 4 f0 (spInitS C)) (MM : Mk K C f0) (T : Nm mg) (S : Cs K mg C) :
    FnOk P w K mg base (L2.CX P w) 6 f fd ["cls", "text"] (spRead K C CT) := by
  refine F.okX sc_read (fun vs H Q E h => ?_) (fun cdv A outer s H vs Q E hr h => ?_)
  · obtain ⟨v, o, rfl, _⟩ := h
    rfl
  · obtain ⟨v, o, rfl, hv, q1, q2⟩ := h
    refine ⟨_, (pss_cons (ps_set (i := 2) sc_read.nd rfl (Or.inl rfl) (pe_call GR hr rfl gR FR.kp bR .nil (passes_call (takes_of rfl rfl rfl rfl) (fun _ _ _ _ h => h)) (pa_cons (pe_call GO (hr.mono (by decide)) rfl gO FO.kp bO .nil (passes_call (takes_of rfl rfl rfl rfl) (fun _ _ _ _ h => h)) (pa_cons (pv 1) pa_nil)) (pa_cons pe_int pa_nil))))
      (pss_one (ps_ret (pe_makeLS MM GI hr (pv 0) pass0 (pv 2))))), ?_⟩
    refine ⟨_, rfl, v, o, rfl, hv, fun x ex p np => ?_, fun eo => q1 0 (by rw [eo]; rfl)⟩
    subst ex
    have hx : x.length ≤ 900 := by
      cases hv with
      | tx _ h => exact h
    obtain ⟨l1, l2⟩ := split_lens hx
    refine ⟨p, _, rfl, upd_same, split_ne x, by omega, fun y hy => Nat.le_trans (l2 y hy) (by omega), fun k ek => (q1 k ek).same (same_upd np), fun rows er t H1 s1 e1 => ?_⟩
    obtain ⟨c1, c2, c3⟩ := due_inr er (split_ne x)
    refine ⟨_, rfl, rfl, _, rfl, t, _, rfl, .inl (.of e1), ask_of ⟨c2, ?_, fun m z H' sm hz s2 nz => ?_⟩⟩
    · have := red_len c1.1 c2
      omega
    · have em : m = rows := Xr.Canon.ext hz.canon c1 sm
      subst em
      exact q2 m er z H' ((same_upd np).trans (s1.trans s2)) hz
end
end Lr

set_option Elab.async false
set_option linter.all false
set_option maxRecDepth 100000
set_option maxHeartbeats 4000000
/-! The end of a law whose def makes lambdas and asks that no repr is under way. -/
namespace Oq
open PySem PySem.Spec PyProof.Rows L2 Ow Og LamX
section
variable {P : Program} {w : World} {K : PySem.W.Frag} {mg mb : Str → Option Value} {CX : CXT} {k : Nat} {fa a : Addr} {fd : FuncData} {x : Str} {sp : Sp} {s0 : Shared} {vs : List Value} {ns : List Int} {cs : List (Addr × Addr)}
abbrev tab0 : Obj := { cls := .none, data := .fields #[] }
/-- what is tracked at the law's call: the script, as an object that nothing changes, and the empty tables -/
def Few (H : Hp) (a : Addr) (cs : List (Addr × Addr)) : Prop := ∀ b, H b = none ∨ (b = a ∧ ∃ ob xs, H b = some (.frz ob (.lst xs))) ∨ ((∃ p ∈ cs, b = p.2) ∧ H b = some (.tbl #[]))
theorem endT_at {H : Hp} (Ki : K.In s0.heap) (g1 : s0.heap.Ns mainGlobals mg) (g2 : s0.heap.Ns builtinsNs mb) (g3 : ∀ x : Str, x ≠ "__name__" → mb x = bootBuiltins x) (g4 : s0.heap.NoLimit) (g5 : s0.gens = #[])
    (tb : ∀ p ∈ cs, s0.heap.get? p.2 = some tab0) (C : ∀ p ∈ cs, PySem.W.CodeHd s0.heap p.1 p.2)
    (mo : ∃ (bm : Addr) (ob : Obj), mg "__builtins__" = some (.ref bm) ∧ bm ≠ builtinsNs ∧ s0.heap.get? bm = some ob ∧ ob.cls = .type "module" ∧ ob.dict = some builtinsNs ∧ ob.data = .plain)
    (ea : s0.heap.get? a = some { cls := .type "list", data := .seq vs.toArray }) (hr : Room k callerA) (F : ∀ base : Heap, K.In base → base.Ns mainGlobals mg → (∀ p ∈ cs, TabB base mg p.1 p.2) → FnG P w K mg base CX k fa fd [x] sp)
    (hb : ∀ (s : Shared) (u : Value), BindsTo s fd ⟨[u], []⟩ [(x, u)]) (few : Few H a cs) (own : ∀ b, H b ≠ none → K.lookup b = none) (hok : HOk P w H s0.heap) (hs : sp [.ref a] H (fun v _ => v = .bl true) fun _ _ _ => False)
    (hX : ∀ e s', CX [] H s0 (fun _ _ _ => False) e s' → False) :
    codeAny (model P w) callerA (.call (.ref fa) ⟨[.ref a], []⟩) (fun r s' => r = .ok (.ret (.bool true)) ∧ OldK s0.heap s'.heap ∧ s'.os = s0.os ∧ AllBare s'.gens) s0 := by
  -- neither a list nor an empty table: not tracked
  have loose : ∀ {b : Addr} {o : Obj}, s0.heap.get? b = some o → (∀ us n, o.data ≠ .seq us n) → o.data ≠ .fields #[] → H b = none := by
    intro b o e h1 h2
    rcases few b with z | ⟨rfl, _⟩ | ⟨⟨p, hp, rfl⟩, _⟩
    · exact z
    · rw [ea] at e
      cases e
      exact absurd rfl (h1 _ _)
    · rw [tb p hp] at e
      cases e
      exact absurd rfl h2
  have dict : ∀ {b : Addr} {o : Obj} {es : Array DictEntry} {ep : Nat}, s0.heap.get? b = some o → o.data = .dict es ep → H b = none := fun e d =>
    loose e (fun us n z => by rw [d] at z; cases z) (fun z => by rw [d] at z; cases z)
  have names : ∀ {b : Addr} {m : Str → Option Value}, s0.heap.Ns b m → (hidT s0.heap H).Ns b m := by
    rintro b m ⟨o, es, ep, e1, e2, r⟩
    exact ⟨o, es, ep, hidT_get e1 (dict e1 e2), e2, r⟩
  have Kb : K.In (hidT s0.heap H) := fun b o e => hidT_get (Ki b o e) (by
    rcases Option.eq_none_or_eq_some (H b) with z | ⟨y, z⟩
    · exact z
    · rw [own b (by rw [z]; exact Option.some_ne_none _)] at e
      cases e)
  obtain ⟨mc, l1, l2⟩ := g4
  have M : Mod K mg (hidT s0.heap H) := ⟨Kb, names g1, ⟨mb, names g2, g3⟩, ⟨mc, names l1, l2⟩⟩
  have gl : ∃ (o : Obj) (es : Array DictEntry) (ep : Nat), s0.heap.get? mainGlobals = some o ∧ o.data = .dict es ep := by
    obtain ⟨o, es, ep, e, d, _⟩ := id g1
    exact ⟨o, es, ep, e, d⟩
  have TB : ∀ p ∈ cs, TabB (hidT s0.heap H) mg p.1 p.2 := fun p hp => by
    obtain ⟨og, eg, ng, x1, x2⟩ := gl
    obtain ⟨bm, ob, b1, b2, b3, b4, b5, b6⟩ := mo
    obtain ⟨o, us, file, tf, flags, tg, inF, text, tt, c1, c2, c3, c4, c5, c6, c7, c8, c9, c10⟩ := C p hp
    have hc : H p.1 = none := loose c1 (fun us' n z => by rw [c3] at z; cases z) (fun z => by
      rw [c3] at z
      cases z
      cases c4)
    have hbm : H bm = none := loose b3 (fun us' n z => by rw [b6] at z; cases z) (fun z => by rw [b6] at z; cases z)
    refine ⟨⟨o, us, file, tf, flags, tg, inF, text, tt, hidT_get c1 hc, c2, c3, c4, c5, c6, c7, c8, c9, c10⟩, ⟨bm, ob, b1, b2, fun z => ?_, fun z => ?_, hidT_get b3 hbm, b4, b5, b6⟩, fun z => ?_⟩
    · rw [z, x1] at b3
      cases b3
      rw [x2] at b6
      cases b6
    · rw [z, tb p hp] at b3
      cases b3
      cases b6
    · rw [z, tb p hp] at x1
      cases x1
      cases x2
  have e0 : Env0 P w K mg (hidT s0.heap H) callerA [] s0 H := by
    refine ⟨rfl, M, fun b o e => of_hidT e, Nat.le_of_eq (hidT_size _ _), trivial, fun b z => ?_, hok, .of_eq g5⟩
    cases (show b ∈ ([] : List Addr) from z)
  refine codeAny_mono ((F _ Kb (names g1) TB).go (us := [.ref a]) (vs := [.ref a]) hr rfl e0 (hb s0 (.ref a)) (.cons (show RelV (.ref a) (.ref a) from rfl) .nil) hs) fun r s' z => ?_
  cases r with
  | error e => exact (hX e s' z).elim
  | ok fl =>
    cases fl with
    | ret u =>
      obtain ⟨v, H', os, bare, un, hok', ru, y⟩ := z
      obtain rfl : v = .bl true := y
      cases (show u = Value.bool true from ru)
      have fate : ∀ b o, s0.heap.get? b = some o → s'.heap.get? b = some o ∨ ((∃ p ∈ cs, b = p.2) ∧ o = tab0 ∧ ∃ more : Array Value, s'.heap.get? b = some { cls := .none, data := .fields more }) := fun b o e => by
        rcases few b with y | ⟨rfl, ob, xs, y⟩ | ⟨⟨p, hp, rfl⟩, y⟩
        · exact .inl (un.keep b o e y (fun q => nomatch (show b ∈ ([] : List Addr) from q)) (by simp))
        · have e1 := (hok _ _ y).1
          have e2 := (hok' _ _ (un.frzs _ ob _ y)).1
          rw [e] at e1
          cases e1
          exact .inl e2
        · obtain ⟨more, y2⟩ := un.tbls p.2 #[] y
          rw [tb p hp] at e
          cases e
          exact .inr ⟨⟨p, hp, rfl⟩, rfl, _, hok' p.2 _ y2⟩
      refine ⟨rfl, ⟨fun b o e => ?_, fun b o e => ?_⟩, os, bare⟩
      · rcases fate b o e with q | ⟨⟨p, hp, rfl⟩, rfl, more, q⟩
        · exact .inl q
        · exact .inr (.inl ⟨((C p hp).tab (tb p hp)).isCodeTable, rfl, #[], more, rfl, by rw [Array.empty_append]; exact q⟩)
      · rcases fate b o e with q | ⟨_, _, more, q⟩
        · exact ⟨o, q⟩
        · exact ⟨_, q⟩
    | next => exact z.elim
    | brk => exact z.elim
    | cont => exact z.elim
theorem endT_call (Ki : K.In s0.heap) (g1 : s0.heap.Ns mainGlobals mg) (g2 : s0.heap.Ns builtinsNs mb) (g3 : ∀ x : Str, x ≠ "__name__" → mb x = bootBuiltins x) (g4 : s0.heap.NoLimit) (g5 : s0.gens = #[])
    (tb : ∀ p ∈ cs, s0.heap.get? p.2 = some tab0) (nT : ∀ p ∈ cs, K.lookup p.2 = none) (C : ∀ p ∈ cs, PySem.W.CodeHd s0.heap p.1 p.2)
    (mo : ∃ (bm : Addr) (ob : Obj), mg "__builtins__" = some (.ref bm) ∧ bm ≠ builtinsNs ∧ s0.heap.get? bm = some ob ∧ ob.cls = .type "module" ∧ ob.dict = some builtinsNs ∧ ob.data = .plain)
    (ea : s0.heap.get? a = some { cls := .type "list", data := .seq vs.toArray }) (hi : IntsAre vs ns) (hl : ns.length ≤ sizeLine) (hr : Room k callerA) (F : ∀ base : Heap, K.In base → base.Ns mainGlobals mg → (∀ p ∈ cs, TabB base mg p.1 p.2) → FnG P w K mg base CX k fa fd [x] sp)
    (hb : ∀ (s : Shared) (u : Value), BindsTo s fd ⟨[u], []⟩ [(x, u)]) (hs : ∀ H : Hp, (∀ p ∈ cs, H p.2 = some (.tbl #[])) → SqL K H a (ns.map V.int) → sp [.ref a] H (fun v _ => v = .bl true) fun _ _ _ => False)
    (hX : ∀ H e s', CX [] H s0 (fun _ _ _ => False) e s' → False) :
    codeAny (model P w) callerA (.call (.ref fa) ⟨[.ref a], []⟩) (fun r s' => r = .ok (.ret (.bool true)) ∧ OldK s0.heap s'.heap ∧ s'.os = s0.os ∧ AllBare s'.gens) s0 := by
  have rv : Vals (ns.map V.int) vs := vals_ints hi
  -- the tables' part of the abstract heap
  let tH : Hp := fun b => if b ∈ cs.map (·.2) then some (.tbl #[]) else none
  have tIn : ∀ p ∈ cs, tH p.2 = some (.tbl #[]) := fun p hp => if_pos (List.mem_map.mpr ⟨p, hp, rfl⟩)
  have tOf : ∀ b u, tH b = some u → (∃ p ∈ cs, b = p.2) ∧ u = .tbl #[] := fun b u z => by
    by_cases h : b ∈ cs.map (·.2)
    · have z2 := (if_pos h).symm.trans z
      cases z2
      obtain ⟨p, hp, e⟩ := List.mem_map.mp h
      exact ⟨⟨p, hp, e.symm⟩, rfl⟩
    · have z2 := (if_neg h).symm.trans z
      cases z2
  have notA : ∀ p ∈ cs, p.2 ≠ a := fun p hp z => by
    have e := tb p hp
    rw [z, ea] at e
    have z2 : Data.seq vs.toArray _ = Data.fields #[] := congrArg Obj.data (Option.some.inj e)
    cases z2
  rcases Option.eq_none_or_eq_some (K.lookup a) with kn | ⟨o, kn⟩
  · let H : Hp := upd tH a (.frz { cls := .type "list", data := .seq vs.toArray } (.lst (ns.map V.int)))
    have at_a : H a = some (.frz { cls := .type "list", data := .seq vs.toArray } (.lst (ns.map V.int))) := upd_same
    have off : ∀ b, b ≠ a → H b = tH b := fun b h => upd_ne h
    refine endT_at (H := H) Ki g1 g2 g3 g4 g5 tb C mo ea hr F hb (fun b => ?_) (fun b h => ?_) (fun b u z => ?_) (hs H (fun p hp => by rw [off _ (notA p hp)]; exact tIn p hp) (.inl (.inr ⟨_, at_a⟩))) (hX H)
    · by_cases h : b = a
      · subst h
        exact .inr (.inl ⟨rfl, _, _, at_a⟩)
      · rcases Option.eq_none_or_eq_some (tH b) with z | ⟨u, z⟩
        · exact .inl ((off b h).trans z)
        · obtain ⟨q, rfl⟩ := tOf b u z
          exact .inr (.inr ⟨q, (off b h).trans z⟩)
    · by_cases hb : b = a
      · subst hb
        exact kn
      · rcases Option.eq_none_or_eq_some (tH b) with z | ⟨u, z⟩
        · exact absurd ((off b hb).trans z) h
        · obtain ⟨⟨p, hp, rfl⟩, _⟩ := tOf b u z
          exact nT p hp
    · by_cases h : b = a
      · subst h
        rw [at_a] at z
        cases z
        exact ⟨ea, by rw [List.length_map]; exact hl, vs, _, rv, ea⟩
      · obtain ⟨⟨p, hp, rfl⟩, rfl⟩ := tOf b u ((off b h).symm.trans z)
        exact tb p hp
  · have e := Ki a o kn
    rw [ea] at e
    cases e
    refine endT_at (H := tH) Ki g1 g2 g3 g4 g5 tb C mo ea hr F hb (fun b => ?_) (fun b h => ?_) (fun b u z => ?_) (hs tH tIn (.inr ⟨_, vs.toArray, _, kn, rfl, rfl, rfl, ?_, by simpa using rv⟩)) (hX tH)
    · rcases Option.eq_none_or_eq_some (tH b) with z | ⟨u, z⟩
      · exact .inl z
      · obtain ⟨q, rfl⟩ := tOf b u z
        exact .inr (.inr ⟨q, z⟩)
    · rcases Option.eq_none_or_eq_some (tH b) with z | ⟨u, z⟩
      · exact absurd z h
      · obtain ⟨⟨p, hp, rfl⟩, _⟩ := tOf b u z
        exact nT p hp
    · obtain ⟨⟨p, hp, rfl⟩, rfl⟩ := tOf b u z
      exact tb p hp
    · rw [List.size_toArray, ← rv.length, List.length_map]
      exact hl
end
/-- each def of the top has a code object whose table is empty -/
def Tabbed (q : Program) (mg : Str → Option Value) (h : Heap) : Prop := ∀ (nm : Str) (f : Addr), ((recsOf q).any fun e => e.name == nm) = true → mg nm = some (.ref f) →
  ∃ (o : Obj) (fd : FuncData) (c P : Addr), h.get? f = some o ∧ o.data = .func fd ∧ fd.code = .ref c ∧ PySem.W.CodeHd h c P ∧ h.get? P = some tab0
/-- the end, the tables those of the code objects cs -/
theorem walk_endT {l : PySem.W.OpenLaw} {n k : Nat} {q : Program} {loose : List Str} {XP : (Str → Option Value) → Heap → Prop} {YP : World → Heap → Prop} {d : DefRec} {CX : World → CXT} {x : Str} (most : l.most = some n) (lt : n ≤ sizeLine) (nod : d.params.defaults = []) (room : Room k callerA)
    (F : ∀ (w : World) (mg : Str → Option Value) (fa : Addr) (h : Heap), YP w h → Tabbed q mg h → h.Ns mainGlobals mg → mg d.name = some (.ref fa) → ∃ (K : PySem.W.Frag) (fd : FuncData) (cs : List (Addr × Addr)) (sp : Sp), K.In h ∧ (∀ p ∈ cs, h.get? p.2 = some tab0) ∧ (∀ p ∈ cs, K.lookup p.2 = none) ∧ (∀ p ∈ cs, PySem.W.CodeHd h p.1 p.2) ∧ (∀ (s : Shared) (u : Value), BindsTo s fd ⟨[u], []⟩ [(x, u)]) ∧
      (∀ (H : Hp) (a : Addr) (ns : List Int), ns.length ≤ n → (∀ p ∈ cs, H p.2 = some (.tbl #[])) → SqL K H a (ns.map V.int) → sp [.ref a] H (fun v _ => v = .bl true) fun _ _ _ => False) ∧ ∀ base : Heap, K.In base → base.Ns mainGlobals mg → (∀ p ∈ cs, TabB base mg p.1 p.2) → FnG l.prog w K mg base (CX w) k fa fd [x] sp)
    (hX : ∀ (w : World) (H : Hp) (s : Shared) (e : Value) (s' : Shared), CX w [] H s (fun _ _ _ => False) e s' → False) : PySem.W.WalkO q loose XP YP l.row.toRowW d [] (fun f vs => PySem.call f vs) := by
  refine Att.attach_call most nod fun w s₀ s1 mg mb fa o pm cd doc a vs ns G Y z1 z2 z3 z4 obj its short gens => ?_
  have own : Tabbed q mg s1.heap := fun nm f m1 m2 => by
    obtain ⟨r, r1, r2⟩ := List.any_eq_true.mp m1
    have r3 : r.name = nm := beq_iff_eq.mp r2
    obtain ⟨a2, o2, f2, c2, P2, h1, h2, h3, h4, h5, h6⟩ := G.T.tab r r1
    rw [r3, m2] at h1
    cases h1
    exact ⟨o2, f2, c2, P2, h2, h3, h4, .of h5 h6, h6.2⟩
  obtain ⟨K, fd, cs, sp, Ki, tb, nT, C, bd, pr, fn⟩ := F w mg fa _ Y own G.T.g z4
  exact endT_call Ki G.T.g G.T.b G.T.builtins G.T.nolimit gens tb nT C G.T.bmain obj its (Nat.le_trans short lt) room fn bd (fun H o q => pr H a ns short o q) fun H e s' => hX w H s1 e s'
end Oq

set_option Elab.async false
set_option linter.all false
set_option maxRecDepth 100000
set_option maxHeartbeats 4000000
namespace Oq
open PySem PySem.Spec PyProof.Rows L2 Ow Og LamX
section
variable {P : Program} {w : World} {K : PySem.W.Frag} {mg : Str → Option Value} {base : Heap} {CX : CXT} {j k : Nat} {f : Addr} {fd : FuncData} {ps : List Str} {sp sp' : Sp}
/-- a def's body, run at this state, its code object known -/
theorem run_genC {x q : Str} {st : Stmt} {N : List Str} {A : Around} {outer : List Env} {s : Shared} {H : Hp} {ar : Args} {us : List Value} {vs : List V} {Q : VK} {E : XK}
    (F : L2.Fun K x q st f fd) (S : FnScope N ps (defScope st)) (hl : vs.length = ps.length) (hr : Room (k + 1) A) (e0 : Env0 P w K mg base A outer s H) (hb : BindsTo s fd ar (ps.zip us)) (r : Vals vs us)
    (body : ∀ cdv : Value, fd.code = cdv → Room k (A.deeper (envOfC q (defScope st) s.heap.objs.size f cdv)) → ∃ t, PSs (cxOf CX P w K mg base N q (defScope st) f cdv A outer s H E) (defBody st) t ∧ t { nx := fun _ H' => Q .non H', rt := Q } (start N vs) H) :
    codeAny (model P w) A (.call (.ref f) ar) (CR CX outer P w H s Q E) s := by
  obtain ⟨oc, od, kV, doc, pm, an, cdv, ct, osl, rfl, lk, hcd⟩ := F.ex
  have Xin : K.In s.heap := e0.mod.kin.keeps fun b o z => (e0.bs b o z).1
  have free : s.heap.NoLimit := e0.mod.nolimit.keeps fun b o z => (e0.bs b o z).1
  have kinds : ∀ y ∈ ps.zip us, (defScope st).names.lookup y.1 = some .local ∨ ((defScope st).names.lookup y.1 = some .cell ∧ ((cellsFrom (s.heap.objs.size + 1) (defScope st).names []).lookup y.1).isSome = true) := by
    rintro ⟨n, v⟩ hy
    rcases S.par n (List.of_mem_zip hy).1 with z | z
    · exact .inl z
    · exact .inr ⟨z, PySem.W.cellsFrom_some _ _ _ (.inl z)⟩
  refine codeAny_call_function hr.depth (Xin _ _ lk) rfl S.co S.gen rfl (PySem.W.codeRec_of Xin hcd) (hb _ _ _ _ ?_)
  refine wpAny_newFunctionEnv_cells S.kind kinds fun env he s1 z => ?_
  subst he
  refine ⟨free.keeps z.toInCall.keep, codeAny_func ?_⟩
  obtain ⟨t, ht, hq⟩ := body cdv rfl (hr.deeper _)
  have J := inv_start (CX := CX) (E := E) S hr.hd e0 hl r z
  have fin : ∀ {σ' : L2.St} {H' : Hp} {v : V} {u : Value} {s' : Shared}, Inv (cxOf CX P w K mg base N q (defScope st) f cdv A outer s H E) [] σ' H' s' → RelV v u → Q v H' → CE outer P w H s Q u s' :=
    fun J2 rv y => ⟨_, _, J2.os, J2.bare, J2.base, J2.hok, rv, y⟩
  refine wpAny_mono (ht.run [] s1 (start N vs) H _ J hq) (fun fl s' hs => ?_) fun e s' hs => hs
  cases fl with
  | ret u =>
    obtain ⟨v, σ', H', J2, rv, y⟩ := hs
    exact fin J2 rv y
  | next =>
    obtain ⟨σ', H', J2, y⟩ := hs
    exact fin (v := V.non) (u := Value.none) J2 rfl y
  | brk =>
    obtain ⟨_, _, _, z⟩ := hs
    exact z.elim
  | cont =>
    obtain ⟨_, _, _, z⟩ := hs
    exact z.elim
/-- the rule for a def of which nothing is let out, its code object known -/
theorem okC {x q : Str} {st : Stmt} {N : List Str} (F : L2.Fun K x q st f fd) (S : FnScope N ps (defScope st)) (len : ∀ vs H Q E, sp vs H Q E → vs.length = ps.length)
    (body : ∀ (cdv : Value) (A : Around) (outer : List Env) (s : Shared) (H : Hp) (vs : List V) (Q : VK) (E : XK), fd.code = cdv → Room k (A.deeper (envOfC q (defScope st) s.heap.objs.size f cdv)) → sp vs H Q E →
      ∃ t, PSs (cxOf CX P w K mg base N q (defScope st) f cdv A outer s H E).nox (defBody st) t ∧ t { nx := fun _ H' => Q .non H', rt := Q } (start N vs) H) : FnOk P w K mg base CX (k + 1) f fd ps sp :=
  ⟨fun _ _ _ _ h => len _ _ _ _ h, fun A outer s H ar us vs Q E hr e0 hb r h => run_genC F S (len _ _ _ _ h) hr e0 hb r fun cdv hc hr2 => by
    obtain ⟨t, ht, hq⟩ := body cdv _ _ _ _ _ _ _ hc hr2 h
    exact ⟨t, ht.nox, hq⟩⟩
end
end Oq
namespace Lr
open PySem PySem.Spec PyProof.Rows L2 Ow Og Oe TL LamX Oq
/-! ### what a call raised, told -/
abbrev s_heard : Stmt := topS 32
theorem sc_heard : FnScope ["_law_ask", "_law_caught", "error"] ["_law_ask"] (defScope s_heard) := ⟨rfl, rfl, rfl, by decide +kernel, rfl, by decide +kernel, by decide +kernel⟩
def EHear (CT : Addr) (Q : VK) : XK := fun cls d H' =>
  ∃ (dd : Addr) (y z : Nat), cls = .ref CT ∧ d = some dd ∧ H' dd = some (.xd [("word", vi z), ("line", vi y)]) ∧ y ≤ 1000 ∧ z ≤ 1000 ∧ ∀ a p, H' a = none → (upd H' a (ExK cls d a)) p = none → Q (.ref p) (upd (upd H' a (ExK cls d a)) p (.tup [.str "text", .str (numS y), .str (numS z)]))
def THear (CT : Addr) : (XK → Hp → VK → Prop) → Hp → VK → Prop := fun tl H Q =>
  tl (EHear CT Q) H (fun v H' => [v].length ≤ sizeLine ∧ ∀ p, H' p = none → Q (.ref p) (upd H' p (.lst [v])))
/-- what the errors' classes are to each other -/
structure Errs (K : PySem.W.Frag) (mg : Str → Option Value) (CR CT : Addr) : Prop where
  gR : mg "RepairError" = some (.ref CR)
  gT : mg "BadText" = some (.ref CT)
  ex : PySem.W.exmOne K (.ref CT) (.ref CR) = some true
  c : ExcC K CT
  x : XfC K CT
  y : PySem.W.kitOne K (.ref CT) (.ref CT) = some true
  nl : PySem.W.findIn K (.ref CT) "line" = some none
  nw : PySem.W.findIn K (.ref CT) "word" = some none
theorem set_at {σ : L2.St} {v : V} (h : σ.length = 3) : (((σ.set 2 (some v)).set 1 (some v)).set 2 none)[1]? = some (some v) := by
  match σ, h with
  | [_, _, _], _ => rfl
theorem log_small {n : Nat} (h : n ≤ 1000) : ((n : Nat) : Int).natAbs.log2 < 1920 := by
  rw [Int.natAbs_natCast]
  have := Nat.log2_le_self n
  omega
theorem heard_gives {X : Cx} {q : Str} {g CR CT : Addr} {cdg : Value} (R : Errs X.K X.mg CR CT) (fi : X.mg "isinstance" = none) (fr : X.mg "repr" = none) :
    GivesTo X ["_law_ask", "_law_caught", "error"] "_law_heard" (defScope s_heard) g cdg (defBody s_heard) "_law_ask" q (THear CT) := by
  intro f c' s H Q tl act hc h
  refine ⟨_, (pss_cons (ps_set (i := 1) sc_heard.nd rfl (Or.inl rfl) pe_non)
    (pss_cons (ps_try_held (i := 2) (j := 1) (c := .ref CR)
      (tb := fun W D σ H => ∃ Ech : XK, (∀ cls d σ' H', Ech cls d H' → W cls d σ' H') ∧ σ[0]? = some (some (.ref f)) ∧ H c' = some (LamX.CodeO c' q) ∧ tl Ech H (fun v H' => [v].length ≤ sizeLine ∧ ∀ p, H' p = none → D.rt (.ref p) (upd H' p (.lst [v]))))
      rfl rfl rfl sc_heard.nd rfl rfl rfl rfl ⟨rfl, rfl, .inl R.gR⟩ (fun W pn xe tk _ => ?_) (fun a oe pn => pss_one (ps_set (i := 1) sc_heard.nd rfl (Or.inl rfl) (pv 2))))
    (pss_one (ps_ret (pe_ifExp (pt_val (pe_callB call_isX (by rfl) fi boot_isinstance (pa_cons (pv 1) (pa_cons (pe_glob (v := .ref CT) rfl R.gT rfl) pa_nil)))) (pe_tup (pa_cons pe_str (pa_cons (pe_callB SkE.call_repr_int (by rfl) fr PyProof.Rows.boot_repr (pa_cons (by exact pe_xk (pv 1)) pa_nil)) (pa_cons (pe_callB SkE.call_repr_int (by rfl) fr PyProof.Rows.boot_repr (pa_cons (by exact pe_xk (pv 1)) pa_nil)) pa_nil)))) (pe_tup (pa_cons pe_str pa_nil))))))), ?_⟩
  · refine ⟨fun pins s' σ H' D I h' => ?_⟩
    obtain ⟨Ech, hW, h1, h2, h3⟩ := h'
    exact (pss_one (ps_ret (pe_lst (pa_cons (act W pn xe Ech _ _ tk hW) pa_nil)))).run pins s' σ H' D I ⟨h1, h2, h3⟩
  · refine t_seq (t_asg ?_)
    refine ⟨EHear CT Q, ?_, rfl, hc, h⟩
    rintro cls d σ' H' ⟨dd, y, z, rfl, rfl, hd, hy, hz, k⟩
    refine ⟨R.ex, fun a na hl => ?_⟩
    have hs := set_at (v := .ref a) hl
    have da : dd ≠ a := ne_of_none hd na
    have hd' : (upd H' a (ExK (.ref CT) (some dd) a)) dd = some (.xd [("word", vi z), ("line", vi y)]) := by
      rw [upd_ne da]
      exact hd
    refine ⟨_, hs, a, CT, some dd, .ref CT, .ref CT, true, rfl, upd_same, fun z e => ⟨_, by cases e; exact hd'⟩, R.c, fun u r => r, R.y, true, rfl, iteT ?_⟩
    refine ⟨_, hs, a, CT, dd, _, vi y, rfl, upd_same, hd', R.x, R.nl, rfl, _, rfl, log_small hy, ?_⟩
    refine ⟨_, hs, a, CT, dd, _, vi z, rfl, upd_same, hd', R.x, R.nw, by simp [List.lookup], _, rfl, log_small hz, ?_⟩
    exact ⟨by show 3 ≤ sizeLine; exact Nat.le_of_lt (small1000 (by omega)), fun p np => k a p na np⟩
section
variable {X : Cx}
/-- _law_heard(lambda: body) -/
theorem pe_heard {T : List (Addr × Str)} {g c Pt CR CT : Addr} {fd : FuncData} {k : Nat} {scope : Scope} {params : Arguments} {body : Expr} {lpos p pos : Pos} {t : XK → TE} (F : L2.Fun X.K "_law_heard" "_law_heard" s_heard g fd) (b : Binds X.K fd ["_law_ask"] []) (gM : X.mg "_law_heard" = some (.ref g)) (R : Errs X.K X.mg CR CT) (fi : X.mg "isinstance" = none) (fr : X.mg "repr" = none)
    (TB : TabB X.base X.mg c Pt) (hcode : X.env.code = .ref c) (hmT : (Pt, X.env.qual ++ "<lambda>") ∈ T) (hu : ∀ p ∈ T, p.1 = Pt → p.2 = X.env.qual ++ "<lambda>") (hr : Room (k + 2) X.A)
    (hbody : ∀ (A : Around) (outer : List Env) (s : Shared) (H : Hp) (E : XK) (f c' : Addr), Room k (A.deeper (lamEnv X scope s.heap.objs.size f c')) → PE (lamCx X A outer s H E scope f c') body (t E))
    (hgl : Gl X "_law_heard" := by rfl) (L : LamS X.env.scope scope := by exact lamS_by (by kernel_rfl)) (hdef : defaultsOf params X.env = ([], []) := by rfl) (hbind : ∀ (q : Str) (cl : List (Str × Addr)) (pm cv ctv : Value), bindArgs (PySem.W.kla_fn "<lambda>" q params body scope cl pm cv ctv) ⟨[], []⟩ = pure [] := by exact fun _ _ _ _ _ => rfl) :
    PE X (.Call (.Name "_law_heard" p) [.Lambda params body scope lpos] [] pos) (tLam T (THear CT) t) := by
  obtain ⟨oc, od, kV, doc, pm, an, cdv, ct, osl, rfl, lk, hcd⟩ := F.ex
  exact pe_lamcall (T := T) hgl gM F.kp lk hcd b sc_heard rfl (.inl rfl) (heard_gives R fi fr) TB hcode hmT hu hr L hdef hbind hbody
end
theorem ext_same {H H' : Hp} (s : Same H H') : ExtN H H' := fun b o h _ => s b o h
theorem ext_lst {K : PySem.W.Frag} {H H' : Hp} {a : Addr} {xs : List V} (e : ExtN H H') (h : SqL K H a xs) : SqL K H' a xs := by
  rcases h with (h | ⟨o, h⟩) | h
  · exact .inl (.inl (e _ _ h (fun ps z => by cases z)))
  · exact .inl (.inr ⟨o, e _ _ h (fun ps z => by cases z)⟩)
  · exact .inr h
theorem spA_ext {C : Addr} {H H' : Hp} {x : Addr} {m : List Nat} (h : SpA C H x m) (e : ExtN H H') : SpA C H' x m := by
  obtain ⟨dx, t, h1, h2, h3⟩ := h
  exact ⟨dx, t, e _ _ h1 (fun ps z => by cases z), e _ _ h2 (fun ps z => by cases z), h3⟩
theorem pen_ext {H H' : Hp} {a b : Addr} {n : Nat} (p : PenAt H a b n) (e : ExtN H H') : PenAt H' a b n := by
  obtain ⟨ns, i, g, h1, h2, h3⟩ := p
  exact ⟨ns, i, g, e _ _ h1 (fun ps z => by cases z), e _ _ h2 (fun ps z => by cases z), h3⟩
end Lr

set_option Elab.async false
set_option linter.all false
set_option maxRecDepth 100000
set_option maxHeartbeats 4000000
namespace Lr
open PySem PySem.Spec PyProof.Rows L2 Ow Og Oe TL
/-! ### the signs of a text that are none of these -/
def odds (z w : Str) : List Str := (z.cps.toList.filter fun c => !decide (c ∈ w.cps.toList)).map fun c => (⟨#[c]⟩ : Str)
theorem canlay_strs : ∀ l : List Str, (∀ x ∈ l, PyData.strOk x = true) → PyData.canLayAll0 (l.map PyData.str) = true
  | [], _ => by simp [PyData.canLayAll0]
  | n :: l, h => by simp [PyData.canLayAll0, PyData.canLay0, canlay_strs l fun x hx => h x (List.mem_cons_of_mem _ hx), h n List.mem_cons_self]
theorem depth_strs (l : List Str) : PyData.depthAll (l.map PyData.str) ≤ 1 := by
  induction l with
  | nil => simp [PyData.depthAll]
  | cons n l ih => simp [PyData.depthAll, PyData.depth]; omega
theorem dp_strs {K : PySem.W.Frag} {H : Hp} : ∀ l : List Str, DpAll K H (ss l) (l.map PyData.str)
  | [] => .nil
  | n :: l => .cons (.str n) (dp_strs l)
theorem sh_strs (l : List Str) (h : ∀ x ∈ l, PyData.strOk x = true) : SeqAt.shaped (.list (l.map PyData.str)) = true := by
  refine Bool.and_eq_true_iff.mpr ⟨?_, decide_eq_true ?_⟩
  · show PyData.canLay0 (.list _) = true
    rw [PyData.canLay0]
    exact canlay_strs l h
  · show PyData.depth (.list _) ≤ 64
    rw [PyData.depth]
    have := depth_strs l
    omega
theorem eqv_nil (l : List Str) : PyData.eqv (.list (l.map PyData.str)) (.list []) = l.isEmpty := by
  cases l with
  | nil => rfl
  | cons n l => rfl
theorem signs_lc {z u : Str} {σ : L2.St} {H : Hp} {Q : VK} (h0 : σ[4]? = some (some (.str z))) (h7 : σ.length = 7) (hl : z.length ≤ 1000) (q : ∀ D H', Same H H' → H D = none → H' D = some (.lst (ss (odds z u))) → Q (.ref D) H') :
    tLc (iStr (tVar 4)) (gName 6) (tTest (tOp rNotInS (tVar 6) (tC (.str u)))) (tVar 6) [6] σ H Q := by
  refine ⟨_, h0, z, rfl, fun D nD => ?_⟩
  refine lc_it walk_str (fun j H3 => Same H H3 ∧ H3 D = some (.lst (ss ((((z.cps.toList).take j).filter fun c => !decide (c ∈ u.cps.toList)).map fun c => (⟨#[c]⟩ : Str))))) ⟨same_upd nD, upd_same⟩ (fun _ _ _ _ => trivial) ?_ ?_
  · rintro j x H3 H4 hj ⟨s3, e3⟩ ⟨rfl, c, hc, rfl⟩
    have hc' : z.cps.toList[j]? = some c := by rw [Array.getElem?_toList]; exact hc
    have w7 : ∀ (y : Option V), (wipe (((wipe σ [6]).set 6 y)) [6]) = wipe σ [6] := fun y => by
      match σ, h7 with
      | [_, _, _, _, _, _, _], _ => rfl
    have g7 : ∀ (y : V), ((wipe σ [6]).set 6 (some y))[6]? = some (some y) := fun y => by
      match σ, h7 with
      | [_, _, _, _, _, _, _], _ => rfl
    refine ⟨w7 _, _, g7 _, c, u, rfl, rfl, _, rfl, ?_⟩
    have tk : (z.cps.toList).take (j + 1) = (z.cps.toList).take j ++ [c] := by
      rw [List.take_add_one, hc']
      rfl
    refine ite2 (fun k => ?_) (fun k => ?_)
    · refine ⟨_, g7 _, _, e3, ?_, same_put s3 nD, ?_⟩
      · unfold ss
        rw [List.length_map, List.length_map]
        refine small1000 (Nat.le_trans (List.length_filter_le _ _) ?_)
        rw [List.length_take]
        have : z.cps.toList.length = z.length := by rw [Array.length_toList]; rfl
        omega
      · rw [upd_same, tk, List.filter_append]
        have : List.filter (fun c => !decide (c ∈ u.cps.toList)) [c] = [c] := by rw [List.filter_cons, if_pos k]; rfl
        rw [this, List.map_append]
        unfold ss
        rw [List.map_append]
        rfl
    · refine ⟨s3, ?_⟩
      rw [tk, List.filter_append]
      have : List.filter (fun c => !decide (c ∈ u.cps.toList)) [c] = [] := by rw [List.filter_cons, if_neg k]; rfl
      rw [this, List.append_nil]
      exact e3
  · rintro H3 ⟨s3, e3⟩
    have : (z.cps.toList).take z.cps.size = z.cps.toList := List.take_of_length_le (by rw [Array.length_toList]; exact Nat.le_refl _)
    rw [this] at e3
    exact q D H3 s3 nD e3
theorem digit_mem (c : Nat) : decide (c ∈ ("0123456789" : Str).cps.toList) = (decide (48 ≤ c) && decide (c ≤ 57)) := by
  have e : ("0123456789" : Str).cps.toList = [48, 49, 50, 51, 52, 53, 54, 55, 56, 57] := by decide
  rw [e]
  by_cases h : 48 ≤ c ∧ c ≤ 57
  · rw [decide_eq_true h.1, decide_eq_true h.2]
    have : c = 48 ∨ c = 49 ∨ c = 50 ∨ c = 51 ∨ c = 52 ∨ c = 53 ∨ c = 54 ∨ c = 55 ∨ c = 56 ∨ c = 57 := by omega
    rcases this with rfl | rfl | rfl | rfl | rfl | rfl | rfl | rfl | rfl | rfl <;> rfl
  · have : c ∉ [48, 49, 50, 51, 52, 53, 54, 55, 56, 57] := by
      intro z
      simp only [List.mem_cons, List.not_mem_nil, or_false] at z
      omega
    rw [decide_eq_false this]
    by_cases h1 : 48 ≤ c
    · rw [decide_eq_true h1, decide_eq_false (show ¬ c ≤ 57 by omega)]
      rfl
    · rw [decide_eq_false h1]
      rfl
theorem odds_digs (w : Str) : (odds w "0123456789").isEmpty = digs w := by
  unfold odds digs
  rw [List.isEmpty_map]
  show (List.filter _ (tl w)).isEmpty = _
  generalize tl w = l
  induction l with
  | nil => rfl
  | cons c l ih =>
    rw [List.filter_cons, List.all_cons, ← ih, digit_mem]
    cases (decide (48 ≤ c) && decide (c ≤ 57)) <;> rfl
theorem odds_ok {w u : Str} (h : ∀ c ∈ tl w, c < 128) : ∀ x ∈ odds w u, PyData.strOk x = true := by
  intro x hx
  obtain ⟨c, hc, rfl⟩ := List.mem_map.mp hx
  have := h c (List.mem_filter.mp hc).1
  show (#[c]).all (· < 0x110000) = true
  rw [← Array.all_toList]
  simp
  omega
/-! ### what the law keeps of the rows -/
def lastB (rows : List Nat) : Nat := (rows.getLast?).elim 0 bl
def orT (rows : List Nat) : Nat := rows.foldl (fun a r => a ||| 2 ^ Xr.top r) 0
theorem orT_snoc (rows : List Nat) (n : Nat) : orT (rows ++ [n]) = orT rows ||| 2 ^ Xr.top n := by
  unfold orT
  rw [List.foldl_append]
  rfl
theorem lastB_snoc (rows : List Nat) (n : Nat) : lastB (rows ++ [n]) = bl n := by
  unfold lastB
  rw [List.getLast?_append]
  rfl
theorem orT_bit : ∀ (rows : List Nat) (a i : Nat), (rows.foldl (fun a r => a ||| 2 ^ Xr.top r) a).testBit i = (a.testBit i || rows.any fun r => decide (Xr.top r = i))
  | [], a, i => by simp
  | r :: rows, a, i => by
    rw [List.foldl_cons, orT_bit rows, Nat.testBit_or, Nat.testBit_two_pow, List.any_cons, Bool.or_assoc]
theorem and_orT (n : Nat) (rows : List Nat) : decide (n &&& orT rows = 0) = !(rows.any fun r => n.testBit (Xr.top r)) := by
  rw [Bool.eq_iff_iff]
  simp only [decide_eq_true_eq, Bool.not_eq_true', List.any_eq_false]
  constructor
  · intro h r hr
    have e := congrArg (fun x => x.testBit (Xr.top r)) h
    simp only [Nat.testBit_and, Nat.zero_testBit] at e
    unfold orT at e
    rw [orT_bit] at e
    have : (rows.any fun s => decide (Xr.top s = Xr.top r)) = true := List.any_eq_true.mpr ⟨r, hr, decide_eq_true rfl⟩
    rw [this, Bool.or_true, Bool.and_true] at e
    rw [e]
    exact Bool.false_ne_true
  · intro h
    refine Nat.eq_of_testBit_eq fun i => ?_
    rw [Nat.testBit_and, Nat.zero_testBit]
    unfold orT
    rw [orT_bit, Nat.zero_testBit, Bool.false_or]
    cases hi : n.testBit i with
    | false => rfl
    | true =>
      rw [Bool.true_and]
      refine List.any_eq_false.mpr fun r hr => ?_
      intro z
      have := of_decide_eq_true z
      exact h r hr (by rw [this]; exact hi)
theorem bl_pos {n : Nat} (h : n ≠ 0) : 0 < bl n := by
  rw [bl_eq h]
  omega
theorem beh_law {rows : List Nat} {n : Nat} (c : Xr.Canon rows) (n0 : n ≠ 0) : Beh n rows = (!decide (bl n ≤ lastB rows) && decide (n &&& orT rows = 0)) := by
  rw [and_orT]
  cases h : rows.getLast? with
  | none =>
    have e := List.getLast?_eq_none_iff.mp h
    subst e
    have := bl_pos n0
    show true = (!decide (bl n ≤ 0) && true)
    rw [decide_eq_false (by omega)]
    rfl
  | some o =>
    have o0 : o ≠ 0 := c.1.1 o (List.mem_of_getLast? h)
    rw [beh_last c h]
    have e : lastB rows = bl o := by
      unfold lastB
      rw [h]
      rfl
    rw [e]
    congr 1
    have := top_of_bl n0 o0
    by_cases k : bl n ≤ bl o
    · rw [decide_eq_true k, decide_eq_false (by have := this.mp k; omega)]
      rfl
    · rw [decide_eq_false k, decide_eq_true (by have := (not_congr this).mp k; omega)]
      rfl
end Lr

set_option Elab.async false
set_option linter.all false
set_option maxRecDepth 100000
set_option maxHeartbeats 4000000
namespace Lr
open PySem PySem.Spec PyProof.Rows L2 Ow Og Oe TL
def dueV : _root_.Sum Nat (List Nat) → V
  | .inl k => vi k
  | .inr _ => .non
/-- words as the law takes them -/
structure WsOk (ws : List Str) : Prop where
  ne : ws ≠ []
  le : ws.length ≤ 1000
  ok : ∀ x ∈ ws, x.length ≤ 1000 ∧ ∀ c ∈ tl x, c < 128
theorem tl_dec {x : Str} : decide (V.str x = V.str ("" : Str)) = (tl x).isEmpty := by
  cases h : tl x with
  | nil =>
    have : x = ("" : Str) := ext_tl (by rw [h]; rfl)
    rw [this]
    rfl
  | cons c l =>
    refine decide_eq_false fun z => ?_
    injection z with z
    rw [z] at h
    cases h
theorem or_of {t u : TT} {σ : L2.St} {H : Hp} {Q : Bool → Hp → Prop} (h : t σ H fun b H1 => if b = true then Q true H1 else u σ H1 Q) : tOr t u σ H Q := h
theorem test_of {r : R2} {ta tb : TE} {σ : L2.St} {H : Hp} {Q : Bool → Hp → Prop} (h : ta σ H fun x H1 => tb σ H1 fun y H2 => r x y H2 fun v H3 => ∃ b, v = .bl b ∧ Q b H3) : tTest (tOp r ta tb) σ H Q := h
theorem NumText_int {w : Str} (hd : digs w = true) (ne : tl w ≠ []) (hl : (tl w).length ≤ 5) : intText? w = some ((valW w : Nat) : Int) := PySem.intText_digits (digs_all hd) ne (by rw [len_tl]; omega)
section
variable {P : Program} {w : World} {K : PySem.W.Frag} {mg : Str → Option Value} {base : Heap}
abbrev s_due : Stmt := topS 33
theorem sc_due : FnScope ["_law_words", "_law_last", "_law_tops", "_law_at", "_law_word", "_law_row", "_law_sign"] ["_law_words"] (defScope s_due) := ⟨rfl, rfl, rfl, by decide +kernel, rfl, by decide +kernel, by decide +kernel⟩
def spDue (K : PySem.W.Frag) : Sp := fun vs H Q _ => ∃ (p : Addr) (ws : List Str), vs = [.ref p] ∧ H p = some (.lst (ss ws)) ∧ WsOk ws ∧ ∀ H', Same H H' → Q (dueV (due ws)) H'
theorem ok_due {f : Addr} {fd : FuncData} (F : Fun K "_law_due" "_law_due" s_due f fd) (T : Nm mg) : FnOk P w K mg base CX0 1 f fd ["_law_words"] (spDue K) := by
  refine F.ok sc_due (fun vs H Q E h => ?_) (fun cdv A outer s H vs Q E hr h => ?_)
  · obtain ⟨p, ws, rfl, _⟩ := h
    rfl
  · obtain ⟨p, ws, rfl, hp, W, q⟩ := h
    have hu := hr.units
    refine ⟨_, (pss_cons (ps_if (pt_cmpR op_eq (pe_ix ix_list (pv 0) pe_int (fun _ _ => rfl)) pe_str (nomark _)) (pss_one (ps_ret (pe_ifExp (pt_cmpR op_eq (pe_callB call_len_seq (by rfl) T.len boot_len (pa_cons (pv 0) pa_nil)) pe_int (nomark _)) pe_non pe_int))) pss_nil)
    (pss_cons (ps_asg (pe_tup (pa_cons pe_int (pa_cons pe_int pa_nil))) (pg_tup rfl (pgs_cons (pg_name (i := 1) sc_due.nd rfl (Or.inl rfl)) (pgs_cons (pg_name (i := 2) sc_due.nd rfl (Or.inl rfl)) pgs_nil))))
    (pss_cons (ps_for PassesOwn.never rfl (pi_range1 rfl T.range (pa_cons (pe_callB call_len_seq (by rfl) T.len boot_len (pa_cons (pv 0) pa_nil)) pa_nil)) (pg_name (i := 3) sc_due.nd rfl (Or.inl rfl))
    (pss_cons (ps_set (i := 4) sc_due.nd rfl (Or.inl rfl) (pe_ix ix_list (pv 0) (pv 3) (fun _ _ => rfl)))
    (pss_cons (ps_if (PW.pt (pw_or (pt_cmpR op_eq (pv 4) pe_str (nomark _)) (pw_or (pt_cmpR op_gt (pe_callB call_len_str (by rfl) T.len boot_len (pa_cons (pv 4) pa_nil)) pe_int (nomark _)) (pw_or (pt_cmpR (op_neD hu) (pe_lc (own := [("_law_sign", 6)]) (g := (gName 6)) (tt := tTest (tOp rNotInS (tVar 6) (tC (.str "0123456789")))) rfl sc_due.nd (pi_str (pv 4)) (blkOk_by (by kernel_rfl)) (fun _ _ _ _ _ => pg_name (i := 6) sc_due.nd rfl (Or.inl rfl)) (fun _ _ _ _ _ => (by exact pts_one (pt_cmpR (r := rNotInS) op_notInS (pv 6) pe_str (by rfl)))) (fun _ _ _ _ _ => (pv 6))) (pe_lst pa_nil) (nomark _)) (pw_or1 (pt_cmpR op_eq (pe_ix ix_str (pv 4) pe_int (fun _ _ => rfl)) pe_str (nomark _))))))) (pss_one (ps_ret (pv 3))) pss_nil)
    (pss_cons (ps_set (i := 5) sc_due.nd rfl (Or.inl rfl) (pe_callTy call_int_str (by rfl) T.int PyProof.Rows.boot_int (pa_cons (pv 4) pa_nil)))
    (pss_cons (ps_if (PW.pt (pw_or (pt_cmpR op_gt (pv 5) pe_int (nomark _)) (pw_or (pt_cmpR op_le (pe_bits (pv 5)) (pv 1) (nomark _)) (pw_or1 (pt_cmpR op_gt (pe_op op_and (pv 5) (pv 2)) pe_int (nomark _)))))) (pss_one (ps_ret (pv 3))) pss_nil)
    (pss_one (ps_par (i := 1) (j := 2) rfl sc_due.nd rfl rfl (by decide) rfl rfl (pa_cons (pe_bits (pv 5)) (pa_cons (pe_op op_or (pv 2) (pe_op op_shl pe_int (pe_op op_sub (pe_bits (pv 5)) pe_int))) pa_nil)) (by rfl))))))))
    (pss_one (ps_ret pe_non))))), ?_⟩
    have l0 : 0 < ws.length := List.length_pos_iff.mpr W.ne
    have hl := W.le
    obtain ⟨x0, hx0⟩ : ∃ x0, ws[0]? = some x0 := ⟨ws[0], List.getElem?_eq_getElem l0⟩
    refine ⟨_, rfl, p, _, 0, _, rfl, rfl, .of hp, atI_nat (j := 0) (ss_at hx0), by rfl, _, rfl, ?_⟩
    refine ite2 (fun c => ?_) (fun c => ?_)
    · have e0 : x0 = ("-" : Str) := by
        have := of_decide_eq_true c
        injection this
      subst e0
      refine ⟨_, rfl, p, _, rfl, .inl (.of hp), by rfl, _, rfl, ?_⟩
      rw [ss_len]
      refine ite2 (fun k => ?_) (fun k => ?_)
      · have k' : ws.length = 1 := by
          have := of_decide_eq_true k
          injection this with this
          omega
        have := q H (fun _ _ e => e)
        unfold due at this
        rw [if_pos hx0, if_pos k'] at this
        exact this
      · have k' : ¬ ws.length = 1 := fun z => k (by rw [z]; rfl)
        have := q H (fun _ _ e => e)
        unfold due at this
        rw [if_pos hx0, if_neg k'] at this
        exact this
    · have e0 : ws[0]? ≠ some ("-" : Str) := by
        rw [hx0]
        intro z
        cases z
        exact c rfl
      have ed : due ws = scan ws [] 0 := by
        unfold due
        rw [if_neg e0]
      rw [ed] at q
      refine ⟨by show 2 ≤ sizeLine; exact Nat.le_of_lt (small1000 (by omega)), fun tp ntp => ?_⟩
      refine ⟨tp, _, rfl, .of upd_same, rfl, _, _, rfl, _, _, rfl, rfl, ?_⟩
      have st := same_upd (o := HO.tup [V.int 0, V.int 0]) ntp
      refine ⟨_, rfl, p, _, rfl, .inl (.of (st _ _ hp)), _, rfl, by rw [ss_len]; omega, by rw [ss_len]; omega, ?_⟩
      have en : (((ss ws).length : Nat) : Int).toNat = ws.length := by
        rw [ss_len]
        omega
      rw [en]
      refine for_range (lo := 0) (n := ws.length) (fun i σ H' => ∃ (rows : List Nat) (v3 v4 v5 v6 : Option V), σ = [some (.ref p), some (vi (lastB rows)), some (vi (orT rows)), v3, v4, v5, v6] ∧ Mid ws i rows ∧ Same H H') ⟨[], none, none, none, none, rfl, Mid.zero ws, st⟩ ?_ ?_
      · rintro i σ H2 hi ⟨rows, v3, v4, v5, v6, rfl, m, s2⟩
        obtain ⟨x, hx⟩ : ∃ y, ws[i]? = some y := ⟨ws[i], List.getElem?_eq_getElem hi⟩
        obtain ⟨lx, cx⟩ := W.ok x (List.mem_of_getElem? hx)
        have lz := Nat.le_of_lt (small1000 lx)
        have ei : ((0 : Int) + (i : Int)) = ((i : Nat) : Int) := Int.zero_add _
        rw [ei]
        have bad : ∀ H3, Same H2 H3 → numW x = none → Q (vi i) H3 := fun H3 s3 h => by
          have := q H3 (s2.trans s3)
          rw [m.none hx h] at this
          exact this
        refine ⟨_, rfl, _, rfl, p, _, _, _, rfl, rfl, .of (s2 _ _ hp), atI_nat (ss_at hx), ?_⟩
        refine ⟨_, rfl, by rfl, _, rfl, ?_⟩
        rw [tl_dec]
        refine ite2 (fun c1 => ?_) (fun c1 => ?_)
        · refine iteT ⟨_, rfl, bad H2 (fun _ _ e => e) ?_⟩
          unfold numW
          refine if_neg fun h => h.2.1 ?_
          simpa using c1
        · have ne : tl x ≠ [] := by simpa using c1
          refine ⟨_, rfl, x, rfl, lz, _, _, rfl, rfl, _, rfl, ?_⟩
          refine ite2 (fun c2 => ?_) (fun c2 => ?_)
          · refine iteT ⟨_, rfl, bad H2 (fun _ _ e => e) ?_⟩
            unfold numW
            refine if_neg fun h => ?_
            have := of_decide_eq_true c2
            rw [len_tl] at this
            omega
          · have h5 : (tl x).length ≤ 5 := by
              have : ¬ (5 : Int) < ((x.length : Nat) : Int) := by simpa using c2
              rw [len_tl] at this
              omega
            refine or_of (test_of ?_)
            refine signs_lc (σ := [some (.ref p), some (vi (lastB rows)), some (vi (orT rows)), some (vi i), some (.str x), v5, v6]) rfl rfl lx fun D H3 s3 nD eD => ⟨Nat.zero_le _, fun r1 n1 => ?_⟩
            have v1 := same_upd (o := HO.lst []) n1
            refine ⟨.list ((odds x "0123456789").map PyData.str), .list [], .lst (.of (v1 _ _ eD)) (dp_strs _), .lst (.of upd_same) .nil, sh_strs _ (odds_ok cx), rfl, _, rfl, ?_⟩
            rw [eqv_nil, odds_digs]
            have s4 := s3.trans v1
            generalize upd H3 r1 (HO.lst []) = H4 at s4 ⊢
            refine ite2 (fun c3 => ?_) (fun c3 => ?_)
            · refine iteT ⟨_, rfl, bad H4 s4 ?_⟩
              unfold numW
              refine if_neg fun h => ?_
              rw [h.1] at c3
              cases c3
            · have hd : digs x = true := by simpa using c3
              obtain ⟨c, r, e⟩ : ∃ c r, tl x = c :: r := by
                generalize tl x = l at ne ⊢
                cases l with
                | nil => exact absurd rfl ne
                | cons c r => exact ⟨c, r, rfl⟩
              refine ⟨_, rfl, _, 0, c, rfl, rfl, lz, at_head e, by rfl, _, rfl, ?_⟩
              have e48 : (decide (V.str (⟨#[c]⟩ : Str) = V.str ("0" : Str))) = decide (c = 48) := by
                rw [show ("0" : Str) = (⟨#[48]⟩ : Str) from by decide, str1]
              rw [e48]
              refine ite2 (fun c4 => ?_) (fun c4 => ?_)
              · refine ⟨_, rfl, bad H4 s4 ?_⟩
                unfold numW
                refine if_neg fun h => h.2.2.1 ?_
                rw [e, of_decide_eq_true c4]
                rfl
              · have h48 : (tl x).head? ≠ some 48 := by
                  rw [e]
                  intro z
                  cases z
                  exact c4 (decide_eq_true rfl)
                have hi := NumText_int hd ne h5
                refine ⟨_, rfl, x, _, rfl, hi, by rw [len_tl]; omega, ?_⟩
                refine ⟨_, rfl, _, _, rfl, rfl, _, rfl, ?_⟩
                refine ite2 (fun c5 => ?_) (fun c5 => ?_)
                · refine iteT ⟨_, rfl, bad H4 s4 ?_⟩
                  unfold numW
                  refine if_neg fun h => ?_
                  have := of_decide_eq_true c5
                  omega
                · have h6 : valW x ≤ 65535 := by
                    have : ¬ (65535 : Int) < ((valW x : Nat) : Int) := by simpa using c5
                    omega
                  have en : numW x = some (valW x) := by
                    unfold numW
                    exact if_pos ⟨hd, ne, h48, h5, h6⟩
                  have n0 : valW x ≠ 0 := Nat.ne_of_gt (numW_pos en)
                  have bl2 := beh_law (n := valW x) m.canon n0
                  have no : Beh (valW x) rows = false → Q (vi i) H4 := fun hb => by
                    have := q H4 (s2.trans s4)
                    rw [m.no hx en hb] at this
                    exact this
                  refine ⟨_, rfl, _, rfl, _, rfl, _, _, rfl, rfl, _, rfl, ?_⟩
                  refine ite2 (fun c6 => ?_) (fun c6 => ?_)
                  · refine iteT ⟨_, rfl, no ?_⟩
                    have : bl (valW x) ≤ lastB rows := by
                      have := of_decide_eq_true c6
                      have this : ((bl (valW x) : Nat) : Int) ≤ ((lastB rows : Nat) : Int) := this
                      omega
                    rw [bl2, decide_eq_true this]
                    rfl
                  · have k6 : ¬ bl (valW x) ≤ lastB rows := by
                      have : ¬ ((bl (valW x) : Nat) : Int) ≤ ((lastB rows : Nat) : Int) := fun z => c6 (decide_eq_true z)
                      omega
                    rw [decide_eq_false k6, Bool.not_false, Bool.true_and] at bl2
                    refine ⟨_, rfl, _, rfl, _, _, rfl, rfl, _, _, rfl, rfl, _, rfl, ?_⟩
                    rw [bitAnd_nat]
                    refine ite2 (fun c7 => ?_) (fun c7 => ?_)
                    · refine ⟨_, rfl, no ?_⟩
                      have := of_decide_eq_true c7
                      rw [bl2, decide_eq_false]
                      omega
                    · have k7 : valW x &&& orT rows = 0 := by
                        have : ¬ (0 : Int) < ((valW x &&& orT rows : Nat) : Int) := fun z => c7 (decide_eq_true z)
                        omega
                      rw [decide_eq_true k7] at bl2
                      have et := intBits_nat n0
                      have ht : Xr.top (valW x) ≤ 1000 := by
                        have := Nat.log2_le_self (valW x)
                        have h16 : (valW x).log2 < 16 := (Nat.log2_lt n0).mpr (by omega)
                        show (valW x).log2 ≤ 1000
                        omega
                      refine ⟨_, rfl, _, rfl, _, rfl, _, rfl, _, rfl, _, _, rfl, rfl, _, _, rfl, rfl, by rw [et]; exact cpow_one ht, _, _, rfl, rfl, _, _, rfl, ?_⟩
                      refine ⟨rows ++ [valW x], some (vi i), some (.str x), some (vi (valW x)), v6, ?_, m.step hx en bl2, s2.trans s4⟩
                      rw [lastB_snoc, orT_snoc, et, shl_one]
                      show _ = [some (.ref p), some (vi (bl (valW x))), some (V.int ((orT rows ||| 2 ^ Xr.top (valW x) : Nat) : Int)), some (vi i), some (.str x), some (vi (valW x)), v6]
                      rw [← bitOr_nat]
                      rfl
      · rintro σ H2 ⟨rows, v3, v4, v5, v6, rfl, m, s2⟩
        have := q H2 s2
        rw [m.done] at this
        exact this
end
end Lr

set_option Elab.async false
set_option linter.all false
set_option maxRecDepth 100000
set_option maxHeartbeats 4000000
namespace Lr
open PySem PySem.Spec PyProof.Rows L2 Ow Og Oe TL
/-! ### one of any values -/
section
variable {P : Program} {w : World} {K : PySem.W.Frag} {mg : Str → Option Value} {base : Heap}
def spPickV : Sp := fun vs H Q _ => ∃ (a b p : Addr) (n : Nat) (xs : List V), vs = [.ref a, .ref p] ∧ PenAt H a b n ∧ n ≤ 1000 ∧ H p = some (.lst xs) ∧ p ≠ a ∧ 0 < xs.length ∧ xs.length ≤ 1000 ∧ ∀ (j : Nat) (v : V) (H' : Hp), xs[j]? = some v → PenAt H' a b (n + 1) → Kept a H H' → Q v H'
theorem ok_pickV {f fD : Addr} {fd fdD : FuncData} (F : Fun K "_law_pick" "_law_pick" s_pick f fd) (FD : Fun K "_law_draw" "_law_draw" s_draw fD fdD) (bD : Binds K fdD ["_law_pen_here", "_law_many"] []) (gD : mg "_law_draw" = some (.ref fD)) (T : Nm mg) :
    FnOk P w K mg base CX0 2 f fd ["_law_pen_here", "_law_some"] spPickV := by
  have GD : FnOk P w K mg base CX0 1 fD fdD ["_law_pen_here", "_law_many"] spDraw := ok_draw FD T
  refine F.ok sc_pick (fun vs H Q E h => ?_) (fun cdv A outer s H vs Q E hr h => ?_)
  · obtain ⟨a, b, p, n, l, rfl, _⟩ := h
    rfl
  · obtain ⟨a, b, p, n, l, rfl, hp, hn, hl, pa, l0, l1, q⟩ := h
    refine ⟨_, pss_one (ps_ret (pe_ix ix_list (pv 1) (pe_call GD hr rfl gD FD.kp bD .nil pass0 (pa_cons (pv 0) (pa_cons (pe_callB call_len_seq (by rfl) T.len PySem.boot_len (pa_cons (pv 1) pa_nil)) pa_nil))) (fun _ _ => rfl))), ?_⟩
    refine ⟨_, rfl, _, rfl, _, rfl, p, _, rfl, .inl (.of hl), a, b, l.length, n, rfl, hp, hn, l0, by omega, fun d H' hd p' k => ?_⟩
    have e : l[d]? = some l[d] := List.getElem?_eq_getElem hd
    exact ⟨p, _, _, _, rfl, rfl, .of (k _ _ pa hl), atI_nat (j := d) e, q d l[d] H' e p' k⟩
end
theorem pen_at {H : Hp} {a b : Addr} {n : Nat} (p : PenAt H a b n) : ∃ ys, H a = some (.lst ys) := by
  obtain ⟨_, _, _, h, _⟩ := p
  exact ⟨_, h⟩
theorem ne_pen {H : Hp} {a p : Addr} {ys : List V} (ha : H a = some (.lst ys)) (np : H p = none) : p ≠ a := fun z => by
  rw [z, ha] at np
  cases np
/-! ### lists of words as values -/
def WX (te : TE) (σ : L2.St) (H0 : Hp) (ys : List Str) : Prop := ∀ (H : Hp) (Q : VK), Same H0 H → (∀ (z : Addr) (H' : Hp), Same H H' → H' z = some (.lst (ss ys)) → Q (.ref z) H') → te σ H Q
theorem ix_nat (n d k : Nat) : HT.sIx n d (some (k : Int)) = min k n := HT.sIx_nat n d k
theorem cut_take (ws : List Str) (k : Nat) : cutV (ss ws) none (some (k : Int)) = ss (ws.take k) := by
  unfold cutV
  rw [ix_nat, ss_len]
  show (List.drop 0 (ss ws)).take (min k ws.length - 0) = _
  rw [List.drop_zero, Nat.sub_zero]
  unfold ss
  rw [← List.map_take]
  congr 1
  by_cases h : k ≤ ws.length
  · rw [Nat.min_eq_left h]
  · rw [Nat.min_eq_right (by omega), List.take_of_length_le (Nat.le_refl _), List.take_of_length_le (by omega)]
theorem cut_drop (ws : List Str) (k : Nat) : cutV (ss ws) (some (k : Int)) none = ss (ws.drop k) := by
  unfold cutV
  rw [ix_nat, ss_len]
  show (List.drop (min k ws.length) (ss ws)).take (ws.length - min k ws.length) = _
  rw [List.take_of_length_le (by rw [List.length_drop, ss_len]; exact Nat.le_refl _)]
  unfold ss
  rw [← List.map_drop]
  congr 1
  by_cases h : k ≤ ws.length
  · rw [Nat.min_eq_left h]
  · rw [Nat.min_eq_right (by omega), List.drop_length, List.drop_of_length_le (by omega)]
theorem cut_mid (ws : List Str) (i j : Nat) : cutV (ss ws) (some (i : Int)) (some (j : Int)) = ss ((ws.take j).drop i) := by
  unfold cutV
  rw [ix_nat, ix_nat, ss_len]
  unfold ss
  rw [← List.map_drop, ← List.map_take]
  congr 1
  rw [List.drop_take]
  by_cases h : i ≤ ws.length
  · rw [Nat.min_eq_left h]
    by_cases h2 : j ≤ ws.length
    · rw [Nat.min_eq_left h2]
    · rw [Nat.min_eq_right (by omega), List.take_of_length_le (by rw [List.length_drop]; omega), List.take_of_length_le (by rw [List.length_drop]; omega)]
  · rw [Nat.min_eq_right (a := i) (by omega), List.drop_of_length_le (i := ws.length) (by omega), List.drop_of_length_le (i := i) (by omega), List.take_nil, List.take_nil]
section
variable {K : PySem.W.Frag} {σ : L2.St} {H0 : Hp} {ws : List Str} {p : Addr} {tl th : TE} {k j : Nat}
theorem wx_take (hs : σ[1]? = some (some (.ref p))) (hp : H0 p = some (.lst (ss ws))) (hk : VX th σ H0 (vi k)) : WX (tSl (rSlL K) (tVar 1) tNoPart (tPart th)) σ H0 (ws.take k) := fun H Q s q => by
  refine ⟨_, hs, ?_⟩
  refine hk H _ s fun H1 s1 => ⟨_, rfl, p, _, rfl, .of (s1 _ _ (s _ _ hp)), fun z nz => ?_⟩
  rw [cut_take]
  exact q z _ (s1.trans (same_upd nz)) upd_same
theorem wx_drop (hs : σ[1]? = some (some (.ref p))) (hp : H0 p = some (.lst (ss ws))) (hk : VX tl σ H0 (vi k)) : WX (tSl (rSlL K) (tVar 1) (tPart tl) tNoPart) σ H0 (ws.drop k) := fun H Q s q => by
  refine ⟨_, hs, ?_⟩
  refine hk H _ s fun H1 s1 => ⟨_, rfl, p, _, rfl, .of (s1 _ _ (s _ _ hp)), fun z nz => ?_⟩
  rw [cut_drop]
  exact q z _ (s1.trans (same_upd nz)) upd_same
theorem wx_mid (hs : σ[1]? = some (some (.ref p))) (hp : H0 p = some (.lst (ss ws))) (hk : VX tl σ H0 (vi k)) (hj : VX th σ H0 (vi j)) : WX (tSl (rSlL K) (tVar 1) (tPart tl) (tPart th)) σ H0 ((ws.take j).drop k) := fun H Q s q => by
  refine ⟨_, hs, ?_⟩
  refine hk H _ s fun H1 s1 => ⟨_, rfl, ?_⟩
  refine hj H1 _ (s.trans s1) fun H2 s2 => ⟨_, rfl, p, _, rfl, .of (s2 _ _ (s1 _ _ (s _ _ hp))), fun z nz => ?_⟩
  rw [cut_mid]
  exact q z _ (s1.trans (s2.trans (same_upd nz))) upd_same
theorem wx_rev {te : TE} (h : WX te σ H0 ws) : WX (tRevL K te) σ H0 ws.reverse := fun H Q s q => by
  refine h H _ s fun z H1 s1 e1 => ⟨z, _, rfl, .of e1, fun r nr => ?_⟩
  unfold ss
  rw [← List.map_reverse]
  exact q r _ (s1.trans (same_upd nr)) upd_same
theorem wx_one {i : Nat} {x : Str} (hs : σ[i]? = some (some (.str x))) : WX (tLst (tCons (tVar i) tNil)) σ H0 [x] := fun H Q s q => by
  refine ⟨_, hs, by show 1 ≤ sizeLine; exact Nat.le_of_lt (small1000 (by omega)), fun z nz => q z _ (same_upd nz) upd_same⟩
theorem wx_cat {ta tb : TE} {xs ys : List Str} (ha : WX ta σ H0 xs) (hb : WX tb σ H0 ys) (hl : xs.length + ys.length ≤ 4000) : WX (tOp rCat ta tb) σ H0 (xs ++ ys) := fun H Q s q => by
  refine ha H _ s fun z1 H1 s1 e1 => ?_
  refine hb H1 _ (s.trans s1) fun z2 H2 s2 e2 => ?_
  refine ⟨z1, z2, _, _, rfl, rfl, s2 _ _ e1, e2, by rw [ss_len, ss_len]; exact Nat.le_trans hl (by rw [sizeLine_eq]; omega), fun r nr => ?_⟩
  unfold ss
  rw [← List.map_append]
  exact q r _ (s1.trans (s2.trans (same_upd nr))) upd_same
theorem vx_plus {i : Nat} {n m : Nat} (hs : σ[i]? = some (some (vi n))) : VX (tOp (rI0 fun i j => .int (i + j)) (tVar i) (tC (.int (m : Int)))) σ H0 (vi (n + m)) := fun H Q s q => ⟨_, hs, _, _, rfl, rfl, by
  have := q H (same_refl H)
  have e : (((n + m : Nat) : Nat) : Int) = (n : Int) + (m : Int) := by omega
  show Q (.int ((n : Int) + (m : Int))) H
  rw [← e]
  exact this⟩
end
def wt (ws : List Str) : Nat := (ws.map (·.length)).sum + ws.length
theorem wt_app (a b : List Str) : wt (a ++ b) = wt a + wt b := by
  unfold wt
  rw [List.map_append, List.sum_append, List.length_append]
  omega
theorem wt_td (ws : List Str) (k : Nat) : wt (ws.take k) + wt (ws.drop k) = wt ws := by
  rw [← wt_app, List.take_append_drop]
theorem wt_rev (ws : List Str) : wt ws.reverse = wt ws := by
  unfold wt
  rw [List.map_reverse, List.sum_reverse, List.length_reverse]
def LB : List Str := ["", "-", "0", "1", "2", "3", "4", "5", "8", "65535", "65536", "01", "-1", "a", "1\n", "32768", "12"]
theorem lb_ok : ∀ x ∈ LB, x.length ≤ 5 ∧ ∀ c ∈ tl x, c < 128 := by decide +kernel
/-- these words, bent -/
structure Bent (ws ys : List Str) : Prop where
  sub : ∀ y ∈ ys, y ∈ ws ∨ y ∈ LB
  le : wt ys ≤ 2 * wt ws + 10
theorem ret_wx {te : TE} {D : Ends} {σ : L2.St} {H0 H : Hp} {ys : List Str} (h : WX te σ H0 ys) (s : Same H0 H) (q : ∀ (z : Addr) (H' : Hp), Same H H' → H' z = some (.lst (ss ys)) → D.rt (.ref z) H') : tRet te D σ H := h H _ s q
theorem len_wt (ws : List Str) : ws.length ≤ wt ws := Nat.le_add_left _ _
section
variable {P : Program} {w : World} {K : PySem.W.Frag} {mg : Str → Option Value} {base : Heap}
abbrev s_bent : Stmt := topS 34
theorem sc_bent : FnScope ["_law_pen_here", "_law_words", "_law_way", "_law_at", "_law_some", "_law_word"] ["_law_pen_here", "_law_words"] (defScope s_bent) := ⟨rfl, rfl, rfl, by decide +kernel, rfl, by decide +kernel, by decide +kernel⟩
def spBent : Sp := fun vs H Q _ => ∃ (a b p : Addr) (n : Nat) (ws : List Str), vs = [.ref a, .ref p] ∧ PenAt H a b n ∧ n ≤ 900 ∧ H p = some (.lst (ss ws)) ∧ p ≠ a ∧ wt ws ≤ 1000 ∧
  ∀ (ys : List Str) (r : Addr) (H' : Hp), Bent ws ys → PenAt H' a b (n + 3) → Kept a H H' → H' r = some (.lst (ss ys)) → Q (.ref r) H'
theorem ok_bent {f fD fP : Addr} {fd fdD fdP : FuncData} (F : Fun K "_law_bent" "_law_bent" s_bent f fd) (FD : Fun K "_law_draw" "_law_draw" s_draw fD fdD) (bD : Binds K fdD ["_law_pen_here", "_law_many"] []) (gD : mg "_law_draw" = some (.ref fD)) (FP : Fun K "_law_pick" "_law_pick" s_pick fP fdP) (bP : Binds K fdP ["_law_pen_here", "_law_some"] []) (gP : mg "_law_pick" = some (.ref fP)) (T : Nm mg) :
    FnOk P w K mg base CX0 3 f fd ["_law_pen_here", "_law_words"] spBent := by
  have GD : FnOk P w K mg base CX0 1 fD fdD ["_law_pen_here", "_law_many"] spDraw := ok_draw FD T
  have GP : FnOk P w K mg base CX0 2 fP fdP ["_law_pen_here", "_law_some"] spPickV := ok_pickV FP FD bD gD T
  refine F.ok sc_bent (fun vs H Q E h => ?_) (fun cdv A outer s H vs Q E hr h => ?_)
  · obtain ⟨a, b, p, n, ws, rfl, _⟩ := h
    rfl
  · obtain ⟨a, b, p, n, ws, rfl, hp, hn, hw, pa, wl, q⟩ := h
    have hr1 : Room 1 _ := hr.mono (by decide)
    refine ⟨_, (pss_cons (ps_par (i := 2) (j := 3) rfl sc_bent.nd rfl rfl (by decide) rfl rfl (pa_cons (pe_call GD hr1 rfl gD FD.kp bD .nil pass0 (pa_cons (pv 0) (pa_cons pe_int pa_nil))) (pa_cons (pe_call GD hr1 rfl gD FD.kp bD .nil pass0 (pa_cons (pv 0) (pa_cons (pe_op op_add (pe_callB call_len_seq (by rfl) T.len PySem.boot_len (pa_cons (pv 1) pa_nil)) pe_int) pa_nil))) pa_nil)) (by rfl))
    (pss_cons (ps_set (i := 4) sc_bent.nd rfl (Or.inl rfl) (pe_lst (pa_cons pe_str (pa_cons pe_str (pa_cons pe_str (pa_cons pe_str (pa_cons pe_str (pa_cons pe_str (pa_cons pe_str (pa_cons pe_str (pa_cons pe_str (pa_cons pe_str (pa_cons pe_str (pa_cons pe_str (pa_cons pe_str (pa_cons pe_str (pa_cons pe_str (pa_cons pe_str (pa_cons pe_str pa_nil)))))))))))))))))))
    (pss_cons (ps_set (i := 5) sc_bent.nd rfl (Or.inl rfl) (pe_call GP hr rfl gP FP.kp bP .nil pass0 (pa_cons (pv 0) (pa_cons (pv 4) pa_nil))))
    (pss_cons (ps_if (pt_cmpR op_lt (pv 2) pe_int (nomark _)) (pss_one (ps_ret (pe_op op_cat (pe_op op_cat (pe_slice sl_list (pv 1) po_none (po_some (pv 3))) (pe_lst (pa_cons (pv 5) pa_nil))) (pe_slice sl_list (pv 1) (po_some (pv 3)) po_none)))) pss_nil)
    (pss_cons (ps_if (pt_cmpR op_eq (pv 2) pe_int (nomark _)) (pss_one (ps_ret (pe_op op_cat (pe_op op_cat (pe_slice sl_list (pv 1) po_none (po_some (pv 3))) (pe_lst (pa_cons (pv 5) pa_nil))) (pe_slice sl_list (pv 1) (po_some (pe_op op_add (pv 3) pe_int)) po_none)))) pss_nil)
    (pss_cons (ps_if (PW.pt (pw_and (pt_cmpR op_eq (pv 2) pe_int (nomark _)) (pw_and1 (pt_cmpR op_gt (pe_callB call_len_seq (by rfl) T.len PySem.boot_len (pa_cons (pv 1) pa_nil)) pe_int (nomark _))))) (pss_one (ps_ret (pe_op op_cat (pe_slice sl_list (pv 1) po_none (po_some (pv 3))) (pe_slice sl_list (pv 1) (po_some (pe_op op_add (pv 3) pe_int)) po_none)))) pss_nil)
    (pss_cons (ps_if (pt_cmpR op_eq (pv 2) pe_int (nomark _)) (pss_one (ps_ret (pe_op op_cat (pe_op op_cat (pe_slice sl_list (pv 1) po_none (po_some (pv 3))) (pe_revL (pe_slice sl_list (pv 1) (po_some (pv 3)) (po_some (pe_op op_add (pv 3) pe_int))))) (pe_slice sl_list (pv 1) (po_some (pe_op op_add (pv 3) pe_int)) po_none)))) pss_nil)
    (pss_one (ps_ret (pe_op op_cat (pe_op op_cat (pe_slice sl_list (pv 1) po_none (po_some (pv 3))) (pe_slice sl_list (pv 1) (po_some (pv 3)) (po_some (pe_op op_add (pv 3) pe_int)))) (pe_slice sl_list (pv 1) (po_some (pv 3)) po_none))))))))))), ?_⟩
    have hwl := len_wt ws
    refine ⟨_, rfl, a, b, 6, n, rfl, hp, by omega, by decide, by decide, fun wy H1 _ p1 k1 => ?_⟩
    have e1 := k1 _ _ pa hw
    refine ⟨_, rfl, _, rfl, p, _, rfl, .inl (.of e1), _, _, rfl, rfl, ?_⟩
    refine ⟨a, b, ws.length + 1, n + 1, ?_, p1, by omega, by omega, by omega, fun at' H2 _ p2 k2 => ?_⟩
    · rw [ss_len]
      rfl
    refine ⟨_, _, rfl, ?_⟩
    have e2 := k2 _ _ pa e1
    refine ⟨by show 17 ≤ sizeLine; exact Nat.le_of_lt (small1000 (by omega)), fun r3 n3 => ?_⟩
    have s3 := same_upd (o := HO.lst (ss LB)) n3
    obtain ⟨yp, hy⟩ := pen_at p2
    have r3a := ne_pen hy n3
    refine ⟨_, rfl, _, rfl, a, b, r3, n + 2, ss LB, rfl, p2.same s3, by omega, upd_same, r3a, by decide, by decide, fun j v H4 hj p4 k4 => ?_⟩
    obtain ⟨x, hx, rfl⟩ : ∃ x, LB[j]? = some x ∧ v = .str x := by
      unfold ss at hj
      rw [List.getElem?_map] at hj
      obtain ⟨x, h1, h2⟩ := Option.map_eq_some_iff.mp hj
      exact ⟨x, h1, h2.symm⟩
    have xm : x ∈ LB := List.mem_of_getElem? hx
    have x5 := (lb_ok x xm).1
    have k04 : Kept a H H4 := (k1.trans k2).trans ((Same.kept s3).trans k4)
    have e4 := k4 _ _ pa (s3 _ _ e2)
    have w1 : wt [x] ≤ 6 := by
      show (x.length + 0) + 1 ≤ 6
      omega
    have fin : ∀ (ys : List Str) (z : Addr) (H' : Hp), Bent ws ys → Same H4 H' → H' z = some (.lst (ss ys)) → Q (.ref z) H' := fun ys z H' bt s' e' => q ys z H' bt (p4.same s') (k04.trans (Same.kept s')) e'
    have td := wt_td ws at'
    have td1 := wt_td ws (at' + 1)
    have td2 := wt_td ws (at' + 2)
    have mt : ∀ k y, y ∈ ws.take k → y ∈ ws := fun k y h => List.mem_of_mem_take h
    have md : ∀ k y, y ∈ ws.drop k → y ∈ ws := fun k y h => List.mem_of_mem_drop h
    have tm : ∀ k, wt ((ws.take (at' + k)).drop at') + wt (ws.take at') = wt (ws.take (at' + k)) := fun k => by
      have := wt_td (ws.take (at' + k)) at'
      rw [List.take_take, Nat.min_eq_left (by omega)] at this
      omega
    have ltk : ∀ k, (ws.take k).length ≤ 1000 := fun k => by
      rw [List.length_take]
      omega
    have ldk : ∀ k, (ws.drop k).length ≤ 1000 := fun k => by
      rw [List.length_drop]
      omega
    have lmk : ∀ i k, ((ws.take k).drop i).length ≤ 1000 := fun i k => by
      rw [List.length_drop, List.length_take]
      omega
    refine ⟨_, rfl, _, _, rfl, rfl, _, rfl, ?_⟩
    refine ite2 (fun c1 => ?_) (fun c1 => ?_)
    · refine ret_wx (H0 := H4) (ys := ws.take at' ++ [x] ++ ws.drop at') (wx_cat (wx_cat (wx_take rfl e4 (vx_var rfl)) (wx_one rfl) ?_) (wx_drop rfl e4 (vx_var rfl)) ?_) (same_refl _) (fun z H' s' e' => fin _ z H' ⟨fun y hy => ?_, ?_⟩ s' e')
      · have := ltk at'
        show _ + 1 ≤ 4000
        omega
      · have := ltk at'
        have := ldk at'
        rw [List.length_append]
        show _ + 1 + _ ≤ 4000
        omega
      · rcases List.mem_append.mp hy with hy | hy
        · rcases List.mem_append.mp hy with hy | hy
          · exact .inl (mt _ _ hy)
          · rw [List.mem_singleton.mp hy]
            exact .inr xm
        · exact .inl (md _ _ hy)
      · rw [wt_app, wt_app]
        omega
    · refine ⟨_, rfl, by rfl, _, rfl, ?_⟩
      refine ite2 (fun c2 => ?_) (fun c2 => ?_)
      · refine ret_wx (H0 := H4) (ys := ws.take at' ++ [x] ++ ws.drop (at' + 1)) (wx_cat (wx_cat (wx_take rfl e4 (vx_var rfl)) (wx_one rfl) ?_) (wx_drop rfl e4 (vx_plus (m := 1) rfl)) ?_) (same_refl _) (fun z H' s' e' => fin _ z H' ⟨fun y hy => ?_, ?_⟩ s' e')
        · have := ltk at'
          show _ + 1 ≤ 4000
          omega
        · have := ltk at'
          have := ldk (at' + 1)
          rw [List.length_append]
          show _ + 1 + _ ≤ 4000
          omega
        · rcases List.mem_append.mp hy with hy | hy
          · rcases List.mem_append.mp hy with hy | hy
            · exact .inl (mt _ _ hy)
            · rw [List.mem_singleton.mp hy]
              exact .inr xm
          · exact .inl (md _ _ hy)
        · rw [wt_app, wt_app]
          omega
      · have rest : (tSeq (tIfS (tTest (tOp rEq (tVar 2) (tC (.int 4)))) (tRet (tOp rCat (tOp rCat (tSl (rSlL K) (tVar 1) tNoPart (tPart (tVar 3))) (tRevL K (tSl (rSlL K) (tVar 1) (tPart (tVar 3)) (tPart (tOp (rI0 fun i j => .int (i + j)) (tVar 3) (tC (.int 2))))))) (tSl (rSlL K) (tVar 1) (tPart (tOp (rI0 fun i j => .int (i + j)) (tVar 3) (tC (.int 2)))) tNoPart))) tNext)
            (tRet (tOp rCat (tOp rCat (tSl (rSlL K) (tVar 1) tNoPart (tPart (tVar 3))) (tSl (rSlL K) (tVar 1) (tPart (tVar 3)) (tPart (tOp (rI0 fun i j => .int (i + j)) (tVar 3) (tC (.int 1)))))) (tSl (rSlL K) (tVar 1) (tPart (tVar 3)) tNoPart)))) { nx := fun _ H' => Q .non H', rt := Q } [some (V.ref a), some (V.ref p), some (vi wy), some (vi at'), some (V.ref r3), some (V.str x)] H4 := by
          refine ⟨_, rfl, by rfl, _, rfl, ?_⟩
          refine ite2 (fun c4 => ?_) (fun c4 => ?_)
          · refine ret_wx (H0 := H4) (ys := ws.take at' ++ ((ws.take (at' + 2)).drop at').reverse ++ ws.drop (at' + 2)) (wx_cat (wx_cat (wx_take rfl e4 (vx_var rfl)) (wx_rev (wx_mid rfl e4 (vx_var rfl) (vx_plus (m := 2) rfl))) ?_) (wx_drop rfl e4 (vx_plus (m := 2) rfl)) ?_) (same_refl _) (fun z H' s' e' => fin _ z H' ⟨fun y hy => ?_, ?_⟩ s' e')
            · have := ltk at'
              have := lmk at' (at' + 2)
              rw [List.length_reverse]
              omega
            · have := ltk at'
              have := lmk at' (at' + 2)
              have := ldk (at' + 2)
              rw [List.length_append, List.length_reverse]
              omega
            · rcases List.mem_append.mp hy with hy | hy
              · rcases List.mem_append.mp hy with hy | hy
                · exact .inl (mt _ _ hy)
                · exact .inl (mt _ _ (List.mem_of_mem_drop (List.mem_reverse.mp hy)))
              · exact .inl (md _ _ hy)
            · rw [wt_app, wt_app, wt_rev]
              have := tm 2
              omega
          · refine ret_wx (H0 := H4) (ys := ws.take at' ++ (ws.take (at' + 1)).drop at' ++ ws.drop at') (wx_cat (wx_cat (wx_take rfl e4 (vx_var rfl)) (wx_mid rfl e4 (vx_var rfl) (vx_plus (m := 1) rfl)) ?_) (wx_drop rfl e4 (vx_var rfl)) ?_) (same_refl _) (fun z H' s' e' => fin _ z H' ⟨fun y hy => ?_, ?_⟩ s' e')
            · have := ltk at'
              have := lmk at' (at' + 1)
              omega
            · have := ltk at'
              have := lmk at' (at' + 1)
              have := ldk at'
              rw [List.length_append]
              omega
            · rcases List.mem_append.mp hy with hy | hy
              · rcases List.mem_append.mp hy with hy | hy
                · exact .inl (mt _ _ hy)
                · exact .inl (mt _ _ (List.mem_of_mem_drop hy))
              · exact .inl (md _ _ hy)
            · rw [wt_app, wt_app]
              have := tm 1
              omega
        refine ⟨_, rfl, by rfl, _, rfl, ?_⟩
        refine ite2 (fun c3 => ?_) (fun c3 => ?_)
        · refine ⟨_, rfl, p, _, rfl, .inl (.of e4), _, _, rfl, rfl, _, rfl, ?_⟩
          refine ite2 (fun c5 => ?_) (fun c5 => ?_)
          · refine ret_wx (H0 := H4) (ys := ws.take at' ++ ws.drop (at' + 1)) (wx_cat (wx_take rfl e4 (vx_var rfl)) (wx_drop rfl e4 (vx_plus (m := 1) rfl)) ?_) (same_refl _) (fun z H' s' e' => fin _ z H' ⟨fun y hy => ?_, ?_⟩ s' e')
            · have := ltk at'
              have := ldk (at' + 1)
              omega
            · rcases List.mem_append.mp hy with hy | hy
              · exact .inl (mt _ _ hy)
              · exact .inl (md _ _ hy)
            · rw [wt_app]
              omega
          · exact rest
        · exact iteF (rest)
end
end Lr

set_option Elab.async false
set_option linter.all false
set_option maxRecDepth 100000
set_option maxHeartbeats 4000000
namespace Ow
open PySem PySem.Spec PyProof.Rows L2
section
variable {X : Cx} {CX : CXT} {C g : Addr} {sp : Sp} {E : XK} {n : Nat}
/-- x == y, both of one class -/
def rEqO (C : Addr) (sp : Sp) (E : XK) : R2 := fun x y H Q => ∃ a dx fs b dy gs, x = .ref a ∧ y = .ref b ∧ H a = some (.ins C dx fs) ∧ H b = some (.ins C dy gs) ∧ sp [x, y] H Q E
theorem op_eqO (hs : PySem.W.findIn X.K (.ref C) "__eq__" = some (some (.ref g))) (hf : PySem.W.isFn X.K (.ref g) = true) (F : FnR X.prog X.w X.K X.mg X.base CX n g sp) (hr : Room n X.A) (hx : Passes CX X E) : OpR X (compareOp .Eq) (rEqO C sp E) := by
  intro pins s σ H x y v u Q I rx ry h
  obtain ⟨a, dx, fs, b, dy, gs, rfl, rfl, ha, hb, q⟩ := h
  cases (show v = Value.ref a from rx)
  cases (show u = Value.ref b from ry)
  obtain ⟨ox, od, J, _⟩ := StX.insC_at (X := X) I (.inr ⟨dx, fs, ha⟩)
  obtain ⟨ox', od', J', _⟩ := StX.insC_at (X := X) I (.inr ⟨dy, gs, hb⟩)
  obtain ⟨m, hF⟩ := I.fr
  show wpAny _ _ (richCompare .Eq _ _) _ _ _
  refine PySem.W.cmp_K (op := .Eq) (tb := .ref C) hr.units0 hF I.ok.mod.kin J J'.type ?_ hs hf ?_
  · unfold PySem.W.notFirst
    simp
  refine wpAny_mono (wpAny_call (run_fnR (us := [.ref a, .ref b]) (vs := [.ref a, .ref b]) F hr hx I (.cons rfl (.cons rfl .nil)) q)) (fun w s' z => ?_) fun _ _ x => x
  obtain ⟨z', H', I', rz, qz⟩ := z
  exact SlX.cmpback rz ⟨z', H', I', rz, qz⟩
end
end Ow
namespace Lr
open PySem PySem.Spec PyProof.Rows L2 Ow Og Oe TL LamX Oq
def qO : Str := ("_law_one_right" : Str) ++ ".<locals>." ++ "<lambda>"
def qL : Str := ("law" : Str) ++ ".<locals>." ++ "<lambda>"
theorem scan_inl : ∀ (ws : List Str) (rows : List Nat) (i k : Nat), scan ws rows i = .inl k → k < i + ws.length
  | [], rows, i, k, h => by
    rw [scan] at h
    cases h
  | x :: ws, rows, i, k, h => by
    cases e : numW x with
    | none =>
      rw [scan_none e] at h
      cases h
      simp
    | some n =>
      cases b : Beh n rows with
      | false =>
        rw [scan_no e b] at h
        cases h
        simp
      | true =>
        rw [scan_yes e b] at h
        have := scan_inl ws _ _ _ h
        rw [List.length_cons]
        omega
theorem due_inl {ws : List Str} {k : Nat} (h : due ws = .inl k) : k ≤ ws.length := by
  unfold due at h
  by_cases c : ws[0]? = some ("-" : Str)
  · rw [if_pos c] at h
    by_cases c2 : ws.length = 1
    · rw [if_pos c2] at h
      cases h
    · rw [if_neg c2] at h
      cases h
      have : 0 < ws.length := (List.getElem?_eq_some_iff.mp c).1
      omega
  · rw [if_neg c] at h
    have := scan_inl _ _ _ _ h
    omega
/-- a text as the law makes them -/
structure PgOk (x : Str) : Prop where
  le : x.length ≤ 900
  ok : ∀ c ∈ tl x, c < 128
theorem joinL_mem {S : List Nat} {c : Nat} : ∀ (ps : List (List Nat)) (p : List Nat), p ∈ ps → c ∈ p → c ∈ joinL S ps
  | [q], p, hp, hc => by
    rw [List.mem_singleton.mp hp] at hc
    exact hc
  | q :: r :: ps, p, hp, hc => by
    show c ∈ q ++ (S ++ joinL S (r :: ps))
    rcases List.mem_cons.mp hp with h | h
    · rw [h] at hc
      exact List.mem_append_left _ hc
    · exact List.mem_append_right _ (List.mem_append_right _ (joinL_mem (r :: ps) p h hc))
theorem joinL_sub {S : List Nat} {c : Nat} : ∀ (ps : List (List Nat)), c ∈ joinL S ps → c ∈ S ∨ ∃ p ∈ ps, c ∈ p
  | [], h => by cases h
  | [q], h => .inr ⟨q, List.mem_singleton.mpr rfl, h⟩
  | q :: r :: ps, h => by
    have h : c ∈ q ++ (S ++ joinL S (r :: ps)) := h
    rcases List.mem_append.mp h with h | h
    · exact .inr ⟨q, List.mem_cons_self, h⟩
    · rcases List.mem_append.mp h with h | h
      · exact .inl h
      · rcases joinL_sub (r :: ps) h with h | ⟨p, hp, hc⟩
        · exact .inl h
        · exact .inr ⟨p, List.mem_cons_of_mem _ hp, hc⟩
theorem PgOk.words {x : Str} (h : PgOk x) : WsOk (Txt.split x sp1) := by
  obtain ⟨l1, l2⟩ := split_lens h.le
  refine ⟨split_ne x, by omega, fun y hy => ⟨Nat.le_trans (l2 y hy) (by omega), fun c hc => h.ok c ?_⟩⟩
  have e := congrArg tl (join_words x)
  rw [join_eq, tl_join] at e
  rw [← e]
  exact joinL_mem _ _ (List.mem_map.mpr ⟨y, hy, rfl⟩) hc
theorem numS_ok (n : Nat) : PyData.strOk (numS n) = true := by
  show (numS n).cps.all (· < 0x110000) = true
  rw [← Array.all_toList, show (numS n).cps.toList = numL n from tl_num n, List.all_eq_true]
  intro c hc
  have := numL_digits n c hc
  simp
  omega
theorem sh_tup3 {x y z : Str} (hx : PyData.strOk x = true) (hy : PyData.strOk y = true) (hz : PyData.strOk z = true) : SeqAt.shaped (.tuple [.str x, .str y, .str z]) = true := by
  unfold SeqAt.shaped
  simp [PyData.canLay0, PyData.canLayAll0, hx, hy, hz, PyData.depth, PyData.depthAll]
section
variable {P : Program} {w : World} {K : PySem.W.Frag} {mg : Str → Option Value} {base : Heap}
/-- what reading spaces asks of the class -/
structure Rd (P : Program) (w : World) (K : PySem.W.Frag) (mg : Str → Option Value) (base : Heap) (C CT fr fs fe : Addr) (fdr : FuncData) : Prop where
  cm : ∃ mc p, ClX.CRead K C mc ∧ ClX.CMet K C mc "read" p fr
  gr : FnOk P w K mg base (L2.CX P w) 6 fr fdr ["cls", "text"] (spRead K C CT)
  br : Binds K fdr ["cls", "text"] []
  kr : KB1 K fdr ["cls", "text"] ["text"]
  st : PySem.W.findIn K (.ref C) "__str__" = some (some (.ref fs))
  stF : PySem.W.isFn K (.ref fs) = true
  gs : FnR P w K mg base CX0 1 fs (spStr C)
  eq : PySem.W.findIn K (.ref C) "__eq__" = some (some (.ref fe))
  eqF : PySem.W.isFn K (.ref fe) = true
  ge : FnR P w K mg base CX0 1 fe (spEqS C)
abbrev s_one : Stmt := topS 35
theorem sc_one : FnScope ["_law_page", "_law_due_here", "_law_heard_here"] ["_law_page"] (defScope s_one) := ⟨rfl, rfl, rfl, by decide +kernel, rfl, by decide +kernel, by decide +kernel⟩
def spOne (T : List (Addr × Str)) : Sp := fun vs H Q _ => ∃ page : Str, vs = [.str page] ∧ PgOk page ∧ Tabs T H ∧ ∀ H', ExtN H H' → Tabs T H' → Q (.bl true) H'
theorem ok_one {TT : List (Addr × Str)} {C CT CR c Po f fd' fh fr fs fe : Addr} {fd fdd fdh fdr : FuncData} (F : L2.Fun K "_law_one_right" "_law_one_right" s_one f fd) (hfc : fd.code = .ref c) (TB : TabB base mg c Po) (hmT : (Po, qO) ∈ TT) (huT : ∀ p ∈ TT, p.1 = Po → p.2 = qO)
    (GD : FnOk P w K mg base CX0 1 fd' fdd ["_law_words"] (spDue K)) (UD : Use K mg "_law_due" fd' fdd ["_law_words"])
    (FH : L2.Fun K "_law_heard" "_law_heard" s_heard fh fdh) (bH : Binds K fdh ["_law_ask"] []) (gH : mg "_law_heard" = some (.ref fh)) (R : Errs K mg CR CT) (fr' : mg "repr" = none) (gS : mg "str" = none)
    (D : Rd P w K mg base C CT fr fs fe fdr) (T : Nm mg) (S : Cs K mg C) (kL : PySem.W.kitOne K (.type "list") (.type "list") = some true) : FnOk P w K mg base CX0 9 f fd ["_law_page"] (spOne TT) := by
  obtain ⟨mc, pp, cr, cm⟩ := D.cm
  refine okC F sc_one (fun vs H Q E h => ?_) (fun cdv A outer s H vs Q E hcd hr h => ?_)
  · obtain ⟨page, rfl, _⟩ := h
    rfl
  · obtain ⟨page, rfl, pg, tb, q⟩ := h
    rw [hfc] at hcd
    subst hcd
    have hcode : (envOfC "_law_one_right" (defScope s_one) s.heap.objs.size f (.ref c)).code = .ref c := rfl
    have hu := hr.units
    have hr1 : Room 1 _ := hr.mono (by decide)
    have hr3 : Room 3 _ := hr.mono (by decide)
    have hr6 : Room 6 _ := hr.mono (by decide)
    refine ⟨_, (pss_cons (ps_par (i := 1) (j := 2) rfl sc_one.nd rfl rfl (by decide) rfl rfl (pa_cons (pe_call GD hr1 rfl UD.g UD.kp UD.b .nil pass0 (pa_cons (pe_split (pv 0) pe_str) pa_nil)) (pa_cons (pe_heard (T := TT) (k := 6) FH bH gH R T.isi fr' TB hcode hmT huT hr (fun A2 outer2 s2 H2 E2 f2 c2 hr' => ClX.pe_cmeth (E := E2) (pe_glob (v := .ref C) rfl S.gC rfl) cr cm (fnR_of D.gr D.br) (hr'.mono (by decide)) (passes_call (takes_of rfl rfl rfl rfl) (fun _ _ _ _ h => h)) (pa_cons (pv 0) pa_nil))) pa_nil)) (by rfl))
      (pss_cons (ps_if (pt_cmpR op_notN (pv 1) pe_non (nomark _)) (pss_one (ps_ret (pe_cmpR (r := rEqD K) (op_eqD hu) (pv 2) (pe_tup (pa_cons pe_str (pa_cons pe_str (pa_cons (pe_callTy call_str_int (by rfl) gS PyProof.Rows.boot_str (pa_cons (pv 1) pa_nil)) pa_nil)))) (nomark _)))) pss_nil)
      (pss_one (ps_ret (pe_and (pe_callB call_isi (by rfl) T.isi boot_isinstance (pa_cons (pv 2) (pa_cons (pe_bltn (v := .ty "list") (by rfl) T.list PyProof.Rows.boot_list rfl) pa_nil))) (pe_and (pe_callB call_isi (by rfl) T.isi boot_isinstance (pa_cons (pe_ix ix_list (pv 2) pe_int (fun _ _ => rfl)) (pa_cons (pe_glob (v := .ref C) rfl S.gC rfl) pa_nil))) (pe_and (pe_cmpR op_eq (pe_callTy (call_strO (E := E0) D.st D.stF D.gs hr3 pass0) (by rfl) gS PyProof.Rows.boot_str (pa_cons (pe_ix ix_list (pv 2) pe_int (fun _ _ => rfl)) pa_nil)) (pv 0) (nomark _)) (pe_one (pe_cmpR (op_eqO (E := E0) D.eq D.eqF D.ge hr1 pass0) (pe_ix ix_list (pv 2) pe_int (fun _ _ => rfl)) (pe_cmethK (E := E0) (pe_glob (v := .ref C) rfl S.gC rfl) cr cm D.gr hr6 D.kr passL (pk_cons (pv 0) pk_nil)) (nomark _)))))))))), ?_⟩
    have W := pg.words
    refine ⟨_, rfl, ⟨page, rfl⟩, page, sp1, rfl, rfl, by decide, Nat.le_of_lt (small1000 (by have := pg.le; omega)), fun p0 n0 => ?_⟩
    have s0 := same_upd (o := HO.lst ((Txt.split page sp1).map V.str)) n0
    refine ⟨p0, Txt.split page sp1, rfl, upd_same, W, fun H1 s1 => ?_⟩
    have e01 : ExtN H H1 := ext_same (s0.trans s1)
    refine ⟨tb.ext (s0.trans s1), fun H2 e2 t2 => ?_⟩
    have e02 := e01.trans e2
    refine ⟨rfl, _, rfl, .str page, some page, rfl, .tx page pg.le, fun k ek => ?_, fun rows er z H3 s3 hz => ?_⟩
    · have ek : due (Txt.split page sp1) = .inl k := ek
      have k1000 : k ≤ 1000 := Nat.le_trans (due_inl ek) W.le
      intro d H3 s3 hd
      refine ⟨d, 0, k, rfl, rfl, hd, by decide, k1000, fun a p na np => ?_⟩
      refine ⟨_, _, rfl, ?_⟩
      rw [ek]
      refine ⟨_, rfl, rfl, _, rfl, iteT ?_⟩
      have s4 := same_upd (o := ExK (.ref CT) (some d) a) na
      have s5 := same_upd (o := HO.tup [V.str "text", V.str (numS 0), V.str (numS k)]) np
      refine ⟨_, rfl, _, rfl, _, rfl, log_small k1000, by show 3 ≤ sizeLine; exact Nat.le_of_lt (small1000 (by omega)), fun p2 np2 => ?_⟩
      have s6 := same_upd (o := HO.tup [V.str "text", V.str "0", V.str (numS k)]) np2
      refine ⟨.tuple [.str "text", .str (numS 0), .str (numS k)], .tuple [.str "text", .str (numS 0), .str (numS k)], .tup (.of (s6 _ _ upd_same)) (.cons (.str _) (.cons (.str _) (.cons (.str _) .nil))), .tup (.of upd_same) ?_, sh_tup3 (by decide +kernel) (numS_ok _) (numS_ok _), sh_tup3 (by decide +kernel) (numS_ok _) (numS_ok _), ?_⟩
      · rw [show numS 0 = ("0" : Str) from by decide +kernel]
        exact .cons (.str _) (.cons (.str _) (.cons (.str _) .nil))
      · rw [SeqAt.eqv_refl _ (SeqAt.canLay_of_shaped (sh_tup3 (by decide +kernel) (numS_ok _) (numS_ok _)))]
        exact q _ (e02.trans (ext_same (s3.trans (s4.trans (s5.trans s6))))) (t2.ext (s3.trans (s4.trans (s5.trans s6))))
    · have er : due (Txt.split page sp1) = .inr rows := er
      obtain ⟨c1, c2, c3⟩ := due_inr er (split_ne page)
      rw [join_words] at c3
      refine ⟨by show 1 ≤ sizeLine; exact Nat.le_of_lt (small1000 (by omega)), fun p np => ?_⟩
      refine ⟨_, _, rfl, ?_⟩
      rw [er]
      have s4 := same_upd (o := HO.lst [V.ref z]) np
      refine ⟨_, rfl, rfl, _, rfl, iteF ?_⟩
      obtain ⟨dx, t, hx, ht, _⟩ := id (hz.keep s4)
      refine ⟨_, rfl, _, _, _, _, true, rfl, .ty "list", .base (.lst upd_same), kL, true, rfl, iteT ?_⟩
      refine ⟨_, rfl, p, _, 0, _, rfl, rfl, .of upd_same, atI_nat (j := 0) rfl, _, _, _, _, true, rfl, .own C, .base (.ins hx S.cl S.ca S.cn S.ct S.cm), S.kC, true, rfl, iteT ?_⟩
      refine ⟨_, rfl, p, _, 0, _, rfl, rfl, .of upd_same, atI_nat (j := 0) rfl, z, dx, _, rfl, hx, z, rows, rfl, hz.keep s4, fun H5 s5 => ?_⟩
      have hp5 := s5 _ _ (upd_same (H := H3) (a := p) (o := HO.lst [V.ref z]))
      refine ⟨_, rfl, _, rfl, by rfl, ?_⟩
      rw [c3]
      refine ⟨true, congrArg V.bl (decide_eq_true rfl), iteT ?_⟩
      refine ⟨_, rfl, p, _, 0, _, rfl, rfl, .of hp5, atI_nat (j := 0) rfl, rfl, _, rfl, rfl, .str page, some page, rfl, .tx page pg.le, fun k ek => ?_, fun rows2 er2 z2 H6 s6 hz2 => ?_⟩
      · have ek : due (Txt.split page sp1) = .inl k := ek
        rw [er] at ek
        cases ek
      · have er2 : due (Txt.split page sp1) = .inr rows2 := er2
        rw [er] at er2
        cases er2
        have hz1 : SpA C H6 z rows := hz.keep (s4.trans (s5.trans s6))
        obtain ⟨dx1, t1, hx1, _⟩ := id hz1
        obtain ⟨dx2, t2', hx2, _⟩ := id hz2
        refine ⟨z, dx1, _, z2, dx2, _, rfl, rfl, hx1, hx2, z, z2, rows, rows, rfl, hz1, hz2, ?_⟩
        rw [decide_eq_true rfl]
        have sx := s3.trans (s4.trans (s5.trans s6))
        exact q H6 (e02.trans (ext_same sx)) (t2.ext sx)
end
end Lr

set_option Elab.async false
set_option linter.all false
set_option maxRecDepth 100000
set_option maxHeartbeats 4000000
namespace Lr
open PySem PySem.Spec PyProof.Rows L2 Ow Og Oe TL LamX Oq
theorem tabs_kept {T : List (Addr × Str)} {H H' : Hp} {a : Addr} {ys : List V} (ha : H a = some (.lst ys)) (k : Kept a H H') (t : Tabs T H) : Tabs T H' := fun p hp => by
  obtain ⟨ps, h1, h2, h3⟩ := t p hp
  have pa : p.1 ≠ a := fun z => by
    rw [z, ha] at h1
    cases h1
  refine ⟨ps, k _ _ pa h1, h2, fun pos cv hc => ?_⟩
  obtain ⟨c, e1, e2⟩ := h3 pos cv hc
  have ca : c ≠ a := fun z => by
    rw [z, ha] at e2
    unfold CodeO at e2
    cases e2
  exact ⟨c, e1, k _ _ ca e2⟩
theorem pen_tabs {T : List (Addr × Str)} {H H' : Hp} {a b : Addr} {n : Nat} (p : PenAt H a b n) (k : Kept a H H') (t : Tabs T H) : Tabs T H' := by
  obtain ⟨ys, hy⟩ := pen_at p
  exact tabs_kept hy k t
theorem canon_ex (l : List Nat) : ∃ m, Xr.Canon m ∧ ∀ u, Xr.Span m u ↔ Xr.Span l u := by
  obtain ⟨r, sp⟩ := Xr.red_fold l [] Xr.Red.nil
  rw [List.append_nil] at sp
  generalize l.foldl Xr.red1 [] = k at r sp
  have hp := List.mergeSort_perm (k.map fun n : Nat => (n : Int)) (fun a b => decide (a ≤ b))
  have hs := List.pairwise_mergeSort (le := fun a b : Int => decide (a ≤ b)) (by intro a b c h1 h2; simp only [decide_eq_true_eq] at *; omega) (by intro a b; simp only [Bool.or_eq_true, decide_eq_true_eq]; omega) (k.map fun n : Nat => (n : Int))
  obtain ⟨c, p, _⟩ := sorted_canon r hp (hs.imp fun h => of_decide_eq_true h)
  exact ⟨_, c, fun u => (Xr.span_perm p u).trans (sp u)⟩
theorem page_ok {m : List Nat} (h : ∀ r ∈ m, r < 2 ^ 16) (hl : m.length ≤ 16) : PgOk (pageOf m) := by
  refine ⟨Nat.le_trans (page_len h hl) (by omega), fun c hc => ?_⟩
  unfold pageOf at hc
  by_cases e : m = []
  · rw [if_pos e] at hc
    have : tl ("-" : Str) = [45] := by decide
    rw [this] at hc
    rw [List.mem_singleton.mp hc]
    decide
  · rw [if_neg e, join_eq, tl_join] at hc
    rcases joinL_sub _ hc with h | ⟨p, hp, h⟩
    · have : tl (" " : Str) = [32] := by decide
      rw [this] at h
      rw [List.mem_singleton.mp h]
      decide
    · rw [List.map_map] at hp
      obtain ⟨n, _, rfl⟩ := List.mem_map.mp hp
      have h : c ∈ tl (numS n) := h
      rw [show tl (numS n) = numL n from tl_num n] at h
      have := numL_digits n c h
      omega
theorem wt_split (x : Str) : wt (Txt.split x sp1) ≤ x.length + 1 := PyProof.Rows.split_weight x sp1 (by decide)
def wb : Nat → Nat
  | 0 => 97
  | j + 1 => 2 * wb j + 11
theorem wb_le : ∀ j, j < 3 → wb j ≤ 421 := by decide
theorem bent_ok {page : Str} {ys : List Str} {j : Nat} (h : PgOk page) (hw : wt (Txt.split page sp1) ≤ wb j) (hj : j < 3) (b : Bent (Txt.split page sp1) ys) : PgOk (Txt.join sp1 ys) ∧ wt (Txt.split (Txt.join sp1 ys) sp1) ≤ wb (j + 1) ∧ wt ys ≤ 900 := by
  have w3 := wb_le j hj
  have bl := b.le
  have jl : (Txt.join sp1 ys).length ≤ wt ys := join_len ys
  refine ⟨⟨by omega, fun c hc => ?_⟩, ?_, by omega⟩
  · rw [join_eq, tl_join] at hc
    rcases joinL_sub _ hc with h1 | ⟨p, hp, h1⟩
    · have : tl sp1 = [32] := by decide
      rw [this] at h1
      rw [List.mem_singleton.mp h1]
      decide
    · obtain ⟨y, hy, rfl⟩ := List.mem_map.mp hp
      rcases b.sub y hy with hy | hy
      · exact (h.words.ok y hy).2 c h1
      · exact (lb_ok y hy).2 c h1
  · have := wt_split (Txt.join sp1 ys)
    show _ ≤ 2 * wb j + 11
    omega
def LF : List Str := ["", " ", "0", "- -", "- ", "3 6", "6 3", "3 5 ", "1 1", "2 3", "65536", "1  2"]
theorem lf_pg : ∀ x ∈ LF, PgOk x := by
  have : ∀ x ∈ LF, x.length ≤ 900 ∧ ∀ c ∈ tl x, c < 128 := by decide +kernel
  exact fun x hx => ⟨(this x hx).1, (this x hx).2⟩
theorem lf_due : ∀ x ∈ LF, (due (Txt.split x sp1)).isLeft = true := by decide +kernel
theorem due36 : due ["3", "6"] = .inl 1 := by decide +kernel
theorem ws36 : WsOk ["3", "6"] := ⟨by decide, by decide, by decide +kernel⟩
theorem is_left {s : _root_.Sum Nat (List Nat)} (h : s.isLeft = true) : ∃ k, s = .inl k := by
  cases s with
  | inl k => exact ⟨k, rfl⟩
  | inr _ => cases h
end Lr

set_option Elab.async false
set_option linter.all false
set_option maxRecDepth 100000
set_option maxHeartbeats 4000000
namespace Lr
open PySem PySem.Spec PyProof.Rows L2 Ow Og Oe TL LamX Oq
theorem seq_vx {te : TE} {u : TS} {D : Ends} {σ : L2.St} {H : Hp} {i : Nat} {v : V} (h : VX te σ H v) (k : ∀ H', Same H H' → u D (σ.set i (some v)) H') : tSeq (tAsg te (gName i)) u D σ H := h H _ (fun _ _ e => e) fun H' s => k H' s
theorem cons_ask {C : Addr} {σ : L2.St} {H : Hp} {Q : List V → Hp → Prop} (h : mkAsk C (spInitS C) E0 (ri [1]) H fun x H1 => Q [x] H1) : tCons (fun σ H Q => tCons (tC (V.int 1)) tNil σ H fun vs H1 => mkAsk C (spInitS C) E0 vs H1 Q) tNil σ H Q := h
theorem neq_tup {l : List Nat} : (!PyData.eqv (.tuple ((l.map fun n : Nat => (n : Int)).map PyData.int)) (.tuple ((([] : List Nat).map fun n : Nat => (n : Int)).map PyData.int))) = !l.isEmpty := by
  rw [PyData.eqv, eqv_intsB]
  cases l with
  | nil => rfl
  | cons x l => rfl
section
variable {P : Program} {w : World} {K : PySem.W.Frag} {mg : Str → Option Value} {base : Heap}
abbrev s_law : Stmt := topS 36
theorem sc_law : FnScope ["_law_script", "_law_pen_here", "_law_turn_so", "_law_rows", "_law_page", "_law_words", "_law_lap_so", "_law_some", "_law_odd", "_law_row"] ["_law_script"] (defScope s_law) := ⟨rfl, rfl, rfl, by decide +kernel, rfl, by decide +kernel, by decide +kernel⟩
def spLaw (K : PySem.W.Frag) (Pl Po : Addr) : Sp := fun vs H Q _ => ∃ (a : Addr) (ns : List Int), vs = [.ref a] ∧ SqL K H a (ii ns) ∧ ns.length ≤ 63 ∧ H Pl = some (.tbl #[]) ∧ H Po = some (.tbl #[]) ∧ ∀ H', Q (.bl true) H'
theorem ok_law {C CT CR c Pl Po f f0 fp fk fn fm fr' fs fd' fb fo fh fr fst fe : Addr} {fd fdp fdk fdn fdm fdr' fds fdd fdb fdo fdh fdr : FuncData} (F : L2.Fun K "law" "law" s_law f fd) (hfc : fd.code = .ref c) (TB : TabB base mg c Pl) (hPo : Pl ≠ Po)
    (Gp : FnOk P w K mg base CX0 1 fp fdp ["_law_script"] (spPen K)) (Up : Use K mg "_law_pen" fp fdp ["_law_script"])
    (Gk : FnOk P w K mg base CX0 2 fk fdk ["_law_pen_here", "_law_some"] spPick) (GkV : FnOk P w K mg base CX0 2 fk fdk ["_law_pen_here", "_law_some"] spPickV) (Uk : Use K mg "_law_pick" fk fdk ["_law_pen_here", "_law_some"])
    (Gn : FnOk P w K mg base CX0 2 fn fdn ["_law_pen_here", "_law_most", "_law_bits"] spNums) (Un : Use K mg "_law_numbers" fn fdn ["_law_pen_here", "_law_most", "_law_bits"])
    (Gm : FnOk P w K mg base CX0 1 fm fdm ["_law_numbers_here"] spSums) (Um : Use K mg "_law_sums" fm fdm ["_law_numbers_here"])
    (Gr : FnOk P w K mg base CX0 1 fr' fdr' ["_law_sums_here"] (spLRed K)) (Ur : Use K mg "_law_reduced" fr' fdr' ["_law_sums_here"])
    (Gs : FnOk P w K mg base CX0 7 fs fds ["_law_numbers_here"] (spSpace C)) (Us : Use K mg "_law_space" fs fds ["_law_numbers_here"])
    (Gd : FnOk P w K mg base CX0 1 fd' fdd ["_law_words"] (spDue K)) (Ud : Use K mg "_law_due" fd' fdd ["_law_words"])
    (Gb : FnOk P w K mg base CX0 3 fb fdb ["_law_pen_here", "_law_words"] spBent) (Ub : Use K mg "_law_bent" fb fdb ["_law_pen_here", "_law_words"])
    (Go : FnOk P w K mg base CX0 9 fo fdo ["_law_page"] (spOne [(Pl, qL), (Po, qO)])) (Uo : Use K mg "_law_one_right" fo fdo ["_law_page"])
    (FH : L2.Fun K "_law_heard" "_law_heard" s_heard fh fdh) (bH : Binds K fdh ["_law_ask"] []) (gH : mg "_law_heard" = some (.ref fh)) (R : Errs K mg CR CT) (fre : mg "repr" = none) (gS : mg "str" = none)
    (D : Rd P w K mg base C CT fr fst fe fdr) (GI : FnR P w K mg base CX0 4 f0 (spInitS C)) (MM : Mk K C f0) (T : Nm mg) (S : Cs K mg C) (kS : PySem.W.kitOne K (.ref C) (.type "str") = some false) : FnOk P w K mg base CX0 11 f fd ["_law_script"] (spLaw K Pl Po) := by
  obtain ⟨mc, pp, cr, cm⟩ := D.cm
  refine okC F sc_law (fun vs H Q E h => ?_) (fun cdv A outer s H vs Q E hcd hr h => ?_)
  · obtain ⟨a, ns, rfl, _⟩ := h
    rfl
  · obtain ⟨a0, ns, rfl, hS, hlen, hPl, hPo', q⟩ := h
    rw [hfc] at hcd
    subst hcd
    have hcode : (envOfC "law" (defScope s_law) s.heap.objs.size f (.ref c)).code = .ref c := rfl
    have hu := hr.units
    have hr1 : Room 1 _ := hr.mono (by decide)
    have hr2 : Room 2 _ := hr.mono (by decide)
    have hr3 : Room 3 _ := hr.mono (by decide)
    have hr5 : Room 5 _ := hr.mono (by decide)
    have hr7 : Room 7 _ := hr.mono (by decide)
    have hr8 : Room 8 _ := hr.mono (by decide)
    have hr9 : Room 9 _ := hr.mono (by decide)
    have hmT : (Pl, qL) ∈ [(Pl, qL), (Po, qO)] := List.mem_cons_self
    have huT : ∀ p ∈ [(Pl, qL), (Po, qO)], p.1 = Pl → p.2 = qL := by
      intro p hp e
      rcases List.mem_cons.mp hp with h | h
      · rw [h]
      · rw [List.mem_singleton.mp h] at e
        exact absurd e.symm hPo
    refine ⟨_, (pss_cons (ps_set (i := 1) sc_law.nd rfl (Or.inl rfl) (pe_call Gp hr1 rfl Up.g Up.kp Up.b .nil pass0 (pa_cons (pv 0) pa_nil)))
    (pss_cons (ps_for PassesOwn.never rfl (pi_range1 rfl T.range (pa_cons pe_int pa_nil)) (pg_name (i := 2) sc_law.nd rfl (Or.inl rfl))
    (pss_cons (ps_set (i := 3) sc_law.nd rfl (Or.inl rfl) (pe_call Gr hr1 rfl Ur.g Ur.kp Ur.b .nil pass0 (pa_cons (pe_call Gm hr1 rfl Um.g Um.kp Um.b .nil pass0 (pa_cons (pe_call Gn hr2 rfl Un.g Un.kp Un.b .nil pass0 (pa_cons (pv 1) (pa_cons pe_int (pa_cons (pe_call Gk hr2 rfl Uk.g Uk.kp Uk.b .nil pass0 (pa_cons (pv 1) (pa_cons (pe_lst (pa_cons pe_int (pa_cons pe_int (pa_cons pe_int pa_nil)))) pa_nil))) pa_nil)))) pa_nil)) pa_nil)))
    (pss_cons (ps_set (i := 4) sc_law.nd rfl (Or.inl rfl) (pe_ifExp (pt_cmpR (r := rNeD K) (op_neD hu) (pv 3) (pe_tup pa_nil) (nomark _)) (pe_join pe_str (pe_lc (wi := iTup K (tVar 3)) (own := [("_law_row", 9)]) (g := (gName 9)) (tt := tYes) rfl sc_law.nd (by exact pi_tup (pv 3)) (blkOk_by (by kernel_rfl)) (fun _ _ _ _ _ => pg_name (i := 9) sc_law.nd rfl (Or.inl rfl)) (fun _ _ _ _ _ => pts_nil) (fun _ _ _ _ _ => (pe_callTy call_str_int (by rfl) gS PyProof.Rows.boot_str (pa_cons (pv 9) pa_nil))))) pe_str))
    (pss_cons (ps_if (PW.pt (pw_or (pt_cmpR op_ne (pe_callTy (call_strO (E := E0) D.st D.stF D.gs hr3 pass0) (by rfl) gS PyProof.Rows.boot_str (pa_cons (pe_call Gs hr7 rfl Us.g Us.kp Us.b .nil pass0 (pa_cons (pe_callTy call_list_of (by rfl) T.list PyProof.Rows.boot_list (pa_cons (pv 3) pa_nil)) pa_nil)) pa_nil)) (pv 4) (nomark _)) (pw_or1 (pt_not (pt_val (pe_call Go hr9 rfl Uo.g Uo.kp Uo.b .nil pass0 (pa_cons (pv 4) pa_nil))))))) (pss_one (ps_ret pe_bl)) pss_nil)
    (pss_cons (ps_set (i := 5) sc_law.nd rfl (Or.inl rfl) (pe_split (pv 4) pe_str))
    (pss_one (ps_for PassesOwn.never rfl (pi_range1 rfl T.range (pa_cons pe_int pa_nil)) (pg_name (i := 6) sc_law.nd rfl (Or.inl rfl))
    (pss_cons (ps_set (i := 5) sc_law.nd rfl (Or.inl rfl) (pe_split (pe_join pe_str (pe_call Gb hr3 rfl Ub.g Ub.kp Ub.b .nil pass0 (pa_cons (pv 1) (pa_cons (pv 5) pa_nil)))) pe_str))
    (pss_one (ps_if (pt_not (pt_val (pe_call Go hr9 rfl Uo.g Uo.kp Uo.b .nil pass0 (pa_cons (pe_join pe_str (pv 5)) pa_nil)))) (pss_one (ps_ret pe_bl)) pss_nil))))))))))
    (pss_cons (ps_set (i := 7) sc_law.nd rfl (Or.inl rfl) (pe_lst (pa_cons pe_str (pa_cons pe_str (pa_cons pe_str (pa_cons pe_str (pa_cons pe_str (pa_cons pe_str (pa_cons pe_str (pa_cons pe_str (pa_cons pe_str (pa_cons pe_str (pa_cons pe_str (pa_cons pe_str pa_nil))))))))))))))
    (pss_cons (ps_if (pt_cmpR (r := rNeD K) (op_neD hu) (pe_lc (own := [("_law_page", 4)]) (g := (gName 4)) (tt := _) rfl sc_law.nd (pi_list (pv 7)) (blkOk_by (by kernel_rfl)) (fun _ _ _ _ _ => pg_name (i := 4) sc_law.nd rfl (Or.inl rfl)) (fun _ _ _ _ _ => pts_one (PW.pt (pw_or (pt_cmpR op_isN (pe_call Gd hr1 rfl Ud.g Ud.kp Ud.b .nil pass0 (pa_cons (pe_split (pv 4) pe_str) pa_nil)) pe_non (nomark _)) (pw_or1 (pt_not (pt_val (pe_call Go hr9 rfl Uo.g Uo.kp Uo.b .nil pass0 (pa_cons (pv 4) pa_nil)))))))) (fun _ _ _ _ _ => (pv 4))) (pe_lst pa_nil) (nomark _)) (pss_one (ps_ret pe_bl)) pss_nil)
    (pss_cons (ps_set (i := 8) sc_law.nd rfl (Or.inr rfl) (pe_call GkV hr2 rfl Uk.g Uk.kp Uk.b .nil pass0 (pa_cons (pv 1) (pa_cons (pe_lst (pa_cons pe_non (pa_cons pe_int (pa_cons pe_bl (pa_cons (pe_tup (pa_cons pe_str pa_nil)) (pa_cons (pe_lst (pa_cons pe_str pa_nil)) (pa_cons pe_dnewK (pa_cons (pe_makeRs (E := E0) MM GI hr5 rfl S.gC pass0 (pa_cons pe_int pa_nil)) pa_nil)))))))) pa_nil))))
    (pss_one (ps_ret (pe_and (pe_cmpR (r := rEqD K) (op_eqD hu) (pe_heard (T := [(Pl, qL), (Po, qO)]) (k := 6) FH bH gH R T.isi fre TB hcode hmT huT hr8 (fun A2 outer2 s2 H2 E2 f2 c2 hr' => ClX.pe_cmeth (E := E2) (pe_glob (v := .ref C) rfl S.gC rfl) cr cm (fnR_of D.gr D.br) (hr'.mono (by decide)) (passes_call (takes_of rfl rfl rfl rfl) (fun _ _ _ _ h => h)) (pa_cons (pv 8) pa_nil))) (pe_tup (pa_cons pe_str (pa_cons pe_str (pa_cons pe_str pa_nil)))) (nomark _)) (pe_one (pe_cmpR op_eq (pe_call Gd hr1 rfl Ud.g Ud.kp Ud.b .nil pass0 (pa_cons (pe_lst (pa_cons pe_str (pa_cons pe_str pa_nil))) pa_nil)) pe_int (nomark _))))))))))), ?_⟩
    refine ⟨_, rfl, a0, ns, rfl, hS, hlen, fun pn b H1 p1 s1 np => ?_⟩
    have t1 : Tabs [(Pl, qL), (Po, qO)] H1 := by
      intro p hp
      rcases List.mem_cons.mp hp with h | h
      · rw [h]
        exact TabS.nil (s1 _ _ hPl)
      · rw [List.mem_singleton.mp h]
        exact TabS.nil (s1 _ _ hPo')
    generalize hTT : [(Pl, qL), (Po, qO)] = TT at t1 hmT huT
    refine ⟨9, rfl, by decide, by decide, ?_⟩
    refine for_range (lo := 0) (n := 9) (fun i σ H' => ∃ (n : Nat) (v2 v3 v4 v5 v6 v7 v8 v9 : Option V), σ = [some (.ref a0), some (.ref pn), v2, v3, v4, v5, v6, v7, v8, v9] ∧ PenAt H' pn b n ∧ n ≤ 25 * i ∧ Tabs TT H') ⟨0, none, none, none, none, none, none, none, none, rfl, p1, Nat.zero_le _, t1⟩ ?_ ?_
    · rintro i σ H2 hi ⟨n, v2, v3, v4, v5, v6, v7, v8, v9, rfl, p2, hn, t2⟩
      refine ⟨_, rfl, _, rfl, by show 3 ≤ sizeLine; exact Nat.le_of_lt (small1000 (by omega)), fun r3 n3 => ?_⟩
      have s3 := same_upd (o := HO.lst (ri [3, 5, 16])) n3
      refine ⟨pn, b, r3, n, [3, 5, 16], rfl, p2.same s3, by omega, upd_same, by decide, by decide, fun x H3 hx p3 k3 => ?_⟩
      have x1 : 1 ≤ x ∧ x ≤ 16 := by
        have : ∀ y ∈ [3, 5, 16], 1 ≤ y ∧ y ≤ 16 := by decide
        exact this x hx
      refine ⟨pn, b, n + 1, x, rfl, p3, by omega, x1.1, x1.2, fun l pl H4 hl l6 p4 k4 nl el => ?_⟩
      refine ⟨pl, l, rfl, el, by omega, fun ms zs H5 hms es nds s5 ns5 => ?_⟩
      obtain ⟨m, cm', hm⟩ := canon_ex l
      have lt16 : ∀ r ∈ m, r < 2 ^ 16 := fun r hr => by
        have sp := (hm r).mp (Xr.span_mem hr)
        have lx : r < 2 ^ x := Xr.span_least (S := fun y => y < 2 ^ x) (Nat.two_pow_pos x) (fun y z a b => Nat.xor_lt_two_pow a b) hl sp
        exact Nat.lt_of_lt_of_le lx (Nat.pow_le_pow_right (by decide) x1.2)
      have m16 := red_len cm'.1 lt16
      have msl : ms.length ≤ 1024 := by
        have c1 := span_card nds (fun u hu => (hms u).mp hu)
        have c2 : 2 ^ l.length ≤ 2 ^ 6 := Nat.pow_le_pow_right (by decide) l6
        omega
      refine ⟨zs, ms, m, rfl, es, msl, cm', by omega, fun u => (hms u).trans (hm u).symm, fun z H6 s6 nz hz => ?_⟩
      have t6 : Tabs TT H6 := ((pen_tabs (p2.same s3) k3 (t2.ext s3)) |> pen_tabs p3 k4).ext (s5.trans s6)
      have p6 : PenAt H6 pn b (n + 14) := (p4.same (s5.trans s6)).mono (by omega)
      dsimp only [gName]
      refine seq_vx (v := .str (pageOf m)) ?_ (fun H7 s7 => ?_)
      · intro HA Q' sA q'
        have hzA := keepT hz sA
        refine ⟨_, rfl, Nat.zero_le _, fun r nr => ?_⟩
        have sr := same_upd (o := HO.tup (ri [])) nr
        refine ⟨_, _, dpT (keepT hzA sr), dpT (l := []) (.of upd_same), shaped_tup _, shaped_tup _, _, rfl, ?_⟩
        rw [neq_tup]
        cases m with
        | nil => exact iteF (q' _ sr)
        | cons m0 mr =>
          have me0 : m0 :: mr ≠ [] := fun z => nomatch z
          refine iteT ?_
          generalize m0 :: mr = m at *
          refine ⟨⟨_, rfl⟩, _, rfl, z, rfl, ⟨_, keepT hzA sr⟩, fun D nD => ?_⟩
          refine lc_tup (K := K) (a := z) (xs := ri m) (fun j H3 => Same HA H3 ∧ H3 D = some (.lst (ss ((m.take j).map numS)))) ⟨sr.trans (same_upd nD), upd_same⟩ (fun j H3 _ ⟨e, _⟩ => keepT hzA e) ?_ ?_
          · rintro j y H3 hj ⟨s3', e3⟩
            obtain ⟨r, hr', rfl⟩ := ri_get hj
            have r16 := lt16 r (List.mem_of_getElem? hr')
            refine ⟨rfl, _, rfl, _, rfl, ?_, _, e3, ?_, same_put s3' (sA.free (sr.free nD) |> fun _ => sr.free nD), ?_⟩
            · rw [Int.natAbs_natCast]
              exact Nat.lt_of_lt_of_le ((Nat.log2_lt (cm'.1.1 r (List.mem_of_getElem? hr'))).mpr r16) (by decide)
            · rw [ss_len, List.length_map, List.length_take]
              exact small1000 (by omega)
            · rw [upd_same, List.take_add_one, hr', List.map_append]
              unfold ss
              rw [List.map_append]
              rfl
          · rintro H3 ⟨s3', e3⟩
            rw [ri_len, List.take_length] at e3
            refine ⟨sp1, D, m.map numS, rfl, rfl, .inl (.of e3), ?_, ?_⟩
            · have := sum_le (fun n => (numS n).length) 5 m fun x hx => numS_len (lt16 x hx)
              rw [List.map_map, List.length_map, show sp1.length = 1 from by decide]
              show (m.map fun n => (numS n).length).sum + m.length * 1 ≤ 16777216
              omega
            · have e : pageOf m = Txt.join sp1 (m.map numS) := by
                unfold pageOf
                rw [if_neg me0]
                rfl
              rw [← e]
              exact q' H3 s3'
      · have pg := page_ok lt16 m16
        have hz7 := keepT hz s7
        refine ⟨_, rfl, z, _, rfl, .inr hz7, fun l9 n9 => ?_⟩
        have s9 := same_upd (o := HO.lst (ri m)) n9
        refine ⟨l9, m, rfl, upd_same, lt16, fun m2 zz H8 hm2 hzz s8 => ?_⟩
        have em : m2 = m := Xr.Canon.ext hzz.canon cm' hm2
        subst em
        obtain ⟨dx, tt, hx', _⟩ := id hzz
        refine ⟨zz, dx, _, rfl, hx', zz, m2, rfl, hzz, fun H9 s10 => ⟨_, rfl, _, rfl, by rfl, false, ?_, iteF ?_⟩⟩
        · rw [decide_eq_true rfl]
          rfl
        have s69 := s7.trans (s9.trans (s8.trans s10))
        have w0 : wt (Txt.split (pageOf m2) sp1) ≤ wb 0 := by
          have h1 := wt_split (pageOf m2)
          have h2 := page_len lt16 m16
          show _ ≤ 97
          omega
        refine ⟨_, rfl, pageOf m2, rfl, pg, t6.ext s69, fun H10 e10 t10 => ⟨_, rfl, iteF ?_⟩⟩
        have p10 : PenAt H10 pn b (n + 14) := pen_ext (p6.same s69) e10
        clear s10 s8 s9 s69 hx' hzz hm2 n9 hz7 s7
        generalize pageOf m2 = page0 at pg w0 ⊢
        dsimp only [tNext]
        refine ⟨_, rfl, ⟨_, rfl⟩, page0, sp1, rfl, rfl, by decide, Nat.le_of_lt (small1000 (by have := pg.le; omega)), fun pw npw => ?_⟩
        obtain ⟨yp, hyp⟩ := pen_at p10
        have spw := same_upd (o := HO.lst ((Txt.split page0 sp1).map V.str)) npw
        refine ⟨3, rfl, by decide, by decide, ?_⟩
        refine for_range (lo := 0) (n := 3) (fun j σ H' => ∃ (k : Nat) (page : Str) (pw : Addr) (u2 u3 u4 u6 u7 u8 u9 : Option V), σ = [some (.ref a0), some (.ref pn), u2, u3, u4, some (.ref pw), u6, u7, u8, u9] ∧ H' pw = some (.lst (ss (Txt.split page sp1))) ∧ pw ≠ pn ∧ PgOk page ∧ wt (Txt.split page sp1) ≤ wb j ∧ PenAt H' pn b k ∧ k ≤ n + 14 + 3 * j ∧ Tabs TT H')
          ⟨n + 14, page0, pw, _, _, _, _, _, _, _, rfl, upd_same, ne_pen hyp npw, pg, w0, p10.same spw, Nat.le_refl _, t10.ext spw⟩ ?_ ?_
        · rintro j σ HB hj ⟨k, page, pw', u2, u3, u4, u6, u7, u8, u9, rfl, hpw, pwn, pgk, wk, pk, hk, tk⟩
          refine ⟨⟨_, rfl⟩, _, rfl, _, rfl, pn, b, pw', k, Txt.split page sp1, rfl, pk, by omega, hpw, pwn, by have := wb_le j hj; omega, fun ys r HC bt pc kc ec => ?_⟩
          obtain ⟨pg2, wk2, wy⟩ := bent_ok pgk wk hj bt
          have szy : (ys.map (·.length)).sum + ys.length * sp1.length ≤ 16777216 := by
            rw [show sp1.length = 1 from by decide, Nat.mul_one]
            have : wt ys ≤ 900 := wy
            unfold wt at this
            omega
          refine ⟨sp1, r, ys, rfl, rfl, .inl (.of ec), szy, ?_⟩
          refine ⟨⟨_, rfl⟩, Txt.join sp1 ys, sp1, rfl, rfl, by decide, Nat.le_of_lt (small1000 (by have := pg2.le; omega)), fun pw2 npw2 => ?_⟩
          have tc := pen_tabs pk kc tk
          generalize Txt.join sp1 ys = page2 at *
          have spw2 := same_upd (o := HO.lst ((Txt.split page2 sp1).map V.str)) npw2
          obtain ⟨yc, hyc⟩ := pen_at pc
          have szp : ((Txt.split page2 sp1).map (·.length)).sum + (Txt.split page2 sp1).length * sp1.length ≤ 16777216 := by
            rw [show sp1.length = 1 from by decide, Nat.mul_one]
            have h1 : wt (Txt.split page2 sp1) ≤ wb (j + 1) := wk2
            have h2 := wb_le j hj
            have h3 : wb (j + 1) = 2 * wb j + 11 := rfl
            unfold wt at h1
            omega
          refine ⟨⟨_, rfl⟩, _, rfl, sp1, pw2, Txt.split page2 sp1, rfl, rfl, .inl (.of upd_same), szp, ?_⟩
          refine ⟨page2, by rw [join_words]; rfl, pg2, tc.ext spw2, fun HD eD tD => ⟨_, rfl, iteF ?_⟩⟩
          exact ⟨k + 3, page2, pw2, _, _, _, _, _, _, _, rfl, eD _ _ upd_same (fun ps z => nomatch z), ne_pen hyc npw2, pg2, wk2, pen_ext (pc.same spw2) eD, by omega, tD⟩
        · rintro σ HB ⟨k, page, pw', u2, u3, u4, u6, u7, u8, u9, rfl, hpw, pwn, pgk, wk, pk, hk, tk⟩
          exact ⟨k, _, _, _, _, _, _, _, _, rfl, pk, by omega, tk⟩
    · rintro σ H2 ⟨n, v2, v3, v4, v5, v6, v7, v8, v9, rfl, p2, hn, t2⟩
      refine ⟨by show 12 ≤ sizeLine; exact Nat.le_of_lt (small1000 (by omega)), fun r7 n7 => ?_⟩
      have s7 := same_upd (o := HO.lst (ss LF)) n7
      have e7 : (upd H2 r7 (.lst (ss LF))) r7 = some (.lst (ss LF)) := upd_same
      have t7 := t2.ext s7
      have p7 := p2.same s7
      generalize hH7 : upd H2 r7 (.lst (ss LF)) = H7 at e7 t7 p7
      have hH7' : upd H2 r7 (.lst [V.str "", V.str " ", V.str "0", V.str "- -", V.str "- ", V.str "3 6", V.str "6 3", V.str "3 5 ", V.str "1 1", V.str "2 3", V.str "65536", V.str "1  2"]) = H7 := hH7
      rw [hH7']
      refine ⟨_, rfl, r7, rfl, ⟨_, .of e7⟩, fun D nD => ?_⟩
      have sD := same_upd (o := HO.lst []) nD
      refine lc_list (K := K) (a := r7) (xs := ss LF) (fun j H3 => ExtN H7 H3 ∧ Tabs TT H3 ∧ H3 D = some (.lst [])) ⟨ext_same sD, t7.ext sD, upd_same⟩ (fun j H3 _ ⟨e, _⟩ => .of (e _ _ e7 (fun ps z => nomatch z))) ?_ ?_
      · rintro j y H3 hj ⟨e3, t3, d3⟩
        obtain ⟨x, hx, rfl⟩ : ∃ x, LF[j]? = some x ∧ y = .str x := by
          unfold ss at hj
          rw [List.getElem?_map] at hj
          obtain ⟨x, h1, h2⟩ := Option.map_eq_some_iff.mp hj
          exact ⟨x, h1, h2.symm⟩
        have xm := List.mem_of_getElem? hx
        have pg := lf_pg x xm
        obtain ⟨k, hk⟩ := is_left (lf_due x xm)
        refine ⟨rfl, _, rfl, ⟨_, rfl⟩, x, sp1, rfl, rfl, by decide, Nat.le_of_lt (small1000 (by have := pg.le; omega)), fun p np => ?_⟩
        have s4 := same_upd (o := HO.lst ((Txt.split x sp1).map V.str)) np
        refine ⟨p, Txt.split x sp1, rfl, upd_same, pg.words, fun H4 s5 => ?_⟩
        rw [hk]
        refine ⟨rfl, _, rfl, iteF ?_⟩
        refine ⟨_, rfl, x, rfl, pg, t3.ext (s4.trans s5), fun H5 e5 t5 => ⟨_, rfl, ?_⟩⟩
        exact iteF ⟨e3.trans ((ext_same (s4.trans s5)).trans e5), t5, e5 _ _ ((s4.trans s5) _ _ d3) (fun ps z => nomatch z)⟩
      · rintro H3 ⟨e3, t3, d3⟩
        refine ⟨Nat.zero_le _, fun r nr => ?_⟩
        have sr := same_upd (o := HO.lst []) nr
        refine ⟨.list [], .list [], .lst (.of (sr _ _ d3)) .nil, .lst (.of upd_same) .nil, by decide, by decide, false, rfl, iteF ?_⟩
        have p3 : PenAt (upd H3 r (.lst [])) pn b n := (pen_ext p7 e3).same sr
        have t4 := t3.ext sr
        generalize upd H3 r (.lst []) = H4 at p3 t4
        dsimp only [tNext]
        obtain ⟨yn, hyn⟩ := pen_at p3
        refine ⟨_, rfl, by show 1 ≤ sizeLine; exact Nat.le_of_lt (small1000 (by omega)), fun tp ntp => ?_⟩
        have sa := same_upd (o := HO.tup [V.str "-"]) ntp
        have ha : (upd H4 tp (.tup [V.str "-"])) tp = some (.tup [V.str "-"]) := upd_same
        generalize upd H4 tp (.tup [V.str "-"]) = Ha at sa ha ⊢
        refine ⟨by show 1 ≤ sizeLine; exact Nat.le_of_lt (small1000 (by omega)), fun lp nlp => ?_⟩
        have sb := same_upd (o := HO.lst [V.str "1"]) nlp
        have hb : (upd Ha lp (.lst [V.str "1"])) lp = some (.lst [V.str "1"]) := upd_same
        have lpn := ne_pen (sa _ _ hyn) nlp
        generalize upd Ha lp (.lst [V.str "1"]) = Hb at sb hb ⊢
        intro dp ndp
        have sc := same_upd (o := HO.dK []) ndp
        have hc : (upd Hb dp (.dK [])) dp = some (.dK []) := upd_same
        generalize upd Hb dp (.dK []) = Hc at sc hc ⊢
        refine cons_ask (ask_of (l := [1]) ⟨by decide, by decide, fun m z Hd hm hz sd nz => ?_⟩)
        refine ⟨by show 7 ≤ sizeLine; exact Nat.le_of_lt (small1000 (by omega)), fun rp nrp => ?_⟩
        have se := same_upd (o := HO.lst [V.non, V.int 0, V.bl true, V.ref tp, V.ref lp, V.ref dp, V.ref z]) nrp
        have sAll := sa.trans (sb.trans (sc.trans (sd.trans se)))
        refine ⟨pn, b, rp, n, [V.non, V.int 0, V.bl true, V.ref tp, V.ref lp, V.ref dp, V.ref z], rfl, p3.same sAll, by omega, upd_same, ne_pen ((sa.trans (sb.trans (sc.trans sd))) _ _ hyn) nrp, by show 0 < 7; omega, by show 7 ≤ 1000; omega, fun j v H6 hj p6 k6 => ?_⟩
        have t6 := pen_tabs (p3.same sAll) k6 (t4.ext sAll)
        have hyA := sAll _ _ hyn
        have keep : ∀ (c : Addr) (o : HO), (upd Hd rp (.lst [V.non, V.int 0, V.bl true, V.ref tp, V.ref lp, V.ref dp, V.ref z])) c = some o → (∀ zs, o ≠ .lst zs) → H6 c = some o := fun c o h hn => k6 c o (fun e => by
          rw [e, hyA] at h
          cases h
          exact hn _ rfl) h
        have htp := keep tp _ ((sb.trans (sc.trans (sd.trans se))) _ _ ha) (fun zs e => nomatch e)
        have hdp := keep dp _ ((sd.trans se) _ _ hc) (fun zs e => nomatch e)
        have hlp : H6 lp = some (.lst [V.str "1"]) := k6 lp _ lpn ((sc.trans (sd.trans se)) _ _ hb)
        obtain ⟨dx, tt, hz1, _⟩ := id hz
        have hzz := keep z _ (se _ _ hz1) (fun zs e => nomatch e)
        have hv : ∀ HX, ExtN H6 HX → TxA K HX v none := fun HX eX => by
          match j, hj with
          | 0, hj => cases hj; exact .no (.base .non) (kit_ty (by decide +kernel))
          | 1, hj => cases hj; exact .no (.base (.int 0)) (kit_ty (by decide +kernel))
          | 2, hj => cases hj; exact .no (.base (.bl true)) (kit_ty (by decide +kernel))
          | 3, hj => cases hj; exact .no (.base (.tup (eX _ _ htp (fun ps z => nomatch z)))) (kit_ty (by decide +kernel))
          | 4, hj => cases hj; exact .no (.base (.lst (eX _ _ hlp (fun ps z => nomatch z)))) (kit_ty (by decide +kernel))
          | 5, hj => cases hj; exact .no (.base (.dK (eX _ _ hdp (fun ps z => nomatch z)))) (kit_ty (by decide +kernel))
          | 6, hj => cases hj; exact .no (.base (.ins (eX _ _ hzz (fun ps z => nomatch z)) S.cl S.ca S.cn S.ct S.cm)) kS
          | j + 7, hj => cases hj
        refine ⟨t6, fun HX eX tX => ?_⟩
        refine ⟨rfl, _, rfl, v, none, rfl, hv HX eX, fun k ek => ?_, fun rows er => ?_⟩
        · have ek : (_root_.Sum.inl 0 : _root_.Sum Nat (List Nat)) = .inl k := ek
          cases ek
          intro d H8 s8 hd
          refine ⟨d, 0, 0, rfl, rfl, hd, by decide, by decide, fun a p na np => ?_⟩
          refine ⟨by show 3 ≤ sizeLine; exact Nat.le_of_lt (small1000 (by omega)), fun p2 np2 => ?_⟩
          have s9 := same_upd (o := HO.tup [V.str "text", V.str "0", V.str "0"]) np2
          have sh : SeqAt.shaped (.tuple [.str "text", .str (numS 0), .str (numS 0)]) = true := sh_tup3 (by decide +kernel) (numS_ok _) (numS_ok _)
          refine ⟨.tuple [.str "text", .str (numS 0), .str (numS 0)], .tuple [.str "text", .str (numS 0), .str (numS 0)], .tup (.of (s9 _ _ upd_same)) (.cons (.str _) (.cons (.str _) (.cons (.str _) .nil))), .tup (.of upd_same) ?_, sh, sh, ?_⟩
          · rw [show numS 0 = ("0" : Str) from by decide +kernel]
            exact .cons (.str _) (.cons (.str _) (.cons (.str _) .nil))
          · rw [SeqAt.eqv_refl _ (SeqAt.canLay_of_shaped sh)]
            refine ⟨true, rfl, iteT ?_⟩
            refine ⟨by show 2 ≤ sizeLine; exact Nat.le_of_lt (small1000 (by omega)), fun p3' np3 => ?_⟩
            refine ⟨p3', ["3", "6"], rfl, upd_same, ws36, fun H' s' => ?_⟩
            rw [due36]
            exact ⟨by rfl, q H'⟩
        · have er : (_root_.Sum.inl 0 : _root_.Sum Nat (List Nat)) = .inr rows := er
          cases er
end
end Lr

set_option Elab.async false
set_option linter.all false
set_option maxRecDepth 100000
set_option maxHeartbeats 0
/-! What the top leaves: the defs, the class, found by name. -/
namespace Hk
open PySem PySem.Spec PyProof.Rows L2 Lr Ow Oe
section
variable (K : PySem.W.Frag)
def sp : Addr := He.ga K "Space"
def cp_read : Addr := He.ma K (sp K) "read"
def cg_read : Addr := match PySem.W.recIn K (cp_read K) "classmethod" with
  | some (.ref g :: _) => g
  | _ => 0
def most : Bool := match PySem.W.findCls K (.ref (sp K)) (.type "type") "MOST" with
  | some (.val (.int i _)) => decide (i = 15)
  | _ => false
def upto : Bool := match PySem.W.clsIn K (sp K) with
  | some cd => decide (cd.mro = [.ref (sp K), .type "object"])
  | _ => false
def recd (p : Addr) (T : String) : Bool := match PySem.W.recIn K p T with
  | some (.ref _ :: _) => true
  | _ => false
def isSm (p : Addr) (nm : Str) : Bool := match PySem.W.findCls K (.ref (sp K)) (.type "type") nm with
  | some (.get g a o t) => decide ([g, a, o, t] = [.builtin "staticmethod.__get__", .ref p, .none, .ref (sp K)])
  | _ => false
def isCm (p : Addr) (nm : Str) : Bool := match PySem.W.findCls K (.ref (sp K)) (.type "type") nm with
  | some (.get g a o t) => decide ([g, a, o, t] = [.builtin "classmethod.__get__", .ref p, .none, .ref (sp K)])
  | _ => false
def atA (a : Addr) : He.FnW := match K.lookup a with
  | some ob => (match ob.data with
    | .func z => some (z.name, z.qualname, z.params, z.body, z.scope, z.globals, z.closure, z.builtins)
    | _ => none)
  | none => none
def okA (a : Addr) (q : Str) : Bool := match K.lookup a with
  | some ob => (match ob.data with
    | .func z => PySem.W.codeIn K z.code q && decide (z.defaults = Value.none)
    | _ => false)
  | none => false
def none_ (T : Value) (nm : Str) : Bool := match PySem.W.findIn K T nm with
  | some none => true
  | _ => false
def oexB (C : Addr) : Bool := match K.lookup C with
  | some ⟨.type "type", _, .cls cd, sl⟩ => (match cd.mro, sl.toList with
    | .ref C' :: bm, [_, _, _, _, some (.builtin n), _] => C' == C && (PySem.HandSPX.refsVE bm && (n == "ValueError.__new__" && (cd.hasDict && !cd.hasDel)))
    | _, _ => false)
  | _ => false
def errB (C : Addr) (f : Str) : Bool := oexB K C && (He.eqO (PySem.W.findIn K (.ref C) "__setattr__") (some (some (.builtin "object.__setattr__"))) && (decide (PySem.W.subIn K (.ref C) (.type "BaseException") = some true) && (decide (PySem.W.typeIn K (.ref C) = some (.type "type")) && (PySem.W.keepIn K (.ref C) && (xfB K C &&
  (He.eqO (PySem.W.findIn K (.ref C) "__class__") (some (some (.builtin "object.__class__"))) && (He.eqO (PySem.W.specialIn K (.builtin "object.__class__") "__get__") (some (some (.builtin "getset_descriptor.__get__"))) && (decide (PySem.W.takesIn K (.builtin "object.__class__") = some true) && (decide (PySem.W.mroIn K C (.type "object") = some true) &&
  (He.eqO (PySem.W.findIn K (.ref C) "__init__") (some (some (.ref (He.ma K C "__init__")))) && (decide (PySem.W.typeIn K (.ref (He.ma K C "__init__")) = some (.type "function")) && none_ K (.ref C) f)))))))))))
def tabOf (nm : Str) : Option Addr := match K.lookup (He.ga K nm) with
  | some ⟨_, _, .func fd, _⟩ => (match fd.code with
    | .ref c => (match K.lookup c with
      | some ⟨_, _, .fields vs, _⟩ => (match (vs[11]? : Option Value) with
        | some (.ref p) => if (K.lookup p).isNone then some p else none
        | _ => none)
      | _ => none)
    | _ => none)
  | _ => none
def tabsB : Bool := match tabOf K "law", tabOf K "_law_one_right" with
  | some p, some q => decide (p ≠ q)
  | _, _ => false
def tests : List Bool := [
  He.eqO (PySem.W.findIn K (.ref (sp K)) "__class__") (some (some (.builtin "object.__class__"))),
  He.eqO (PySem.W.specialIn K (.builtin "object.__class__") "__get__") (some (some (.builtin "getset_descriptor.__get__"))),
  decide (PySem.W.takesIn K (.builtin "object.__class__") = some true),
  decide (PySem.W.mroIn K (sp K) (.type "object") = some true),
  decide (PySem.W.kitOne K (.ref (sp K)) (.ref (sp K)) = some true),
  PySem.W.selfFirst K (sp K),
  PySem.W.readsIn K (sp K) (.type "type"),
  He.eqO (PySem.W.specialIn K (.ref (sp K)) "__getattribute__") (some (some (.builtin "type.__getattribute__"))),
  most K,
  He.eqO (PySem.W.findIn K (.ref (sp K)) "__ne__") (some (some (.builtin "object.__ne__"))),
  isCm K (cp_read K) "read",
  recd K (cp_read K) "classmethod",
  PySem.W.keepIn K (.ref (cg_read K)),
  okA K (cg_read K) "Space.read",
  PySem.W.fnIn K (cg_read K),
  decide (PySem.W.kitOne K (.ref (sp K)) (.type "str") = some false),
  decide (PySem.W.exmOne K (.ref (He.ga K "BadText")) (.ref (He.ga K "RepairError")) = some true),
  errB K (He.ga K "BadText") "line",
  none_ K (.ref (He.ga K "BadText")) "word",
  decide (PySem.W.kitOne K (.ref (He.ga K "BadText")) (.ref (He.ga K "BadText")) = some true),
  tabsB K,
  (He.Fa.glo "RepairError").ok K,
  (He.Fa.glo "BadText").ok K]
end
def dg (x : Str) (st : Stmt) : He.DefD := ⟨(x, none), x, x, defArgs st, defBody st, defScope st, [], []⟩
def dm (m q : Str) (st : Stmt) : He.DefD := ⟨("Space", some m), m, q, defArgs st, defBody st, defScope st, [], []⟩
def de (x m q : Str) (st : Stmt) : He.DefD := ⟨(x, some m), m, q, defArgs st, defBody st, defScope st, [], []⟩
def fn : List He.DefD := [dg "is_integer" s_is_integer, dg "is_within" s_is_within, dg "words_of" s_words_of, dg "word_at" s_word_at, dg "ended" s_ended, dg "tells_natural" s_tells_natural, dg "tells_number" s_tells_number, dg "number_at" s_number_at, dg "space_rows" s_space_rows, dg "stands_behind" s_stands_behind, dg "lessened" s_lessened, dg "widened" s_widened, dg "reduced" s_reduced, dg "_law_pen" s_pen, dg "_law_draw" s_draw, dg "_law_pick" s_pick, dg "_law_sums" s_sums, dg "_law_reduced" s_lred, dg "_law_numbers" s_numbers, dg "_law_space" s_space, dg "_law_heard" s_heard, dg "_law_due" s_due, dg "_law_bent" s_bent, dg "_law_one_right" s_one, dg "law" s_law, dm "__init__" "Space.__init__" s_init, dm "__add__" "Space.__add__" s_add, dm "__eq__" "Space.__eq__" s_eq, dm "__str__" "Space.__str__" s_str, de "BadText" "__init__" "BadText.__init__" s_teI]
def faA : List He.Fa := [.free "len", .free "isinstance", .free "int", .free "bool", .free "all", .free "min", .free "sum", .free "abs", .free "sorted", .free "tuple", .free "list", .free "range", .free "repr", .free "str", .free "any", .free "set", .int "MOST_BITS" 65535, .cls "Space", .noat "Space" "rows", .mkr "Space", .glo "Space", .glo "is_integer", .glo "is_within", .glo "words_of", .glo "word_at", .glo "ended", .glo "tells_natural", .glo "tells_number", .glo "number_at", .glo "space_rows", .glo "stands_behind", .glo "lessened", .glo "widened", .glo "reduced", .glo "_law_pen", .glo "_law_draw", .glo "_law_pick", .glo "_law_sums", .glo "_law_reduced", .glo "_law_numbers", .glo "_law_space", .glo "_law_heard", .glo "_law_due", .glo "_law_bent", .glo "_law_one_right", .glo "law", .meth "Space" "__init__", .meth "Space" "__add__", .meth "Space" "__eq__", .meth "Space" "__str__"]
def v_read : He.FnW := some ("read", "Space.read", defArgs s_read, .stmts (defBody s_read), defScope s_read, mainGlobals, [], builtinsNs)
abbrev Al : Type := He.AlD × Bool × List He.FnW
def see (K : PySem.W.Frag) : Al := (He.obsD faA fn K, (tests K).all id, [atA K (cg_read K)])
def seen : Al := (He.valD fn, true, [v_read])
def reach (g : Addr → Option Obj) : Nat → List Addr
  | 0 => [mainGlobals, cStatics]
  | n + 1 => He.growD g (reach g n)
def notTab (g : Addr → Option Obj) (a : Addr) : Bool := match g a with
  | some o => !(o.cls == .none && (match o.data with | .fields vs => vs.isEmpty | _ => false))
  | none => true
def look (g : Addr → Option Obj) : Al := see (He.frG g ((reach g 6).filter (notTab g)))
def hook : PySem.W.Hook where
  α := Al
  obs := fun s => look s.heap.get?
  val := fun _ => seen
  says := fun _ h => ∃ K : PySem.W.Frag, K.In h ∧ see K = seen
  of := fun _ _ e => ⟨_, He.frG_in, e⟩
  keeps := fun _ _ _ z k => z.elim fun K y => ⟨K, y.1.keeps k, y.2⟩
def ob (s : PySem.W.SharedT) : Al := look (HandSHeadRun.getT s)
theorem ob_eq (s : PySem.W.SharedT) : ob s = hook.obs s.abs := by
  have e : HandSHeadRun.getT s = s.abs.heap.get? := funext (HandSHeadRun.getT_eq s)
  unfold ob
  rw [e]
  rfl
abbrev R : PySem.W.OpenRow := PySem.W.OpenLaw.row PySem.Challenge.rw_laterepair_k07_texts_of_spaces
def names : List PySem.Str := "_wall" :: "MOST_BITS" :: "is_integer" :: "is_within" :: "RepairError" :: "BadSpace" :: "BadCount" :: "BadText" :: "words_of" :: "word_at" :: "ended" :: "tells_natural" :: "tells_number" :: "number_at" :: "space_rows" :: "stands_behind" :: "lessened" :: "widened" :: "reduced" :: "Space" :: "_law_pen" :: "_law_draw" :: "_law_pick" :: "_law_sums" :: "_law_reduced" :: "_law_numbers" :: "_law_space" :: "_law_heard" :: "_law_due" :: "_law_bent" :: []
theorem run (w : World) : HandSHeadRun.RunEq R (PySem.W.view R.prog [35, 36]) hook ob 4000 names w := by
  intro os
  kernel_rfl
end Hk

set_option Elab.async false
set_option linter.all false
set_option maxRecDepth 100000
set_option maxHeartbeats 0
namespace Hk
open PySem PySem.Spec PyProof.Rows L2 Lr Ow Og Oe Oq TL LamX
section
variable {K : PySem.W.Frag} {x q : Str} {st : Stmt} {f : Addr} {fd : FuncData}
theorem toFun (F : FunD K x q (defArgs st) (defBody st) (defScope st) [] [] f fd) : L2.Fun K x q st f fd := by
  obtain ⟨oc, od, dV, kV, doc, pm, an, cdv, ct, osl, rfl, lk, hc, hD, _⟩ := F.ex
  rcases hD with ⟨_, e⟩ | ⟨e, _⟩
  · subst e
    exact ⟨⟨oc, od, kV, doc, pm, an, cdv, ct, osl, rfl, lk, hc⟩, F.kp⟩
  · exact absurd rfl e
theorem kb_of {ps ks : List Str} (F : L2.Fun K x q st f fd) (h : ∀ (kV doc pm : Value) (an : Option Addr) (cdv ct u : Value) (ws : List Value), ws.length = ks.length → bindArgs (PySem.W.fnOf x q (defArgs st) (defBody st) (defScope st) .none kV doc pm an cdv ct) ⟨[u], ks.zip ws⟩ = pure (ps.zip (u :: ws))) : KB1 K fd ps ks := by
  obtain ⟨oc, od, kV, doc, pm, an, cdv, ct, osl, rfl, lk, hc⟩ := F.ex
  exact fun s u ws _ hl => .of_eq (h kV doc pm an cdv ct u ws hl)
theorem fun_at {a : Addr} (e : atA K a = some (x, q, defArgs st, .stmts (defBody st), defScope st, mainGlobals, [], builtinsNs)) (c : okA K a q = true) (kp : PySem.W.keepIn K (.ref a) = true) : ∃ fd, L2.Fun K x q st a fd := by
  unfold atA at e
  unfold okA at c
  cases lk : K.lookup a with
  | none =>
    rw [lk] at c
    cases c
  | some o =>
    rw [lk] at e c
    obtain ⟨oc, od, dt, osl⟩ := o
    cases dt with
    | func z =>
      obtain ⟨a1, a2, a3, a4, a5, a6, a7, a8, a9, b1, b2, b3, b4, b5, b6⟩ := z
      have e' : (some (a1, a2, a3, a4, a5, a6, a7, b6) : He.FnW) = some (x, q, defArgs st, .stmts (defBody st), defScope st, mainGlobals, [], builtinsNs) := e
      have c' : (PySem.W.codeIn K b4 q && decide (a8 = Value.none)) = true := c
      obtain ⟨c1, c2⟩ := He.ba c'
      have c3 := of_decide_eq_true c2
      simp only [Option.some.injEq, Prod.mk.injEq] at e'
      obtain ⟨h1, h2, h3, h4, h5, h6, h7, h8⟩ := e'
      subst h1 h2 h3 h4 h5 h6 h7 h8 c3
      exact ⟨_, ⟨oc, od, a9, b1, b2, b3, b4, b5, osl, rfl, lk, c1⟩, kp⟩
    | _ => cases c
end
theorem all_id {l : List Bool} (h : l.all id = true) {i : Nat} {b : Bool} (e : l[i]? = some b) : b = true := List.all_eq_true.mp h b (List.mem_of_getElem? e)
theorem none_ok {K : PySem.W.Frag} {T : Value} {nm : Str} (h : none_ K T nm = true) : PySem.W.findIn K T nm = some none := by
  unfold none_ at h
  split at h
  · assumption
  · cases h
structure ErrX (K : PySem.W.Frag) (C : Addr) (f : Str) : Prop where
  ox : OexC K C
  ec : L2.ExcC K C
  xf : XfC K C
  ic : PySem.W.findIn K (.ref C) "__init__" = some (some (.ref (He.ma K C "__init__")))
  ti : PySem.W.typeIn K (.ref (He.ma K C "__init__")) = some (.type "function")
  no : PySem.W.findIn K (.ref C) f = some none
theorem oexB_ok {K : PySem.W.Frag} {C : Addr} (h : oexB K C = true) : ∃ nm q N bs bm sn sub ab col dd k0 k1 k2 k3 k5, K.lookup C = some (excClassObj nm q C N bs bm true sn sub ab col dd k0 k1 k2 k3 k5 "ValueError.__new__") ∧ PySem.HandSPX.refsVE bm = true := by
  unfold oexB at h
  split at h
  · rename_i dd cd sl ho
    split at h
    · rename_i C' bm k0 k1 k2 k3 n k5 hm hs
      simp only [Bool.and_eq_true, beq_iff_eq, Bool.not_eq_true'] at h
      obtain ⟨rfl, hr, rfl, hd1, hd2⟩ := h
      obtain ⟨nm, bs, mro, ns, qn, hd, sn, sub, ab, col, del⟩ := cd
      dsimp only at hm hd1 hd2
      subst hm hd1 hd2
      have hsl : sl = #[k0, k1, k2, k3, some (.builtin "ValueError.__new__"), k5] := by
        obtain ⟨l⟩ := sl
        simp only at hs
        rw [hs]
      subst hsl
      exact ⟨nm, qn, ns, bs, bm, sn, sub, ab, col, dd, k0, k1, k2, k3, k5, ho, hr⟩
    · cases h
  · cases h
theorem errB_ok {K : PySem.W.Frag} {C : Addr} {f : Str} (h : errB K C f = true) : ErrX K C f := by
  obtain ⟨h1, h⟩ := He.ba h
  obtain ⟨h2, h⟩ := He.ba h
  obtain ⟨h3, h⟩ := He.ba h
  obtain ⟨h4, h⟩ := He.ba h
  obtain ⟨h5, h⟩ := He.ba h
  obtain ⟨h6, h⟩ := He.ba h
  obtain ⟨h7, h⟩ := He.ba h
  obtain ⟨h8, h⟩ := He.ba h
  obtain ⟨h9, h⟩ := He.ba h
  obtain ⟨h10, h⟩ := He.ba h
  obtain ⟨h11, h⟩ := He.ba h
  obtain ⟨h12, h13⟩ := He.ba h
  have xf := xfB_ok h6
  exact ⟨⟨oexB_ok h1, He.eqO_ok h2, of_decide_eq_true h3, of_decide_eq_true h4, h5⟩, ⟨xf.ga, xf.gg, of_decide_eq_true h3, xf.hdC, He.eqO_ok h7, He.eqO_ok h8, of_decide_eq_true h9, of_decide_eq_true h10⟩, xf, He.eqO_ok h11, of_decide_eq_true h12, none_ok h13⟩
theorem tabOf_ok {K : PySem.W.Frag} {h : Heap} {fd : FuncData} {c P : Addr} {oc : Value} {od : Option Addr} {sl : Array (Option Value)} {nm : Str} {p : Addr} (X : K.In h) (t : tabOf K nm = some p) (lk : K.lookup (He.ga K nm) = some ⟨oc, od, .func fd, sl⟩) (hc : fd.code = .ref c) (C : PySem.W.CodeHd h c P) : p = P ∧ K.lookup P = none := by
  unfold tabOf at t
  rw [lk] at t
  dsimp only at t
  rw [hc] at t
  dsimp only at t
  split at t
  · rename_i vs _ ho
    obtain ⟨o, us, _, _, _, _, _, _, _, e1, _, e2, e3, _⟩ := C
    rw [X _ _ ho] at e1
    cases e1
    cases e2
    rw [e3] at t
    dsimp only at t
    split at t
    · rename_i hn
      cases t
      exact ⟨rfl, Option.isNone_iff_eq_none.mp hn⟩
    · cases t
  · cases t
theorem tabsB_ok {K : PySem.W.Frag} (h : tabsB K = true) : ∃ p q, tabOf K "law" = some p ∧ tabOf K "_law_one_right" = some q ∧ p ≠ q := by
  unfold tabsB at h
  split at h
  · rename_i p q h1 h2
    exact ⟨p, q, h1, h2, of_decide_eq_true h⟩
  · cases h
theorem facts {P : Program} {w : World} {K : PySem.W.Frag} {h : Heap} {mg : Str → Option Value} {f : Addr} (X : K.In h) (G : h.Ns mainGlobals mg) (hfa : mg ("law" : Str) = some (.ref f)) (c : see K = seen) :
    ∃ fd fd1 : FuncData, (∀ (s : Shared) (v : Value), BindsTo s fd ⟨[v], []⟩ [("_law_script", v)]) ∧ (∃ oc od sl, K.lookup (He.ga K "law") = some ⟨oc, od, .func fd, sl⟩) ∧ (∃ oc od sl, K.lookup (He.ga K "_law_one_right") = some ⟨oc, od, .func fd1, sl⟩) ∧ mg "_law_one_right" = some (.ref (He.ga K "_law_one_right")) ∧ f = He.ga K "law" ∧ tabsB K = true ∧
      ∀ (cc Pl co Po : Addr), fd.code = .ref cc → fd1.code = .ref co → Pl ≠ Po → ∀ base : Heap, K.In base → base.Ns mainGlobals mg → TabB base mg cc Pl → TabB base mg co Po → FnOk P w K mg base CX0 11 f fd ["_law_script"] (spLaw K Pl Po) := by
  have cD : He.SaysD faA fn K := congrArg (fun z : Al => z.1) c
  have cT : (tests K).all id = true := congrArg (fun z : Al => z.2.1) c
  have cA : [atA K (cg_read K)] = [v_read] := congrArg (fun z : Al => z.2.2) c
  have t : ∀ i {b}, (tests K)[i]? = some b → b = true := fun i b e => all_id cT e
  obtain ⟨fd_is_integer, D_is_integer⟩ := cD.def_ 0 (d := dg "is_integer" s_is_integer) rfl
  have F_is_integer : L2.Fun K "is_integer" "is_integer" s_is_integer (He.ga K "is_integer") fd_is_integer := toFun D_is_integer
  have b_is_integer : Binds K fd_is_integer ["value"] [] := F_is_integer.binds fun _ _ _ _ _ _ us hl => match us, hl with | [_], _ => rfl
  obtain ⟨fd_is_within, D_is_within⟩ := cD.def_ 1 (d := dg "is_within" s_is_within) rfl
  have F_is_within : L2.Fun K "is_within" "is_within" s_is_within (He.ga K "is_within") fd_is_within := toFun D_is_within
  have b_is_within : Binds K fd_is_within ["value", "least", "most"] [] := F_is_within.binds fun _ _ _ _ _ _ us hl => match us, hl with | [_, _, _], _ => rfl
  obtain ⟨fd_words_of, D_words_of⟩ := cD.def_ 2 (d := dg "words_of" s_words_of) rfl
  have F_words_of : L2.Fun K "words_of" "words_of" s_words_of (He.ga K "words_of") fd_words_of := toFun D_words_of
  have b_words_of : Binds K fd_words_of ["text"] [] := F_words_of.binds fun _ _ _ _ _ _ us hl => match us, hl with | [_], _ => rfl
  obtain ⟨fd_word_at, D_word_at⟩ := cD.def_ 3 (d := dg "word_at" s_word_at) rfl
  have F_word_at : L2.Fun K "word_at" "word_at" s_word_at (He.ga K "word_at") fd_word_at := toFun D_word_at
  have b_word_at : Binds K fd_word_at ["words", "at"] [] := F_word_at.binds fun _ _ _ _ _ _ us hl => match us, hl with | [_, _], _ => rfl
  obtain ⟨fd_ended, D_ended⟩ := cD.def_ 4 (d := dg "ended" s_ended) rfl
  have F_ended : L2.Fun K "ended" "ended" s_ended (He.ga K "ended") fd_ended := toFun D_ended
  have b_ended : Binds K fd_ended ["words", "at"] [] := F_ended.binds fun _ _ _ _ _ _ us hl => match us, hl with | [_, _], _ => rfl
  obtain ⟨fd_tells_natural, D_tells_natural⟩ := cD.def_ 5 (d := dg "tells_natural" s_tells_natural) rfl
  have F_tells_natural : L2.Fun K "tells_natural" "tells_natural" s_tells_natural (He.ga K "tells_natural") fd_tells_natural := toFun D_tells_natural
  have b_tells_natural : Binds K fd_tells_natural ["word"] [] := F_tells_natural.binds fun _ _ _ _ _ _ us hl => match us, hl with | [_], _ => rfl
  obtain ⟨fd_tells_number, D_tells_number⟩ := cD.def_ 6 (d := dg "tells_number" s_tells_number) rfl
  have F_tells_number : L2.Fun K "tells_number" "tells_number" s_tells_number (He.ga K "tells_number") fd_tells_number := toFun D_tells_number
  have b_tells_number : Binds K fd_tells_number ["word", "least", "most"] [] := F_tells_number.binds fun _ _ _ _ _ _ us hl => match us, hl with | [_, _, _], _ => rfl
  obtain ⟨fd_number_at, D_number_at⟩ := cD.def_ 7 (d := dg "number_at" s_number_at) rfl
  have F_number_at : L2.Fun K "number_at" "number_at" s_number_at (He.ga K "number_at") fd_number_at := toFun D_number_at
  have b_number_at : Binds K fd_number_at ["words", "at", "least", "most"] [] := F_number_at.binds fun _ _ _ _ _ _ us hl => match us, hl with | [_, _, _, _], _ => rfl
  obtain ⟨fd_space_rows, D_space_rows⟩ := cD.def_ 8 (d := dg "space_rows" s_space_rows) rfl
  have F_space_rows : L2.Fun K "space_rows" "space_rows" s_space_rows (He.ga K "space_rows") fd_space_rows := toFun D_space_rows
  have b_space_rows : Binds K fd_space_rows ["words", "at"] [] := F_space_rows.binds fun _ _ _ _ _ _ us hl => match us, hl with | [_, _], _ => rfl
  obtain ⟨fd_stands_behind, D_stands_behind⟩ := cD.def_ 9 (d := dg "stands_behind" s_stands_behind) rfl
  have F_stands_behind : L2.Fun K "stands_behind" "stands_behind" s_stands_behind (He.ga K "stands_behind") fd_stands_behind := toFun D_stands_behind
  have b_stands_behind : Binds K fd_stands_behind ["row", "rows"] [] := F_stands_behind.binds fun _ _ _ _ _ _ us hl => match us, hl with | [_, _], _ => rfl
  obtain ⟨fd_lessened, D_lessened⟩ := cD.def_ 10 (d := dg "lessened" s_lessened) rfl
  have F_lessened : L2.Fun K "lessened" "lessened" s_lessened (He.ga K "lessened") fd_lessened := toFun D_lessened
  have b_lessened : Binds K fd_lessened ["bits", "rows"] [] := F_lessened.binds fun _ _ _ _ _ _ us hl => match us, hl with | [_, _], _ => rfl
  obtain ⟨fd_widened, D_widened⟩ := cD.def_ 11 (d := dg "widened" s_widened) rfl
  have F_widened : L2.Fun K "widened" "widened" s_widened (He.ga K "widened") fd_widened := toFun D_widened
  have b_widened : Binds K fd_widened ["rows", "added"] [] := F_widened.binds fun _ _ _ _ _ _ us hl => match us, hl with | [_, _], _ => rfl
  obtain ⟨fd_reduced, D_reduced⟩ := cD.def_ 12 (d := dg "reduced" s_reduced) rfl
  have F_reduced : L2.Fun K "reduced" "reduced" s_reduced (He.ga K "reduced") fd_reduced := toFun D_reduced
  have b_reduced : Binds K fd_reduced ["rows"] [] := F_reduced.binds fun _ _ _ _ _ _ us hl => match us, hl with | [_], _ => rfl
  obtain ⟨fd_pen, D_pen⟩ := cD.def_ 13 (d := dg "_law_pen" s_pen) rfl
  have F_pen : L2.Fun K "_law_pen" "_law_pen" s_pen (He.ga K "_law_pen") fd_pen := toFun D_pen
  have b_pen : Binds K fd_pen ["_law_script"] [] := F_pen.binds fun _ _ _ _ _ _ us hl => match us, hl with | [_], _ => rfl
  obtain ⟨fd_draw, D_draw⟩ := cD.def_ 14 (d := dg "_law_draw" s_draw) rfl
  have F_draw : L2.Fun K "_law_draw" "_law_draw" s_draw (He.ga K "_law_draw") fd_draw := toFun D_draw
  have b_draw : Binds K fd_draw ["_law_pen_here", "_law_many"] [] := F_draw.binds fun _ _ _ _ _ _ us hl => match us, hl with | [_, _], _ => rfl
  obtain ⟨fd_pick, D_pick⟩ := cD.def_ 15 (d := dg "_law_pick" s_pick) rfl
  have F_pick : L2.Fun K "_law_pick" "_law_pick" s_pick (He.ga K "_law_pick") fd_pick := toFun D_pick
  have b_pick : Binds K fd_pick ["_law_pen_here", "_law_some"] [] := F_pick.binds fun _ _ _ _ _ _ us hl => match us, hl with | [_, _], _ => rfl
  obtain ⟨fd_sums, D_sums⟩ := cD.def_ 16 (d := dg "_law_sums" s_sums) rfl
  have F_sums : L2.Fun K "_law_sums" "_law_sums" s_sums (He.ga K "_law_sums") fd_sums := toFun D_sums
  have b_sums : Binds K fd_sums ["_law_numbers_here"] [] := F_sums.binds fun _ _ _ _ _ _ us hl => match us, hl with | [_], _ => rfl
  obtain ⟨fd_lred, D_lred⟩ := cD.def_ 17 (d := dg "_law_reduced" s_lred) rfl
  have F_lred : L2.Fun K "_law_reduced" "_law_reduced" s_lred (He.ga K "_law_reduced") fd_lred := toFun D_lred
  have b_lred : Binds K fd_lred ["_law_sums_here"] [] := F_lred.binds fun _ _ _ _ _ _ us hl => match us, hl with | [_], _ => rfl
  obtain ⟨fd_numbers, D_numbers⟩ := cD.def_ 18 (d := dg "_law_numbers" s_numbers) rfl
  have F_numbers : L2.Fun K "_law_numbers" "_law_numbers" s_numbers (He.ga K "_law_numbers") fd_numbers := toFun D_numbers
  have b_numbers : Binds K fd_numbers ["_law_pen_here", "_law_most", "_law_bits"] [] := F_numbers.binds fun _ _ _ _ _ _ us hl => match us, hl with | [_, _, _], _ => rfl
  obtain ⟨fd_space, D_space⟩ := cD.def_ 19 (d := dg "_law_space" s_space) rfl
  have F_space : L2.Fun K "_law_space" "_law_space" s_space (He.ga K "_law_space") fd_space := toFun D_space
  have b_space : Binds K fd_space ["_law_numbers_here"] [] := F_space.binds fun _ _ _ _ _ _ us hl => match us, hl with | [_], _ => rfl
  obtain ⟨fd_heard, D_heard⟩ := cD.def_ 20 (d := dg "_law_heard" s_heard) rfl
  have F_heard : L2.Fun K "_law_heard" "_law_heard" s_heard (He.ga K "_law_heard") fd_heard := toFun D_heard
  have b_heard : Binds K fd_heard ["_law_ask"] [] := F_heard.binds fun _ _ _ _ _ _ us hl => match us, hl with | [_], _ => rfl
  obtain ⟨fd_due, D_due⟩ := cD.def_ 21 (d := dg "_law_due" s_due) rfl
  have F_due : L2.Fun K "_law_due" "_law_due" s_due (He.ga K "_law_due") fd_due := toFun D_due
  have b_due : Binds K fd_due ["_law_words"] [] := F_due.binds fun _ _ _ _ _ _ us hl => match us, hl with | [_], _ => rfl
  obtain ⟨fd_bent, D_bent⟩ := cD.def_ 22 (d := dg "_law_bent" s_bent) rfl
  have F_bent : L2.Fun K "_law_bent" "_law_bent" s_bent (He.ga K "_law_bent") fd_bent := toFun D_bent
  have b_bent : Binds K fd_bent ["_law_pen_here", "_law_words"] [] := F_bent.binds fun _ _ _ _ _ _ us hl => match us, hl with | [_, _], _ => rfl
  obtain ⟨fd_one, D_one⟩ := cD.def_ 23 (d := dg "_law_one_right" s_one) rfl
  have F_one : L2.Fun K "_law_one_right" "_law_one_right" s_one (He.ga K "_law_one_right") fd_one := toFun D_one
  have b_one : Binds K fd_one ["_law_page"] [] := F_one.binds fun _ _ _ _ _ _ us hl => match us, hl with | [_], _ => rfl
  obtain ⟨fd_law, D_law⟩ := cD.def_ 24 (d := dg "law" s_law) rfl
  have F_law : L2.Fun K "law" "law" s_law (He.ga K "law") fd_law := toFun D_law
  obtain ⟨fd_init, D_init⟩ := cD.def_ 25 (d := dm "__init__" "Space.__init__" s_init) rfl
  have F_init : L2.Fun K "__init__" "Space.__init__" s_init (He.ma K (sp K) "__init__") fd_init := toFun D_init
  obtain ⟨fd_add, D_add⟩ := cD.def_ 26 (d := dm "__add__" "Space.__add__" s_add) rfl
  have F_add : L2.Fun K "__add__" "Space.__add__" s_add (He.ma K (sp K) "__add__") fd_add := toFun D_add
  have b_add : Binds K fd_add ["self", "other"] [] := F_add.binds fun _ _ _ _ _ _ us hl => match us, hl with | [_, _], _ => rfl
  obtain ⟨fd_eq, D_eq⟩ := cD.def_ 27 (d := dm "__eq__" "Space.__eq__" s_eq) rfl
  have F_eq : L2.Fun K "__eq__" "Space.__eq__" s_eq (He.ma K (sp K) "__eq__") fd_eq := toFun D_eq
  have b_eq : Binds K fd_eq ["self", "other"] [] := F_eq.binds fun _ _ _ _ _ _ us hl => match us, hl with | [_, _], _ => rfl
  obtain ⟨fd_str, D_str⟩ := cD.def_ 28 (d := dm "__str__" "Space.__str__" s_str) rfl
  have F_str : L2.Fun K "__str__" "Space.__str__" s_str (He.ma K (sp K) "__str__") fd_str := toFun D_str
  have b_str : Binds K fd_str ["self"] [] := F_str.binds fun _ _ _ _ _ _ us hl => match us, hl with | [_], _ => rfl
  obtain ⟨fd_teI, D_teI⟩ := cD.def_ 29 (d := de "BadText" "__init__" "BadText.__init__" s_teI) rfl
  have F_teI : L2.Fun K "__init__" "BadText.__init__" s_teI (He.ma K (He.ga K "BadText") "__init__") fd_teI := toFun D_teI
  have b_teI : Binds K fd_teI ["self", "line", "word"] [] := F_teI.binds fun _ _ _ _ _ _ us hl => match us, hl with | [_, _, _], _ => rfl
  have e_read : atA K (cg_read K) = v_read := by
    have := congrArg (fun l : List He.FnW => l[0]?) cA
    exact Option.some.inj this
  obtain ⟨fd_read, F_read⟩ := fun_at (st := s_read) e_read (t 13 rfl) (t 12 rfl)
  have b_read : Binds K fd_read ["cls", "text"] [] := F_read.binds fun _ _ _ _ _ _ us hl => match us, hl with | [_, _], _ => rfl
  have k_read : KB1 K fd_read ["cls", "text"] ["text"] := kb_of F_read fun _ _ _ _ _ _ _ ws hl => match ws, hl with | [_], _ => rfl
  have g_is_integer := He.glo_ok X G (cD.fact 21 (f := .glo "is_integer") rfl)
  have g_is_within := He.glo_ok X G (cD.fact 22 (f := .glo "is_within") rfl)
  have g_words_of := He.glo_ok X G (cD.fact 23 (f := .glo "words_of") rfl)
  have g_word_at := He.glo_ok X G (cD.fact 24 (f := .glo "word_at") rfl)
  have g_ended := He.glo_ok X G (cD.fact 25 (f := .glo "ended") rfl)
  have g_tells_natural := He.glo_ok X G (cD.fact 26 (f := .glo "tells_natural") rfl)
  have g_tells_number := He.glo_ok X G (cD.fact 27 (f := .glo "tells_number") rfl)
  have g_number_at := He.glo_ok X G (cD.fact 28 (f := .glo "number_at") rfl)
  have g_space_rows := He.glo_ok X G (cD.fact 29 (f := .glo "space_rows") rfl)
  have g_stands_behind := He.glo_ok X G (cD.fact 30 (f := .glo "stands_behind") rfl)
  have g_lessened := He.glo_ok X G (cD.fact 31 (f := .glo "lessened") rfl)
  have g_widened := He.glo_ok X G (cD.fact 32 (f := .glo "widened") rfl)
  have g_reduced := He.glo_ok X G (cD.fact 33 (f := .glo "reduced") rfl)
  have g_pen := He.glo_ok X G (cD.fact 34 (f := .glo "_law_pen") rfl)
  have g_draw := He.glo_ok X G (cD.fact 35 (f := .glo "_law_draw") rfl)
  have g_pick := He.glo_ok X G (cD.fact 36 (f := .glo "_law_pick") rfl)
  have g_sums := He.glo_ok X G (cD.fact 37 (f := .glo "_law_sums") rfl)
  have g_lred := He.glo_ok X G (cD.fact 38 (f := .glo "_law_reduced") rfl)
  have g_numbers := He.glo_ok X G (cD.fact 39 (f := .glo "_law_numbers") rfl)
  have g_space := He.glo_ok X G (cD.fact 40 (f := .glo "_law_space") rfl)
  have g_heard := He.glo_ok X G (cD.fact 41 (f := .glo "_law_heard") rfl)
  have g_due := He.glo_ok X G (cD.fact 42 (f := .glo "_law_due") rfl)
  have g_bent := He.glo_ok X G (cD.fact 43 (f := .glo "_law_bent") rfl)
  have g_one := He.glo_ok X G (cD.fact 44 (f := .glo "_law_one_right") rfl)
  have g_law := He.glo_ok X G (cD.fact 45 (f := .glo "law") rfl)
  have m_init : Meth K (sp K) "__init__" (He.ma K (sp K) "__init__") := He.meth_ok (cD.fact 46 (f := .meth "Space" "__init__") rfl)
  have m_add : Meth K (sp K) "__add__" (He.ma K (sp K) "__add__") := He.meth_ok (cD.fact 47 (f := .meth "Space" "__add__") rfl)
  have m_eq : Meth K (sp K) "__eq__" (He.ma K (sp K) "__eq__") := He.meth_ok (cD.fact 48 (f := .meth "Space" "__eq__") rfl)
  have m_str : Meth K (sp K) "__str__" (He.ma K (sp K) "__str__") := He.meth_ok (cD.fact 49 (f := .meth "Space" "__str__") rfl)
  have fr_len := He.free_ok X G (cD.fact 0 (f := .free "len") rfl)
  have fr_isinstance := He.free_ok X G (cD.fact 1 (f := .free "isinstance") rfl)
  have fr_int := He.free_ok X G (cD.fact 2 (f := .free "int") rfl)
  have fr_bool := He.free_ok X G (cD.fact 3 (f := .free "bool") rfl)
  have fr_all := He.free_ok X G (cD.fact 4 (f := .free "all") rfl)
  have fr_min := He.free_ok X G (cD.fact 5 (f := .free "min") rfl)
  have fr_sum := He.free_ok X G (cD.fact 6 (f := .free "sum") rfl)
  have fr_abs := He.free_ok X G (cD.fact 7 (f := .free "abs") rfl)
  have fr_sorted := He.free_ok X G (cD.fact 8 (f := .free "sorted") rfl)
  have fr_tuple := He.free_ok X G (cD.fact 9 (f := .free "tuple") rfl)
  have fr_list := He.free_ok X G (cD.fact 10 (f := .free "list") rfl)
  have fr_range := He.free_ok X G (cD.fact 11 (f := .free "range") rfl)
  have fr_repr := He.free_ok X G (cD.fact 12 (f := .free "repr") rfl)
  have fr_str := He.free_ok X G (cD.fact 13 (f := .free "str") rfl)
  have fr_any := He.free_ok X G (cD.fact 14 (f := .free "any") rfl)
  have fr_set := He.free_ok X G (cD.fact 15 (f := .free "set") rfl)
  have T : Nm mg := ⟨fr_len, fr_isinstance, fr_int, fr_bool, fr_all, fr_min, fr_sum, fr_abs, fr_sorted, fr_tuple, fr_list, fr_range, He.int_ok X G (cD.fact 16 (f := .int "MOST_BITS" 65535) rfl)⟩
  have rd : ClX.CRead K (sp K) (.type "type") := ⟨t 6 rfl, He.eqO_ok (t 7 rfl)⟩
  have S : Cs K mg (sp K) := ⟨He.cls_ok (cD.fact 17 (f := .cls "Space") rfl), He.noat_ok (cD.fact 18 (f := .noat "Space" "rows") rfl), He.glo_ok X G (cD.fact 20 (f := .glo "Space") rfl), He.eqO_ok (t 0 rfl), He.eqO_ok (t 1 rfl), of_decide_eq_true (t 2 rfl), of_decide_eq_true (t 3 rfl), of_decide_eq_true (t 4 rfl), t 5 rfl⟩
  have hm : most K = true := t 8 rfl
  have M : Ms K (sp K) := by
    unfold most at hm
    split at hm
    · rename_i i tk e
      have := of_decide_eq_true hm
      subst this
      exact ⟨_, _, rd, ⟨e, ⟨_, rfl⟩⟩⟩
    · cases hm
  have W_read : ∃ mc p, ClX.CRead K (sp K) mc ∧ ClX.CMet K (sp K) mc "read" p (cg_read K) := by
    have h1 : isCm K (cp_read K) "read" = true := t 10 rfl
    have h2 : recd K (cp_read K) "classmethod" = true := t 11 rfl
    refine ⟨.type "type", cp_read K, rd, ⟨?_, ?_, t 14 rfl⟩⟩
    · unfold isCm at h1
      split at h1
      · rename_i g1 a1 o1 t1 e
        have := of_decide_eq_true h1
        simp only [List.cons.injEq, and_true] at this
        obtain ⟨r1, r2, r3, r4⟩ := this
        subst r1 r2 r3 r4
        exact e
      · cases h1
    · unfold recd at h2
      unfold cg_read
      split at h2
      · rename_i g1 r1 e
        rw [e]
        exact ⟨_, rfl⟩
      · cases h2
  have MM : Mk K (sp K) (He.ma K (sp K) "__init__") := He.mkr_ok (cD.fact 19 (f := .mkr "Space") rfl)
  have e := hfa.symm.trans g_law
  cases e
  refine ⟨fd_law, fd_one, fun s v => ?_, ?_, ?_, g_one, rfl, t 20 rfl, fun cc Pl co Po hcc hco hPo base _ _ TB TBo => ?_⟩
  · obtain ⟨oc, od, kV, doc, pm, an, cdv, ct, osl, rfl, lk, hc⟩ := F_law.ex
    exact .of_eq rfl
  · obtain ⟨oc, od, kV, doc, pm, an, cdv, ct, osl, rfl, lk, hc⟩ := F_law.ex
    exact ⟨_, _, _, lk⟩
  · obtain ⟨oc, od, kV, doc, pm, an, cdv, ct, osl, rfl, lk, hc⟩ := F_one.ex
    exact ⟨_, _, _, lk⟩
  · have GI : FnR P w K mg base CX0 4 (He.ma K (sp K) "__init__") (spInitS (sp K)) := ok_init F_init F_is_within b_is_within g_is_within F_is_integer b_is_integer g_is_integer F_reduced b_reduced g_reduced F_lessened b_lessened g_lessened F_widened b_widened g_widened T S
    have ET : ErrX K (He.ga K "BadText") "line" := errB_ok (t 17 rfl)
    have nw := none_ok (t 18 rfl)
    have gR := He.glo_ok X G (t 21 rfl)
    have gT := He.glo_ok X G (t 22 rfl)
    have R : Errs K mg (He.ga K "RepairError") (He.ga K "BadText") := ⟨gR, gT, of_decide_eq_true (t 16 rfl), ET.ec, ET.xf, of_decide_eq_true (t 19 rfl), ET.no, nw⟩
    have RT : ErrT K mg (He.ga K "BadText") (He.ma K (He.ga K "BadText") "__init__") := ⟨ET.ox, ET.ic, ET.ti, gT, ET.no, nw⟩
    have FT : FnOk P w K mg base CX0 1 _ fd_teI ["self", "line", "word"] (spErT K) := ok_teI F_teI
    have GO : FnOk P w K mg base (L2.CX P w) 3 (He.ga K "words_of") fd_words_of ["text"] (spWords K (He.ga K "BadText")) := ok_words F_words_of FT b_teI RT T fr_str
    have GE : FnOk P w K mg base (L2.CX P w) 3 (He.ga K "ended") fd_ended ["words", "at"] (spEnded K (He.ga K "BadText")) := ok_ended F_ended FT b_teI RT T
    have GM : FnOk P w K mg base (L2.CX P w) 4 (He.ga K "number_at") fd_number_at ["words", "at", "least", "most"] (spNumAt K (He.ga K "BadText")) := ok_numAt F_number_at F_word_at b_word_at g_word_at F_tells_number b_tells_number g_tells_number F_tells_natural b_tells_natural g_tells_natural FT b_teI RT T fr_str
    have GR : FnOk P w K mg base (L2.CX P w) 5 (He.ga K "space_rows") fd_space_rows ["words", "at"] (spRows K (He.ga K "BadText")) := ok_rows F_space_rows F_word_at b_word_at g_word_at F_ended b_ended g_ended GE F_number_at b_number_at g_number_at GM F_stands_behind b_stands_behind g_stands_behind FT b_teI RT T fr_any
    have GA : FnOk P w K mg base (L2.CX P w) 6 (cg_read K) fd_read ["cls", "text"] (spRead K (sp K) (He.ga K "BadText")) := ok_read F_read F_words_of b_words_of g_words_of GO F_space_rows b_space_rows g_space_rows GR GI MM T S
    have D : Rd P w K mg base (sp K) (He.ga K "BadText") (cg_read K) (He.ma K (sp K) "__str__") (He.ma K (sp K) "__eq__") fd_read := ⟨W_read, GA, b_read, k_read, m_str.at_, m_str.fn, fnR_of (ok_str F_str T S fr_str) b_str, m_eq.at_, m_eq.fn, fnR_of (ok_eq F_eq T S) b_eq⟩
    have GD : FnOk P w K mg base CX0 1 (He.ga K "_law_due") fd_due ["_law_words"] (spDue K) := ok_due F_due T
    have hm1 : (Po, qO) ∈ [(Pl, qL), (Po, qO)] := List.mem_cons_of_mem _ List.mem_cons_self
    have hu1 : ∀ p ∈ [(Pl, qL), (Po, qO)], p.1 = Po → p.2 = qO := fun p hp e => (List.mem_cons.mp hp).elim (fun h => absurd ((congrArg Prod.fst h).symm.trans e) hPo) (fun h => by rw [List.mem_singleton.mp h])
    have G1 : FnOk P w K mg base CX0 9 (He.ga K "_law_one_right") fd_one ["_law_page"] (spOne [(Pl, qL), (Po, qO)]) := ok_one F_one hco TBo hm1 hu1 GD ⟨g_due, F_due.kp, b_due⟩ F_heard b_heard g_heard R fr_repr fr_str D T S (kit_ty (by decide +kernel))
    exact ok_law F_law hcc TB hPo (ok_pen F_pen T) ⟨g_pen, F_pen.kp, b_pen⟩ (ok_pick F_pick F_draw b_draw g_draw T) (ok_pickV F_pick F_draw b_draw g_draw T) ⟨g_pick, F_pick.kp, b_pick⟩ (ok_numbers F_numbers F_draw b_draw g_draw T) ⟨g_numbers, F_numbers.kp, b_numbers⟩ (ok_sums F_sums T) ⟨g_sums, F_sums.kp, b_sums⟩ (ok_lred F_lred T fr_set) ⟨g_lred, F_lred.kp, b_lred⟩ (ok_space F_space F_add b_add ⟨m_add.at_, m_add.fn⟩ GI MM T S) ⟨g_space, F_space.kp, b_space⟩ GD ⟨g_due, F_due.kp, b_due⟩ (ok_bent F_bent F_draw b_draw g_draw F_pick b_pick g_pick T) ⟨g_bent, F_bent.kp, b_bent⟩ G1 ⟨g_one, F_one.kp, b_one⟩ F_heard b_heard g_heard R fr_repr fr_str D GI MM T S (of_decide_eq_true (t 15 rfl))
end Hk
open PySem PySem.W PySem.Calls PyProof.Rows
theorem PySem.Challenge.cw_laterepair_k07_texts_of_spaces_holds : PySem.Challenge.rw_laterepair_k07_texts_of_spaces.Holds := by
  w_on; o_law
  refine HandSHeadRun.head_any (r := Hk.R) (q := view Hk.R.prog [35, 36]) (H := Hk.hook) (ob := Hk.ob) (M := 4000) (loose := Hk.names) (d := HandSHeadRun.topDef Hk.R.prog 36) (kwd := []) Hk.ob_eq
    (by kernel_rfl) (fun s => by kernel_rfl) Hk.run (by kernel_rfl) (by kernel_rfl) (by kernel_rfl) (by rfl) (by first | assumption | decide +kernel) (by decide +kernel) ⟨rfl, rfl, rfl, rfl, rfl, by decide +kernel⟩ ?hw ?hc
  case hw => w_witness2
  case hc =>
    refine Oq.walk_endT (l := PySem.Challenge.rw_laterepair_k07_texts_of_spaces) (n := 63) (k := 11) (x := "_law_script") (CX := fun _ => L2.CX0) rfl (by decide) (by kernel_rfl) ⟨rfl, by decide, by decide⟩ ?F (fun _ _ _ _ _ z => z)
    intro w mg fa h Y TT G hmg0
    obtain ⟨K, KX, c⟩ := Y
    have dn : (HandSHeadRun.topDef Hk.R.prog 36).name = ("law" : PySem.Str) := by kernel_rfl
    have hmg : mg ("law" : PySem.Str) = some (.ref fa) := by
      rw [← dn]
      exact hmg0
    obtain ⟨fd, fd1, hb, ⟨oc, od, sl, lk⟩, ⟨oc1, od1, sl1, lk1⟩, g1, ef, tb, hF⟩ := Hk.facts (P := (PySem.Challenge.rw_laterepair_k07_texts_of_spaces).prog) (w := w) KX G hmg c
    subst ef
    obtain ⟨o, fd2, c2, P2, h1, h2, h3, h4, h5⟩ := TT "law" _ (by kernel_rfl) hmg
    have e1 := KX _ _ lk
    rw [h1] at e1
    cases e1
    cases h2
    obtain ⟨o', fd3, c3, P3, k1, k2, k3, k4, k5⟩ := TT "_law_one_right" _ (by kernel_rfl) g1
    have e3 := KX _ _ lk1
    rw [k1] at e3
    cases e3
    cases k2
    obtain ⟨p, q, tp, tq, pq⟩ := Hk.tabsB_ok tb
    obtain ⟨r1, n1⟩ := Hk.tabOf_ok KX tp lk h3 h4
    obtain ⟨r2, n2⟩ := Hk.tabOf_ok KX tq lk1 k3 k4
    subst r1 r2
    have two : ∀ {A : Addr × Addr → Prop}, A (c2, p) → A (c3, q) → ∀ x ∈ [(c2, p), (c3, q)], A x := fun a1 a2 x hx => by
      rcases List.mem_cons.mp hx with h | h
      · rw [h]
        exact a1
      · rw [List.mem_singleton.mp h]
        exact a2
    exact ⟨K, fd, [(c2, p), (c3, q)], Lr.spLaw K p q, KX, two h5 k5, two n1 n2, two h4 k4, hb, fun H a ns hl hT hS => ⟨a, ns, rfl, hS, hl, hT (c2, p) List.mem_cons_self, hT (c3, q) (List.mem_cons_of_mem _ List.mem_cons_self), fun _ => rfl⟩, fun base b1 b2 b3 => Og.FnG.of (hF c2 p c3 q h3 k3 pq base b1 b2 (b3 (c2, p) List.mem_cons_self) (b3 (c3, q) (List.mem_cons_of_mem _ List.mem_cons_self)))⟩
#print axioms PySem.Challenge.cw_laterepair_k07_texts_of_spaces_holds

