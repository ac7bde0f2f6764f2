import PyProof.Rows.All
import Wide.All
import OpenK.AllK
import Wide.FinOn
import HandS.ForMost
import HandS.Star
import HandS.SlotsOwn
import HandS.MakeKwOnly
import HandS.ClsMeth
import HandS.Property
import PyProof.InstEq
import HandS.IterVal
import PyProof.ReprRoads
import KE.DatumIndex
import HandS.Lambda
import HandS.ExcOwn
import HandS.ExcField
import HandS.ExcIs
import HandS.ExcInit
import HandS.ExcValue
import KE.KExcIs
import KE.KOpsOwn
import HandS.IsInst
import HandS.EndTab
import HandS.EndOwn
import HandS.SortInts
import HandS.WideBits
import HandS.Conv
import HandS.Style
import HandS.Small
import PySem.Challenge.RW_laterepair_k03_spaces_refused
import HandS.TupAny
import HandS.Text
import HandS.WordsExc
import HandS.TupLe
import KE.KStateDown
import Lean
import HandS.Head0
import HandS.Head1
import HandS.Head2
import HandS.HeadEnd
import HandS.HeadHook1
import HandS.HeadHook2
/-! Sums of rows as integers under exclusive or: spans, reduced rows, what they are unique by. Core Lean alone. -/
set_option autoImplicit false
set_option linter.unusedVariables false
namespace Xr
theorem lt_of_testBit' {x y : Nat} (i : Nat) (hx : x.testBit i = false) (hy : y.testBit i = true) (h : ∀ j, i < j → x.testBit j = y.testBit j) : x < y := by
  have e : x >>> (i + 1) = y >>> (i + 1) := Nat.eq_of_testBit_eq fun j => by
    rw [Nat.testBit_shiftRight, Nat.testBit_shiftRight]
    exact h _ (by omega)
  rw [Nat.shiftRight_eq_div_pow, Nat.shiftRight_eq_div_pow] at e
  have a : x % 2 ^ (i + 1) < 2 ^ i := Nat.lt_pow_two_of_testBit _ fun j hj => by
    rw [Nat.testBit_mod_two_pow]
    rcases Nat.lt_or_ge j (i + 1) with c | c
    · have : j = i := by omega
      subst this
      rw [hx, Bool.and_false]
    · have : decide (j < i + 1) = false := decide_eq_false (by omega)
      rw [this, Bool.false_and]
  have b : 2 ^ i ≤ y % 2 ^ (i + 1) := Nat.ge_two_pow_of_testBit (by
    rw [Nat.testBit_mod_two_pow, hy]
    simp)
  have d1 := Nat.div_add_mod x (2 ^ (i + 1))
  have d2 := Nat.div_add_mod y (2 ^ (i + 1))
  rw [e] at d1
  omega
theorem xor_right_comm (x r y : Nat) : x ^^^ r ^^^ y = x ^^^ y ^^^ r := by
  rw [Nat.xor_assoc, Nat.xor_comm r y, ← Nat.xor_assoc]

/-! ### the span of a list -/
def Span : List Nat → Nat → Prop
  | [], x => x = 0
  | r :: l, x => Span l x ∨ Span l (x ^^^ r)

theorem span_zero : ∀ l : List Nat, Span l 0
  | [] => rfl
  | _ :: l => .inl (span_zero l)
theorem span_xor : ∀ (l : List Nat) {x y : Nat}, Span l x → Span l y → Span l (x ^^^ y)
  | [], x, y, hx, hy => by
    have hx : x = 0 := hx
    have hy : y = 0 := hy
    subst hx; subst hy; rfl
  | r :: l, x, y, hx, hy => by
    rcases hx with hx | hx <;> rcases hy with hy | hy
    · exact .inl (span_xor l hx hy)
    · refine .inr ?_
      have := span_xor l hx hy
      rwa [← Nat.xor_assoc] at this
    · refine .inr ?_
      have := span_xor l hx hy
      rwa [xor_right_comm] at this
    · refine .inl ?_
      have := span_xor l hx hy
      have e : x ^^^ r ^^^ (y ^^^ r) = x ^^^ y := by
        rw [Nat.xor_assoc, Nat.xor_comm y r, ← Nat.xor_assoc r r y, Nat.xor_self, Nat.zero_xor]
      rwa [e] at this
theorem span_tail {r : Nat} {l : List Nat} {x : Nat} (h : Span l x) : Span (r :: l) x := .inl h
theorem span_head {r : Nat} {l : List Nat} : Span (r :: l) r := .inr (by rw [Nat.xor_self]; exact span_zero l)
theorem span_mem : ∀ {l : List Nat} {x : Nat}, x ∈ l → Span l x
  | r :: l, x, h => by
    rcases List.mem_cons.mp h with rfl | h
    · exact span_head
    · exact .inl (span_mem h)
/-- the span is the least set with 0 and its rows that is closed -/
theorem span_least {S : Nat → Prop} (h0 : S 0) (hx : ∀ x y, S x → S y → S (x ^^^ y)) : ∀ {l : List Nat}, (∀ r ∈ l, S r) → ∀ {x}, Span l x → S x
  | [], _, x, h => by
    have h : x = 0 := h
    rw [h]; exact h0
  | r :: l, hl, x, h => by
    have hl' : ∀ r ∈ l, S r := fun q hq => hl q (List.mem_cons_of_mem _ hq)
    rcases h with h | h
    · exact span_least h0 hx hl' h
    · have a := span_least h0 hx hl' h
      have b := hx _ _ a (hl r List.mem_cons_self)
      rwa [Nat.xor_assoc, Nat.xor_self, Nat.xor_zero] at b
theorem span_sub {l m : List Nat} (h : ∀ r ∈ l, Span m r) {x : Nat} (hx : Span l x) : Span m x :=
  span_least (S := Span m) (span_zero m) (fun _ _ a b => span_xor m a b) h hx
theorem span_eq {l m : List Nat} (h1 : ∀ r ∈ l, Span m r) (h2 : ∀ r ∈ m, Span l r) (x : Nat) : Span l x ↔ Span m x := ⟨span_sub h1, span_sub h2⟩
theorem span_append {l m : List Nat} {x : Nat} : Span (l ++ m) x ↔ ∃ y z, Span l y ∧ Span m z ∧ x = y ^^^ z := by
  constructor
  · intro h
    refine span_least (S := fun x => ∃ y z, Span l y ∧ Span m z ∧ x = y ^^^ z) ⟨0, 0, span_zero _, span_zero _, rfl⟩ ?_ ?_ h
    · rintro x x' ⟨y, z, hy, hz, rfl⟩ ⟨y', z', hy', hz', rfl⟩
      refine ⟨y ^^^ y', z ^^^ z', span_xor _ hy hy', span_xor _ hz hz', ?_⟩
      rw [Nat.xor_assoc, Nat.xor_assoc, ← Nat.xor_assoc z y' z', Nat.xor_comm z y', Nat.xor_assoc y' z z']
    · intro r hr
      rcases List.mem_append.mp hr with hr | hr
      · exact ⟨r, 0, span_mem hr, span_zero _, (Nat.xor_zero r).symm⟩
      · exact ⟨0, r, span_zero _, span_mem hr, (Nat.zero_xor r).symm⟩
  · rintro ⟨y, z, hy, hz, rfl⟩
    exact span_xor _ (span_sub (fun r hr => span_mem (List.mem_append_left _ hr)) hy) (span_sub (fun r hr => span_mem (List.mem_append_right _ hr)) hz)

/-! ### the greatest bit -/
/-- the place of the greatest bit, 0 of 0 -/
abbrev top (x : Nat) : Nat := x.log2
theorem top_bit {x : Nat} (h : x ≠ 0) : x.testBit (top x) = true := by
  have := Nat.testBit_log2 h
  exact this
theorem above_top {x i : Nat} (h : x.log2 < i) : x.testBit i = false := Nat.testBit_lt_two_pow (Nat.lt_of_lt_of_le Nat.lt_log2_self (Nat.pow_le_pow_right (by decide) h))
theorem ne_zero_of_bit {x i : Nat} (h : x.testBit i = true) : x ≠ 0 := fun e => by
  subst e
  simp at h
/-- less by the greatest bit that parts them -/
theorem lt_of_top {x y : Nat} {i : Nat} (hx : x.testBit i = false) (hy : y.testBit i = true) (h : ∀ j, i < j → x.testBit j = y.testBit j) : x < y := by
  exact lt_of_testBit' i hx hy (fun j hj => h j hj)
/-- exclusive or with a row makes an integer less exactly if it has the row's greatest bit -/
theorem xor_lt_iff {x r : Nat} (hr : r ≠ 0) : x ^^^ r < x ↔ x.testBit (top r) = true := by
  have hb := top_bit hr
  constructor
  · intro h
    cases hx : x.testBit (top r) with
    | true => rfl
    | false =>
      have : x < x ^^^ r := lt_of_top hx (by rw [Nat.testBit_xor, hx, hb]; rfl) fun j hj => by
        rw [Nat.testBit_xor, above_top hj, Bool.xor_false]
      omega
  · intro h
    exact lt_of_top (by rw [Nat.testBit_xor, h, hb]; rfl) h fun j hj => by
      rw [Nat.testBit_xor, above_top hj, Bool.xor_false]

/-! ### what the loop of lessened does -/
def less1 (x r : Nat) : Nat := if x ^^^ r < x then x ^^^ r else x
def lessened (x : Nat) (rows : List Nat) : Nat := rows.foldl less1 x
theorem less1_span {x r : Nat} : Span [r] (x ^^^ less1 x r) := by
  unfold less1
  split
  · rw [← Nat.xor_assoc, Nat.xor_self, Nat.zero_xor]; exact span_head
  · rw [Nat.xor_self]; exact span_zero _
theorem less1_bit {x r : Nat} (hr : r ≠ 0) : (less1 x r).testBit (top r) = false := by
  unfold less1
  split
  · rename_i h
    rw [Nat.testBit_xor, (xor_lt_iff hr).mp h, top_bit hr]; rfl
  · rename_i h
    cases hx : x.testBit (top r) with
    | false => rfl
    | true => exact absurd ((xor_lt_iff hr).mpr hx) h
theorem less1_keep {x r i : Nat} (h : r.testBit i = false) : (less1 x r).testBit i = x.testBit i := by
  unfold less1
  split
  · rw [Nat.testBit_xor, h, Bool.xor_false]
  · rfl
theorem less1_le {x r : Nat} : less1 x r ≤ x := by
  unfold less1
  split <;> omega
theorem lessened_le : ∀ (rows : List Nat) (x : Nat), lessened x rows ≤ x
  | [], x => Nat.le_refl x
  | r :: rows, x => Nat.le_trans (lessened_le rows (less1 x r)) less1_le
theorem lessened_span : ∀ (rows : List Nat) (x : Nat), Span rows (x ^^^ lessened x rows)
  | [], x => Nat.xor_self x
  | r :: rows, x => by
    have h1 : Span (r :: rows) (x ^^^ less1 x r) := span_sub (fun q hq => span_mem (by
      have := List.mem_singleton.mp hq
      rw [this]; exact List.mem_cons_self)) less1_span
    have h2 : Span (r :: rows) (less1 x r ^^^ lessened (less1 x r) rows) := span_tail (lessened_span rows _)
    have h3 := span_xor _ h1 h2
    have e : x ^^^ less1 x r ^^^ (less1 x r ^^^ lessened (less1 x r) rows) = x ^^^ lessened (less1 x r) rows := by
      rw [Nat.xor_assoc, ← Nat.xor_assoc (less1 x r) (less1 x r), Nat.xor_self, Nat.zero_xor]
    rw [e] at h3
    exact h3
theorem lessened_keep : ∀ (rows : List Nat) (x i : Nat), (∀ r ∈ rows, r.testBit i = false) → (lessened x rows).testBit i = x.testBit i
  | [], x, i, _ => rfl
  | r :: rows, x, i, h => by
    show (lessened (less1 x r) rows).testBit i = _
    rw [lessened_keep rows _ i fun q hq => h q (List.mem_cons_of_mem _ hq), less1_keep (h r List.mem_cons_self)]

/-! ### reduced rows: each has a greatest bit that no other one has -/
/-- rows above 0, in any order, each with a greatest bit that none of the others has -/
def Red (l : List Nat) : Prop := (∀ r ∈ l, r ≠ 0) ∧ l.Pairwise fun a b => a.testBit (top b) = false ∧ b.testBit (top a) = false
theorem Red.nil : Red [] := ⟨fun _ h => (by cases h), .nil⟩
theorem Red.cons_iff {r : Nat} {l : List Nat} : Red (r :: l) ↔ r ≠ 0 ∧ (∀ b ∈ l, r.testBit (top b) = false ∧ b.testBit (top r) = false) ∧ Red l := by
  constructor
  · rintro ⟨h1, h2⟩
    rw [List.pairwise_cons] at h2
    exact ⟨h1 r List.mem_cons_self, h2.1, fun q hq => h1 q (List.mem_cons_of_mem _ hq), h2.2⟩
  · rintro ⟨h1, h2, h3, h4⟩
    refine ⟨fun q hq => ?_, List.pairwise_cons.mpr ⟨h2, h4⟩⟩
    rcases List.mem_cons.mp hq with rfl | hq
    · exact h1
    · exact h3 q hq
theorem Red.perm {l m : List Nat} (p : l.Perm m) (h : Red l) : Red m :=
  ⟨fun r hr => h.1 r (p.mem_iff.mpr hr), (p.pairwise_iff (fun {a b} q => ⟨q.2, q.1⟩)).mp h.2⟩
theorem span_perm {l m : List Nat} (p : l.Perm m) (x : Nat) : Span l x ↔ Span m x :=
  span_eq (fun r hr => span_mem (p.mem_iff.mp hr)) (fun r hr => span_mem (p.mem_iff.mpr hr)) x
/-- behind lessened no greatest bit of the rows is left -/
theorem lessened_bit : ∀ {rows : List Nat}, Red rows → ∀ (x : Nat) {r : Nat}, r ∈ rows → (lessened x rows).testBit (top r) = false
  | q :: rows, h, x, r, hr => by
    obtain ⟨h1, h2, h3⟩ := Red.cons_iff.mp h
    show (lessened (less1 x q) rows).testBit _ = _
    rcases List.mem_cons.mp hr with rfl | hr
    · rw [lessened_keep rows _ _ fun b hb => (h2 b hb).2, less1_bit h1]
    · exact lessened_bit h3 _ hr
/-- an integer of the span that has none of the greatest bits is 0 -/
theorem span_no_top : ∀ {l : List Nat}, Red l → ∀ {x : Nat}, Span l x → (∀ r ∈ l, x.testBit (top r) = false) → x = 0
  | [], _, x, h, _ => h
  | r :: l, hl, x, h, hb => by
    obtain ⟨h1, h2, h3⟩ := Red.cons_iff.mp hl
    have kp : ∀ {z : Nat}, Span l z → z.testBit (top r) = false := fun {z} hz =>
      span_least (S := fun z => z.testBit (top r) = false) (by simp) (fun x y a b => by rw [Nat.testBit_xor, a, b]; rfl) (fun b hb' => (h2 b hb').2) hz
    rcases h with h | h
    · exact span_no_top h3 h fun q hq => hb q (List.mem_cons_of_mem _ hq)
    · have := kp h
      rw [Nat.testBit_xor, hb r List.mem_cons_self, top_bit h1] at this
      simp at this
/-- the greatest bit of an integer of the span is a row's -/
theorem span_top {l : List Nat} (h : Red l) {x : Nat} (hx : Span l x) (h0 : x ≠ 0) : ∃ r ∈ l, top r = top x := by
  -- cases by the rows that have their bit in x: the sum of those is x, its greatest bit is the greatest of theirs
  induction l generalizing x with
  | nil => exact absurd hx h0
  | cons r l ih =>
    obtain ⟨h1, h2, h3⟩ := Red.cons_iff.mp h
    rcases hx with hx | hx
    · obtain ⟨q, hq, e⟩ := ih h3 hx h0
      exact ⟨q, List.mem_cons_of_mem _ hq, e⟩
    · by_cases hz : x ^^^ r = 0
      · have e : x = r := by
          have := congrArg (· ^^^ r) hz
          simp only [Nat.xor_assoc, Nat.xor_self, Nat.xor_zero, Nat.zero_xor] at this
          exact this
        exact ⟨r, List.mem_cons_self, by rw [e]⟩
      · obtain ⟨q, hq, e⟩ := ih h3 hx hz
        obtain ⟨a1, a2⟩ := h2 q hq
        -- top q and top r differ; the greater one is x's
        have bq : (x ^^^ r).testBit (top q) = true := by rw [e]; exact top_bit hz
        have xq : x.testBit (top q) = true := by
          rw [Nat.testBit_xor, a1, Bool.xor_false] at bq
          exact bq
        have kp : (x ^^^ r).testBit (top r) = false := span_least (S := fun z => z.testBit (top r) = false) (by simp) (fun x y a b => by rw [Nat.testBit_xor, a, b]; rfl) (fun b hb' => (h2 b hb').2) hx
        have xr : x.testBit (top r) = true := by
          rw [Nat.testBit_xor, top_bit h1] at kp
          cases hh : x.testBit (top r) with
          | true => rfl
          | false =>
            rw [hh] at kp
            simp at kp
        have ab : ∀ j, top q < j → top r < j → x.testBit j = false := fun j j1 j2 => by
          have z := above_top (x := x ^^^ r) (i := j) (by rw [e] at j1; exact j1)
          rw [Nat.testBit_xor, above_top j2, Bool.xor_false] at z
          exact z
        have lg : ∀ t, x.testBit t = true → (∀ j, t < j → x.testBit j = false) → top x = t := fun t ht hj => by
          have b := top_bit (ne_zero_of_bit ht)
          rcases Nat.lt_trichotomy (top x) t with c | c | c
          · rw [above_top c] at ht
            cases ht
          · exact c
          · rw [hj _ c] at b
            cases b
        rcases Nat.lt_trichotomy (top q) (top r) with c | c | c
        · exact ⟨r, List.mem_cons_self, (lg _ xr fun j hj => ab j (Nat.lt_trans c hj) hj).symm⟩
        · rw [c, top_bit h1] at a1
          cases a1
        · exact ⟨q, List.mem_cons_of_mem _ hq, (lg _ xq fun j hj => ab j hj (Nat.lt_trans c hj)).symm⟩
/-- in the span exactly if nothing is left -/
theorem lessened_zero {l : List Nat} (h : Red l) (x : Nat) : lessened x l = 0 ↔ Span l x := by
  have s := lessened_span l x
  constructor
  · intro e
    rw [e, Nat.xor_zero] at s
    exact s
  · intro hx
    have : Span l (lessened x l) := by
      have := span_xor _ hx s
      rwa [← Nat.xor_assoc, Nat.xor_self, Nat.zero_xor] at this
    exact span_no_top h this fun r hr => lessened_bit h x hr

/-! ### the loop of reduced -/
def red1 (kept : List Nat) (row : Nat) : List Nat :=
  if 0 < lessened row kept then kept.map (fun o => min o (o ^^^ lessened row kept)) ++ [lessened row kept] else kept
theorem min_less1 {o r : Nat} : min o (o ^^^ r) = less1 o r := by
  unfold less1
  split <;> omega
theorem red1_ok {kept : List Nat} (h : Red kept) (row : Nat) : Red (red1 kept row) ∧ ∀ x, Span (red1 kept row) x ↔ Span (row :: kept) x := by
  unfold red1
  by_cases c : 0 < lessened row kept
  · rw [if_pos c]
    have hr : lessened row kept ≠ 0 := Nat.ne_of_gt c
    have e : kept.map (fun o => min o (o ^^^ lessened row kept)) = kept.map (fun o => less1 o (lessened row kept)) := List.map_congr_left fun o _ => min_less1
    rw [e]
    generalize hR : lessened row kept = R at *
    have nb : ∀ {r}, r ∈ kept → R.testBit (top r) = false := fun {r} hr => by rw [← hR]; exact lessened_bit h row hr
    -- a row keeps its greatest bit, and has it as greatest one
    have tp : ∀ {o}, o ∈ kept → top (less1 o R) = top o := fun {o} ho => by
      have b : (less1 o R).testBit (top o) = true := by rw [less1_keep (nb ho)]; exact top_bit (h.1 o ho)
      have z := ne_zero_of_bit b
      have b2 := top_bit z
      rcases Nat.lt_trichotomy (top (less1 o R)) (top o) with q | q | q
      · rw [above_top q] at b
        cases b
      · exact q
      · -- above the row's own greatest bit: less1 is not greater than o
        have lt : o < less1 o R := by
          refine lt_of_testBit' (top (less1 o R)) (above_top q) b2 fun j hj => ?_
          rw [above_top (Nat.lt_trans q hj), above_top hj]
        exact absurd (less1_le (x := o) (r := R)) (by omega)
    constructor
    · refine Red.perm (List.perm_append_comm (l₁ := [R])) ?_
      show Red (R :: kept.map fun o => less1 o R)
      refine Red.cons_iff.mpr ⟨hr, fun b hb => ?_, fun q hq => ?_, ?_⟩
      · obtain ⟨o, ho, rfl⟩ := List.mem_map.mp hb
        rw [tp ho]
        exact ⟨nb ho, less1_bit hr⟩
      · obtain ⟨o, ho, rfl⟩ := List.mem_map.mp hq
        exact ne_zero_of_bit (i := top o) (by rw [less1_keep (nb ho)]; exact top_bit (h.1 o ho))
      · rw [List.pairwise_map]
        refine List.Pairwise.imp_of_mem ?_ h.2
        intro a b ha hb ⟨q1, q2⟩
        rw [tp ha, tp hb, less1_keep (nb hb), less1_keep (nb ha)]
        exact ⟨q1, q2⟩
    · have sR : Span (row :: kept) R := by
        have s := lessened_span kept row
        rw [hR] at s
        have := span_xor _ (span_head (r := row) (l := kept)) (span_tail (r := row) s)
        rwa [← Nat.xor_assoc, Nat.xor_self, Nat.zero_xor] at this
      intro x
      refine span_eq (fun q hq => ?_) (fun q hq => ?_) x
      · rcases List.mem_append.mp hq with hq | hq
        · obtain ⟨o, ho, rfl⟩ := List.mem_map.mp hq
          unfold less1
          split
          · exact span_xor _ (span_tail (span_mem ho)) sR
          · exact span_tail (span_mem ho)
        · rw [List.mem_singleton.mp hq]
          exact sR
      · have sR' : Span (kept.map (fun o => less1 o R) ++ [R]) R := span_mem (List.mem_append_right _ (List.mem_singleton.mpr rfl))
        have sk : ∀ {o}, o ∈ kept → Span (kept.map (fun o => less1 o R) ++ [R]) o := fun {o} ho => by
          have s1 : Span (kept.map (fun o => less1 o R) ++ [R]) (less1 o R) := span_mem (List.mem_append_left _ (List.mem_map.mpr ⟨o, ho, rfl⟩))
          unfold less1 at s1
          split at s1
          · have := span_xor _ s1 sR'
            rwa [Nat.xor_assoc, Nat.xor_self, Nat.xor_zero] at this
          · exact s1
        rcases List.mem_cons.mp hq with rfl | hq
        · have s := lessened_span kept q
          rw [hR] at s
          have s2 := span_sub (fun o ho => sk ho) s
          have := span_xor _ s2 sR'
          rwa [Nat.xor_assoc, Nat.xor_self, Nat.xor_zero] at this
        · exact sk hq
  · rw [if_neg c]
    refine ⟨h, fun x => span_eq (fun q hq => span_tail (span_mem hq)) (fun q hq => ?_) x⟩
    rcases List.mem_cons.mp hq with rfl | hq
    · exact (lessened_zero h q).mp (by omega)
    · exact span_mem hq
theorem red_fold : ∀ (rows kept : List Nat), Red kept → Red (rows.foldl red1 kept) ∧ ∀ x, Span (rows.foldl red1 kept) x ↔ Span (rows ++ kept) x
  | [], kept, h => ⟨h, fun _ => Iff.rfl⟩
  | r :: rows, kept, h => by
    obtain ⟨a, b⟩ := red1_ok h r
    obtain ⟨c, d⟩ := red_fold rows (red1 kept r) a
    refine ⟨c, fun x => (d x).trans ?_⟩
    refine span_eq (fun q hq => ?_) (fun q hq => ?_) x
    · rcases List.mem_append.mp hq with hq | hq
      · exact span_mem (List.mem_append_left _ (List.mem_cons_of_mem _ hq))
      · refine span_sub (fun o ho => ?_) ((b q).mp (span_mem hq))
        rcases List.mem_cons.mp ho with rfl | ho
        · exact span_mem List.mem_cons_self
        · exact span_mem (List.mem_append_right _ ho)
    · rcases List.mem_append.mp hq with hq | hq
      · rcases List.mem_cons.mp hq with rfl | hq
        · exact span_sub (fun o ho => span_mem (List.mem_append_right _ ho)) ((b q).mpr span_head)
        · exact span_mem (List.mem_append_left _ hq)
      · exact span_sub (fun o ho => span_mem (List.mem_append_right _ ho)) ((b q).mpr (span_tail (span_mem hq)))

/-! ### in order: the reduced rows -/
/-- ascending and reduced -/
def Canon (l : List Nat) : Prop := Red l ∧ l.Pairwise (· < ·)
theorem top_lt_of_lt {a b : Nat} (ha : a ≠ 0) (hb : b ≠ 0) (h1 : a.testBit (top b) = false) (h : a < b) : top a < top b := by
  rcases Nat.lt_trichotomy (top a) (top b) with c | c | c
  · exact c
  · rw [← c, top_bit ha] at h1
    cases h1
  · have : b < a := lt_of_top (above_top c) (top_bit ha) fun j hj => by rw [above_top hj, above_top (Nat.lt_trans c hj)]
    omega
theorem lt_of_top_lt {a b : Nat} (h : top a < top b) : a < b := by
  have hb : b ≠ 0 := fun e => by
    rw [e] at h
    simp [top] at h
  exact lt_of_top (above_top h) (top_bit hb) fun j hj => by rw [above_top (Nat.lt_trans h hj), above_top hj]
/-- two that have equal spans are one -/
theorem Canon.ext : ∀ {l m : List Nat}, Canon l → Canon m → (∀ x, Span l x ↔ Span m x) → l = m := by
  intro l m hl hm e
  have mem : ∀ {l m : List Nat}, Canon l → Canon m → (∀ x, Span l x ↔ Span m x) → ∀ {r}, r ∈ l → r ∈ m := by
    intro l m hl hm e r hr
    obtain ⟨q, hq, ht⟩ := span_top hm.1 ((e r).mp (span_mem hr)) (hl.1.1 r hr)
    -- r and q have the same greatest bit; r ^^^ q has none of the greatest bits of m
    have pl := hl.1.2
    have key : r ^^^ q = 0 := by
      refine span_no_top hm.1 (span_xor _ ((e r).mp (span_mem hr)) (span_mem hq)) fun b hb => ?_
      rw [Nat.testBit_xor]
      by_cases hbq : top b = top q
      · have z1 : r.testBit (top b) = true := by rw [hbq, ht]; exact top_bit (hl.1.1 r hr)
        have z2 : q.testBit (top b) = true := by rw [hbq]; exact top_bit (hm.1.1 q hq)
        rw [z1, z2]; rfl
      · -- b's greatest bit is that of a row of l, which is not r
        obtain ⟨r', hr', ht'⟩ := span_top hl.1 ((e b).mpr (span_mem hb)) (hm.1.1 b hb)
        have n1 : r' ≠ r := fun z => hbq (by rw [← ht', z, ht])
        have z1 : r.testBit (top b) = false := by
          rw [← ht']
          have hp : ∀ {l : List Nat}, (l.Pairwise fun a b => a.testBit (top b) = false ∧ b.testBit (top a) = false) → r ∈ l → r' ∈ l → r.testBit (top r') = false := by
            intro l pl
            induction pl with
            | nil => intro h _; cases h
            | cons h p ih =>
              rename_i a l
              intro h1 h2
              rcases List.mem_cons.mp h1 with u1 | h1 <;> rcases List.mem_cons.mp h2 with u2 | h2
              · exact absurd (u2.trans u1.symm) n1
              · rw [u1]; exact (h _ h2).1
              · rw [u2]; exact (h _ h1).2
              · exact ih h1 h2
          exact hp pl hr hr'
        have z2 : q.testBit (top b) = false := by
          have n2 : b ≠ q := fun z => hbq (by rw [z])
          have hp : ∀ {l : List Nat}, (l.Pairwise fun a b => a.testBit (top b) = false ∧ b.testBit (top a) = false) → q ∈ l → b ∈ l → q.testBit (top b) = false := by
            intro l pl
            induction pl with
            | nil => intro h _; cases h
            | cons h p ih =>
              rename_i a l
              intro h1 h2
              rcases List.mem_cons.mp h1 with u1 | h1 <;> rcases List.mem_cons.mp h2 with u2 | h2
              · exact absurd (u2.trans u1.symm) n2
              · rw [u1]; exact (h _ h2).1
              · rw [u2]; exact (h _ h1).2
              · exact ih h1 h2
          exact hp hm.1.2 hq hb
        rw [z1, z2]; rfl
    have : r = q := by
      have := congrArg (· ^^^ q) key
      simp only [Nat.xor_assoc, Nat.xor_self, Nat.xor_zero, Nat.zero_xor] at this
      exact this
    rw [this]; exact hq
  have p : l.Perm m := by
    have nl : l.Nodup := hl.2.imp fun h => Nat.ne_of_lt h
    have nm : m.Nodup := hm.2.imp fun h => Nat.ne_of_lt h
    exact (List.perm_ext_iff_of_nodup nl nm).mpr fun r => ⟨fun h => mem hl hm e h, fun h => mem hm hl (fun x => (e x).symm) h⟩
  exact p.eq_of_pairwise (fun a b _ _ h1 h2 => by omega) hl.2 hm.2
/-! ### plus, and, exclusive or -/
theorem and2 (a b : Nat) : (a &&& b) % 2 = a % 2 * (b % 2) := by
  have h := @Nat.and_mod_two_pow a b 1
  rw [Nat.pow_one] at h
  rw [h]
  rcases Nat.mod_two_eq_zero_or_one a with x | x <;> rcases Nat.mod_two_eq_zero_or_one b with y | y <;> rw [x, y] <;> rfl
theorem xor2 (a b : Nat) : (a ^^^ b) % 2 = (a % 2 + b % 2) % 2 := by
  have h := @Nat.xor_mod_two_pow a b 1
  rw [Nat.pow_one] at h
  rw [h]
  rcases Nat.mod_two_eq_zero_or_one a with x | x <;> rcases Nat.mod_two_eq_zero_or_one b with y | y <;> rw [x, y] <;> rfl
theorem add_xor_and (a : Nat) : ∀ b, a + b = (a ^^^ b) + 2 * (a &&& b) := by
  induction a using Nat.strongRecOn with
  | ind a ih =>
    intro b
    by_cases h : a = 0
    · subst h; simp
    · have i := ih (a / 2) (by omega) (b / 2)
      have e1 : (a ^^^ b) / 2 = a / 2 ^^^ b / 2 := Nat.xor_div_two
      have e2 : (a &&& b) / 2 = a / 2 &&& b / 2 := Nat.and_div_two
      have f1 := xor2 a b
      have f2 := and2 a b
      rw [← e1, ← e2] at i
      generalize a ^^^ b = X at *
      generalize a &&& b = Y at *
      rcases Nat.mod_two_eq_zero_or_one a with x | x <;> rcases Nat.mod_two_eq_zero_or_one b with y | y <;> rw [x, y] at f1 f2 <;> omega
theorem foldl_take {α β : Type} {f : β → α → β} {b : β} {l : List α} {i : Nat} {x : α} (h : l[i]? = some x) : (l.take (i + 1)).foldl f b = f ((l.take i).foldl f b) x := by
  rw [List.take_add_one, h, List.foldl_append]
  rfl
end Xr

/-! Integers that meet others evenly: what a space leaves open of an age. Core Lean alone. -/
set_option autoImplicit false
set_option linter.unusedVariables false
namespace Xr
/-! ### parity of the bits -/
def popc (n : Nat) : Nat := if h : n = 0 then 0 else n % 2 + popc (n / 2)
decreasing_by omega
theorem popc_zero : popc 0 = 0 := by rw [popc]; rfl
theorem popc_pos {n : Nat} (h : n ≠ 0) : popc n = n % 2 + popc (n / 2) := by rw [popc, dif_neg h]
theorem popc_eq (n : Nat) : popc n = n % 2 + popc (n / 2) := by
  by_cases h : n = 0
  · subst h; rw [popc_zero]
  · exact popc_pos h
def par (n : Nat) : Bool := popc n % 2 == 1
theorem par_zero : par 0 = false := by rw [par, popc_zero]; rfl
theorem bne2 {a b : Nat} : ((a + b) % 2 == 1) = ((a % 2 == 1) != (b % 2 == 1)) := by
  rcases Nat.mod_two_eq_zero_or_one a with x | x <;> rcases Nat.mod_two_eq_zero_or_one b with y | y
  · rw [show (a + b) % 2 = 0 by omega, x, y]; rfl
  · rw [show (a + b) % 2 = 1 by omega, x, y]; rfl
  · rw [show (a + b) % 2 = 1 by omega, x, y]; rfl
  · rw [show (a + b) % 2 = 0 by omega, x, y]; rfl
theorem par_eq (n : Nat) : par n = ((n % 2 == 1) != par (n / 2)) := by
  unfold par
  rw [popc_eq n, bne2]
  have : n % 2 % 2 = n % 2 := Nat.mod_mod n 2
  rw [this]
theorem par_xor (x : Nat) : ∀ y, par (x ^^^ y) = (par x != par y) := by
  induction x using Nat.strongRecOn with
  | ind x ih =>
    intro y
    by_cases h : x = 0
    · subst h
      rw [Nat.zero_xor, par_zero]
      cases par y <;> rfl
    · rw [par_eq (x ^^^ y), par_eq x, par_eq y, Nat.xor_div_two, ih (x / 2) (by omega), xor2, bne2]
      have a : x % 2 % 2 = x % 2 := Nat.mod_mod x 2
      have b : y % 2 % 2 = y % 2 := Nat.mod_mod y 2
      rw [a, b]
      cases (x % 2 == 1) <;> cases (y % 2 == 1) <;> cases par (x / 2) <;> cases par (y / 2) <;> rfl
theorem par_pow : ∀ i : Nat, par (2 ^ i) = true
  | 0 => by rw [par_eq]; rw [show (2 ^ 0) / 2 = 0 from rfl, par_zero]; rfl
  | i + 1 => by
    rw [par_eq, show 2 ^ (i + 1) / 2 = 2 ^ i by rw [Nat.pow_succ]; omega, par_pow i, show 2 ^ (i + 1) % 2 = 0 by rw [Nat.pow_succ]; omega]
    rfl
/-- the two meet evenly -/
def Ev (m x : Nat) : Prop := par (m &&& x) = false
theorem Ev.zero (m : Nat) : Ev m 0 := by unfold Ev; rw [Nat.and_zero, par_zero]
theorem Ev.zeroL (x : Nat) : Ev 0 x := by unfold Ev; rw [Nat.zero_and, par_zero]
theorem Ev.xor {m x y : Nat} (a : Ev m x) (b : Ev m y) : Ev m (x ^^^ y) := by
  unfold Ev at *
  rw [Nat.and_xor_distrib_left, par_xor, a, b]; rfl
theorem Ev.xorL {m n x : Nat} (a : Ev m x) (b : Ev n x) : Ev (m ^^^ n) x := by
  unfold Ev at *
  rw [Nat.and_xor_distrib_right, par_xor, a, b]; rfl
theorem Ev.comm {m x : Nat} (a : Ev m x) : Ev x m := by unfold Ev at *; rw [Nat.and_comm]; exact a
theorem Ev.span {m : Nat} {l : List Nat} (h : ∀ r ∈ l, Ev m r) {x : Nat} (hx : Span l x) : Ev m x :=
  span_least (S := Ev m) (Ev.zero m) (fun _ _ a b => a.xor b) h hx
theorem and_pow {m i : Nat} : m &&& 2 ^ i = if m.testBit i then 2 ^ i else 0 := by
  refine Nat.eq_of_testBit_eq fun j => ?_
  rw [Nat.testBit_and, Nat.testBit_two_pow]
  by_cases h : i = j
  · subst h
    cases hm : m.testBit i
    · simp
    · simp
  · simp only [h, decide_false, Bool.and_false]
    split
    · rw [Nat.testBit_two_pow]; simp [h]
    · simp
theorem ev_pow {m i : Nat} : Ev m (2 ^ i) ↔ m.testBit i = false := by
  unfold Ev
  rw [and_pow]
  cases m.testBit i
  · simp [par_zero]
  · simp [par_pow]
/-! ### sums of unlike powers of two -/
theorem add_eq_xor {a b : Nat} (h : a &&& b = 0) : a + b = a ^^^ b := by
  have := add_xor_and a b
  rw [h] at this
  omega
theorem pow_add {s t : Nat} (h : s.testBit t = false) : 2 ^ t + s = 2 ^ t ^^^ s := add_eq_xor (by
  rw [Nat.and_comm, and_pow, h]; rfl)
theorem sum_pow : ∀ {ts : List Nat}, ts.Nodup → ∀ j, ((ts.map (2 ^ ·)).sum).testBit j = decide (j ∈ ts)
  | [], _, j => by simp
  | t :: ts, h, j => by
    rw [List.nodup_cons] at h
    have ih := sum_pow h.2
    rw [List.map_cons, List.sum_cons, pow_add (by rw [ih]; simp [h.1]), Nat.testBit_xor, ih, Nat.testBit_two_pow]
    by_cases e : t = j
    · subst e; simp [h.1]
    · have e' : ¬ j = t := fun z => e z.symm
      simp [e, e']
/-! ### what the rows leave open -/
/-- the row of a free bit -/
def evenRow (rows : List Nat) (b : Nat) : Nat := 2 ^ b + ((rows.filter fun r => r.testBit b).map fun r => 2 ^ top r).sum
def frees (rows : List Nat) (n : Nat) : List Nat := (List.range n).filter fun b => !(rows.map top).contains b
def evens (rows : List Nat) (n : Nat) : List Nat := (frees rows n).map (evenRow rows)
theorem Red.inj {l : List Nat} (h : Red l) : ∀ {a b : Nat}, a ∈ l → b ∈ l → a.testBit (top b) = true → a = b := by
  intro a b ha hb hab
  have p := h.2
  clear h
  induction p with
  | nil => cases ha
  | cons q p ih =>
    rcases List.mem_cons.mp ha with u1 | h1 <;> rcases List.mem_cons.mp hb with u2 | h2
    · rw [u1, u2]
    · rw [u1, (q _ h2).1] at hab; cases hab
    · rw [u2, (q _ h1).2] at hab; cases hab
    · exact ih h1 h2
theorem Red.nodup {l : List Nat} (h : Red l) : l.Nodup := by
  have h1 := h.1
  have p := h.2
  clear h
  induction p with
  | nil => exact .nil
  | cons q p ih =>
    rename_i a l
    refine List.nodup_cons.mpr ⟨fun hm => ?_, ih fun r hr => h1 r (List.mem_cons_of_mem _ hr)⟩
    have := (q a hm).1
    rw [top_bit (h1 a List.mem_cons_self)] at this
    cases this
theorem Red.tops_nodup {l : List Nat} (h : Red l) {p : Nat → Bool} : ((l.filter p).map top).Nodup := by
  refine List.nodup_iff_pairwise_ne.mpr ?_
  rw [List.pairwise_map]
  refine List.Pairwise.imp_of_mem ?_ (List.nodup_iff_pairwise_ne.mp (h.nodup.filter p))
  intro a b ha hb hne e
  refine hne (h.inj (List.mem_filter.mp ha).1 (List.mem_filter.mp hb).1 ?_)
  rw [← e]
  exact top_bit (h.1 a (List.mem_filter.mp ha).1)
theorem evenRow_bit {rows : List Nat} (h : Red rows) {b : Nat} (hb : ∀ r ∈ rows, top r ≠ b) (j : Nat) :
    (evenRow rows b).testBit j = (decide (j = b) || decide (∃ r ∈ rows, r.testBit b = true ∧ top r = j)) := by
  unfold evenRow
  have e : ((rows.filter fun r : Nat => r.testBit b).map fun r => 2 ^ top r) = (((rows.filter fun r : Nat => r.testBit b).map top).map (2 ^ ·)) := by rw [List.map_map]; rfl
  have sb : ∀ j : Nat, ((rows.filter fun r : Nat => r.testBit b).map fun r => 2 ^ top r).sum.testBit j = decide (∃ r ∈ rows, r.testBit b = true ∧ top r = j) := fun j => by
    rw [e, sum_pow h.tops_nodup]
    refine decide_eq_decide.mpr ?_
    constructor
    · intro hm
      obtain ⟨r, hr, e⟩ := List.mem_map.mp hm
      exact ⟨r, (List.mem_filter.mp hr).1, (List.mem_filter.mp hr).2, e⟩
    · rintro ⟨r, hr, q, e⟩
      exact List.mem_map.mpr ⟨r, List.mem_filter.mpr ⟨hr, q⟩, e⟩
  rw [pow_add (by rw [sb]; refine decide_eq_false ?_; rintro ⟨r, hr, _, e⟩; exact hb r hr e), Nat.testBit_xor, sb, Nat.testBit_two_pow]
  by_cases hj : j = b
  · subst hj
    have : ¬ ∃ r ∈ rows, r.testBit j = true ∧ top r = j := by rintro ⟨r, hr, _, e⟩; exact hb r hr e
    simp [this]
  · have hj' : ¬ b = j := fun z => hj z.symm
    simp [hj, hj']
theorem mem_frees {rows : List Nat} {n b : Nat} : b ∈ frees rows n ↔ b < n ∧ ∀ r ∈ rows, top r ≠ b := by
  unfold frees
  rw [List.mem_filter, List.mem_range]
  simp
/-- an even row meets each row evenly -/
theorem evenRow_ev {rows : List Nat} (h : Red rows) {b : Nat} (hb : ∀ r ∈ rows, top r ≠ b) {r : Nat} (hr : r ∈ rows) : Ev (evenRow rows b) r := by
  have key : evenRow rows b &&& r = if r.testBit b then 2 ^ b ^^^ 2 ^ top r else 0 := by
    refine Nat.eq_of_testBit_eq fun j => ?_
    rw [Nat.testBit_and, evenRow_bit h hb]
    by_cases c : r.testBit b = true
    · rw [if_pos c, Nat.testBit_xor, Nat.testBit_two_pow, Nat.testBit_two_pow]
      by_cases j1 : j = b
      · subst j1
        have : ¬ top r = j := hb r hr
        simp [c, this]
      · by_cases j2 : top r = j
        · subst j2
          have e : ∃ q ∈ rows, q.testBit b = true ∧ top q = top r := ⟨r, hr, c, rfl⟩
          have j1' : ¬ b = top r := fun z => j1 z.symm
          simp [e, top_bit (h.1 r hr), j1, j1']
        · have j1' : ¬ b = j := fun z => j1 z.symm
          simp only [j1, j1', j2, decide_false, Bool.false_or, bne_self_eq_false]
          cases hh : r.testBit j with
          | false => rw [Bool.and_false]
          | true =>
            rw [Bool.and_true]
            refine decide_eq_false ?_
            rintro ⟨q, hq, _, e⟩
            rw [← e] at hh
            exact j2 (by rw [h.inj hr hq hh]; exact e)
    · rw [if_neg c]
      simp only [Nat.zero_testBit, Bool.and_eq_false_iff]
      by_cases hh : r.testBit j = true
      · left
        have j1 : ¬ j = b := fun z => c (by rw [← z]; exact hh)
        have j2 : ¬ ∃ q ∈ rows, q.testBit b = true ∧ top q = j := by
          rintro ⟨q, hq, z, e⟩
          rw [← e] at hh
          exact c (by rw [h.inj hr hq hh]; exact z)
        simp [j1, j2]
      · right
        simpa using hh
  unfold Ev
  rw [key]
  split
  · rw [par_xor, par_pow, par_pow]; rfl
  · exact par_zero
theorem lt_of_bits {x n : Nat} (h : ∀ j, n ≤ j → x.testBit j = false) : x < 2 ^ n := Nat.lt_pow_two_of_testBit x fun j hj => h j hj
theorem top_lt {r n : Nat} (h : r < 2 ^ n) (h0 : r ≠ 0) : top r < n := by
  rcases Nat.lt_or_ge (top r) n with c | c
  · exact c
  · have := Nat.testBit_lt_two_pow (x := r) (Nat.lt_of_lt_of_le h (Nat.pow_le_pow_right (by decide) c))
    rw [top_bit h0] at this
    cases this
theorem evenRow_lt {rows : List Nat} (h : Red rows) {b n : Nat} (hb : ∀ r ∈ rows, top r ≠ b) (hn : b < n) (hr : ∀ r ∈ rows, r < 2 ^ n) : evenRow rows b < 2 ^ n :=
  lt_of_bits fun j hj => by
    rw [evenRow_bit h hb]
    have j1 : ¬ j = b := by omega
    have j2 : ¬ ∃ q ∈ rows, q.testBit b = true ∧ top q = j := by
      rintro ⟨q, hq, _, e⟩
      have := top_lt (hr q hq) (h.1 q hq)
      omega
    simp [j1, j2]
/-- evenly with all rows, and no free bit: nothing -/
theorem no_free {rows : List Nat} (h : Red rows) {n m : Nat} (hm : m < 2 ^ n) (he : ∀ r ∈ rows, Ev m r) (hf : ∀ b ∈ frees rows n, m.testBit b = false) : m = 0 := by
  refine Nat.eq_of_testBit_eq fun j => ?_
  rw [Nat.zero_testBit]
  rcases Nat.lt_or_ge j n with c | c
  · by_cases ht : ∃ r ∈ rows, top r = j
    · obtain ⟨r, hr, e⟩ := ht
      have key : m &&& r = if m.testBit j then 2 ^ j else 0 := by
        refine Nat.eq_of_testBit_eq fun i => ?_
        rw [Nat.testBit_and]
        by_cases hi : i = j
        · subst hi
          have : r.testBit i = true := by rw [← e]; exact top_bit (h.1 r hr)
          rw [this, Bool.and_true]
          cases hmi : m.testBit i
          · simp
          · simp [Nat.testBit_two_pow]
        · have z : (m.testBit i && r.testBit i) = false := by
            cases hmi : m.testBit i with
            | false => rfl
            | true =>
              cases hri : r.testBit i with
              | false => rfl
              | true =>
                -- i is no free bit, so a row's greatest; r has it: it is r's own
                exfalso
                have ii : i < n := by
                  rcases Nat.lt_or_ge i n with d | d
                  · exact d
                  · rw [Nat.testBit_lt_two_pow (Nat.lt_of_lt_of_le hm (Nat.pow_le_pow_right (by decide) d))] at hmi
                    cases hmi
                by_cases hfree : ∀ q ∈ rows, top q ≠ i
                · rw [hf i (mem_frees.mpr ⟨ii, hfree⟩)] at hmi
                  cases hmi
                · refine hfree fun q hq eq => ?_
                  rw [← eq] at hri
                  have := h.inj hr hq hri
                  exact hi (by rw [← eq, ← this]; exact e)
          rw [z]
          split
          · rw [Nat.testBit_two_pow]
            have : ¬ j = i := fun z => hi z.symm
            simp [this]
          · simp
      have ev := he r hr
      unfold Ev at ev
      rw [key] at ev
      cases hmj : m.testBit j with
      | false => rfl
      | true =>
        rw [hmj, if_pos rfl, par_pow] at ev
        cases ev
    · exact hf j (mem_frees.mpr ⟨c, fun r hr e => ht ⟨r, hr, e⟩⟩)
  · exact Nat.testBit_lt_two_pow (Nat.lt_of_lt_of_le hm (Nat.pow_le_pow_right (by decide) c))
theorem evens_span {rows : List Nat} (h : Red rows) {n : Nat} (hn : ∀ r ∈ rows, r < 2 ^ n) (m : Nat) : Span (evens rows n) m ↔ m < 2 ^ n ∧ ∀ r ∈ rows, Ev m r := by
  constructor
  · intro hm
    refine span_least (S := fun m => m < 2 ^ n ∧ ∀ r ∈ rows, Ev m r) ⟨Nat.two_pow_pos n, fun r _ => Ev.zeroL r⟩ (fun x y a b => ⟨Nat.xor_lt_two_pow a.1 b.1, fun r hr => (a.2 r hr).xorL (b.2 r hr)⟩) (fun e he => ?_) hm
    obtain ⟨b, hb, rfl⟩ := List.mem_map.mp he
    obtain ⟨h1, h2⟩ := mem_frees.mp hb
    exact ⟨evenRow_lt h h2 h1 hn, fun r hr => evenRow_ev h h2 hr⟩
  · rintro ⟨hm, he⟩
    have key : ∀ (fs : List Nat), (∀ b ∈ fs, b ∈ frees rows n) → ∀ m, m < 2 ^ n → (∀ r ∈ rows, Ev m r) → (∀ b ∈ frees rows n, m.testBit b = true → b ∈ fs) → Span (fs.map (evenRow rows)) m := by
      intro fs
      induction fs with
      | nil =>
        intro _ m hm he hf
        have : m = 0 := no_free h hm he fun b hb => by
          cases q : m.testBit b with
          | false => rfl
          | true => cases hf b hb q
        rw [this]
        exact span_zero _
      | cons b fs ih =>
        intro hfs m hm he hf
        have hb := hfs b List.mem_cons_self
        obtain ⟨b1, b2⟩ := mem_frees.mp hb
        have hfs' : ∀ c ∈ fs, c ∈ frees rows n := fun c hc => hfs c (List.mem_cons_of_mem _ hc)
        have eb : ∀ c ∈ frees rows n, (evenRow rows b).testBit c = decide (c = b) := fun c hc => by
          rw [evenRow_bit h b2]
          have : ¬ ∃ q ∈ rows, q.testBit b = true ∧ top q = c := by
            rintro ⟨q, hq, _, e⟩
            exact (mem_frees.mp hc).2 q hq e
          simp [this]
        by_cases q : m.testBit b = true
        · refine .inr (ih hfs' _ (Nat.xor_lt_two_pow hm (evenRow_lt h b2 b1 hn)) (fun r hr => (he r hr).xorL (evenRow_ev h b2 hr)) fun c hc z => ?_)
          rw [Nat.testBit_xor, eb c hc] at z
          by_cases cb : c = b
          · subst cb
            rw [q] at z
            simp at z
          · simp [cb] at z
            rcases List.mem_cons.mp (hf c hc z) with d | d
            · exact absurd d cb
            · exact d
        · refine .inl (ih hfs' m hm he fun c hc z => ?_)
          rcases List.mem_cons.mp (hf c hc z) with d | d
          · rw [d] at z
            exact absurd z q
          · exact d
    exact key _ (fun _ hb => hb) m hm he fun b hb _ => hb
/-- an age is told exactly if nothing shows it missed -/
theorem told_iff {rows : List Nat} (h : Red rows) {n : Nat} (hn : ∀ r ∈ rows, r < 2 ^ n) {age : Nat} (ha : age < n) : Span rows (2 ^ age) ↔ ∀ m, m < 2 ^ n → (∀ r ∈ rows, Ev m r) → m.testBit age = false := by
  constructor
  · intro hs m hm he
    exact ev_pow.mp (Ev.span he hs)
  · intro hno
    -- the age is no free bit, so it is a row's greatest one, and this row has no other bit
    have hE : ∀ b, b ∈ frees rows n → (evenRow rows b).testBit age = false := fun b hb => by
      obtain ⟨b1, b2⟩ := mem_frees.mp hb
      exact hno _ (evenRow_lt h b2 b1 hn) fun r hr => evenRow_ev h b2 hr
    have nf : ¬ age ∈ frees rows n := fun hf => by
      have := hE age hf
      rw [evenRow_bit h (mem_frees.mp hf).2] at this
      simp at this
    have ht : ∃ r ∈ rows, top r = age := by
      refine Classical.byContradiction fun hc => nf (mem_frees.mpr ⟨ha, fun r hr e => hc ⟨r, hr, e⟩⟩)
    obtain ⟨r, hr, e⟩ := ht
    have : r = 2 ^ age := by
      refine Nat.eq_of_testBit_eq fun j => ?_
      rw [Nat.testBit_two_pow]
      by_cases hj : age = j
      · subst hj
        rw [← e, top_bit (h.1 r hr)]
        simp
      · simp only [hj, decide_false]
        cases q : r.testBit j with
        | false => rfl
        | true =>
          exfalso
          have jn : j < n := by
            rcases Nat.lt_or_ge j n with d | d
            · exact d
            · rw [Nat.testBit_lt_two_pow (Nat.lt_of_lt_of_le (hn r hr) (Nat.pow_le_pow_right (by decide) d))] at q
              cases q
          by_cases hf : ∀ q ∈ rows, top q ≠ j
          · have := hE j (mem_frees.mpr ⟨jn, hf⟩)
            rw [evenRow_bit h hf] at this
            have z : ∃ q ∈ rows, q.testBit j = true ∧ top q = age := ⟨r, hr, q, e⟩
            simp [z] at this
          · refine hf fun p hp ep => ?_
            rw [← ep] at q
            have := h.inj hr hp q
            exact hj (by rw [← e, ← ep, this])
    rw [← this]
    exact span_mem hr
/-! ### the least of what lessened can reach -/
theorem lessened_least {l : List Nat} (h : Red l) {x s : Nat} (hs : Span l s) : lessened x l ≤ x ^^^ s := by
  have q := lessened_span l x
  generalize hy : lessened x l = y at *
  have ts : Span l (x ^^^ y ^^^ s) := span_xor _ q hs
  generalize ht : x ^^^ y ^^^ s = t at *
  have e : x ^^^ s = y ^^^ t := by
    rw [← ht, Nat.xor_assoc x y s, Nat.xor_comm y s, ← Nat.xor_assoc x s y, Nat.xor_comm y, Nat.xor_assoc (x ^^^ s) y y, Nat.xor_self, Nat.xor_zero]
  rw [e]
  by_cases h0 : t = 0
  · rw [h0, Nat.xor_zero]; exact Nat.le_refl _
  · obtain ⟨r, hr, er⟩ := span_top h ts h0
    have b1 : y.testBit (top t) = false := by rw [← er, ← hy]; exact lessened_bit h x hr
    refine Nat.le_of_lt (lt_of_testBit' (top t) b1 (by rw [Nat.testBit_xor, b1, top_bit h0]; rfl) fun j hj => ?_)
    rw [Nat.testBit_xor, above_top hj, Bool.xor_false]
/-! ### those with a bit, and those without -/
def cutBit (age h e : Nat) : Nat := if e.testBit age then e ^^^ h else e
theorem cut_span {age h : Nat} (hh : h.testBit age = true) : ∀ (E : List Nat) {x : Nat}, Span E x → if x.testBit age then Span (E.map (cutBit age h)) (x ^^^ h) else Span (E.map (cutBit age h)) x
  | [], x, hx => by
    have hx : x = 0 := hx
    subst hx
    rw [if_neg (by simp)]
    rfl
  | e :: E, x, hx => by
    rcases hx with hx | hx
    · have := cut_span hh E hx
      split at this
      · rename_i c; rw [if_pos c]; exact .inl this
      · rename_i c; rw [if_neg c]; exact .inl this
    · have ih := cut_span hh E hx
      rw [Nat.testBit_xor] at ih
      cases ce : e.testBit age with
      | false =>
        rw [ce, Bool.xor_false] at ih
        have ec : cutBit age h e = e := by unfold cutBit; rw [ce]; rfl
        cases cx : x.testBit age with
        | true =>
          rw [cx, if_pos rfl] at ih
          rw [if_pos rfl]
          refine .inr ?_
          show Span (E.map (cutBit age h)) (x ^^^ h ^^^ cutBit age h e)
          rw [ec, xor_right_comm]
          exact ih
        | false =>
          rw [cx, if_neg Bool.false_ne_true] at ih
          rw [if_neg Bool.false_ne_true]
          refine .inr ?_
          show Span (E.map (cutBit age h)) (x ^^^ cutBit age h e)
          rw [ec]
          exact ih
      | true =>
        rw [ce] at ih
        have ec : cutBit age h e = e ^^^ h := by unfold cutBit; rw [ce]; rfl
        cases cx : x.testBit age with
        | true =>
          rw [cx] at ih
          rw [if_neg (by decide)] at ih
          rw [if_pos rfl]
          refine .inr ?_
          show Span (E.map (cutBit age h)) (x ^^^ h ^^^ cutBit age h e)
          rw [ec, Nat.xor_comm e h, ← Nat.xor_assoc, Nat.xor_assoc x h h, Nat.xor_self, Nat.xor_zero]
          exact ih
        | false =>
          rw [cx] at ih
          rw [if_pos (by decide)] at ih
          rw [if_neg Bool.false_ne_true]
          refine .inr ?_
          show Span (E.map (cutBit age h)) (x ^^^ cutBit age h e)
          rw [ec, ← Nat.xor_assoc]
          exact ih
/-- the least integer that meets all numbers evenly and has the age; none if no such has it -/
def Least (nums : List Nat) (age : Nat) : Option Nat → Prop
  | none => ∀ m, m < 2 ^ 16 → (∀ x ∈ nums, Ev m x) → m.testBit age = false
  | some m => m < 2 ^ 16 ∧ (∀ x ∈ nums, Ev m x) ∧ m.testBit age = true ∧ ∀ n, n < 2 ^ 16 → (∀ x ∈ nums, Ev n x) → n.testBit age = true → m ≤ n
theorem Least.uniq {nums : List Nat} {age : Nat} {a b : Option Nat} (ha : Least nums age a) (hb : Least nums age b) : a = b := by
  cases a with
  | none =>
    cases b with
    | none => rfl
    | some m => have := ha m hb.1 hb.2.1; rw [hb.2.2.1] at this; cases this
  | some m =>
    cases b with
    | none => have := hb m ha.1 ha.2.1; rw [ha.2.2.1] at this; cases this
    | some n => rw [Nat.le_antisymm (ha.2.2.2 n hb.1 hb.2.1 hb.2.2.1) (hb.2.2.2 m ha.1 ha.2.1 ha.2.2.1)]
theorem ev_of_span {l m : List Nat} (h : ∀ x, Span l x ↔ Span m x) {k : Nat} (e : ∀ x ∈ l, Ev k x) : ∀ x ∈ m, Ev k x := fun x hx => Ev.span e ((h x).mpr (span_mem hx))
theorem Least.span {l m : List Nat} (h : ∀ x, Span l x ↔ Span m x) {age : Nat} {o : Option Nat} (a : Least l age o) : Least m age o := by
  have h' : ∀ x, Span m x ↔ Span l x := fun x => (h x).symm
  cases o with
  | none => exact fun k hk e => a k hk (ev_of_span h' e)
  | some k => exact ⟨a.1, ev_of_span h a.2.1, a.2.2.1, fun n hn e b => a.2.2.2 n hn (ev_of_span h' e) b⟩
/-- what missed does -/
theorem missed_none {rows : List Nat} (h : Red rows) (hn : ∀ r ∈ rows, r < 2 ^ 16) {age : Nat} (he : (evens rows 16).filter (fun e => e.testBit age) = []) : Least rows age none := by
  intro m hm hev
  have hs := (evens_span h hn m).mpr ⟨hm, hev⟩
  have hno : ∀ e ∈ evens rows 16, e.testBit age = false := fun e hm => by
    cases q : e.testBit age with
    | false => rfl
    | true =>
      have : e ∈ (evens rows 16).filter (fun e => e.testBit age) := List.mem_filter.mpr ⟨hm, q⟩
      rw [he] at this
      cases this
  exact span_least (S := fun m => m.testBit age = false) (by simp) (fun x y a b => by rw [Nat.testBit_xor, a, b]; rfl) hno hs
theorem missed_some {rows : List Nat} (h : Red rows) (hn : ∀ r ∈ rows, r < 2 ^ 16) {age x : Nat} (hx : x ∈ evens rows 16) (hb : x.testBit age = true) {W : List Nat} (hW : Red W) (hs : ∀ y, Span W y ↔ Span ((evens rows 16).map (cutBit age x)) y) :
    Least rows age (some (lessened x W)) := by
  have xs : Span (evens rows 16) x := span_mem hx
  have wE : ∀ {y}, Span W y → Span (evens rows 16) y ∧ y.testBit age = false := fun {y} hy => by
    refine span_least (S := fun y => Span (evens rows 16) y ∧ y.testBit age = false) ⟨span_zero _, by simp⟩ (fun a b p q => ⟨span_xor _ p.1 q.1, by rw [Nat.testBit_xor, p.2, q.2]; rfl⟩) (fun r hr => ?_) ((hs y).mp hy)
    obtain ⟨e, he, rfl⟩ := List.mem_map.mp hr
    unfold cutBit
    split
    · rename_i c
      exact ⟨span_xor _ (span_mem he) xs, by rw [Nat.testBit_xor, c, hb]; rfl⟩
    · rename_i c
      exact ⟨span_mem he, by simpa using c⟩
  have sp := lessened_span W x
  obtain ⟨d1, d2⟩ := wE sp
  generalize hy : lessened x W = y at *
  have yE : Span (evens rows 16) y := by
    have := span_xor _ xs d1
    rwa [← Nat.xor_assoc, Nat.xor_self, Nat.zero_xor] at this
  have yb : y.testBit age = true := by
    rw [Nat.testBit_xor, hb] at d2
    cases q : y.testBit age with
    | true => rfl
    | false => rw [q] at d2; cases d2
  obtain ⟨y1, y2⟩ := (evens_span h hn y).mp yE
  refine ⟨y1, y2, yb, fun n h1 h2 h3 => ?_⟩
  have nE := (evens_span h hn n).mpr ⟨h1, h2⟩
  have c := cut_span (h := x) hb (evens rows 16) nE
  rw [if_pos h3] at c
  have := lessened_least hW (x := x) ((hs _).mpr c)
  rw [hy, Nat.xor_comm n x, ← Nat.xor_assoc, Nat.xor_self, Nat.zero_xor] at this
  exact this
end Xr

/-! The greedy search for the least such integer, and the plain one. Core Lean alone. -/
set_option autoImplicit false
set_option linter.unusedVariables false
namespace Xr
/-! ### barred -/
noncomputable def odd1 (n fixed : Nat) : Nat := if par (n &&& fixed) then 1 else 0
noncomputable def lift (free fixed n : Nat) : Nat := 2 * (n &&& free) + odd1 n fixed
def Barred (nums : List Nat) (free fixed : Nat) : Prop := Span (nums.map (lift free fixed)) 1
theorem odd1_lt (n f : Nat) : odd1 n f < 2 := by unfold odd1; split <;> decide
theorem lift_ev {m free fixed n : Nat} (hm : m % 2 = 1) : Ev m (lift free fixed n) ↔ par ((m / 2) &&& (n &&& free)) = par (n &&& fixed) := by
  have o := odd1_lt n fixed
  unfold Ev
  rw [par_eq, and2, Nat.and_div_two, hm]
  have e1 : lift free fixed n % 2 = odd1 n fixed := by unfold lift; omega
  have e2 : lift free fixed n / 2 = n &&& free := by unfold lift; omega
  rw [e1, e2]
  unfold odd1
  cases par (n &&& fixed) <;> cases par (m / 2 &&& (n &&& free)) <;> decide
theorem barred_iff {nums : List Nat} {free fixed : Nat} (hf : free < 2 ^ 16) : ¬ Barred nums free fixed ↔ ∃ f, (∀ j, f.testBit j = true → free.testBit j = true) ∧ ∀ n ∈ nums, Ev (fixed ^^^ f) n := by
  have ev_iff : ∀ {f n : Nat}, Ev (fixed ^^^ f) n ↔ par (f &&& n) = par (n &&& fixed) := fun {f n} => by
    unfold Ev
    rw [Nat.and_xor_distrib_right, par_xor, Nat.and_comm fixed n]
    cases par (n &&& fixed) <;> cases par (f &&& n) <;> decide
  constructor
  · intro hb
    obtain ⟨hr, hs⟩ := red_fold (nums.map (lift free fixed)) [] Red.nil
    rw [List.append_nil] at hs
    have hlt : ∀ r ∈ (nums.map (lift free fixed)).foldl red1 [], r < 2 ^ 17 := fun r hr => by
      refine span_least (S := fun x => x < 2 ^ 17) (by decide) (fun x y a b => Nat.xor_lt_two_pow a b) (fun q hq => ?_) ((hs r).mp (span_mem hr))
      obtain ⟨n, _, rfl⟩ := List.mem_map.mp hq
      have o := odd1_lt n fixed
      have : n &&& free < 2 ^ 16 := Nat.lt_of_le_of_lt Nat.and_le_right hf
      unfold lift
      omega
    have ht := fun z => hb ((hs 1).mp ((told_iff hr hlt (age := 0) (by decide)).mpr z))
    have : ∃ m, m < 2 ^ 17 ∧ (∀ r ∈ (nums.map (lift free fixed)).foldl red1 [], Ev m r) ∧ m.testBit 0 = true := Classical.byContradiction fun hc => ht fun m h1 h2 => by
      cases q : m.testBit 0 with
      | false => rfl
      | true => exact absurd ⟨m, h1, h2, q⟩ hc
    obtain ⟨m, _, h2, h3⟩ := this
    have m2 : m % 2 = 1 := by
      rw [Nat.testBit_zero] at h3
      simpa using h3
    refine ⟨(m / 2) &&& free, fun j hj => ?_, fun n hn => ?_⟩
    · rw [Nat.testBit_and] at hj
      exact (Bool.and_eq_true_iff.mp hj).2
    · have e : Ev m (lift free fixed n) := Ev.span h2 ((hs _).mpr (span_mem (List.mem_map.mpr ⟨n, hn, rfl⟩)))
      rw [lift_ev m2] at e
      rw [ev_iff, ← e, Nat.and_assoc, Nat.and_comm free n]
  · rintro ⟨f, h1, h2⟩ hb
    have m2 : (2 * f + 1) % 2 = 1 := by omega
    have : Ev (2 * f + 1) 1 := by
      refine Ev.span (fun u hu => ?_) hb
      obtain ⟨n, hn, rfl⟩ := List.mem_map.mp hu
      rw [lift_ev m2, show (2 * f + 1) / 2 = f by omega]
      have ff : f &&& (n &&& free) = f &&& n := by
        refine Nat.eq_of_testBit_eq fun j => ?_
        rw [Nat.testBit_and, Nat.testBit_and, Nat.testBit_and]
        cases q : f.testBit j with
        | false => rfl
        | true => rw [h1 j q, Bool.and_true]
      rw [ff]
      exact ev_iff.mp (h2 n hn)
    have z := (ev_pow (i := 0)).mp this
    rw [Nat.testBit_zero] at z
    simp at z
/-! ### bits taken out, put in -/
theorem sub_pow {a j : Nat} (h : a.testBit j = true) : a - 2 ^ j = a ^^^ 2 ^ j := by
  have z : (a ^^^ 2 ^ j).testBit j = false := by rw [Nat.testBit_xor, h, Nat.testBit_two_pow]; simp
  have := pow_add z
  rw [Nat.xor_comm a, ← Nat.xor_assoc, Nat.xor_self, Nat.zero_xor] at this
  rw [Nat.xor_comm a]
  omega
theorem add_pow {a j : Nat} (h : a.testBit j = false) : a + 2 ^ j = a ^^^ 2 ^ j := by
  rw [Nat.add_comm, pow_add h, Nat.xor_comm]
theorem bit_xor_pow {a j i : Nat} : (a ^^^ 2 ^ j).testBit i = if j = i then !a.testBit i else a.testBit i := by
  rw [Nat.testBit_xor, Nat.testBit_two_pow]
  by_cases h : j = i
  · simp [h]
  · simp [h]
theorem div_step (x j : Nat) : x / 2 ^ j = 2 * (x / 2 ^ (j + 1)) + (if x.testBit j then 1 else 0) := by
  have e : x / 2 ^ (j + 1) = x / 2 ^ j / 2 := by rw [Nat.pow_succ, Nat.div_div_eq_div_mul]
  rw [e, Nat.testBit_eq_decide_div_mod_eq]
  by_cases h : x / 2 ^ j % 2 = 1
  · simp only [h, decide_true, if_true]; omega
  · simp only [h, decide_false, Bool.false_eq_true, if_false]; omega
theorem bits_of_div {x y k : Nat} (h : x / 2 ^ k = y / 2 ^ k) {i : Nat} (hi : k ≤ i) : x.testBit i = y.testBit i := by
  have a := Nat.testBit_shiftRight (i := k) (j := i - k) x
  have b := Nat.testBit_shiftRight (i := k) (j := i - k) y
  rw [Nat.shiftRight_eq_div_pow] at a b
  rw [show k + (i - k) = i by omega] at a b
  rw [← a, ← b, h]
/-! ### the greedy search -/
structure GI (nums : List Nat) (age k free fixed : Nat) : Prop where
  free : ∀ j, free.testBit j = decide (j + k < 16 ∧ j ≠ age)
  none : ∀ j, j + k < 16 → j ≠ age → fixed.testBit j = false
  lt : fixed < 2 ^ 16
  has : fixed.testBit age = true
  feas : ∃ m, m < 2 ^ 16 ∧ (∀ x ∈ nums, Ev m x) ∧ ∀ j, ¬ (j + k < 16 ∧ j ≠ age) → m.testBit j = fixed.testBit j
  min : ∀ n, n < 2 ^ 16 → (∀ x ∈ nums, Ev n x) → n.testBit age = true → fixed / 2 ^ (16 - k) ≤ n / 2 ^ (16 - k)
theorem free_lt {nums : List Nat} {age k free fixed : Nat} (g : ∀ j, free.testBit j = decide (j + k < 16 ∧ j ≠ age)) : free < 2 ^ 16 := lt_of_bits fun j hj => by
  rw [g]
  exact decide_eq_false (by omega)
/-- that some m fits, in the words of barred -/
theorem feas_iff {nums : List Nat} {age k free fixed : Nat} (g : ∀ j, free.testBit j = decide (j + k < 16 ∧ j ≠ age)) (hl : fixed < 2 ^ 16) (hn : ∀ j, j + k < 16 → j ≠ age → fixed.testBit j = false) :
    ¬ Barred nums free fixed ↔ ∃ m, m < 2 ^ 16 ∧ (∀ x ∈ nums, Ev m x) ∧ ∀ j, ¬ (j + k < 16 ∧ j ≠ age) → m.testBit j = fixed.testBit j := by
  have fl := free_lt (nums := nums) (fixed := fixed) g
  rw [barred_iff fl]
  constructor
  · rintro ⟨f, h1, h2⟩
    have f16 : f < 2 ^ 16 := lt_of_bits fun j hj => by
      cases q : f.testBit j with
      | false => rfl
      | true =>
        have := h1 j q
        rw [g] at this
        have := of_decide_eq_true this
        omega
    refine ⟨fixed ^^^ f, Nat.xor_lt_two_pow hl f16, h2, fun j hj => ?_⟩
    rw [Nat.testBit_xor]
    cases q : f.testBit j with
    | false => rw [Bool.xor_false]
    | true =>
      have := h1 j q
      rw [g] at this
      exact absurd (of_decide_eq_true this) hj
  · rintro ⟨m, h1, h2, h3⟩
    refine ⟨m ^^^ fixed, fun j hj => ?_, fun n hn' => ?_⟩
    · rw [g]
      refine decide_eq_true (Classical.byContradiction fun c => ?_)
      rw [Nat.testBit_xor, h3 j c] at hj
      simp at hj
    · rw [Nat.xor_comm m, ← Nat.xor_assoc, Nat.xor_self, Nat.zero_xor]
      exact h2 n hn'
theorem GI.start {nums : List Nat} {age : Nat} (ha : age < 16) (h : ¬ Barred nums (65535 - 2 ^ age) (2 ^ age)) : GI nums age 0 (65535 - 2 ^ age) (2 ^ age) := by
  have b : (65535 : Nat).testBit age = true := by
    rw [show (65535 : Nat) = 2 ^ 16 - 1 from rfl, Nat.testBit_two_pow_sub_one]
    exact decide_eq_true ha
  have g : ∀ j, (65535 - 2 ^ age).testBit j = decide (j + 0 < 16 ∧ j ≠ age) := fun j => by
    rw [sub_pow b, bit_xor_pow, show (65535 : Nat) = 2 ^ 16 - 1 from rfl, Nat.testBit_two_pow_sub_one]
    by_cases c : age = j
    · subst c
      simp [ha]
    · have c' : ¬ j = age := fun z => c z.symm
      simp [c, c']
  have l : 2 ^ age < 2 ^ 16 := Nat.pow_lt_pow_right (by decide) ha
  have n : ∀ j, j + 0 < 16 → j ≠ age → (2 ^ age).testBit j = false := fun j _ hj => by
    rw [Nat.testBit_two_pow]
    exact decide_eq_false (fun z => hj z.symm)
  exact ⟨g, n, l, by rw [Nat.testBit_two_pow]; simp, (feas_iff g l n).mp h, fun m hm _ _ => by
    rw [Nat.div_eq_of_lt l]; exact Nat.zero_le _⟩
theorem barred_none {nums : List Nat} {age : Nat} (ha : age < 16) (h : Barred nums (65535 - 2 ^ age) (2 ^ age)) : Least nums age none := by
  intro m hm he
  cases q : m.testBit age with
  | false => rfl
  | true =>
    exfalso
    have b : (65535 : Nat).testBit age = true := by
      rw [show (65535 : Nat) = 2 ^ 16 - 1 from rfl, Nat.testBit_two_pow_sub_one]
      exact decide_eq_true ha
    have g : ∀ j, (65535 - 2 ^ age).testBit j = decide (j + 0 < 16 ∧ j ≠ age) := fun j => by
      rw [sub_pow b, bit_xor_pow, show (65535 : Nat) = 2 ^ 16 - 1 from rfl, Nat.testBit_two_pow_sub_one]
      by_cases c : age = j
      · subst c
        simp [ha]
      · have c' : ¬ j = age := fun z => c z.symm
        simp [c, c']
    have l : 2 ^ age < 2 ^ 16 := Nat.pow_lt_pow_right (by decide) ha
    have n : ∀ j, j + 0 < 16 → j ≠ age → (2 ^ age).testBit j = false := fun j _ hj => by
      rw [Nat.testBit_two_pow]
      exact decide_eq_false (fun z => hj z.symm)
    refine (feas_iff g l n).mpr ⟨m, hm, he, fun j hj => ?_⟩ h
    by_cases c : j = age
    · subst c
      rw [q, Nat.testBit_two_pow]
      simp
    · have : ¬ j < 16 := fun z => hj ⟨by omega, c⟩
      rw [Nat.testBit_lt_two_pow (Nat.lt_of_lt_of_le hm (Nat.pow_le_pow_right (by decide) (by omega))), Nat.testBit_two_pow]
      exact (decide_eq_false (fun z => c z.symm)).symm
/-- the age's own turn -/
theorem GI.skip {nums : List Nat} {age k free fixed : Nat} (G : GI nums age k free fixed) (hk : k < 16) (hj : free.testBit (15 - k) = false) : GI nums age (k + 1) free fixed := by
  have ja : 15 - k = age := by
    have := G.free (15 - k)
    rw [hj] at this
    have := of_decide_eq_false this.symm
    omega
  have eqv : ∀ j, (j + (k + 1) < 16 ∧ j ≠ age) ↔ (j + k < 16 ∧ j ≠ age) := fun j => by omega
  obtain ⟨m, h1, h2, h3⟩ := G.feas
  refine ⟨fun j => ?_, fun j h => G.none j (by omega), G.lt, G.has, ⟨m, h1, h2, fun j hj => h3 j (fun z => hj ((eqv j).mpr z))⟩, fun n hn he hb => ?_⟩
  · rw [G.free]
    exact decide_eq_decide.mpr (eqv j).symm
  · have := G.min n hn he hb
    have e : 16 - k = (16 - (k + 1)) + 1 := by omega
    rw [e] at this
    rw [div_step fixed, div_step n]
    have e2 : 16 - (k + 1) = age := by omega
    rw [e2] at this ⊢
    rw [G.has, hb]
    simp only [if_true]
    omega
theorem GI.take {nums : List Nat} {age k free fixed : Nat} (G : GI nums age k free fixed) (hk : k < 16) (hj : free.testBit (15 - k) = true) :
    (¬ Barred nums (free - 2 ^ (15 - k)) fixed → GI nums age (k + 1) (free - 2 ^ (15 - k)) fixed) ∧ (Barred nums (free - 2 ^ (15 - k)) fixed → GI nums age (k + 1) (free - 2 ^ (15 - k)) (fixed + 2 ^ (15 - k))) := by
  have ja : 15 - k ≠ age := by
    have := G.free (15 - k)
    rw [hj] at this
    exact (of_decide_eq_true this.symm).2
  have fj : fixed.testBit (15 - k) = false := G.none _ (by omega) ja
  have g' : ∀ j, (free - 2 ^ (15 - k)).testBit j = decide (j + (k + 1) < 16 ∧ j ≠ age) := fun j => by
    rw [sub_pow hj, bit_xor_pow, G.free]
    by_cases c : 15 - k = j
    · subst c
      rw [if_pos rfl]
      have : (15 - k + k < 16 ∧ 15 - k ≠ age) := ⟨by omega, ja⟩
      rw [decide_eq_true this]
      symm
      exact decide_eq_false (by omega)
    · rw [if_neg c]
      exact decide_eq_decide.mpr (by omega)
  have n' : ∀ j, j + (k + 1) < 16 → j ≠ age → fixed.testBit j = false := fun j h => G.none j (by omega)
  have e : 16 - k = (16 - (k + 1)) + 1 := by omega
  have ej : 16 - (k + 1) = 15 - k := by omega
  constructor
  · intro nb
    refine ⟨g', n', G.lt, G.has, (feas_iff g' G.lt n').mp nb, fun n hn he hb => ?_⟩
    have := G.min n hn he hb
    rw [e, ej] at this
    rw [ej, div_step fixed, div_step n, fj]
    simp only [Bool.false_eq_true, if_false]
    split <;> omega
  · intro bd
    have fx : fixed + 2 ^ (15 - k) = fixed ^^^ 2 ^ (15 - k) := add_pow fj
    -- whatever fits has the bit
    have must : ∀ m, m < 2 ^ 16 → (∀ x ∈ nums, Ev m x) → (∀ j, ¬ (j + k < 16 ∧ j ≠ age) → m.testBit j = fixed.testBit j) → m.testBit (15 - k) = true := fun m h1 h2 h3 => by
      cases q : m.testBit (15 - k) with
      | true => rfl
      | false =>
        refine absurd bd ((feas_iff g' G.lt n').mpr ⟨m, h1, h2, fun j hj' => ?_⟩)
        by_cases c : j = 15 - k
        · rw [c, q, fj]
        · exact h3 j (by omega)
    rw [fx]
    refine ⟨g', fun j h1 h2 => ?_, Nat.xor_lt_two_pow G.lt (Nat.pow_lt_pow_right (by decide) (by omega)), ?_, ?_, fun n hn he hb => ?_⟩
    · rw [bit_xor_pow, if_neg (by omega)]
      exact n' j h1 h2
    · rw [bit_xor_pow, if_neg ja]
      exact G.has
    · obtain ⟨m, h1, h2, h3⟩ := G.feas
      refine ⟨m, h1, h2, fun j hj' => ?_⟩
      rw [bit_xor_pow]
      by_cases c : 15 - k = j
      · subst c
        rw [if_pos rfl, fj, must m h1 h2 h3]; rfl
      · rw [if_neg c]
        exact h3 j (by omega)
    · have mn := G.min n hn he hb
      rw [e, ej] at mn
      have hi : (fixed ^^^ 2 ^ (15 - k)) / 2 ^ (15 - k + 1) = fixed / 2 ^ (15 - k + 1) := by
        refine Nat.eq_of_testBit_eq fun i => ?_
        have a := Nat.testBit_shiftRight (i := 15 - k + 1) (j := i) (fixed ^^^ 2 ^ (15 - k))
        have b := Nat.testBit_shiftRight (i := 15 - k + 1) (j := i) fixed
        rw [Nat.shiftRight_eq_div_pow] at a b
        rw [a, b, bit_xor_pow, if_neg (by omega)]
      rw [ej, div_step (fixed ^^^ 2 ^ (15 - k)), div_step n, hi, bit_xor_pow, if_pos rfl, fj]
      simp only [Bool.not_false, if_true]
      by_cases q : fixed / 2 ^ (15 - k + 1) = n / 2 ^ (15 - k + 1)
      · have nb : n.testBit (15 - k) = true := must n hn he fun j hj' => by
          by_cases c : j = age
          · rw [c, hb, G.has]
          · exact (bits_of_div q (i := j) (by omega)).symm
        rw [nb]
        simp only [if_true]
        omega
      · have : fixed / 2 ^ (15 - k + 1) < n / 2 ^ (15 - k + 1) := by omega
        split <;> omega
theorem GI.fin {nums : List Nat} {age free fixed : Nat} (G : GI nums age 16 free fixed) : Least nums age (some fixed) := by
  obtain ⟨m, h1, h2, h3⟩ := G.feas
  have : m = fixed := Nat.eq_of_testBit_eq fun j => h3 j (by omega)
  subst this
  exact ⟨h1, h2, G.has, fun n hn he hb => by
    have := G.min n hn he hb
    simpa using this⟩
/-! ### the plain search, over few ages -/
theorem mod_ev {m x b : Nat} (hx : x < 2 ^ b) (h : Ev m x) : Ev (m % 2 ^ b) x := by
  unfold Ev at *
  have : m % 2 ^ b &&& x = m &&& x := by
    refine Nat.eq_of_testBit_eq fun j => ?_
    rw [Nat.testBit_and, Nat.testBit_and, Nat.testBit_mod_two_pow]
    by_cases c : j < b
    · simp [c]
    · rw [Nat.testBit_lt_two_pow (Nat.lt_of_lt_of_le hx (Nat.pow_le_pow_right (by decide) (by omega)))]
      simp
  rw [this]
  exact h
theorem plain_none {nums : List Nat} {age b : Nat} (hb : b ≤ 16) (ha : age < b) (hn : ∀ x ∈ nums, x < 2 ^ b) (h : ∀ m, 2 ^ age ≤ m → m < 2 ^ b → m.testBit age = true → ¬ ∀ x ∈ nums, Ev m x) : Least nums age none := by
  intro m hm he
  cases q : m.testBit age with
  | false => rfl
  | true =>
    exfalso
    have qb : (m % 2 ^ b).testBit age = true := by
      rw [Nat.testBit_mod_two_pow, q]
      simp [ha]
    exact h _ (Nat.ge_two_pow_of_testBit qb) (Nat.mod_lt _ (Nat.two_pow_pos b)) qb fun x hx => mod_ev (hn x hx) (he x hx)
theorem plain_some {nums : List Nat} {age b m : Nat} (hb : b ≤ 16) (ha : age < b) (hn : ∀ x ∈ nums, x < 2 ^ b) (h1 : m < 2 ^ b) (h2 : m.testBit age = true) (h3 : ∀ x ∈ nums, Ev m x)
    (h : ∀ n, 2 ^ age ≤ n → n < m → n.testBit age = true → ¬ ∀ x ∈ nums, Ev n x) : Least nums age (some m) := by
  refine ⟨Nat.lt_of_lt_of_le h1 (Nat.pow_le_pow_right (by decide) hb), h3, h2, fun n hn' he q => ?_⟩
  have qb : (n % 2 ^ b).testBit age = true := by
    rw [Nat.testBit_mod_two_pow, q]
    simp [ha]
  have le : m ≤ n % 2 ^ b := Classical.byContradiction fun c => h _ (Nat.ge_two_pow_of_testBit qb) (by omega) qb fun x hx => mod_ev (hn x hx) (he x hx)
  exact Nat.le_trans le (Nat.mod_le _ _)
theorem least_high {nums : List Nat} {b : Nat} (hb : b < 16) (hn : ∀ x ∈ nums, x < 2 ^ b) : Least nums 15 (some (2 ^ 15)) := by
  refine ⟨by decide, fun x hx => ?_, by decide, fun n _ _ q => Nat.ge_two_pow_of_testBit q⟩
  refine (Ev.comm ?_)
  exact ev_pow.mpr (Nat.testBit_lt_two_pow (Nat.lt_of_lt_of_le (hn x hx) (Nat.pow_le_pow_right (by decide) (by omega))))
end Xr

set_option autoImplicit false
set_option linter.unusedVariables false
namespace Xr
/-! ### maps that keep sums -/
theorem span_map {f : Nat → Nat} (h0 : f 0 = 0) (hx : ∀ x y, f (x ^^^ y) = f x ^^^ f y) : ∀ {l : List Nat} {u : Nat}, Span (l.map f) u ↔ ∃ v, Span l v ∧ u = f v
  | [], u => by
    constructor
    · intro h
      have h' : u = 0 := h
      exact ⟨0, rfl, by rw [h', h0]⟩
    · rintro ⟨v, h, rfl⟩
      have h' : v = 0 := h
      show f v = 0
      rw [h', h0]
  | r :: l, u => by
    have ih : ∀ {u}, Span (l.map f) u ↔ ∃ v, Span l v ∧ u = f v := span_map h0 hx
    constructor
    · rintro (h | h)
      · obtain ⟨v, h1, h2⟩ := ih.mp h
        exact ⟨v, .inl h1, h2⟩
      · obtain ⟨v, h1, h2⟩ := ih.mp h
        refine ⟨v ^^^ r, .inr ?_, ?_⟩
        · rw [Nat.xor_assoc, Nat.xor_self, Nat.xor_zero]
          exact h1
        · rw [hx, ← h2, Nat.xor_assoc, Nat.xor_self, Nat.xor_zero]
    · rintro ⟨v, h | h, rfl⟩
      · exact .inl (ih.mpr ⟨v, h, rfl⟩)
      · exact .inr (ih.mpr ⟨v ^^^ r, h, (hx v r).symm⟩)
/-! ### dimension -/
def Ind : List Nat → Prop
  | [] => True
  | r :: l => ¬ Span l r ∧ Ind l
def sums : List Nat → List Nat
  | [] => [0]
  | r :: l => sums l ++ (sums l).map (· ^^^ r)
theorem mem_sums : ∀ {l : List Nat} {x : Nat}, x ∈ sums l ↔ Span l x
  | [], x => List.mem_singleton
  | r :: l, x => by
    show x ∈ sums l ++ (sums l).map (· ^^^ r) ↔ Span l x ∨ Span l (x ^^^ r)
    rw [List.mem_append, List.mem_map, mem_sums]
    constructor
    · rintro (h | ⟨y, h, rfl⟩)
      · exact .inl h
      · refine .inr ?_
        rw [Nat.xor_assoc, Nat.xor_self, Nat.xor_zero]
        exact mem_sums.mp h
    · rintro (h | h)
      · exact .inl h
      · exact .inr ⟨x ^^^ r, mem_sums.mpr h, by rw [Nat.xor_assoc, Nat.xor_self, Nat.xor_zero]⟩
theorem len_sums : ∀ l : List Nat, (sums l).length = 2 ^ l.length
  | [] => rfl
  | r :: l => by
    show (sums l ++ (sums l).map (· ^^^ r)).length = _
    rw [List.length_append, List.length_map, len_sums l, List.length_cons, Nat.pow_succ]
    omega
theorem nodup_sums : ∀ {l : List Nat}, Ind l → (sums l).Nodup
  | [], _ => by simp [sums]
  | r :: l, h => by
    obtain ⟨h1, h2⟩ := h
    have ih := nodup_sums h2
    show (sums l ++ (sums l).map (· ^^^ r)).Nodup
    rw [List.nodup_append]
    refine ⟨ih, ?_, ?_⟩
    · rw [List.nodup_iff_pairwise_ne, List.pairwise_map]
      refine (List.nodup_iff_pairwise_ne.mp ih).imp fun {a b} hab e => hab ?_
      have := congrArg (· ^^^ r) e
      simpa [Nat.xor_assoc] using this
    · rintro a ha b hb rfl
      obtain ⟨y, hy, e⟩ := List.mem_map.mp hb
      have := span_xor l (mem_sums.mp ha) (mem_sums.mp hy)
      have e' : y ^^^ r = a := e
      rw [← e', xor_right_comm, Nat.xor_self, Nat.zero_xor] at this
      exact h1 this
theorem pow2_inj {a b : Nat} (h : 2 ^ a = 2 ^ b) : a = b := by
  rcases Nat.lt_trichotomy a b with c | c | c
  · have := Nat.pow_lt_pow_right (a := 2) (by decide) c
    omega
  · exact c
  · have := Nat.pow_lt_pow_right (a := 2) (by decide) c
    omega
theorem dim_eq {l m : List Nat} (hl : Ind l) (hm : Ind m) (h : ∀ x, Span l x ↔ Span m x) : l.length = m.length := by
  refine pow2_inj ?_
  rw [← len_sums, ← len_sums]
  refine Nat.le_antisymm ?_ ?_
  · exact List.Nodup.length_le_of_subset (nodup_sums hl) fun x hx => mem_sums.mpr ((h x).mp (mem_sums.mp hx))
  · exact List.Nodup.length_le_of_subset (nodup_sums hm) fun x hx => mem_sums.mpr ((h x).mpr (mem_sums.mp hx))
theorem red_ind : ∀ {l : List Nat}, Red l → Ind l
  | [], _ => trivial
  | r :: l, h => by
    obtain ⟨h1, h2, h3⟩ := Red.cons_iff.mp h
    refine ⟨fun hs => ?_, red_ind h3⟩
    obtain ⟨b, hb, e⟩ := span_top h3 hs h1
    have := (h2 b hb).2
    rw [← e, top_bit (h3.1 b hb)] at this
    cases this
theorem extend : ∀ (b c : List Nat), Ind c → ∃ b', Ind (b' ++ c) ∧ (∀ x, Span (b' ++ c) x ↔ Span (b ++ c) x) ∧ ∀ r ∈ b', r ∈ b
  | [], c, hc => ⟨[], hc, fun _ => Iff.rfl, fun _ h => h⟩
  | r :: b, c, hc => by
    obtain ⟨b', h1, h2, h3⟩ := extend b c hc
    by_cases hr : Span (b' ++ c) r
    · refine ⟨b', h1, fun x => ⟨fun h => .inl ((h2 x).mp h), ?_⟩, fun y hy => List.mem_cons_of_mem _ (h3 y hy)⟩
      rintro (h | h)
      · exact (h2 x).mpr h
      · have := span_xor _ ((h2 _).mpr h) hr
        rwa [Nat.xor_assoc, Nat.xor_self, Nat.xor_zero] at this
    · refine ⟨r :: b', ⟨hr, h1⟩, fun x => ?_, fun y hy => ?_⟩
      · show (Span (b' ++ c) x ∨ Span (b' ++ c) (x ^^^ r)) ↔ (Span (b ++ c) x ∨ Span (b ++ c) (x ^^^ r))
        rw [h2 x, h2 (x ^^^ r)]
      · rcases List.mem_cons.mp hy with rfl | hy
        · exact List.mem_cons_self
        · exact List.mem_cons_of_mem _ (h3 y hy)
theorem ind_over {a c B : List Nat} (ha : Ind a) (hc : ∀ x, Span a x → Span B x → Span c x) : ∀ {b' : List Nat}, Ind (b' ++ c) → (∀ r ∈ b', Span B r) → Ind (b' ++ a)
  | [], _, _ => ha
  | r :: b', h, hb => by
    obtain ⟨h1, h2⟩ := h
    refine ⟨fun hs => h1 ?_, ind_over ha hc h2 fun y hy => hb y (List.mem_cons_of_mem _ hy)⟩
    obtain ⟨s, t, hs1, ht, e⟩ := span_append.mp hs
    have sB : Span B s := span_sub (fun y hy => hb y (List.mem_cons_of_mem _ hy)) hs1
    have tB : Span B t := by
      have := span_xor B (hb r List.mem_cons_self) sB
      rw [e, xor_right_comm, Nat.xor_self, Nat.zero_xor] at this
      exact this
    exact span_append.mpr ⟨s, t, hs1, hc t ht tB, e⟩
/-- the sum's rows and the common part's -/
theorem dim_sum {a b c s : List Nat} (ha : Ind a) (hb : Ind b) (hc : Ind c) (hs : Ind s) (h1 : ∀ x, Span c x ↔ Span a x ∧ Span b x) (h2 : ∀ x, Span s x ↔ Span (a ++ b) x) : s.length + c.length = a.length + b.length := by
  obtain ⟨b', i1, i2, i3⟩ := extend b c hc
  have cb : ∀ x, Span (b ++ c) x ↔ Span b x := fun x => by
    refine ⟨span_sub fun r hr => ?_, fun h => span_append.mpr ⟨x, 0, h, span_zero _, (Nat.xor_zero x).symm⟩⟩
    rcases List.mem_append.mp hr with h | h
    · exact span_mem h
    · exact ((h1 r).mp (span_mem h)).2
  have e1 : (b' ++ c).length = b.length := dim_eq i1 hb fun x => (i2 x).trans (cb x)
  have i4 : Ind (b' ++ a) := ind_over ha (fun x x1 x2 => (h1 x).mpr ⟨x1, x2⟩) i1 fun r hr => span_mem (i3 r hr)
  have e2 : (b' ++ a).length = s.length := dim_eq i4 hs fun x => by
    rw [h2 x]
    constructor
    · refine span_sub fun r hr => ?_
      rcases List.mem_append.mp hr with h | h
      · exact span_mem (List.mem_append.mpr (.inr (i3 r h)))
      · exact span_mem (List.mem_append.mpr (.inl h))
    · refine span_sub fun r hr => ?_
      rcases List.mem_append.mp hr with h | h
      · exact span_mem (List.mem_append.mpr (.inr h))
      · obtain ⟨y, z, hy, hz, e⟩ := span_append.mp ((i2 r).mpr (span_mem (List.mem_append.mpr (.inl h))))
        exact span_append.mpr ⟨y, z, hy, ((h1 z).mp hz).1, e⟩
  rw [List.length_append] at e1 e2
  omega
/-! ### the low rows of a reduced list -/
theorem low_of {l : List Nat} (h : Red l) {k : Nat} : ∀ {u : Nat}, Span (l.filter fun r => decide (r < 2 ^ k)) u ↔ Span l u ∧ u < 2 ^ k := by
  induction l with
  | nil =>
    intro u
    constructor
    · intro z
      have z' : u = 0 := z
      subst z'
      exact ⟨rfl, Nat.two_pow_pos k⟩
    · rintro ⟨z, _⟩
      exact z
  | cons r l ih =>
    intro u
    obtain ⟨h1, h2, h3⟩ := Red.cons_iff.mp h
    have ih' := fun {u} => ih h3 (u := u)
    by_cases hr : r < 2 ^ k
    · rw [List.filter_cons, if_pos (decide_eq_true hr)]
      show (Span _ u ∨ Span _ (u ^^^ r)) ↔ (Span l u ∨ Span l (u ^^^ r)) ∧ u < 2 ^ k
      rw [ih', ih']
      constructor
      · rintro (⟨a, b⟩ | ⟨a, b⟩)
        · exact ⟨.inl a, b⟩
        · refine ⟨.inr a, ?_⟩
          have := Nat.xor_lt_two_pow b hr
          rwa [Nat.xor_assoc, Nat.xor_self, Nat.xor_zero] at this
      · rintro ⟨a | a, b⟩
        · exact .inl ⟨a, b⟩
        · exact .inr ⟨a, Nat.xor_lt_two_pow b hr⟩
    · rw [List.filter_cons, if_neg (by simpa using hr)]
      rw [ih']
      show _ ↔ (Span l u ∨ Span l (u ^^^ r)) ∧ u < 2 ^ k
      constructor
      · rintro ⟨a, b⟩
        exact ⟨.inl a, b⟩
      · rintro ⟨a | a, b⟩
        · exact ⟨a, b⟩
        · exfalso
          have keep : (u ^^^ r).testBit (top r) = false := span_least (S := fun z => z.testBit (top r) = false) (by simp) (fun x y p q => by rw [Nat.testBit_xor, p, q]; rfl) (fun b hb => (h2 b hb).2) a
          rw [Nat.testBit_xor, top_bit h1] at keep
          have ub : u.testBit (top r) = true := by
            cases hh : u.testBit (top r) with
            | true => rfl
            | false =>
              rw [hh] at keep
              cases keep
          have tk : k ≤ top r := by
            rcases Nat.lt_or_ge (top r) k with c | c
            · exfalso
              have : r < 2 ^ (top r + 1) := Nat.lt_log2_self
              have := Nat.pow_le_pow_right (n := 2) (by decide) (show top r + 1 ≤ k by omega)
              omega
            · exact c
          have : u < 2 ^ top r := Nat.lt_of_lt_of_le b (Nat.pow_le_pow_right (by decide) tk)
          rw [Nat.testBit_lt_two_pow this] at ub
          cases ub
/-! ### the common part, by numbers of twice the width -/
def dbl (r : Nat) : Nat := (r <<< 16) ^^^ r
def lft (r : Nat) : Nat := r <<< 16
theorem shl_xor (x y : Nat) : (x ^^^ y) <<< 16 = (x <<< 16) ^^^ (y <<< 16) := Nat.shiftLeft_xor_distrib ..
theorem common {a b : List Nat} (ha : ∀ r ∈ a, r < 2 ^ 16) (u : Nat) : (Span (a.map dbl ++ b.map lft) u ∧ u < 2 ^ 16) ↔ Span a u ∧ Span b u := by
  have hd0 : dbl 0 = 0 := rfl
  have hdx : ∀ x y, dbl (x ^^^ y) = dbl x ^^^ dbl y := fun x y => by
    unfold dbl
    rw [shl_xor, Nat.xor_assoc, Nat.xor_assoc]
    congr 1
    rw [← Nat.xor_assoc, ← Nat.xor_assoc, Nat.xor_comm (y <<< 16) x]
  have hlx : ∀ x y, lft (x ^^^ y) = lft x ^^^ lft y := shl_xor
  have lt : ∀ {x}, Span a x → x < 2 ^ 16 := fun hx => span_least (S := fun z => z < 2 ^ 16) (by decide) (fun x y p q => Nat.xor_lt_two_pow p q) ha hx
  rw [span_append]
  constructor
  · rintro ⟨⟨y, z, hy, hz, rfl⟩, hu⟩
    obtain ⟨v, hv, rfl⟩ := (span_map hd0 hdx).mp hy
    obtain ⟨w, hw, rfl⟩ := (span_map (f := lft) rfl hlx).mp hz
    have e : dbl v ^^^ lft w = lft (v ^^^ w) ^^^ v := by
      unfold dbl
      rw [hlx]
      unfold lft
      rw [xor_right_comm]
    rw [e] at hu ⊢
    have v16 := lt hv
    have z : (lft (v ^^^ w) ^^^ v) >>> 16 = v ^^^ w := by
      rw [Nat.shiftRight_xor_distrib]
      unfold lft
      rw [Nat.shiftLeft_shiftRight, Nat.shiftRight_eq_div_pow v, Nat.div_eq_of_lt v16, Nat.xor_zero]
    rw [Nat.shiftRight_eq_div_pow, Nat.div_eq_of_lt hu] at z
    rw [← z]
    have e2 : lft 0 ^^^ v = v := by
      unfold lft
      rw [Nat.zero_shiftLeft, Nat.zero_xor]
    rw [e2]
    have vw : v = w := by
      have := congrArg (· ^^^ w) z
      simp only [Nat.zero_xor, Nat.xor_assoc, Nat.xor_self, Nat.xor_zero] at this
      exact this.symm
    exact ⟨hv, by rw [vw]; exact hw⟩
  · rintro ⟨h1, h2⟩
    refine ⟨⟨dbl u, lft u, (span_map hd0 hdx).mpr ⟨u, h1, rfl⟩, (span_map (f := lft) rfl hlx).mpr ⟨u, h2, rfl⟩, ?_⟩, lt h1⟩
    unfold dbl lft
    rw [xor_right_comm, Nat.xor_self, Nat.zero_xor]
/-! ### one age more -/
theorem two_xor (x y : Nat) : 2 * (x ^^^ y) = 2 * x ^^^ 2 * y := by
  have := Nat.shiftLeft_xor_distrib (a := x) (b := y) (i := 1)
  simpa [Nat.shiftLeft_eq, Nat.mul_comm] using this
theorem older_span {l : List Nat} {u : Nat} : Span (l.map (2 * ·)) u ↔ ∃ v, Span l v ∧ u = 2 * v := span_map (f := (2 * ·)) rfl two_xor
end Xr

set_option Elab.async false
set_option linter.all false
set_option maxRecDepth 100000
set_option maxHeartbeats 4000000
/-! Operators of an own class, methods called by name, static methods, instances made of starred arguments: readings over the hand layer. -/
namespace Ow
open PySem PySem.Spec PyProof.Rows L2
theorem pe_imp {X : Cx} {e : Expr} {t t' : TE} (he : PE X e t) (h : ∀ σ H Q, t' σ H Q → t σ H Q) : PE X e t' := ⟨fun pins s σ H Q I q => he.run pins s σ H Q I (h σ H Q q)⟩
section
variable {X : Cx} {CX : CXT} {pins : List (Addr × Obj)} {σ : L2.St} {H : Hp} {s : Shared} {a C g : Addr} {n : Nat} {sp : Sp} {E : XK}
/-- x op y, both instances of the class at C whose def for op is at g -/
def rBinO (C : Addr) (sp : Sp) (E : XK) : R2 := fun x y H Q => ∃ a dx fs b dy gs, x = .ref a ∧ y = .ref b ∧ H a = some (.ins C dx fs) ∧ H b = some (.ins C dy gs) ∧ sp [x, y] H Q E
theorem op_binO {op : Operator} (hc : PySem.W.selfFirst X.K C = true) (hs : PySem.W.findIn X.K (.ref C) (PySem.dunder op.info.2) = some (some (.ref g))) (hf : PySem.W.isFn X.K (.ref g) = true) (F : FnR X.prog X.w X.K X.mg X.base CX n g sp)
    (hr : Room n X.A) (hx : Passes CX X E) : OpR X (binaryOp op) (rBinO C sp E) := by
  intro pins s σ H x y v u Q I rx ry h
  obtain ⟨a, dx, fs, b, dy, gs, rfl, rfl, ha, hb, q⟩ := h
  cases (show v = Value.ref a from rx)
  cases (show u = Value.ref b from ry)
  obtain ⟨ox, od, J, _⟩ := StX.insC_at (X := X) I (.inr ⟨dx, fs, ha⟩)
  obtain ⟨ox', od', J', _⟩ := StX.insC_at (X := X) I (.inr ⟨dy, gs, hb⟩)
  obtain ⟨m, hF⟩ := I.fr
  refine PySem.W.binop_K (op := op) hF I.ok.mod.kin J J'.type hc hs hf ?_
  refine wpAny_mono (wpAny_call (run_fnR (us := [.ref a, .ref b]) (vs := [.ref a, .ref b]) F hr hx I (.cons rfl (.cons rfl .nil)) q)) (fun w s' z => ?_) fun _ _ x => x
  obtain ⟨z', H', I', rz, qz⟩ := z
  exact SlX.cmpback rz ⟨z', H', I', rz, qz⟩
/-! ### o.m(k = v, ..) -/
def tMethK (C : Addr) (m : Str) (nk : Nat) (sp : Sp) (E : XK) (ta : TE) (tk : TA) : TE := fun σ H Q => ta σ H fun x H1 => ∃ a dx fs, x = .ref a ∧ H1 a = some (.ins C dx fs) ∧ fs.lookup m = none ∧ tk σ H1 fun zs H2 => zs.length = nk ∧ sp (x :: zs) H2 Q E
/-- binds: the instance by position, the rest by name in the def's order -/
def KB1 (K : PySem.W.Frag) (fd : FuncData) (ps ks : List Str) : Prop := ∀ (s : Shared) (u : Value) (ws : List Value), K.In s.heap → ws.length = ks.length → BindsTo s fd ⟨[u], ks.zip ws⟩ (ps.zip (u :: ws))
theorem pe_methK {fd : FuncData} {ps ks : List Str} {m : Str} {k : Nat} {pl : Sem Bool} {o : Expr} {kws : List Keyword} {ta : TE} {tk : TA} {apos pos : Pos} (he : PE X o ta) (c : Cls X.K C) (hm : Meth X.K C m g) (F : FnOk X.prog X.w X.K X.mg X.base CX k g fd ps sp) (hr : Room k X.A) (hb : KB1 X.K fd ps ks) (hx : Passes CX X E)
    (hkw : PK X kws tk) (hall : (backToKw pos (keywordEach kws X.env)).all (·.1.isSome) = true := by rfl) (hks : (backToKw pos (keywordEach kws X.env)).filterMap (·.1) = ks := by rfl)
    (hpl : ((backTo pos (starEach [] X.env)).any (·.1) || (backToKw pos (keywordEach kws X.env)).any (·.1.isNone)) = false := by rfl)
    (ht : eval (.Call (.Attribute o m apos) [] kws pos) X.env = (do
      let ov ← eval o X.env
      standAt apos.atName
      let (f, first) ← holding [ov] (getMethod ov m pl)
      callWith pos f first (backTo pos (starEach [] X.env)) (backToKw pos (keywordEach kws X.env))) := by rfl) :
    PE X (.Call (.Attribute o m apos) [] kws pos) (tMethK C m ks.length sp E ta tk) := by
  refine ⟨fun pins s σ H Q I h => ?_⟩
  refine PySem.W.methodCall_KW (pl := pl) (thn (he.run pins s σ H _ I h) fun u s1 ⟨x, H1, I1, rx, a, dx, fs, ex, ea, l, q⟩ => ?_) ht
  subst ex
  obtain rfl : u = Value.ref a := rx
  refine getmeth_ok I1 ea c hm l ?_
  refine PySem.W.callWith_KW0 (first := [.ref a]) (h₀ := X.base) I.ok.mod.kin hm.kp hall ?_ hpl
  refine thn (hkw.run pos pins s1 σ H1 _ I1 q) fun ws s2 ⟨zs, H2, I2, rz, hl, q2⟩ => ⟨I2.kIn, ?_⟩
  rw [hks]
  have hlw : ws.length = ks.length := by rw [← rz.length]; exact hl
  have r2 : Vals (V.ref a :: zs) (Value.ref a :: ws) := .cons rfl rz
  refine wpAny_call (codeAny_mono (F.run X.A X.stack s2 H2 ⟨[Value.ref a], ks.zip ws⟩ (Value.ref a :: ws) (V.ref a :: zs) Q E hr I2.env0 (hb s2 (.ref a) ws I2.kIn hlw) r2 q2) fun r s' hq => ?_)
  cases r with
  | error e => exact hx pins σ H2 s2 e s' I2 hq
  | ok fl =>
    cases fl with
    | ret u => exact I2.after hq
    | next => exact False.elim hq
    | brk => exact False.elim hq
    | cont => exact False.elim hq
/-! ### C.m(e), m a static method -/
structure SMet (K : PySem.W.Frag) (C : Addr) (mc : Value) (m : Str) (p g : Addr) : Prop where
  at_ : PySem.W.findCls K (.ref C) mc m = some (.get (.builtin "staticmethod.__get__") (.ref p) .none (.ref C))
  rc : ∃ rest, PySem.W.recIn K p "staticmethod" = some (.ref g :: rest)
  kp : PySem.W.keepIn K (.ref g) = true
def tSMeth (C : Addr) (sp : Sp) (E : XK) (ta : TE) (t : TA) : TE := fun σ H Q => ta σ H fun x H1 => x = .ref C ∧ t σ H1 fun vs H2 => sp vs H2 Q E
theorem pe_smeth {m : Str} {k : Nat} {mc : Value} {p : Addr} {pl : Sem Bool} {o e : Expr} {es : List Expr} {ta : TE} {t : TA} {apos pos : Pos} (he : PE X o ta) (r : ClX.CRead X.K C mc) (c : SMet X.K C mc m p g) (F : FnR X.prog X.w X.K X.mg X.base CX k g sp) (hr : Room k X.A) (hx : Passes CX X E) (ha : PA X (e :: es) t)
    (hst : starEach (e :: es) X.env = (false, eval e X.env) :: starEach es X.env := by rfl) (hpl : (backTo pos (starEach es X.env)).any (·.1) = false := by rfl)
    (ht : eval (.Call (.Attribute o m apos) (e :: es) [] pos) X.env = (do
      let ov ← eval o X.env
      standAt apos.atName
      let (f, first) ← holding [ov] (getMethod ov m pl)
      callWith pos f first (backTo pos (starEach (e :: es) X.env)) (backToKw pos (keywordEach [] X.env))) := by rfl) :
    PE X (.Call (.Attribute o m apos) (e :: es) [] pos) (tSMeth C sp E ta t) := by
  refine ⟨fun pins s σ H Q I h => ?_⟩
  refine PySem.W.methodCall_KW (pl := pl) (thn (he.run pins s σ H _ I h) fun u s1 ⟨x, H1, I1, rx, ex, q⟩ => ?_) ht
  subst ex
  obtain rfl : u = Value.ref C := rx
  obtain ⟨rest, hp⟩ := c.rc
  refine PySem.W.method_cls I1.kIn r.ga (PySem.W.cls_bind I1.kIn r.rd c.at_ (wpAny_call (PySem.W.sm_get (s := { s1 with toks := s1.toks + 1 }) I1.kIn hp (PySem.W.handed_on rfl ?_))))
  have I2 : Inv X pins σ H1 { s1 with toks := s1.toks + 1 } := I1.tok _
  refine PySem.W.callWith_K (first := []) (h₀ := X.base) I.ok.mod.kin c.kp (thn (ha.run pos pins _ σ H1 _ I2 q) fun us s3 ⟨vs, H3, I3, rv, q3⟩ => ⟨I3.kIn, ?_⟩) hst hpl
  exact wpAny_call (run_fnR (us := us) (vs := vs) F hr hx I3 rv q3)
end
/-! ### instances made: of no arguments, of a starred one -/
section
variable {X : Cx} {CX : CXT} {k : Nat} {f C : Addr} {sp : Sp} {E : XK} {x : Str} {e : Expr} {te : TE} {p pos sp_ : Pos}
/-- what making an instance of the class at C asks -/
def mkAsk (C : Addr) (sp : Sp) (E : XK) (vs : List V) (H1 : Hp) (Q : VK) : Prop := ∀ x dx, H1 x = Option.none → H1 dx = Option.none → dx ≠ x →
  sp (V.ref x :: vs) (upd (upd H1 dx (.own x)) x (.ins C dx [])) (fun v H2 => v = .non ∧ Q (.ref x) H2) E
theorem pe_makeR0 (M : Mk X.K C f) (F : FnR X.prog X.w X.K X.mg X.base CX k f sp) (hr : Room (k + 1) X.A) (hg : Gl X x) (hm : X.mg x = some (.ref C)) (hx : Passes CX X E) (hdb : (x == ("__debug__" : Str)) = false := by decide) :
    PE X (.Call (.Name x p) [] [] pos) (fun σ H Q => mkAsk C sp E [] H Q) := by
  refine ⟨fun pins s σ H Q I h => ?_⟩
  refine wpAny_Call_Name_kw (ld_glob I hg hm ?_ hdb)
  exact PySem.W.callWith_K0 I.kIn M.kp (StX.run_makeR M F hr hx I .nil h)
theorem pe_makeS1 (M : Mk X.K C f) (F : FnR X.prog X.w X.K X.mg X.base CX k f sp) (hr : Room (k + 1) X.A) (hg : Gl X x) (hm : X.mg x = some (.ref C)) (hx : Passes CX X E) (he : PE X e te) (hd : (x == ("__debug__" : Str)) = false := by decide)
    (hst : starEach [.Starred e sp_] X.env = [(true, eval e X.env)] := by rfl) :
    PE X (.Call (.Name x p) [.Starred e sp_] [] pos) (fun σ H Q => te σ H fun y H1 => ∃ a xs, y = V.ref a ∧ (SqT X.K H1 a xs ∨ SqL X.K H1 a xs) ∧ mkAsk C sp E xs H1 Q) := by
  refine ⟨fun pins s σ H Q I h => ?_⟩
  refine wpAny_Call_Name_kw (ld_glob I hg hm ?_ hd)
  refine PySem.W.callWith_S (h₀ := X.base) I.ok.mod.kin M.kp (thn (he.run pins s σ H _ I h) fun v s1 ⟨y, H1, I1, ry, a, xs, ey, hxs, q⟩ => ?_) hst
  subst ey
  obtain rfl : v = Value.ref a := ry
  exact StX.star_any I1 hxs fun us s2 I2 rv => ⟨I2.kIn, StX.run_makeR M F hr hx I2 rv q⟩
theorem pe_makeRs {es : List Expr} {t : TA} (M : Mk X.K C f) (F : FnR X.prog X.w X.K X.mg X.base CX k f sp) (hr : Room (k + 1) X.A) (hg : Gl X x) (hm : X.mg x = some (.ref C)) (hx : Passes CX X E) (ha : PA X (e :: es) t) (hdb : (x == ("__debug__" : Str)) = false := by decide)
    (he : starEach (e :: es) X.env = (false, eval e X.env) :: starEach es X.env := by rfl) (hpl : (backTo pos (starEach es X.env)).any (·.1) = false := by rfl) : PE X (.Call (.Name x p) (e :: es) [] pos) (fun σ H Q => t σ H fun vs H1 => mkAsk C sp E vs H1 Q) :=
  StX.pe_makeR M F hr hg hm hx ha hdb he hpl
end
end Ow

set_option Elab.async false
set_option linter.all false
set_option maxRecDepth 100000
set_option maxHeartbeats 4000000
/-! ==, != by an own __eq__: readings over the hand layer. -/
namespace Ow
open PySem PySem.Spec PyProof.Rows L2
section
variable {X : Cx} {CX : CXT} {pins : List (Addr × Obj)} {σ : L2.St} {H : Hp} {s : Shared} {a C g : Addr} {n : Nat} {sp : Sp} {E : XK}
/-- x == y (or another comparison with its own def), both instances of the class at C -/
theorem op_cmpO {op : CmpOp} (hop : ∀ a b, compareOp op a b = richCompare op a b) (hs : PySem.W.findIn X.K (.ref C) (cmpInfo op).2.1 = some (some (.ref g))) (hf : PySem.W.isFn X.K (.ref g) = true)
    (F : FnR X.prog X.w X.K X.mg X.base CX n g sp) (hr : Room n X.A) (hx : Passes CX X E) : OpR X (compareOp op) (rBinO C sp E) := by
  intro pins s σ H x y v u Q I rx ry h
  obtain ⟨a, dx, fs, b, dy, gs, rfl, rfl, ha, hb, q⟩ := h
  cases (show v = Value.ref a from rx)
  cases (show u = Value.ref b from ry)
  obtain ⟨ox, od, J, _⟩ := StX.insC_at (X := X) I (.inr ⟨dx, fs, ha⟩)
  obtain ⟨ox', od', J', _⟩ := StX.insC_at (X := X) I (.inr ⟨dy, gs, hb⟩)
  obtain ⟨m, hF⟩ := I.fr
  rw [hop]
  refine PySem.W.cmp_K (op := op) (tb := .ref C) hr.units0 hF I.ok.mod.kin J J'.type (by simp [PySem.W.notFirst]) hs hf ?_
  refine wpAny_mono (wpAny_call (run_fnR (us := [.ref a, .ref b]) (vs := [.ref a, .ref b]) F hr hx I (.cons rfl (.cons rfl .nil)) q)) (fun w s' z => ?_) fun _ _ x => x
  obtain ⟨z', H', I', rz, qz⟩ := z
  exact SlX.cmpback rz ⟨z', H', I', rz, qz⟩
/-- what != asks of a class with its own == and without an own != -/
structure NeC (K : PySem.W.Frag) (C g : Addr) : Prop where
  eq : PySem.W.findIn K (.ref C) "__eq__" = some (some (.ref g))
  fn : PySem.W.isFn K (.ref g) = true
  ne : PySem.W.findIn K (.ref C) "__ne__" = some (some (.builtin "object.__ne__"))
  ob : PySem.W.mroIn K C (.type "object") = some true
theorem bound_ne {K : PySem.W.Frag} {M : Model} {A : Around} {E : Value → Shared → Prop} {s : Shared} {x C : Addr} {ox : Obj} {od : Option Obj} {args : List Value} {Q : Option Value → Shared → Prop} (Xk : K.In s.heap) (I : PySem.W.InstAt s.heap x ox C od)
    (hs : PySem.W.findIn K (.ref C) "__ne__" = some (some (.builtin "object.__ne__")))
    (h : wpAny M A (call (.builtin "object.__ne__") (.ref x :: args)) (fun v => Q (some v)) E s) : wpAny M A (callSpecialIfBound? (.ref x) "__ne__" args) Q E s := by
  unfold callSpecialIfBound? bindSpecialIfBound?
  refine wpAny_holding (wpAny_bind (wpAny_bind (wpAny_bind (I.type.here ((PySem.W.looks_findIn Xk hs).here ?_)))))
  have hb := PySem.F.cmp_object.ne.bind (.ref x)
  simp only [hb]
  refine wpAny_bind (wpAny_askSetting (wpAny_ite ?_))
  have last : wpAny M A (call (.builtin "object.__ne__") ([.ref x] ++ args) >>= fun r => pure (some r)) Q E s :=
    wpAny_bind (wpAny_mono h (fun r s' z => wpAny_pure z) fun _ _ z => z)
  split
  · exact wpAny_bind (wpAny_pure (wpAny_pure last))
  · exact wpAny_tryCatch (wpAny_bind (wpAny_pure (wpAny_pure last)))
/-- x != y -/
def rNeO (C : Addr) (sp : Sp) (E : XK) : R2 := fun x y H Q => ∃ a dx fs b dy gs, x = .ref a ∧ y = .ref b ∧ H a = some (.ins C dx fs) ∧ H b = some (.ins C dy gs) ∧ sp [x, y] H (fun v H' => ∃ k, v = .bl k ∧ Q (.bl (!k)) H') E
theorem op_neO (c : NeC X.K C g) (F : FnR X.prog X.w X.K X.mg X.base CX n g sp) (hr : Room (n + 1) X.A) (hx : Passes CX X E) : OpR X (compareOp .NotEq) (rNeO C sp E) := by
  intro pins s σ H x y v u Q I rx ry h
  obtain ⟨a, dx, fs, b, dy, gs, rfl, rfl, ha, hb, q⟩ := h
  cases (show v = Value.ref a from rx)
  cases (show u = Value.ref b from ry)
  obtain ⟨ox, od, J, _⟩ := StX.insC_at (X := X) I (.inr ⟨dx, fs, ha⟩)
  obtain ⟨ox', od', J', _⟩ := StX.insC_at (X := X) I (.inr ⟨dy, gs, hb⟩)
  have hr1 : Room n X.A.in1 := hr.in1
  have body : wpAny (model X.prog X.w) X.A.in1 (call (.ref g) [.ref a, .ref b]) (EP X pins σ fun v H' => ∃ k, v = .bl k ∧ Q (.bl (!k)) H') X.xe s :=
    wpAny_call (SlX.run_at (us := [.ref a, .ref b]) (ws := [.ref a, .ref b]) F hr1 I.env0.in1 hx I (.cons rfl (.cons rfl .nil)) q)
  have entry : wpAny (model X.prog X.w) X.A.in1 (Builtin.«object.__ne__» ⟨[.ref a, .ref b], []⟩) (fun fin s' => ∃ k, fin = .done (.ret (.bool k)) ∧ EP X pins σ Q (.bool k) s') X.xe s := by
    unfold Builtin.«object.__ne__»
    repeat (first
      | with_reducible refine wpAny_cRoomFor hr1.units0 ?_
      | (refine wpAny_bind (m := callSpecialIfBound? (.ref a) (Str.ofString "__eq__") [.ref b])
          (PySem.W.ifBound_K I.kIn J c.eq c.fn (wpAny_mono body (fun r s' hr => by
            obtain ⟨z, H', I', rz, k, ek, qk⟩ := hr
            subst ek
            cases (show r = Value.bool k from rz)
            repeat (first | exact ⟨_, rfl, .bl (!k), H', I', rfl, qk⟩ | exact wpAny_pure ⟨_, rfl, .bl (!k), H', I', rfl, qk⟩ | exact wpAny_truthy_bool ⟨_, rfl, .bl (!k), H', I', rfl, qk⟩ | (refine wpAny_bind (m := truthy (.bool _)) (wpAny_truthy_bool ?_)) | wp_step)) fun _ _ e => e)))
      | wp_step)
  have called : wpAny (model X.prog X.w) X.A (call (.builtin "object.__ne__") [.ref a, .ref b]) (fun r s' => ∃ k, r = .bool k ∧ EP X pins σ Q (.bool k) s') X.xe s := by
    refine wpAny_call (codeAny_call_builtin PySem.F.cmp_object.ne.plain PySem.F.cmpEntry_ne (PySem.W.check_slot PySem.F.cmpKind_ne PySem.F.cmpSplit_ne (J.type.andThen (PySem.W.looks_mroIn I.kIn c.ob)) (PySem.F.cmpArgs_ne _ _) (wpAny_mono entry (fun fin s' z => ?_) fun _ _ z => z)))
    obtain ⟨k, rfl, z⟩ := z
    exact ⟨k, rfl, z⟩
  show wpAny (model X.prog X.w) X.A (richCompare .NotEq (.ref a) (.ref b)) _ _ s
  unfold richCompare
  simp only [oneThing_ref]
  refine wpAny_holding (wpAny_bind (wpAny_cRoomFor hr.units0 ?_))
  refine wpAny_bind (J.type.here (wpAny_bind (J'.type.here ?_)))
  rw [if_neg (by simp)]
  refine wpAny_bind (wpAny_pure ?_)
  rw [if_neg (by simp)]
  refine wpAny_bind (m := tryCompare (.ref a) (cmpInfo .NotEq).2.1 (.ref b)) ?_
  unfold tryCompare
  refine wpAny_bind (m := callSpecialIfBound? (.ref a) (Str.ofString "__ne__") [.ref b]) (bound_ne I.kIn J c.ne (wpAny_mono called (fun r s' z => ?_) fun _ _ z => z))
  obtain ⟨k, rfl, z⟩ := z
  first
    | exact wpAny_pure (wpAny_pure z)
    | exact wpAny_pure z
end
end Ow

set_option Elab.async false
set_option linter.all false
set_option maxRecDepth 100000
set_option maxHeartbeats 4000000
/-! len(x), e in x by own methods: readings over the hand layer. -/
namespace Ow
open PySem PySem.Spec PyProof.Rows L2
section
variable {X : Cx} {CX : CXT} {C g : Addr} {n : Nat} {sp : Sp} {E : XK}
def rLenO (C : Addr) (sp : Sp) (E : XK) : List V → Hp → VK → Prop := fun xs H Q => ∃ a dx fs, xs = [V.ref a] ∧ H a = some (.ins C dx fs) ∧ sp [.ref a] H (fun v H' => ∃ i : Nat, v = .int (i : Int) ∧ i < 1000000 ∧ Q v H') E
theorem call_lenO (hs : PySem.W.findIn X.K (.ref C) "__len__" = some (some (.ref g))) (hf : PySem.W.isFn X.K (.ref g) = true) (F : FnR X.prog X.w X.K X.mg X.base CX n g sp) (hr : Room (n + 1) X.A) (hx : Passes CX X E) : CallR X (.builtin "len") (rLenO C sp E) := by
  intro pins s σ H xs us Q I r h
  obtain ⟨a, dx, fs, rfl, ha, q⟩ := h
  obtain ⟨u, rfl, ru⟩ := r.one
  cases (show u = Value.ref a from ru)
  obtain ⟨ox, od, J, _⟩ := StX.insC_at (X := X) I (.inr ⟨dx, fs, ha⟩)
  obtain ⟨m, hF⟩ := I.fr
  have hr1 : Room n X.A.in1 := hr.in1
  refine PySem.W.len_K hF I.ok.mod.kin J hs hf (wpAny_mono (wpAny_call (SlX.run_at (us := [.ref a]) (ws := [.ref a]) F hr1 I.env0.in1 hx I (.cons rfl .nil) q)) (fun w s' z => ?_) fun _ _ e => e)
  obtain ⟨z', H', I', rz, i, ei, hi, qz⟩ := z
  subst ei
  obtain ⟨t, e⟩ := (show ∃ t, w = Value.int (i : Int) t from rz)
  subst e
  exact ⟨⟨by omega, by omega⟩, .int (i : Int), H', I'.tok _, ⟨_, rfl⟩, qz⟩
/-- e in x -/
def rInO (C : Addr) (sp : Sp) (E : XK) : R2 := fun x y H Q => ∃ a dx fs, y = V.ref a ∧ H a = some (.ins C dx fs) ∧ sp [.ref a, x] H (fun v H' => ∃ k, v = .bl k ∧ Q (.bl k) H') E
theorem op_inO (hs : PySem.W.findIn X.K (.ref C) "__contains__" = some (some (.ref g))) (hf : PySem.W.isFn X.K (.ref g) = true) (F : FnR X.prog X.w X.K X.mg X.base CX n g sp) (hr : Room n X.A) (hx : Passes CX X E) : OpR X (compareOp .In) (rInO C sp E) := by
  intro pins s σ H x y v u Q I rx ry h
  obtain ⟨a, dx, fs, rfl, ha, q⟩ := h
  cases (show u = Value.ref a from ry)
  obtain ⟨ox, od, J, _⟩ := StX.insC_at (X := X) I (.inr ⟨dx, fs, ha⟩)
  obtain ⟨m, hF⟩ := I.fr
  refine PySem.W.in_K hF I.ok.mod.kin J hs hf (wpAny_mono (wpAny_call (SlX.run_at (us := [.ref a, v]) (ws := [.ref a, x]) F hr I.env0 hx I (.cons rfl (.cons rx .nil)) q)) (fun w s' z => ?_) fun _ _ e => e)
  obtain ⟨z', H', I', rz, k, ek, qz⟩ := z
  subst ek
  cases (show w = Value.bool k from rz)
  exact wpAny_truthy_bool ⟨.bl k, H', I', rfl, qz⟩
end
end Ow

set_option Elab.async false
set_option linter.all false
set_option maxRecDepth 100000
set_option maxHeartbeats 4000000
/-! A walk over an instance whose __iter__ gives an iterator over a tuple. -/
namespace Ow
open PySem PySem.Spec PyProof.Rows L2
section
variable {prog : Program} {w : World} {A : Around} {E : Value → Shared → Prop} {s : Shared} {l : Addr} {items : Array Value}
theorem iter_tup {Q : Value → Shared → Prop} (hl : s.heap.IsTuple l items) (h : Q (.ref s.heap.objs.size) { s with heap := s.heap.push { cls := .type "tuple_iterator", data := .fields #[.ref l, .int 0 0] } }) : wpAny (model prog w) A (call (.builtin "iter") [.ref l]) Q E s := by
  have en := PySem.W.kdk_entry_iter
  refine Calls.call_function_entry (s := s) (by decide +kernel) (by decide +kernel) en (PySem.W.kdk_args_iter (.ref l)) ?_
  unfold Builtin.«iter»
  refine wpAny_bind (m := someArgs "iter" 1 2 ⟨[.ref l], []⟩) (wpAny_of_eq (a := [Value.ref l]) (by first | rfl | kernel_rfl) ?_)
  show wpAny (model prog w) _ (pyIter (.ref l) >>= fun z => ret z) _ _ s
  refine wpAny_bind (wpAny_pyIter_tuple hl ?_)
  exact wpAny_pure ⟨_, rfl, h⟩
end
/-- an iterator over the tuple at t stands at it, at its beginning -/
def ItT (t it : Addr) : HO := .ext fun h => h.IsTupleIter it t 0
section
variable {X : Cx}
/-- iter(t), a tuple -/
def rIterT (K : PySem.W.Frag) (n : Nat) : List V → Hp → VK → Prop := fun xs H Q => ∃ (t : Addr) (zs : List V), xs = [.ref t] ∧ SqT K H t zs ∧ ∀ it, H it = Option.none → n ≤ it → Q (.ref it) (upd H it (ItT t it))
theorem call_iterT : CallR X (.builtin "iter") (rIterT X.K X.s_0.heap.objs.size) := by
  intro pins s σ H xs us Q I r h
  obtain ⟨t, zs, rfl, hq, q⟩ := h
  obtain ⟨u, rfl, ru⟩ := vals1 r
  cases ru
  obtain ⟨its, rv, p, hz⟩ := I.tuple hq
  refine iter_tup (show s.heap.IsTuple t its.toArray from p) ?_
  have st : (s.heap.push { cls := .type "tuple_iterator", data := .fields #[.ref t, .int 0 0] }).IsTupleIter s.heap.objs.size t 0 := ⟨_, Heap.get?_push_size _ rfl, rfl, rfl⟩
  refine ⟨.ref s.heap.objs.size, _, I.laid (t' := s.toks) (o := ItT t s.heap.objs.size) (fun b u e => Heap.get?_push_of_some _ e) (Nat.le_refl _) ⟨st, ⟨_, Heap.get?_push_size _ rfl⟩, fun h1 h2 z k => ?_⟩, rfl, q _ (I.hok.fresh (Nat.le_refl _)) I.sz⟩
  exact z.at fun o e => k o e
end
/-- a def with one parameter, called at this state: what its body's reading gives -/
theorem run_here {CX : CXT} {P : Program} {w : World} {K : PySem.W.Frag} {mg : Str → Option Value} {base : Heap} {k : Nat} {f : Addr} {fd : FuncData} {x q : Str} {st : Stmt} {N ps : List Str} {A : Around} {outer : List Env} {s : Shared} {H : Hp} {us : List Value} {vs : List V} {R : V → Hp → Shared → Prop} {E : XK}
    (F : L2.Fun K x q st f fd) (S : FnScope N ps (defScope st)) (hl : vs.length = ps.length) (hr : Room (k + 1) A) (e0 : Env0 P w K mg base A outer s H) (hb : BindsTo s fd ⟨us, []⟩ (ps.zip us)) (r : Vals vs us)
    (body : ∀ cdv : Value, Room k (A.deeper (envOfC q (defScope st) s.heap.objs.size f cdv)) → ∃ t, PSs (cxOf CX P w K mg base N q (defScope st) f cdv A outer s H E).nox (defBody st) t ∧ t { nx := fun _ _ => False, rt := fun v H' => ∀ (pins : List (Addr × Obj)) (σ : L2.St) (s' : Shared), Inv (cxOf CX P w K mg base N q (defScope st) f cdv A outer s H E).nox pins σ H' s' → R v H' s' } (start N vs) H) :
    codeAny (model P w) A (.call (.ref f) ⟨us, []⟩) (fun r s' => ∃ v u H', r = .ok (.ret u) ∧ RelV v u ∧ R v H' s') s := by
  obtain ⟨oc, od, kV, doc, pm, an, cdv, ct, osl, rfl, lk, hcd⟩ := F.ex
  have Xin : K.In s.heap := e0.mod.kin.keeps fun b o z => (e0.bs b o z).1
  have free : s.heap.NoLimit := e0.mod.nolimit.keeps fun b o z => (e0.bs b o z).1
  have kinds : ∀ y ∈ ps.zip us, (defScope st).names.lookup y.1 = some .local ∨ ((defScope st).names.lookup y.1 = some .cell ∧ ((cellsFrom (s.heap.objs.size + 1) (defScope st).names []).lookup y.1).isSome = true) := by
    rintro ⟨n, v⟩ hy
    rcases S.par n (List.of_mem_zip hy).1 with z | z
    · exact .inl z
    · exact .inr ⟨z, PySem.W.cellsFrom_some _ _ _ (.inl z)⟩
  refine codeAny_call_function hr.depth (Xin _ _ lk) rfl S.co S.gen rfl (PySem.W.codeRec_of Xin hcd) (hb _ _ _ _ ?_)
  refine wpAny_newFunctionEnv_cells S.kind kinds fun env he s1 z => ?_
  subst he
  refine ⟨free.keeps z.toInCall.keep, codeAny_func ?_⟩
  obtain ⟨t, ht, hq⟩ := body cdv (hr.deeper _)
  have J := inv_start (CX := CX) (E := E) S hr.hd e0 hl r z
  refine wpAny_mono (ht.run [] s1 (start N vs) H _ (J.wish _) hq) (fun fl s' hs => ?_) fun e s' hs => False.elim hs
  cases fl with
  | ret u =>
    obtain ⟨v, σ', H', I', rv, hR⟩ := hs
    exact ⟨v, u, H', rfl, rv, hR _ _ _ I'⟩
  | next =>
    obtain ⟨_, _, _, z⟩ := hs
    exact z.elim
  | brk =>
    obtain ⟨_, _, _, z⟩ := hs
    exact z.elim
  | cont =>
    obtain ⟨_, _, _, z⟩ := hs
    exact z.elim
/-! ### the walk -/
/-- what the class's __iter__ does with an instance: a new iterator over the tuple that its field holds -/
def ItRun (P : Program) (w : World) (K : PySem.W.Frag) (mg : Str → Option Value) (base : Heap) (k : Nat) (C g : Addr) (nm : Str) : Prop := ∀ (A : Around) (outer : List Env) (s : Shared) (H : Hp) (a dx t : Addr) (zs : List V), Room k A → Env0 P w K mg base A outer s H →
  H a = some (.ins C dx [(nm, V.ref t)]) → SqT K H t zs →
  codeAny (model P w) A (.call (.ref g) ⟨[.ref a], []⟩) (fun r s' => ∃ it : Addr, r = .ok (.ret (.ref it)) ∧ s.heap.objs.size ≤ it ∧ s'.heap.IsTupleIter it t 0 ∧ CE outer P w H s (fun v H' => v = .ref it ∧ H' = H) (.ref it) s') s
theorem it_run {P : Program} {w : World} {K : PySem.W.Frag} {mg : Str → Option Value} {base : Heap} {C g : Addr} {fd : FuncData} {st : Stmt} {q nm : Str} (F : L2.Fun K "__iter__" q st g fd) (S : FnScope ["self"] ["self"] (defScope st)) (b : Binds K fd ["self"] []) (cl : Cls K C) (nR : NoAttr K C nm)
    (body : ∀ (cdv : Value) (A : Around) (outer : List Env) (s : Shared) (H : Hp), PSs (cxOf CX0 P w K mg base ["self"] q (defScope st) g cdv A outer s H E0).nox (defBody st) (tRet (tCB (rIterT K s.heap.objs.size) (tCons (tFld K (tVar 0) nm) tNil)))) : ItRun P w K mg base 1 C g nm := by
  intro A outer s H a dx t zs hr e0 ha ht
  have hb : BindsTo s fd ⟨[.ref a], []⟩ ([("self" : Str)].zip [Value.ref a]) := b s [.ref a] (e0.mod.kin.keeps fun c o z => (e0.bs c o z).1) rfl
  refine codeAny_mono (run_here (CX := CX0) (k := 0) (E := E0) (vs := [V.ref a]) (R := fun v H' s' => ∃ it, v = .ref it ∧ s.heap.objs.size ≤ it ∧ s'.heap.IsTupleIter it t 0 ∧ CE outer P w H s (fun v H' => v = .ref it ∧ H' = H) (.ref it) s') F S rfl hr e0 hb (.cons rfl .nil) fun cdv _ => ⟨_, body cdv A outer s H, ?_⟩) fun r s' z => ?_
  · refine ⟨_, rfl, a, C, dx, _, _, rfl, ha, cl, nR, by simp [List.lookup], t, zs, rfl, ht, fun it nit hit pins σ s' I => ⟨it, rfl, hit, ?_, ?_⟩⟩
    · exact (I.hok it _ upd_same).1
    · have I2 := ItX.inv_drop (φ := fun h => h.IsTupleIter it t 0) I upd_same
      rw [ItX.dropH_upd nit] at I2
      exact ⟨.ref it, H, I2.os, I2.bare, I2.base, I2.hok, rfl, rfl, rfl⟩
  · obtain ⟨v, u, H', rfl, ru, it, rfl, h1, h2, h3⟩ := z
    cases (show u = Value.ref it from ru)
    exact ⟨it, rfl, h1, h2, h3⟩
section
variable {X : Cx} {tg : Expr} {C g : Addr} {k : Nat} {nm : Str}
/-- an instance of the class at C walked: the items of the tuple in its field -/
def iOwn (K : PySem.W.Frag) (C : Addr) (nm : Str) (tl : TE) : TI := fun σ H R => tl σ H fun x H1 => ∃ a dx t, x = V.ref a ∧ H1 a = some (.ins C dx [(nm, V.ref t)]) ∧ (∃ zs, SqT K H1 t zs) ∧ R (Itt K t) H1
theorem pi_own {l : Expr} {tl : TE} (hs : PySem.W.findIn X.K (.ref C) "__iter__" = some (some (.ref g))) (hf : PySem.W.isFn X.K (.ref g) = true) (G : ItRun X.prog X.w X.K X.mg X.base k C g nm) (hr : Room k X.A) (hl : PE X l tl) : PI X tg l (iOwn X.K C nm tl) := by
  refine ⟨fun pins s σ H R I h => ?_⟩
  refine thn (hl.run pins s σ H _ I h) fun v s1 ⟨x, H1, I1, r1, a, dx, t, ex, ha, ⟨zs, ht⟩, q⟩ => ?_
  subst ex
  cases (show v = Value.ref a from r1)
  obtain ⟨ox, od, J, _⟩ := StX.insC_at (X := X) I1 (.inr ⟨dx, _, ha⟩)
  have called : wpAny (model X.prog X.w) X.A (call (.ref g) [.ref a]) (fun r s' => ∃ it : Addr, r = .ref it ∧ s1.heap.objs.size ≤ it ∧ s'.heap.IsTupleIter it t 0 ∧ CE X.stack X.prog X.w H1 s1 (fun v H' => v = .ref it ∧ H' = H1) (.ref it) s') X.xe s1 := by
    refine wpAny_call (codeAny_mono (G X.A X.stack s1 H1 a dx t zs hr I1.env0 ha ht) fun r s' z => ?_)
    obtain ⟨it, rfl, z1, z2, z3⟩ := z
    exact ⟨it, rfl, z1, z2, z3⟩
  obtain ⟨m, hF⟩ := I1.fr
  refine PySem.W.owit_iter hF I1.ok.mod.kin J hs hf (wpAny_mono called (fun r s' z => ?_) fun _ _ z => z)
  obtain ⟨it, rfl, z1, z2, z3⟩ := z
  unfold PySem.W.OwitIt
  refine wpAny_specialOf z2.typeIs PySem.F.slot_tuple_iterator_next.lookup ?_
  obtain ⟨v, H', I2, rv, ev, eH⟩ := I1.after z3
  subst eH
  refine ⟨it, [it], _, _, H', rfl, I2, turn_tuple t it, z2, fun b hb => ?_, q⟩
  obtain rfl := List.mem_singleton.mp hb
  exact I1.fpOk z1 (I1.hok.fresh z1)
end
end Ow

set_option Elab.async false
set_option linter.all false
set_option maxRecDepth 100000
set_option maxHeartbeats 4000000
/-! Defs that are called while no repr is under way: their promise, their body, their call, the law's end; repr of data of any depth. -/
namespace Og
open PySem PySem.Spec PyProof.Rows L2 Ow
/-- the promise of a def at a state under which no repr is under way -/
structure FnG (P : Program) (w : World) (K : PySem.W.Frag) (mg : Str → Option Value) (base : Heap) (CX : CXT) (k : Nat) (f : Addr) (fd : FuncData) (ps : List Str) (sp : Sp) : Prop where
  len : ∀ {vs H Q E}, sp vs H Q E → vs.length = ps.length
  go : ∀ {A : Around} {outer : List Env} {s : Shared} {H : Hp} {ar : Args} {us : List Value} {vs : List V} {Q : VK} {E : XK}, Room k A → A.guards = some [] → Env0 P w K mg base A outer s H → BindsTo s fd ar (ps.zip us) → Vals vs us →
    sp vs H Q E → codeAny (model P w) A (.call (.ref f) ar) (CR CX outer P w H s Q E) s
section
variable {P : Program} {w : World} {K : PySem.W.Frag} {mg : Str → Option Value} {base : Heap} {CX : CXT} {j k : Nat} {f : Addr} {fd : FuncData} {ps : List Str} {sp sp' : Sp}
theorem FnG.of (F : FnOk P w K mg base CX k f fd ps sp) : FnG P w K mg base CX k f fd ps sp := ⟨fun h => F.len _ _ _ _ h, fun hr _ e0 hb r h => F.run _ _ _ _ _ _ _ _ _ hr e0 hb r h⟩
theorem FnG.mono (F : FnG P w K mg base CX j f fd ps sp) (h : j ≤ k) : FnG P w K mg base CX k f fd ps sp := ⟨F.len, fun hr => F.go (hr.mono h)⟩
theorem FnG.imp (F : FnG P w K mg base CX k f fd ps sp) (h : ∀ vs H Q E, sp' vs H Q E → sp vs H Q E) : FnG P w K mg base CX k f fd ps sp' := ⟨fun q => F.len (h _ _ _ _ q), fun hr hg e0 hb r q => F.go hr hg e0 hb r (h _ _ _ _ q)⟩
/-- a def's body, run at this state -/
theorem run_gen {x q : Str} {st : Stmt} {N : List Str} {A : Around} {outer : List Env} {s : Shared} {H : Hp} {ar : Args} {us : List Value} {vs : List V} {Q : VK} {E : XK}
    (F : L2.Fun K x q st f fd) (S : FnScope N ps (defScope st)) (hl : vs.length = ps.length) (hr : Room (k + 1) A) (e0 : Env0 P w K mg base A outer s H) (hb : BindsTo s fd ar (ps.zip us)) (r : Vals vs us)
    (body : ∀ cdv : Value, Room k (A.deeper (envOfC q (defScope st) s.heap.objs.size f cdv)) → ∃ t, PSs (cxOf CX P w K mg base N q (defScope st) f cdv A outer s H E) (defBody st) t ∧ t { nx := fun _ H' => Q .non H', rt := Q } (start N vs) H) :
    codeAny (model P w) A (.call (.ref f) ar) (CR CX outer P w H s Q E) s := by
  obtain ⟨oc, od, kV, doc, pm, an, cdv, ct, osl, rfl, lk, hcd⟩ := F.ex
  have Xin : K.In s.heap := e0.mod.kin.keeps fun b o z => (e0.bs b o z).1
  have free : s.heap.NoLimit := e0.mod.nolimit.keeps fun b o z => (e0.bs b o z).1
  have kinds : ∀ y ∈ ps.zip us, (defScope st).names.lookup y.1 = some .local ∨ ((defScope st).names.lookup y.1 = some .cell ∧ ((cellsFrom (s.heap.objs.size + 1) (defScope st).names []).lookup y.1).isSome = true) := by
    rintro ⟨n, v⟩ hy
    rcases S.par n (List.of_mem_zip hy).1 with z | z
    · exact .inl z
    · exact .inr ⟨z, PySem.W.cellsFrom_some _ _ _ (.inl z)⟩
  refine codeAny_call_function hr.depth (Xin _ _ lk) rfl S.co S.gen rfl (PySem.W.codeRec_of Xin hcd) (hb _ _ _ _ ?_)
  refine wpAny_newFunctionEnv_cells S.kind kinds fun env he s1 z => ?_
  subst he
  refine ⟨free.keeps z.toInCall.keep, codeAny_func ?_⟩
  obtain ⟨t, ht, hq⟩ := body cdv (hr.deeper _)
  have J := inv_start (CX := CX) (E := E) S hr.hd e0 hl r z
  have fin : ∀ {σ' : L2.St} {H' : Hp} {v : V} {u : Value} {s' : Shared}, Inv (cxOf CX P w K mg base N q (defScope st) f cdv A outer s H E) [] σ' H' s' → RelV v u → Q v H' → CE outer P w H s Q u s' :=
    fun J2 rv y => ⟨_, _, J2.os, J2.bare, J2.base, J2.hok, rv, y⟩
  refine wpAny_mono (ht.run [] s1 (start N vs) H _ J hq) (fun fl s' hs => ?_) fun e s' hs => hs
  cases fl with
  | ret u =>
    obtain ⟨v, σ', H', J2, rv, y⟩ := hs
    exact fin J2 rv y
  | next =>
    obtain ⟨σ', H', J2, y⟩ := hs
    exact fin (v := V.non) (u := Value.none) J2 rfl y
  | brk =>
    obtain ⟨_, _, _, z⟩ := hs
    exact z.elim
  | cont =>
    obtain ⟨_, _, _, z⟩ := hs
    exact z.elim
/-- the rule for a def of which nothing is let out -/
theorem okG {x q : Str} {st : Stmt} {N : List Str} (F : L2.Fun K x q st f fd) (S : FnScope N ps (defScope st)) (len : ∀ vs H Q E, sp vs H Q E → vs.length = ps.length)
    (body : ∀ (cdv : Value) (A : Around) (outer : List Env) (s : Shared) (H : Hp) (vs : List V) (Q : VK) (E : XK), Room k (A.deeper (envOfC q (defScope st) s.heap.objs.size f cdv)) → A.guards = some [] → sp vs H Q E →
      ∃ t, PSs (cxOf CX P w K mg base N q (defScope st) f cdv A outer s H E).nox (defBody st) t ∧ t { nx := fun _ H' => Q .non H', rt := Q } (start N vs) H) : FnG P w K mg base CX (k + 1) f fd ps sp :=
  ⟨fun h => len _ _ _ _ h, fun hr hg e0 hb r h => run_gen F S (len _ _ _ _ h) hr e0 hb r fun cdv hr2 => by
    obtain ⟨t, ht, hq⟩ := body cdv _ _ _ _ _ _ _ hr2 hg h
    exact ⟨t, ht.nox, hq⟩⟩
/-- .. for a def that may raise -/
theorem okGX {x q : Str} {st : Stmt} {N : List Str} (F : L2.Fun K x q st f fd) (S : FnScope N ps (defScope st)) (len : ∀ vs H Q E, sp vs H Q E → vs.length = ps.length)
    (body : ∀ (cdv : Value) (A : Around) (outer : List Env) (s : Shared) (H : Hp) (vs : List V) (Q : VK) (E : XK), Room k (A.deeper (envOfC q (defScope st) s.heap.objs.size f cdv)) → A.guards = some [] → sp vs H Q E →
      ∃ t, PSs (cxOf CX P w K mg base N q (defScope st) f cdv A outer s H E) (defBody st) t ∧ t { nx := fun _ H' => Q .non H', rt := Q } (start N vs) H) : FnG P w K mg base CX (k + 1) f fd ps sp :=
  ⟨fun h => len _ _ _ _ h, fun hr hg e0 hb r h => run_gen F S (len _ _ _ _ h) hr e0 hb r fun cdv hr2 => body cdv _ _ _ _ _ _ _ hr2 hg h⟩
end
section
variable {X : Cx} {CX : CXT} {k : Nat} {f : Addr} {fd : FuncData} {ps : List Str} {sp : Sp} {dvs : List V} {ds : List Value} {E : XK} {x : Str} {p pos : Pos} {e : Expr} {es : List Expr} {t : TA}
theorem pe_callG (F : FnG X.prog X.w X.K X.mg X.base CX k f fd ps sp) (hr : Room k X.A) (hG : X.A.guards = some []) (hg : Gl X x) (hm : X.mg x = some (.ref f)) (hk : PySem.W.keepIn X.K (.ref f) = true) (hb : Binds X.K fd ps ds) (hd : Vals dvs ds) (hx : Passes CX X E)
    (ha : PA X (e :: es) t) (hdb : (x == ("__debug__" : Str)) = false := by decide) (he : starEach (e :: es) X.env = (false, eval e X.env) :: starEach es X.env := by rfl) (hpl : (backTo pos (starEach es X.env)).any (·.1) = false := by rfl) :
    PE X (.Call (.Name x p) (e :: es) [] pos) (tCall sp dvs E t) := by
  refine ⟨fun pins s σ H Q I h => wpAny_Call_Name_kw (ld_glob I hg hm ?_ hdb)⟩
  refine PySem.W.callWith_K (h₀ := X.base) I.ok.mod.kin hk (thn (ha.run pos pins s σ H _ I h) fun us s1 ⟨vs, H1, J, r, q⟩ => ⟨J.kIn, ?_⟩) he hpl
  have rr : Vals (vs ++ dvs) (us ++ ds) := r.append hd
  have ll : (us ++ ds).length = ps.length := rr.length.symm.trans (F.len q)
  refine wpAny_call (codeAny_mono (F.go hr hG J.env0 (hb s1 us J.kIn ll) rr q) fun z s' hq => ?_)
  cases z with
  | error e => exact hx pins σ H1 s1 e s' J hq
  | ok fl =>
    cases fl with
    | ret u => exact J.after hq
    | next => exact hq.elim
    | brk => exact hq.elim
    | cont => exact hq.elim
/-- repr(x), x data of any depth without dicts -/
def rRepr (K : PySem.W.Frag) : List V → Hp → VK → Prop := fun xs H Q => ∃ (x : V) (d : PyData), xs = [x] ∧ Dp K H x d ∧ d.showable = true ∧ d.depth ≤ 20 ∧ d.shown.length ≤ sizeLine ∧ Q (.str d.shown) H
theorem dp_noDict {K : PySem.W.Frag} {H : Hp} : ∀ (d : PyData) {v : V}, Dp K H v d → d.hasDict = false := by
  intro d v h
  refine Dp.rec (motive_1 := fun v d _ => d.hasDict = false) (motive_2 := fun vs ds _ => PyData.hasDictAll ds = false) ?_ ?_ ?_ ?_ ?_ ?_ ?_ ?_ h
  · rfl
  · intro b; rfl
  · intro i; rfl
  · intro x; rfl
  · intro a xs ds h1 h2 ih
    simpa only [PyData.hasDict] using ih
  · intro a xs ds h1 h2 ih
    simpa only [PyData.hasDict] using ih
  · rfl
  · intro v vs d ds h1 h2 i1 i2
    simp only [PyData.hasDictAll, i1, i2, Bool.or_self]
theorem call_reprD (hG : X.A.guards = some []) (hu : X.A.units + 64 < cLine) : CallR X (.builtin "repr") (rRepr X.K) := by
  intro pins s σ H xs us Q I r h
  obtain ⟨x, d, rfl, hd, hs, hdep, hsz, q⟩ := h
  obtain ⟨u, rfl, ru⟩ := r.one
  obtain ⟨as, R⟩ := Dp.reads I d x u hd ru
  have fin : ∀ (h' : Heap) (t : Tok) (tk : Tok), (∀ b o, s.heap.get? b = some o → h'.get? b = some o) → EP X pins σ Q (.str d.shown t) { s with heap := h', toks := tk } := fun h' t tk hk => ⟨.str _, H, I.kept hk, ⟨_, rfl⟩, q⟩
  have same : EP X pins σ Q (.str d.shown s.toks) { s with toks := s.toks + 1 } := ⟨.str _, H, I.tok _, ⟨_, rfl⟩, q⟩
  cases R with
  | none => exact PySem.P.repr_of_none same
  | bool b => exact PySem.P.repr_of_bool same
  | int i t => exact PySem.P.repr_of_int (by simpa [PyData.showable] using hs) same
  | str x t => exact PySem.P.repr_of_str same hsz
  | list a b c d' => exact repr_of_reads' (Reads.list a b c d') hs (fun z => by rw [dp_noDict _ hd] at z; cases z) hG (by omega) (fun _ _ e => e) (fun h' u tk hk => fin h' u tk hk) hsz
  | tuple a b c d' => exact repr_of_reads' (Reads.tuple a b c d') hs (fun z => by rw [dp_noDict _ hd] at z; cases z) hG (by omega) (fun _ _ e => e) (fun h' u tk hk => fin h' u tk hk) hsz
  | dict a b c d' e => cases hd
end
/-! ### the law's end -/
section
variable {P : Program} {w : World} {K : PySem.W.Frag} {mg mb : Str → Option Value} {CX : CXT} {k : Nat} {fa a : Addr} {fd : FuncData} {x : Str} {sp : Sp} {s0 : Shared} {vs : List Value} {ns : List Int}
/-- the law's call at a heap in which at most the script is tracked -/
theorem end_at {H : Hp} (Ki : K.In s0.heap) (g1 : s0.heap.Ns mainGlobals mg) (g2 : s0.heap.Ns builtinsNs mb) (g3 : ∀ x : Str, x ≠ "__name__" → mb x = bootBuiltins x) (g4 : s0.heap.NoLimit) (g5 : s0.gens = #[])
    (ea : s0.heap.get? a = some { cls := .type "list", data := .seq vs.toArray }) (hr : Room k callerA) (F : ∀ base : Heap, K.In base → base.Ns mainGlobals mg → FnG P w K mg base CX k fa fd [x] sp)
    (hb : ∀ (s : Shared) (u : Value), BindsTo s fd ⟨[u], []⟩ [(x, u)]) (hO : Only H) (only : ∀ b, H b ≠ none → b = a) (own : H a ≠ none → K.lookup a = none) (hok : HOk P w H s0.heap) (hs : sp [.ref a] H (fun v _ => v = .bl true) fun _ _ _ => False)
    (hX : ∀ e s', CX [] H s0 (fun _ _ _ => False) e s' → False) :
    codeAny (model P w) callerA (.call (.ref fa) ⟨[.ref a], []⟩) (fun r s' => r = .ok (.ret (.bool true)) ∧ OldK s0.heap s'.heap ∧ s'.os = s0.os ∧ AllBare s'.gens) s0 := by
  -- what is tracked is the script, a list: no dict
  have dfree : ∀ {b : Addr} {o : Obj} {es : Array DictEntry} {ep : Nat}, s0.heap.get? b = some o → o.data = .dict es ep → H b = none := by
    intro b o es ep e1 e2
    rcases Option.eq_none_or_eq_some (H b) with z | ⟨y, z⟩
    · exact z
    · obtain rfl := only b (by rw [z]; exact Option.some_ne_none _)
      rw [ea] at e1
      cases e1
      exact nomatch e2
  have names : ∀ {b : Addr} {m : Str → Option Value}, s0.heap.Ns b m → (hidT s0.heap H).Ns b m := by
    rintro b m ⟨o, es, ep, e1, e2, r⟩
    exact ⟨o, es, ep, hidT_get e1 (dfree e1 e2), e2, r⟩
  have Kb : K.In (hidT s0.heap H) := fun b o e => hidT_get (Ki b o e) (by
    rcases Option.eq_none_or_eq_some (H b) with z | ⟨y, z⟩
    · exact z
    · obtain rfl := only b (by rw [z]; exact Option.some_ne_none _)
      rw [own (by rw [z]; exact Option.some_ne_none _)] at e
      cases e)
  obtain ⟨mc, l1, l2⟩ := g4
  have M : Mod K mg (hidT s0.heap H) := ⟨Kb, names g1, ⟨mb, names g2, g3⟩, ⟨mc, names l1, l2⟩⟩
  have e0 : Env0 P w K mg (hidT s0.heap H) callerA [] s0 H := by
    refine ⟨rfl, M, fun b o e => of_hidT e, Nat.le_of_eq (hidT_size _ _), trivial, fun b z => ?_, hok, .of_eq g5⟩
    cases (show b ∈ ([] : List Addr) from z)
  refine codeAny_mono ((F _ Kb (names g1)).go (us := [.ref a]) (vs := [.ref a]) hr rfl e0 (hb s0 (.ref a)) (.cons (show RelV (.ref a) (.ref a) from rfl) .nil) hs) fun r s' z => ?_
  cases r with
  | error e => exact (hX e s' z).elim
  | ok fl =>
    cases fl with
    | ret u =>
      obtain ⟨v, H', os, bare, un, hok', ru, y⟩ := z
      obtain rfl : v = .bl true := y
      cases (show u = Value.bool true from ru)
      refine ⟨rfl, OldK.of_keep fun b o e => ?_, os, bare⟩
      rcases hO b with y | ⟨ob, xs, y⟩
      · exact un.keep b o e y (fun q => nomatch (show b ∈ ([] : List Addr) from q)) (by simp)
      · have e1 := (hok b _ y).1
        have e2 := (hok' b _ (un.frzs b ob _ y)).1
        rw [e] at e1
        cases e1
        exact e2
    | next => exact z.elim
    | brk => exact z.elim
    | cont => exact z.elim
theorem end_call (Ki : K.In s0.heap) (g1 : s0.heap.Ns mainGlobals mg) (g2 : s0.heap.Ns builtinsNs mb) (g3 : ∀ x : Str, x ≠ "__name__" → mb x = bootBuiltins x) (g4 : s0.heap.NoLimit) (g5 : s0.gens = #[])
    (ea : s0.heap.get? a = some { cls := .type "list", data := .seq vs.toArray }) (hi : IntsAre vs ns) (hl : ns.length ≤ sizeLine) (hr : Room k callerA) (F : ∀ base : Heap, K.In base → base.Ns mainGlobals mg → FnG P w K mg base CX k fa fd [x] sp)
    (hb : ∀ (s : Shared) (u : Value), BindsTo s fd ⟨[u], []⟩ [(x, u)]) (hs : ∀ H : Hp, Only H → SqL K H a (ns.map V.int) → sp [.ref a] H (fun v _ => v = .bl true) fun _ _ _ => False)
    (hX : ∀ H e s', CX [] H s0 (fun _ _ _ => False) e s' → False) :
    codeAny (model P w) callerA (.call (.ref fa) ⟨[.ref a], []⟩) (fun r s' => r = .ok (.ret (.bool true)) ∧ OldK s0.heap s'.heap ∧ s'.os = s0.os ∧ AllBare s'.gens) s0 := by
  have rv : Vals (ns.map V.int) vs := vals_ints hi
  rcases Option.eq_none_or_eq_some (K.lookup a) with kn | ⟨o, kn⟩
  · -- the script is tracked, as an object that nothing changes
    have at_a : (fun b => if b = a then some (HO.frz { cls := .type "list", data := .seq vs.toArray } (.lst (ns.map V.int))) else none : Hp) a = some (.frz { cls := .type "list", data := .seq vs.toArray } (.lst (ns.map V.int))) := if_pos rfl
    have off : ∀ b, b ≠ a → (fun b => if b = a then some (HO.frz { cls := .type "list", data := .seq vs.toArray } (.lst (ns.map V.int))) else none : Hp) b = none := fun b h => if_neg h
    generalize (fun b => if b = a then some (HO.frz { cls := .type "list", data := .seq vs.toArray } (.lst (ns.map V.int))) else none : Hp) = H at at_a off
    have oo : Only H := fun b => by
      by_cases h : b = a
      · subst h
        exact .inr ⟨_, _, at_a⟩
      · exact .inl (off b h)
    refine end_at Ki g1 g2 g3 g4 g5 ea hr F hb oo (fun b h => Classical.byContradiction fun n => h (off b n)) (fun _ => kn) (fun b u z => ?_) (hs H oo (.inl (.inr ⟨_, at_a⟩))) (hX H)
    by_cases h : b = a
    · subst h
      rw [at_a] at z
      cases z
      exact ⟨ea, by rw [List.length_map]; exact hl, vs, _, rv, ea⟩
    · rw [off b h] at z
      cases z
  · -- the script is an object of the module
    have e := Ki a o kn
    rw [ea] at e
    cases e
    have oo : Only (fun _ => none) := fun _ => .inl rfl
    refine end_at Ki g1 g2 g3 g4 g5 ea hr F hb oo (fun b h => (h rfl).elim) (fun h => (h rfl).elim) (fun b u z => nomatch (show (none : Option HO) = some u from z)) (hs _ oo (.inr ⟨_, vs.toArray, _, kn, rfl, rfl, rfl, ?_, by simpa using rv⟩)) (hX _)
    rw [List.size_toArray, ← rv.length, List.length_map]
    exact hl
end
/-- the end: what the law's def promises, at each heap that the top leaves -/
theorem walk_end {l : PySem.W.OpenLaw} {n k : Nat} {q : Program} {loose : List Str} {XP : (Str → Option Value) → Heap → Prop} {YP : World → Heap → Prop} {d : DefRec} {CX : CXT} {x : Str} (most : l.most = some n) (lt : n ≤ sizeLine) (nod : d.params.defaults = []) (room : Room k callerA)
    (F : ∀ (w : World) (mg : Str → Option Value) (fa : Addr) (h : Heap), YP w h → h.Ns mainGlobals mg → mg d.name = some (.ref fa) → ∃ (K : PySem.W.Frag) (fd : FuncData) (sp : Sp), K.In h ∧ (∀ (s : Shared) (u : Value), BindsTo s fd ⟨[u], []⟩ [(x, u)]) ∧
      (∀ (H : Hp) (a : Addr) (ns : List Int), ns.length ≤ n → Only H → SqL K H a (ns.map V.int) → sp [.ref a] H (fun v _ => v = .bl true) fun _ _ _ => False) ∧ ∀ base : Heap, K.In base → base.Ns mainGlobals mg → FnG l.prog w K mg base CX k fa fd [x] sp)
    (hX : ∀ (H : Hp) (s : Shared) (e : Value) (s' : Shared), CX [] H s (fun _ _ _ => False) e s' → False) : PySem.W.WalkO q loose XP YP l.row.toRowW d [] (fun f vs => PySem.call f vs) := by
  refine Att.attach_call most nod fun w s₀ s1 mg mb fa o pm cd doc a vs ns G Y z1 z2 z3 z4 obj its short gens => ?_
  obtain ⟨K, fd, sp, Ki, bd, pr, fn⟩ := F w mg fa _ Y G.T.g z4
  exact end_call Ki G.T.g G.T.b G.T.builtins G.T.nolimit gens obj its (Nat.le_trans short lt) room fn bd (fun H o q => pr H a ns short o q) fun H e s' => hX H s1 e s'
end Og

set_option Elab.async false
set_option linter.all false
set_option maxRecDepth 100000
set_option maxHeartbeats 4000000
/-! A caught exception that stays a value behind its handler: tracked, asked by isinstance, its fields read. -/
namespace Oe
open PySem PySem.Spec PyProof.Rows L2
/-- at a: an exception object of the class cls, its dict at d -/
def ExK (cls : Value) (d : Option Addr) (a : Addr) : HO := .ext fun h => ∃ (oe : Obj) (vs : Array Value), h.get? a = some oe ∧ Zc cls d oe ∧ oe.data = .fields vs
theorem exK_ok {P : Program} {w : World} {H : Hp} {h : Heap} {a : Addr} {cls : Value} {d : Option Addr} {oe : Obj} {vs : Array Value} (e : h.get? a = some oe) (z : Zc cls d oe) (hd : oe.data = .fields vs) : ObjOk P w H h a (ExK cls d a) :=
  ⟨⟨oe, vs, e, z, hd⟩, ⟨oe, e⟩, fun _ _ ⟨o, v, q, r⟩ k => ⟨o, v, k o q, r⟩⟩
section
variable {X : Cx} {pins : List (Addr × Obj)} {σ : L2.St} {H : Hp} {s : Shared}
theorem Inv.track {a : Addr} {cls : Value} {d : Option Addr} {oe : Obj} {vs : Array Value} (I : Inv X pins σ H s) (he : s.heap.get? a = some oe) (hz : Zc cls d oe) (hd : oe.data = .fields vs) (na : H a = none) (n0 : X.s_0.heap.get? a = none) (nL : a ≠ X.env.locals)
    (nc : ∀ y c, X.env.cells.lookup y = some c → c ≠ a) (np : ∀ p ∈ X.pn ++ pins, p.1 ≠ a) : Inv X pins σ (upd H a (ExK cls d a)) s := by
  have ne0 : ∀ b o, X.s_0.heap.get? b = some o → b ≠ a := fun b o e z => by
    rw [z, n0] at e
    cases e
  refine ⟨I.ok, I.os, I.bare, ⟨I.base.keep, I.base.slot, fun b o e n hq => ?_, I.base.there, fun b xs e => ?_, fun b o u e => ?_, fun b ps e => ?_⟩, I.loc, I.cell, ?_, fun x c e => ?_, fun p hp => ?_, I.hok.laidN (fun _ _ q => q) na (exK_ok he hz hd), I.len⟩
  · rw [upd_ne (ne0 b o e)]
    exact I.base.free b o e n hq
  · have q := I.base.tups b xs e
    rw [upd_ne (ne_of_none q na)]
    exact q
  · have q := I.base.frzs b o u e
    rw [upd_ne (ne_of_none q na)]
    exact q
  · obtain ⟨m, q⟩ := I.base.tbls b ps e
    exact ⟨m, by rw [upd_ne (ne_of_none q na)]; exact q⟩
  · rw [upd_ne (Ne.symm nL)]
    exact I.free
  · rw [upd_ne (nc x c e)]
    exact I.freeC x c e
  · obtain ⟨e, n, ne, nf, d⟩ := I.pin p hp
    exact ⟨e, by rw [upd_ne (np p hp)]; exact n, ne, nf, d⟩
end
/-- what 'except x as n: m = n' wishes of an exception of the body: x's class takes it, slot j is m's, and the exception stays a value -/
def wHeld (K : PySem.W.Frag) (c : Value) (i j n : Nat) (D : Ends) : WX := fun cls d σ H =>
  PySem.W.exmOne K cls c = some true ∧ ∀ a, H a = none → σ.length = n → D.nx (((σ.set i (some (.ref a))).set j (some (.ref a))).set i none) (upd H a (ExK cls d a))
section
variable {X : Cx} {x n m : Str} {c : Value} {i j : Nat} {body : List Stmt} {q1 q2 q3 np pos pos' : Pos} {tb : WX → TS}
/-- try: body / except x as n: m = n, every exception of the body one that x takes -/
theorem ps_try_held (hex : X.ex = []) (hs : X.stack = X.env :: X.outer) (hf : X.env.frame = some X.env.locals) (hN : X.N.Nodup) (hi : X.N[i]? = some n) (hj : X.N[j]? = some m) (hln : X.env.kindOf n = some .local) (hlm : X.env.kindOf m = some .local) (hc : Names X x c)
    (hb : ∀ (W : WX) (pn : List (Addr × Obj)) (xe : Value → Shared → Prop), Takes (X.tr pn xe) W → PassesOwn (model X.prog X.w) X.A X.env xe → PSs (X.tr pn xe) body (tb W))
    (hsu : ∀ (a : Addr) (oe : Obj) (pn : List (Addr × Obj)), PSs (X.suite a ((a, oe) :: pn)) [.Assign [.Name m q1] (.Name n q2) q3] (tAsg (tVar i) (gName j))) :
    PS X (.Try body [.ExceptHandler (some (.Name x np)) (some n) [.Assign [.Name m q1] (.Name n q2) q3] pos'] [] [] pos) (fun D σ H => tb (wHeld X.K c i j X.N.length D) D σ H) := by
  refine ⟨fun pins s σ H D I h => ?_⟩
  have ok := I.ok
  have hfr : X.A.frames = some (X.env :: X.outer) := by rw [ok.frames, hs]
  refine wpAny_Try_except ?_
  let land : Value → Shared → Prop := fun e t => wpAny (model X.prog X.w) X.A (noteFrame e X.env) (fun _ t2 => wpAny (model X.prog X.w) X.A (setFlight e none) (fun _ t3 =>
    wpAny (model X.prog X.w) X.A (handleBy e X.env [.ExceptHandler (some (.Name x np)) (some n) [.Assign [.Name m q1] (.Name n q2) q3] pos']) (SP X pins D) X.xe t3) X.xe t2) X.xe t
  have tk : Takes (X.tr (X.pn ++ pins) land) (wHeld X.K c i j X.N.length D) := fun u s' xx => ?caught
  refine wpAny_mono ((hb (wHeld X.K c i j X.N.length D) (X.pn ++ pins) land tk PassesOwn.looking).run [] s σ H D (I.toTry _) h) (fun f s1 hsp => ?through) (fun e s1 he => he)
  case through =>
    cases f with
    | next => exact hsp.elim fun σ' z => z.elim fun H' y => wpAny_execs_nil ⟨σ', H', y.1.ofTry ok, y.2⟩
    | brk => exact hsp.elim fun σ' z => z.elim fun H' y => ⟨σ', H', y.1.ofTry ok, y.2⟩
    | cont => exact hsp.elim fun σ' z => z.elim fun H' y => ⟨σ', H', y.1.ofTry ok, y.2⟩
    | ret u => exact hsp.elim fun v z => z.elim fun σ' y => y.elim fun H' x => ⟨v, σ', H', x.1.ofTry ok, x.2⟩
  case caught =>
    obtain ⟨a, B, sI, pins', σ', H', cls, d, rfl, J', nb, up, sky, na, os, ag, hx1, hyes⟩ := xx
    have J : Inv X pins σ' H' sI := J'.ofTry ok
    rw [show X.stack = X.env :: X.outer from hs] at nb
    show land (.ref a) s'
    refine Sky.land Zc.steady hfr hf (show Sky B (X.env :: X.outer) a (Zc cls d) X.env.locals s'.heap by rw [← hs]; exact sky) fun h3 fl3 up3 => ?_
    -- where the exception lies: no frame, not there at the entry
    have far : ∀ {h : Heap}, HandSPX.FlyingZ B (X.env :: X.outer) a (Zc cls d) h → a ∉ frs (X.env :: X.outer) := fun fl hm => by
      obtain ⟨oe, vs, e, _, dd⟩ := fl.there
      obtain ⟨_, o', e', hnf⟩ := fl.2.2.1.mem hm
      rw [e] at e'
      cases e'
      exact hnf _ dd
    have nfr := far fl3
    have nL : a ≠ X.env.locals := fun z => nfr (List.mem_filterMap.mpr ⟨X.env, List.mem_cons_self, by rw [hf, z]⟩)
    have nF : a ∉ X.fs := fun hm => by
      obtain ⟨e, he, q⟩ := List.mem_filterMap.mp hm
      exact nfr (List.mem_filterMap.mpr ⟨e, List.mem_cons_of_mem _ he, q⟩)
    have s0 : sI.heap.get? a = none := by
      cases z : sI.heap.get? a with
      | none => rfl
      | some o =>
        have z2 := nb a o z nfr
        rw [fl3.2.1] at z2
        cases z2
    have gone : ∀ {b : Addr} {o : Obj}, sI.heap.get? b = some o → b ≠ a := fun {b o} e z => by
      rw [z, s0] at e
      cases e
    have n0 : X.s_0.heap.get? a = none := by
      cases z : X.s_0.heap.get? a with
      | none => rfl
      | some o =>
        obtain ⟨o', z2⟩ := J.base.there a o z (by rw [hex]; exact fun z => nomatch z)
        exact absurd rfl (gone z2)
    obtain ⟨oe3, vs3, he3, hz3, hd3⟩ := fl3.there
    have back : ∀ {h4 : Heap}, HandSPX.FlyingZ B (X.env :: X.outer) a (Zc cls d) h4 → sI.heap.UpToSlots h4 → Inv X pins σ' H' { s' with heap := h4 } := fun fl u => J.landed (by rw [hs]; exact nb) fl.1 u os ag
    have J3 := back fl3 (up.trans up3)
    have S3 := J3.suite he3 hd3 na nL nF
    -- the class fits
    refine wpAny_handleBy_cons (codeAny_handlers_test ?_) (by intro q; cases q)
    have LT : PySem.W.Looks (model X.prog X.w) h3 (typeOf (.ref a)) cls := fun A Q E s k q => wpAny_typeOf_ref (k _ _ he3) (by rw [hz3.1]; exact q)
    have fits := PySem.W.exm_one (M := model X.prog X.w) J3.kIn LT hx1
    have named : ∀ {Q E : Value → Shared → Prop}, Q c { s' with heap := h3 } → wpAny (model X.prog X.w) (X.A.mark (some (.ref a))) (eval (.Name x np) X.env) Q E { s' with heap := h3 } := fun {Q E} q => by
      obtain ⟨hg, hdbg, hm | ⟨hm, hv, hnn⟩⟩ := hc
      · exact ld_glob (X := X.suite a ((a, oe3) :: (X.pn ++ pins))) S3 hg hm q hdbg
      · exact ld_blt (X := X.suite a ((a, oe3) :: (X.pn ++ pins))) S3 hg hm hv q hnn hdbg
    refine named (fits.here (codeAny_handlers_suite_as (HandSPX.lands_againZ fl3 fun h4 fl4 up4 => ?_)))
    obtain ⟨oe4, vs4, he4, hz4, hd4⟩ := fl4.there
    have S4 := (back fl4 ((up.trans up3).trans up4)).suite he4 hd4 na nL nF
    refine store_ok (X := X.suite a ((a, oe4) :: (X.pn ++ pins))) (v := .ref a) S4 hN hi (.inl hln) rfl (fun s5 S5 => ?_) (.inr hln)
    refine wpAny_mono ((hsu a oe4 (X.pn ++ pins)).run [] s5 _ H' { nx := fun σ6 H6 => σ6 = (σ'.set i (some (.ref a))).set j (some (.ref a)) ∧ H6 = H', rt := fun _ _ => False, bk := fun _ _ => False, ct := fun _ _ => False } S5 ?_) (fun f s6 hsp => ?_) (fun _ _ z => False.elim z)
    · have li : i < σ'.length := by
        rw [J.len]
        exact (List.getElem?_eq_some_iff.mp hi).1
      exact ⟨.ref a, List.getElem?_set_self li, rfl, rfl⟩
    cases f with
    | brk => exact hsp.elim fun _ z => z.elim fun _ y => y.2.elim
    | cont => exact hsp.elim fun _ z => z.elim fun _ y => y.2.elim
    | ret u => exact hsp.elim fun _ w => w.elim fun _ z => z.elim fun _ y => y.2.2.elim
    | next =>
      obtain ⟨σ6, H6, S6, rfl, rfl⟩ := hsp
      have hp6 := S6.pin (a, oe4) (List.mem_append_left _ List.mem_cons_self)
      have T6 := Inv.track (S6.unsuite ok) hp6.1 hz4 hd4 na n0 nL (fun y c e => (J.cell y c e).elim fun v z => z.elim fun o z2 => gone z2.1) fun p hp => gone (J.pin p hp).1
      exact gone_ok T6 hN hi hln fun s7 J7 => ⟨_, _, J7, hyes a na J.len⟩
end
/-! ### isinstance of it, a field of it -/
section
variable {X : Cx}
/-- isinstance(x, c), x an exception value of the own class D -/
def rIsX (K : PySem.W.Frag) : List V → Hp → VK → Prop := fun xs H Q => ∃ (a D : Addr) (d : Option Addr) (c : V) (cv : Value) (b : Bool), xs = [.ref a, c] ∧ H a = some (ExK (.ref D) d a) ∧ (∀ dd, d = some dd → ∃ fs, H dd = some (.xd fs)) ∧ L2.ExcC K D ∧ (∀ u, RelV c u → u = cv) ∧ PySem.W.kitOne K (.ref D) cv = some b ∧ Q (.bl b) H
theorem exK_at {P : Program} {w : World} {H : Hp} {h : Heap} {a : Addr} {cls : Value} {d : Option Addr} (hok : HOk P w H h) (he : H a = some (ExK cls d a)) : ∃ (oe : Obj) (vs : Array Value), h.get? a = some oe ∧ Zc cls d oe ∧ oe.data = .fields vs := by
  have x : ObjOk P w H h a (.ext fun h => ∃ (oe : Obj) (vs : Array Value), h.get? a = some oe ∧ Zc cls d oe ∧ oe.data = .fields vs) := hok a _ he
  exact x.1
/-- the object of a dict of an exception -/
theorem xd_obj {P : Program} {w : World} {H : Hp} {h : Heap} {dd : Addr} {fs : List (Str × V)} (hok : HOk P w H h) (e : H dd = some (.xd fs)) : ∃ mA, h.Ns1 dd mA ∧ ∀ f, RelO (fs.lookup f) (mA f) := by
  have hx : ObjOk P w H h dd (.xd fs) := hok dd _ e
  obtain ⟨mA, hns, hr⟩ := hx
  exact ⟨mA, hns, hr⟩
theorem exK_inst {P : Program} {w : World} {H : Hp} {h : Heap} {a D : Addr} {d : Option Addr} (hok : HOk P w H h) (he : H a = some (ExK (.ref D) d a)) (hd : ∀ dd, d = some dd → ∃ fs, H dd = some (.xd fs)) : ∃ oe od, PySem.W.InstAt h a oe D od := by
  obtain ⟨oe, vs, e1, hz, e2⟩ := exK_at hok he
  cases d with
  | none => exact ⟨oe, none, e1, hz.1, by unfold PySem.W.notCls; rw [e2] <;> rfl, by rw [hz.2]; trivial⟩
  | some dd =>
    obtain ⟨fs, ed⟩ := hd dd rfl
    obtain ⟨mA, hns, _⟩ := xd_obj hok ed
    obtain ⟨od, es, ep, ho, _⟩ := hns
    exact ⟨oe, some od, e1, hz.1, by unfold PySem.W.notCls; rw [e2] <;> rfl, by rw [hz.2]; exact ho⟩
theorem call_isX : CallR X (.builtin "isinstance") (rIsX X.K) := by
  intro pins s σ H xs us Q I r h
  obtain ⟨a, D, d, c, cv, b, rfl, he, hd, C, hcv, e, q⟩ := h
  cases r with
  | cons rx rr =>
    cases rr with
    | cons rt rr =>
      cases rr
      cases rx
      have ec := hcv _ rt
      subst ec
      obtain ⟨oe, od, J⟩ := exK_inst I.hok he hd
      have hcl : (PySem.W.clsIn X.K D).isSome = true := by
        obtain ⟨cd, hc, _⟩ := PySem.W.any_some C.hd
        rw [hc]
        rfl
      exact PySem.W.kia_one (PySem.W.kitx_exc hcl C.hg C.hk C.hs C.ha C.hn C.ht C.hm) I.kIn J e (fun z => nomatch z) fun tk => ⟨.bl b, H, I.kept (t' := tk) fun _ _ z => z, rfl, q⟩
/-- x.f, x an exception value of the own class C -/
def tXk (K : PySem.W.Frag) (f : Str) (te : TE) : TE := fun σ H Q => te σ H fun x H1 => ∃ (a C dd : Addr) (fs : List (Str × V)) (v : V), x = .ref a ∧ H1 a = some (ExK (.ref C) (some dd) a) ∧ H1 dd = some (.xd fs) ∧ XfC K C ∧ PySem.W.findIn K (.ref C) f = some none ∧ fs.lookup f = some v ∧ Q v H1
theorem pe_xk {e : Expr} {te : TE} {pos : Pos} {n : Str} (he : PE X e te) (hb : attributeBase e n X.env (eval e X.env) = eval e X.env := by rfl) : PE X (.Attribute e n pos) (tXk X.K n te) := by
  refine ⟨fun pins s σ H Q I h => ?_⟩
  refine attr_of hb (thn (he.run pins s σ H _ I h) fun u s1 hh => ?_)
  obtain ⟨x, H1, I1, rx, a, C, dd, fs, v, ex, ea, ed, T, hno, l, q⟩ := hh
  subst ex
  obtain rfl : u = Value.ref a := rx
  obtain ⟨oe, vs, e1, hz, e2⟩ := exK_at I1.hok ea
  obtain ⟨mA, hns, hr⟩ := xd_obj I1.hok ed
  obtain ⟨od, ho, hl⟩ := lookIn_ns hns
  obtain ⟨u, hu, ru⟩ := RelO.some_of (v := v) (o := mA n) (by rw [← l]; exact hr n)
  have J : PySem.W.InstAt s1.heap a oe C (some od) := ⟨e1, hz.1, by unfold PySem.W.notCls; rw [e2] <;> rfl, by rw [hz.2]; exact ho⟩
  exact HandSPX.exc_get I1.kIn J T.ga T.gg T.exC (PySem.W.findObj_own T.hdC hno rfl (by rw [hl, hu])) (handed_of ru) ⟨v, H1, I1.tok _, ru, q⟩
end
end Oe

set_option Elab.async false
set_option linter.all false
set_option maxRecDepth 100000
set_option maxHeartbeats 4000000
/-! x op= y of an own class that has op alone. -/
namespace Oi
open PySem PySem.W PySem.Calls PyProof.Rows
section
variable {prog : Program} {w : World} {A : Around} {E : Value → Shared → Prop} {s : Shared} {K : Frag} {x C L f : Addr} {h₀ : Heap} {m : Str → Option Value} {ox : Obj} {od : Option Obj} {nm : String}
/-- the class has no method in place, nor has its one base -/
theorem no_inplace {M : Model} {h : Heap} {cd : ClassData} {add : Bool} (X : K.In h) (hc : clsIn K C = some cd) (hm : cd.mro = [.ref C, .type "object"]) (h1 : findIn K (.ref C) (dunderI nm) = some none) (h2 : findIn K (.type "object") (dunderI nm) = some none) :
    Looks M h (fillsInplaceSlot (.ref C) nm add) false := by
  intro A Q E s k q
  have Lm : Looks M h (mroOf (.ref C)) cd.mro := (looks_clsIn X hc).andThen (f := fun cd => pure cd.mro) .now
  have Lm' := Lm.keeps k
  obtain ⟨hh, g, d, tt, os⟩ := s
  have X' : K.In hh := X.keeps k
  have L1 : Looks M hh (typeLookup (.ref C) (dunderI nm)) none := looks_findIn X' h1
  have L2 : Looks M hh (typeLookup (.type "object") (dunderI nm)) none := looks_findIn X' h2
  unfold fillsInplaceSlot
  refine wpAny_bind (Lm'.at ?_)
  rw [hm, List.anyM_cons]
  refine wpAny_bind ?_
  refine wpAny_bind (L1.at ?_)
  refine wpAny_pure ?_
  rw [List.anyM_cons]
  refine wpAny_bind ?_
  refine wpAny_bind (L2.at ?_)
  refine wpAny_pure ?_
  exact wpAny_pure q
theorem inplace_by {op : Operator} {b : Value} {Q : Value → Shared → Prop} {cd : ClassData} (F : Fr h₀ L s.heap m) (X₀ : K.In h₀) (I : InstAt s.heap x ox C od) (hb : Looks (model prog w) s.heap (typeOf b) (.ref C)) (hcd : clsIn K C = some cd) (hm : cd.mro = [.ref C, .type "object"])
    (n1 : findIn K (.ref C) (dunderI op.info.2) = some none) (n2 : findIn K (.type "object") (dunderI op.info.2) = some none) (hs : findIn K (.ref C) (PySem.dunder op.info.2) = some (some (.ref f))) (hf : isFn K (.ref f) = true)
    (h : wpAny (model prog w) A (call (.ref f) [.ref x, b]) (PySem.W.CmpBack Q) E s) : wpAny (model prog w) A (inplaceOp op (.ref x) b) Q E s := by
  have X := X₀.keeps F.keep
  unfold inplaceOp
  refine wpAny_holding (wpAny_bind (I.type.here (wpAny_bind ((no_inplace X hcd hm n1 n2).here ?_))))
  simp only [Bool.false_eq_true, if_false]
  refine wpAny_bind (m := binaryOp1 op.info.2 (.ref x) b) ?_
  unfold binaryOp1
  refine wpAny_bind (I.type.here (wpAny_bind (hb.here (wpAny_bind ((fills_K X hcd hm hs).here ?_)))))
  simp only [beq_self_eq_true, if_true]
  refine wpAny_bind (wpAny_pure ?_)
  simp only [Bool.and_false, Bool.false_eq_true, if_false, Bool.false_and]
  refine wpAny_bind (wpAny_pure ?_)
  simp only [Bool.false_eq_true, if_false]
  refine wpAny_bind (m := tryMethod (.ref x) _ b) ?_
  unfold tryMethod
  refine wpAny_bind (special_fn X I hs (beq_iff_eq.mp hf) (wpAny_mono h (fun v s' hv => ?_) fun _ _ e => e))
  cases v <;> first | exact hv.elim | exact wpAny_pure (wpAny_pure (wpAny_pure hv))
end
end Oi

set_option Elab.async false
set_option linter.all false
set_option maxRecDepth 100000
set_option maxHeartbeats 4000000
/-! x op= y of an own class that has op alone, over the hand layer; parallel assignment of pairs. -/
namespace Oi
open PySem PySem.Spec PyProof.Rows L2 Ow
/-- the class stands right below object, and neither has the method in place -/
structure NoIn (K : PySem.W.Frag) (C : Addr) (nm : Str) : Prop where
  mro : ∃ cd, PySem.W.clsIn K C = some cd ∧ cd.mro = [.ref C, .type "object"]
  own : PySem.W.findIn K (.ref C) nm = some none
  obj : PySem.W.findIn K (.type "object") nm = some none
section
variable {X : Cx} {CX : CXT} {C g : Addr} {n : Nat} {sp : Sp} {E : XK}
theorem ip_binO {op : Operator} (N : NoIn X.K C (dunderI op.info.2)) (hs : PySem.W.findIn X.K (.ref C) (PySem.dunder op.info.2) = some (some (.ref g))) (hf : PySem.W.isFn X.K (.ref g) = true) (F : FnR X.prog X.w X.K X.mg X.base CX n g sp)
    (hr : Room n X.A) (hx : Passes CX X E) : PIp X op (rBinO C sp E) := by
  intro pins s σ H x y v u Q I rx ry h
  obtain ⟨a, dx, fs, b, dy, gs, rfl, rfl, ha, hb, q⟩ := h
  obtain ⟨cd, k1, k2⟩ := N.mro
  cases (show v = Value.ref a from rx)
  cases (show u = Value.ref b from ry)
  obtain ⟨ox, od, J, _⟩ := StX.insC_at (X := X) I (.inr ⟨dx, fs, ha⟩)
  obtain ⟨ox', od', J', _⟩ := StX.insC_at (X := X) I (.inr ⟨dy, gs, hb⟩)
  obtain ⟨m, hF⟩ := I.fr
  refine inplace_by (op := op) hF I.ok.mod.kin J J'.type k1 k2 N.own N.obj hs hf (wpAny_mono (wpAny_call (run_fnR (us := [.ref a, .ref b]) (vs := [.ref a, .ref b]) F hr hx I (.cons rfl (.cons rfl .nil)) q)) (fun w s' z => ?_) fun _ _ e => e)
  obtain ⟨z', H', I', rz, qz⟩ := z
  exact SlX.cmpback rz ⟨z', H', I', rz, qz⟩
end
end Oi

set_option Elab.async false
set_option linter.all false
set_option maxRecDepth 100000
set_option maxHeartbeats 4000000
/-! x op y and x op= y, x of an own class, y of a built-in type. -/
namespace Ox
open PySem PySem.W PySem.Calls PyProof.Rows
section
variable {prog : Program} {w : World} {A : Around} {E : Value → Shared → Prop} {s : Shared} {K : Frag} {x C L f : Addr} {h₀ : Heap} {m : Str → Option Value} {ox : Obj} {od : Option Obj} {nm T : String}
/-- what is asked of the built-in type on the right -/
structure RtX (K : Frag) (C : Addr) (nm T : String) : Prop where
  fo : ∃ fo, findIn K (.type T) (PySem.dunder nm) = some fo
  ro : ∃ ro, findIn K (.type T) (dunderR nm) = some ro
  sub : subIn K (.type T) (.ref C) = some false
theorem bin1T {b : Value} {rc : Option Value} {Q : Option Value → Shared → Prop} (X : K.In s.heap) (I : InstAt s.heap x ox C od) (hb : Looks (model prog w) s.heap (typeOf b) (.type T)) (hc : selfFirst K C = true)
    (hs : findIn K (.ref C) (PySem.dunder nm) = some (some (.ref f))) (hf : isFn K (.ref f) = true) (hr : findIn K (.ref C) (dunderR nm) = some rc) (hp : rc = none ∨ ∃ g : Addr, rc = some (.ref g)) (R : RtX K C nm T)
    (h : wpAny (model prog w) A (call (.ref f) [.ref x, b]) (PySem.W.CmpBack fun v s' => Q (some v) s') E s) : wpAny (model prog w) A (binaryOp1 nm (.ref x) b) Q E s := by
  obtain ⟨cd, rest, hcd, hm⟩ := ksp_first hc
  obtain ⟨fo, h1⟩ := R.fo
  obtain ⟨ro, h2⟩ := R.ro
  have one := ksp_try X I hs hf h
  obtain ⟨hh, g, d, tt, os⟩ := s
  have L1 : Looks (model prog w) hh (typeOf (.ref x)) (.ref C) := I.type
  have L2 : Looks (model prog w) hh (typeOf b) (.type T) := hb
  have L3 : Looks (model prog w) hh (fillsNumberSlot (.ref C) nm) true := fills_K X hcd hm hs
  have L4 : Looks (model prog w) hh (fillsNumberSlot (.type T) nm) ((fo.isSome && !isSeqSlot fo) || (ro.isSome && !isSeqSlot ro)) := ksp_fillsT X h1 h2
  have L5 : Looks (model prog w) hh (isSubtype (.type T) (.ref C)) false := looks_subIn X R.sub
  have L6 : Looks (model prog w) hh (numberSlotInPython (.ref C) nm) true := ksp_inPy X hs hr hp
  have L7 : Looks (model prog w) hh (numberSlotInPython (.type T) nm) false := Looks.of_pure rfl
  have L8 : Looks (model prog w) hh (typeLookup (.type T) (dunderR nm)) ro := looks_findIn X h2
  generalize ((fo.isSome && !isSeqSlot fo) || (ro.isSome && !isSeqSlot ro)) = right at L4
  have hne : (Value.ref C == Value.type T) = false := Bool.eq_false_iff.mpr fun q => by cases beq_iff_eq.mp q
  unfold binaryOp1
  refine wpAny_bind (L1.at (wpAny_bind (L2.at (wpAny_bind (L3.at ?_)))))
  simp only [hne, Bool.false_eq_true, if_false]
  cases right with
  | false =>
    ksp_lk
    refine wpAny_mono one (fun r s' hr' => ?_) fun _ _ e => e
    obtain ⟨v, rfl, hq⟩ := hr'
    ksp_lk
    exact hq
  | true =>
    ksp_lk
    refine wpAny_mono one (fun r s' hr' => ?_) fun _ _ e => e
    obtain ⟨v, rfl, hq⟩ := hr'
    ksp_lk
    exact hq
theorem binT {op : Operator} {b : Value} {rc : Option Value} {Q : Value → Shared → Prop} (X : K.In s.heap) (I : InstAt s.heap x ox C od) (hb : Looks (model prog w) s.heap (typeOf b) (.type T)) (hc : selfFirst K C = true)
    (hs : findIn K (.ref C) (PySem.dunder op.info.2) = some (some (.ref f))) (hf : isFn K (.ref f) = true) (hr : findIn K (.ref C) (dunderR op.info.2) = some rc) (hp : rc = none ∨ ∃ g : Addr, rc = some (.ref g)) (R : RtX K C op.info.2 T)
    (h : wpAny (model prog w) A (call (.ref f) [.ref x, b]) (PySem.W.CmpBack Q) E s) : wpAny (model prog w) A (binaryOp op (.ref x) b) Q E s := by
  rcases hi : op.info with ⟨sym, nm'⟩
  rw [hi] at hs hr R
  simp only [binaryOp, hi]
  refine wpAny_holding (wpAny_bind ?_)
  refine bin1T X I hb hc hs hf hr hp R (wpAny_mono h (fun v s' z => ?_) fun _ _ e => e)
  cases v <;> first | exact z.elim | exact wpAny_pure z
theorem ipT {op : Operator} {b : Value} {rc : Option Value} {cd : ClassData} {Q : Value → Shared → Prop} (X : K.In s.heap) (I : InstAt s.heap x ox C od) (hb : Looks (model prog w) s.heap (typeOf b) (.type T)) (hc : selfFirst K C = true) (hcd : clsIn K C = some cd) (hm : cd.mro = [.ref C, .type "object"])
    (n1 : findIn K (.ref C) (dunderI op.info.2) = some none) (n2 : findIn K (.type "object") (dunderI op.info.2) = some none)
    (hs : findIn K (.ref C) (PySem.dunder op.info.2) = some (some (.ref f))) (hf : isFn K (.ref f) = true) (hr : findIn K (.ref C) (dunderR op.info.2) = some rc) (hp : rc = none ∨ ∃ g : Addr, rc = some (.ref g)) (R : RtX K C op.info.2 T)
    (h : wpAny (model prog w) A (call (.ref f) [.ref x, b]) (PySem.W.CmpBack Q) E s) : wpAny (model prog w) A (inplaceOp op (.ref x) b) Q E s := by
  unfold inplaceOp
  refine wpAny_holding (wpAny_bind (I.type.here (wpAny_bind ((Oi.no_inplace X hcd hm n1 n2).here ?_))))
  simp only [Bool.false_eq_true, if_false]
  refine wpAny_bind (m := binaryOp1 op.info.2 (.ref x) b) ?_
  refine bin1T X I hb hc hs hf hr hp R (wpAny_mono h (fun v s' z => ?_) fun _ _ e => e)
  cases v <;> first | exact z.elim | exact wpAny_pure z
end
end Ox
namespace Ox
open PySem PySem.Spec PyProof.Rows L2 Ow Oi
section
variable {X : Cx} {CX : CXT} {C g : Addr} {n : Nat} {sp : Sp} {E : XK}
/-- x op y, x an instance of the class at C, y of a built-in type -/
def rBinX (K : PySem.W.Frag) (C : Addr) (nm : String) (sp : Sp) (E : XK) : R2 := fun x y H Q => ∃ a dx fs T, x = .ref a ∧ H a = some (.ins C dx fs) ∧ TyX K H y (.type T) ∧ RtX K C nm T ∧ sp [x, y] H Q E
theorem op_binX {op : Operator} {rc : Option Value} (hc : PySem.W.selfFirst X.K C = true) (hs : PySem.W.findIn X.K (.ref C) (PySem.dunder op.info.2) = some (some (.ref g))) (hf : PySem.W.isFn X.K (.ref g) = true) (hr' : PySem.W.findIn X.K (.ref C) (dunderR op.info.2) = some rc) (hp : rc = none ∨ ∃ g : Addr, rc = some (.ref g))
    (F : FnR X.prog X.w X.K X.mg X.base CX n g sp) (hr : Room n X.A) (hx : Passes CX X E) : OpR X (binaryOp op) (rBinX X.K C op.info.2 sp E) := by
  intro pins s σ H x y v u Q I rx ry h
  obtain ⟨a, dx, fs, T, rfl, ha, ty, R, q⟩ := h
  cases (show v = Value.ref a from rx)
  obtain ⟨ox, od, J, _⟩ := StX.insC_at (X := X) I (.inr ⟨dx, fs, ha⟩)
  obtain ⟨P, kit, hP, _⟩ := kit_of I ry ty
  refine binT I.kIn J (kit.ty _ _ I.kIn hP) hc hs hf hr' hp R ?_
  refine wpAny_mono (wpAny_call (run_fnR (us := [.ref a, u]) (vs := [.ref a, y]) F hr hx I (.cons rfl (.cons ry .nil)) q)) (fun w s' z => ?_) fun _ _ x => x
  obtain ⟨z', H', I', rz, qz⟩ := z
  exact SlX.cmpback rz ⟨z', H', I', rz, qz⟩
theorem ip_binX {op : Operator} {rc : Option Value} (N : NoIn X.K C (dunderI op.info.2)) (hc : PySem.W.selfFirst X.K C = true) (hs : PySem.W.findIn X.K (.ref C) (PySem.dunder op.info.2) = some (some (.ref g))) (hf : PySem.W.isFn X.K (.ref g) = true) (hr' : PySem.W.findIn X.K (.ref C) (dunderR op.info.2) = some rc) (hp : rc = none ∨ ∃ g : Addr, rc = some (.ref g))
    (F : FnR X.prog X.w X.K X.mg X.base CX n g sp) (hr : Room n X.A) (hx : Passes CX X E) : PIp X op (rBinX X.K C op.info.2 sp E) := by
  intro pins s σ H x y v u Q I rx ry h
  obtain ⟨a, dx, fs, T, rfl, ha, ty, R, q⟩ := h
  obtain ⟨cd, k1, k2⟩ := N.mro
  cases (show v = Value.ref a from rx)
  obtain ⟨ox, od, J, _⟩ := StX.insC_at (X := X) I (.inr ⟨dx, fs, ha⟩)
  obtain ⟨P, kit, hP, _⟩ := kit_of I ry ty
  refine ipT I.kIn J (kit.ty _ _ I.kIn hP) hc k1 k2 N.own N.obj hs hf hr' hp R ?_
  refine wpAny_mono (wpAny_call (run_fnR (us := [.ref a, u]) (vs := [.ref a, y]) F hr hx I (.cons rfl (.cons ry .nil)) q)) (fun w s' z => ?_) fun _ _ e => e
  obtain ⟨z', H', I', rz, qz⟩ := z
  exact SlX.cmpback rz ⟨z', H', I', rz, qz⟩
end
end Ox

set_option Elab.async false
set_option linter.all false
set_option maxRecDepth 100000
set_option maxHeartbeats 4000000
/-! The end of a law whose def makes lambdas and asks that no repr is under way. -/
namespace Oq
open PySem PySem.Spec PyProof.Rows L2 Ow Og LamX
section
variable {P : Program} {w : World} {K : PySem.W.Frag} {mg mb : Str → Option Value} {CX : CXT} {k : Nat} {fa a : Addr} {fd : FuncData} {x : Str} {sp : Sp} {s0 : Shared} {vs : List Value} {ns : List Int} {cs : List (Addr × Addr)}
abbrev tab0 : Obj := { cls := .none, data := .fields #[] }
/-- what is tracked at the law's call: the script, as an object that nothing changes, and the empty tables -/
def Few (H : Hp) (a : Addr) (cs : List (Addr × Addr)) : Prop := ∀ b, H b = none ∨ (b = a ∧ ∃ ob xs, H b = some (.frz ob (.lst xs))) ∨ ((∃ p ∈ cs, b = p.2) ∧ H b = some (.tbl #[]))
theorem endT_at {H : Hp} (Ki : K.In s0.heap) (g1 : s0.heap.Ns mainGlobals mg) (g2 : s0.heap.Ns builtinsNs mb) (g3 : ∀ x : Str, x ≠ "__name__" → mb x = bootBuiltins x) (g4 : s0.heap.NoLimit) (g5 : s0.gens = #[])
    (tb : ∀ p ∈ cs, s0.heap.get? p.2 = some tab0) (C : ∀ p ∈ cs, PySem.W.CodeHd s0.heap p.1 p.2)
    (mo : ∃ (bm : Addr) (ob : Obj), mg "__builtins__" = some (.ref bm) ∧ bm ≠ builtinsNs ∧ s0.heap.get? bm = some ob ∧ ob.cls = .type "module" ∧ ob.dict = some builtinsNs ∧ ob.data = .plain)
    (ea : s0.heap.get? a = some { cls := .type "list", data := .seq vs.toArray }) (hr : Room k callerA) (F : ∀ base : Heap, K.In base → base.Ns mainGlobals mg → (∀ p ∈ cs, TabB base mg p.1 p.2) → FnG P w K mg base CX k fa fd [x] sp)
    (hb : ∀ (s : Shared) (u : Value), BindsTo s fd ⟨[u], []⟩ [(x, u)]) (few : Few H a cs) (own : ∀ b, H b ≠ none → K.lookup b = none) (hok : HOk P w H s0.heap) (hs : sp [.ref a] H (fun v _ => v = .bl true) fun _ _ _ => False)
    (hX : ∀ e s', CX [] H s0 (fun _ _ _ => False) e s' → False) :
    codeAny (model P w) callerA (.call (.ref fa) ⟨[.ref a], []⟩) (fun r s' => r = .ok (.ret (.bool true)) ∧ OldK s0.heap s'.heap ∧ s'.os = s0.os ∧ AllBare s'.gens) s0 := by
  -- neither a list nor an empty table: not tracked
  have loose : ∀ {b : Addr} {o : Obj}, s0.heap.get? b = some o → (∀ us n, o.data ≠ .seq us n) → o.data ≠ .fields #[] → H b = none := by
    intro b o e h1 h2
    rcases few b with z | ⟨rfl, _⟩ | ⟨⟨p, hp, rfl⟩, _⟩
    · exact z
    · rw [ea] at e
      cases e
      exact absurd rfl (h1 _ _)
    · rw [tb p hp] at e
      cases e
      exact absurd rfl h2
  have dict : ∀ {b : Addr} {o : Obj} {es : Array DictEntry} {ep : Nat}, s0.heap.get? b = some o → o.data = .dict es ep → H b = none := fun e d =>
    loose e (fun us n z => by rw [d] at z; cases z) (fun z => by rw [d] at z; cases z)
  have names : ∀ {b : Addr} {m : Str → Option Value}, s0.heap.Ns b m → (hidT s0.heap H).Ns b m := by
    rintro b m ⟨o, es, ep, e1, e2, r⟩
    exact ⟨o, es, ep, hidT_get e1 (dict e1 e2), e2, r⟩
  have Kb : K.In (hidT s0.heap H) := fun b o e => hidT_get (Ki b o e) (by
    rcases Option.eq_none_or_eq_some (H b) with z | ⟨y, z⟩
    · exact z
    · rw [own b (by rw [z]; exact Option.some_ne_none _)] at e
      cases e)
  obtain ⟨mc, l1, l2⟩ := g4
  have M : Mod K mg (hidT s0.heap H) := ⟨Kb, names g1, ⟨mb, names g2, g3⟩, ⟨mc, names l1, l2⟩⟩
  have gl : ∃ (o : Obj) (es : Array DictEntry) (ep : Nat), s0.heap.get? mainGlobals = some o ∧ o.data = .dict es ep := by
    obtain ⟨o, es, ep, e, d, _⟩ := id g1
    exact ⟨o, es, ep, e, d⟩
  have TB : ∀ p ∈ cs, TabB (hidT s0.heap H) mg p.1 p.2 := fun p hp => by
    obtain ⟨og, eg, ng, x1, x2⟩ := gl
    obtain ⟨bm, ob, b1, b2, b3, b4, b5, b6⟩ := mo
    obtain ⟨o, us, file, tf, flags, tg, inF, text, tt, c1, c2, c3, c4, c5, c6, c7, c8, c9, c10⟩ := C p hp
    have hc : H p.1 = none := loose c1 (fun us' n z => by rw [c3] at z; cases z) (fun z => by
      rw [c3] at z
      cases z
      cases c4)
    have hbm : H bm = none := loose b3 (fun us' n z => by rw [b6] at z; cases z) (fun z => by rw [b6] at z; cases z)
    refine ⟨⟨o, us, file, tf, flags, tg, inF, text, tt, hidT_get c1 hc, c2, c3, c4, c5, c6, c7, c8, c9, c10⟩, ⟨bm, ob, b1, b2, fun z => ?_, fun z => ?_, hidT_get b3 hbm, b4, b5, b6⟩, fun z => ?_⟩
    · rw [z, x1] at b3
      cases b3
      rw [x2] at b6
      cases b6
    · rw [z, tb p hp] at b3
      cases b3
      cases b6
    · rw [z, tb p hp] at x1
      cases x1
      cases x2
  have e0 : Env0 P w K mg (hidT s0.heap H) callerA [] s0 H := by
    refine ⟨rfl, M, fun b o e => of_hidT e, Nat.le_of_eq (hidT_size _ _), trivial, fun b z => ?_, hok, .of_eq g5⟩
    cases (show b ∈ ([] : List Addr) from z)
  refine codeAny_mono ((F _ Kb (names g1) TB).go (us := [.ref a]) (vs := [.ref a]) hr rfl e0 (hb s0 (.ref a)) (.cons (show RelV (.ref a) (.ref a) from rfl) .nil) hs) fun r s' z => ?_
  cases r with
  | error e => exact (hX e s' z).elim
  | ok fl =>
    cases fl with
    | ret u =>
      obtain ⟨v, H', os, bare, un, hok', ru, y⟩ := z
      obtain rfl : v = .bl true := y
      cases (show u = Value.bool true from ru)
      have fate : ∀ b o, s0.heap.get? b = some o → s'.heap.get? b = some o ∨ ((∃ p ∈ cs, b = p.2) ∧ o = tab0 ∧ ∃ more : Array Value, s'.heap.get? b = some { cls := .none, data := .fields more }) := fun b o e => by
        rcases few b with y | ⟨rfl, ob, xs, y⟩ | ⟨⟨p, hp, rfl⟩, y⟩
        · exact .inl (un.keep b o e y (fun q => nomatch (show b ∈ ([] : List Addr) from q)) (by simp))
        · have e1 := (hok _ _ y).1
          have e2 := (hok' _ _ (un.frzs _ ob _ y)).1
          rw [e] at e1
          cases e1
          exact .inl e2
        · obtain ⟨more, y2⟩ := un.tbls p.2 #[] y
          rw [tb p hp] at e
          cases e
          exact .inr ⟨⟨p, hp, rfl⟩, rfl, _, hok' p.2 _ y2⟩
      refine ⟨rfl, ⟨fun b o e => ?_, fun b o e => ?_⟩, os, bare⟩
      · rcases fate b o e with q | ⟨⟨p, hp, rfl⟩, rfl, more, q⟩
        · exact .inl q
        · exact .inr (.inl ⟨((C p hp).tab (tb p hp)).isCodeTable, rfl, #[], more, rfl, by rw [Array.empty_append]; exact q⟩)
      · rcases fate b o e with q | ⟨_, _, more, q⟩
        · exact ⟨o, q⟩
        · exact ⟨_, q⟩
    | next => exact z.elim
    | brk => exact z.elim
    | cont => exact z.elim
theorem endT_call (Ki : K.In s0.heap) (g1 : s0.heap.Ns mainGlobals mg) (g2 : s0.heap.Ns builtinsNs mb) (g3 : ∀ x : Str, x ≠ "__name__" → mb x = bootBuiltins x) (g4 : s0.heap.NoLimit) (g5 : s0.gens = #[])
    (tb : ∀ p ∈ cs, s0.heap.get? p.2 = some tab0) (nT : ∀ p ∈ cs, K.lookup p.2 = none) (C : ∀ p ∈ cs, PySem.W.CodeHd s0.heap p.1 p.2)
    (mo : ∃ (bm : Addr) (ob : Obj), mg "__builtins__" = some (.ref bm) ∧ bm ≠ builtinsNs ∧ s0.heap.get? bm = some ob ∧ ob.cls = .type "module" ∧ ob.dict = some builtinsNs ∧ ob.data = .plain)
    (ea : s0.heap.get? a = some { cls := .type "list", data := .seq vs.toArray }) (hi : IntsAre vs ns) (hl : ns.length ≤ sizeLine) (hr : Room k callerA) (F : ∀ base : Heap, K.In base → base.Ns mainGlobals mg → (∀ p ∈ cs, TabB base mg p.1 p.2) → FnG P w K mg base CX k fa fd [x] sp)
    (hb : ∀ (s : Shared) (u : Value), BindsTo s fd ⟨[u], []⟩ [(x, u)]) (hs : ∀ H : Hp, (∀ p ∈ cs, H p.2 = some (.tbl #[])) → SqL K H a (ns.map V.int) → sp [.ref a] H (fun v _ => v = .bl true) fun _ _ _ => False)
    (hX : ∀ H e s', CX [] H s0 (fun _ _ _ => False) e s' → False) :
    codeAny (model P w) callerA (.call (.ref fa) ⟨[.ref a], []⟩) (fun r s' => r = .ok (.ret (.bool true)) ∧ OldK s0.heap s'.heap ∧ s'.os = s0.os ∧ AllBare s'.gens) s0 := by
  have rv : Vals (ns.map V.int) vs := vals_ints hi
  -- the tables' part of the abstract heap
  let tH : Hp := fun b => if b ∈ cs.map (·.2) then some (.tbl #[]) else none
  have tIn : ∀ p ∈ cs, tH p.2 = some (.tbl #[]) := fun p hp => if_pos (List.mem_map.mpr ⟨p, hp, rfl⟩)
  have tOf : ∀ b u, tH b = some u → (∃ p ∈ cs, b = p.2) ∧ u = .tbl #[] := fun b u z => by
    by_cases h : b ∈ cs.map (·.2)
    · have z2 := (if_pos h).symm.trans z
      cases z2
      obtain ⟨p, hp, e⟩ := List.mem_map.mp h
      exact ⟨⟨p, hp, e.symm⟩, rfl⟩
    · have z2 := (if_neg h).symm.trans z
      cases z2
  have notA : ∀ p ∈ cs, p.2 ≠ a := fun p hp z => by
    have e := tb p hp
    rw [z, ea] at e
    have z2 : Data.seq vs.toArray _ = Data.fields #[] := congrArg Obj.data (Option.some.inj e)
    cases z2
  rcases Option.eq_none_or_eq_some (K.lookup a) with kn | ⟨o, kn⟩
  · let H : Hp := upd tH a (.frz { cls := .type "list", data := .seq vs.toArray } (.lst (ns.map V.int)))
    have at_a : H a = some (.frz { cls := .type "list", data := .seq vs.toArray } (.lst (ns.map V.int))) := upd_same
    have off : ∀ b, b ≠ a → H b = tH b := fun b h => upd_ne h
    refine endT_at (H := H) Ki g1 g2 g3 g4 g5 tb C mo ea hr F hb (fun b => ?_) (fun b h => ?_) (fun b u z => ?_) (hs H (fun p hp => by rw [off _ (notA p hp)]; exact tIn p hp) (.inl (.inr ⟨_, at_a⟩))) (hX H)
    · by_cases h : b = a
      · subst h
        exact .inr (.inl ⟨rfl, _, _, at_a⟩)
      · rcases Option.eq_none_or_eq_some (tH b) with z | ⟨u, z⟩
        · exact .inl ((off b h).trans z)
        · obtain ⟨q, rfl⟩ := tOf b u z
          exact .inr (.inr ⟨q, (off b h).trans z⟩)
    · by_cases hb : b = a
      · subst hb
        exact kn
      · rcases Option.eq_none_or_eq_some (tH b) with z | ⟨u, z⟩
        · exact absurd ((off b hb).trans z) h
        · obtain ⟨⟨p, hp, rfl⟩, _⟩ := tOf b u z
          exact nT p hp
    · by_cases h : b = a
      · subst h
        rw [at_a] at z
        cases z
        exact ⟨ea, by rw [List.length_map]; exact hl, vs, _, rv, ea⟩
      · obtain ⟨⟨p, hp, rfl⟩, rfl⟩ := tOf b u ((off b h).symm.trans z)
        exact tb p hp
  · have e := Ki a o kn
    rw [ea] at e
    cases e
    refine endT_at (H := tH) Ki g1 g2 g3 g4 g5 tb C mo ea hr F hb (fun b => ?_) (fun b h => ?_) (fun b u z => ?_) (hs tH tIn (.inr ⟨_, vs.toArray, _, kn, rfl, rfl, rfl, ?_, by simpa using rv⟩)) (hX tH)
    · rcases Option.eq_none_or_eq_some (tH b) with z | ⟨u, z⟩
      · exact .inl z
      · obtain ⟨q, rfl⟩ := tOf b u z
        exact .inr (.inr ⟨q, z⟩)
    · rcases Option.eq_none_or_eq_some (tH b) with z | ⟨u, z⟩
      · exact absurd z h
      · obtain ⟨⟨p, hp, rfl⟩, _⟩ := tOf b u z
        exact nT p hp
    · obtain ⟨⟨p, hp, rfl⟩, rfl⟩ := tOf b u z
      exact tb p hp
    · rw [List.size_toArray, ← rv.length, List.length_map]
      exact hl
end
/-- each def of the top has a code object whose table is empty -/
def Tabbed (q : Program) (mg : Str → Option Value) (h : Heap) : Prop := ∀ (nm : Str) (f : Addr), ((recsOf q).any fun e => e.name == nm) = true → mg nm = some (.ref f) →
  ∃ (o : Obj) (fd : FuncData) (c P : Addr), h.get? f = some o ∧ o.data = .func fd ∧ fd.code = .ref c ∧ PySem.W.CodeHd h c P ∧ h.get? P = some tab0
/-- the end, the tables those of the code objects cs -/
theorem walk_endT {l : PySem.W.OpenLaw} {n k : Nat} {q : Program} {loose : List Str} {XP : (Str → Option Value) → Heap → Prop} {YP : World → Heap → Prop} {d : DefRec} {CX : World → CXT} {x : Str} (most : l.most = some n) (lt : n ≤ sizeLine) (nod : d.params.defaults = []) (room : Room k callerA)
    (F : ∀ (w : World) (mg : Str → Option Value) (fa : Addr) (h : Heap), YP w h → Tabbed q mg h → h.Ns mainGlobals mg → mg d.name = some (.ref fa) → ∃ (K : PySem.W.Frag) (fd : FuncData) (cs : List (Addr × Addr)) (sp : Sp), K.In h ∧ (∀ p ∈ cs, h.get? p.2 = some tab0) ∧ (∀ p ∈ cs, K.lookup p.2 = none) ∧ (∀ p ∈ cs, PySem.W.CodeHd h p.1 p.2) ∧ (∀ (s : Shared) (u : Value), BindsTo s fd ⟨[u], []⟩ [(x, u)]) ∧
      (∀ (H : Hp) (a : Addr) (ns : List Int), ns.length ≤ n → (∀ p ∈ cs, H p.2 = some (.tbl #[])) → SqL K H a (ns.map V.int) → sp [.ref a] H (fun v _ => v = .bl true) fun _ _ _ => False) ∧ ∀ base : Heap, K.In base → base.Ns mainGlobals mg → (∀ p ∈ cs, TabB base mg p.1 p.2) → FnG l.prog w K mg base (CX w) k fa fd [x] sp)
    (hX : ∀ (w : World) (H : Hp) (s : Shared) (e : Value) (s' : Shared), CX w [] H s (fun _ _ _ => False) e s' → False) : PySem.W.WalkO q loose XP YP l.row.toRowW d [] (fun f vs => PySem.call f vs) := by
  refine Att.attach_call most nod fun w s₀ s1 mg mb fa o pm cd doc a vs ns G Y z1 z2 z3 z4 obj its short gens => ?_
  have own : Tabbed q mg s1.heap := fun nm f m1 m2 => by
    obtain ⟨r, r1, r2⟩ := List.any_eq_true.mp m1
    have r3 : r.name = nm := beq_iff_eq.mp r2
    obtain ⟨a2, o2, f2, c2, P2, h1, h2, h3, h4, h5, h6⟩ := G.T.tab r r1
    rw [r3, m2] at h1
    cases h1
    exact ⟨o2, f2, c2, P2, h2, h3, h4, .of h5 h6, h6.2⟩
  obtain ⟨K, fd, cs, sp, Ki, tb, nT, C, bd, pr, fn⟩ := F w mg fa _ Y own G.T.g z4
  exact endT_call Ki G.T.g G.T.b G.T.builtins G.T.nolimit gens tb nT C G.T.bmain obj its (Nat.le_trans short lt) room fn bd (fun H o q => pr H a ns short o q) fun H e s' => hX w H s1 e s'
end Oq

set_option Elab.async false
set_option linter.all false
set_option maxRecDepth 100000
set_option maxHeartbeats 4000000
namespace Lr
open PySem PySem.Spec PyProof.Rows L2
def topS (i : Nat) : Stmt := PySem.Challenge.pw_laterepair_k03_spaces_refused.main.body.getD i (.Pass ⟨0, 0, 0, 0⟩)
/-! ### integers from 0 on -/
abbrev vi (n : Nat) : V := V.int (n : Int)
def ri (l : List Nat) : List V := l.map vi
theorem bitXor_nat (a b : Nat) : Builtin.bitXor (a : Int) (b : Int) = ((a ^^^ b : Nat) : Int) := by
  have h := Xr.add_xor_and a b
  rw [bitXor_and, bitAnd_pp (Int.natCast_nonneg a) (Int.natCast_nonneg b)]
  simp only [Int.toNat_natCast]
  omega
theorem bitAnd_nat (a b : Nat) : Builtin.bitAnd (a : Int) (b : Int) = ((a &&& b : Nat) : Int) := by
  rw [bitAnd_pp (Int.natCast_nonneg a) (Int.natCast_nonneg b)]
  simp only [Int.toNat_natCast]
theorem ri_get {l : List Nat} {i : Nat} {x : V} (h : (ri l)[i]? = some x) : ∃ n, l[i]? = some n ∧ x = vi n := by
  unfold ri at h
  rw [List.getElem?_map] at h
  cases e : l[i]? with
  | none => rw [e] at h; cases h
  | some n => rw [e] at h; exact ⟨n, rfl, (Option.some.inj h).symm⟩
theorem ri_len (l : List Nat) : (ri l).length = l.length := List.length_map ..
theorem ri_mem {l : List Nat} {i : Nat} {x : V} (h : (ri l)[i]? = some x) : ∃ n, n ∈ l ∧ l[i]? = some n ∧ x = vi n := by
  obtain ⟨n, e, x⟩ := ri_get h
  exact ⟨n, List.mem_of_getElem? e, e, x⟩
theorem same_upd {H : Hp} {p : Addr} {o : HO} (h : H p = none) : Same H (upd H p o) := fun b x e => by
  rw [upd_ne (ne_of_none e h)]
  exact e
theorem same_put {H H' : Hp} {p : Addr} {o : HO} (s : Same H H') (h : H p = none) : Same H (upd H' p o) := fun b x e => by
  rw [upd_ne (ne_of_none e h)]
  exact s b x e
theorem same_tup {K : PySem.W.Frag} {H H' : Hp} {a : Addr} {xs : List V} (e : Same H H') (h : SqT K H a xs) : SqT K H' a xs := by
  rcases h with (h | ⟨o, h⟩) | h
  · exact .inl (.inl (e _ _ h))
  · exact .inl (.inr ⟨o, e _ _ h⟩)
  · exact .inr h
/-- what the top's names stand for -/
structure Nm (mg : Str → Option Value) : Prop where
  len : mg "len" = none
  isi : mg "isinstance" = none
  int : mg "int" = none
  bool : mg "bool" = none
  all : mg "all" = none
  min : mg "min" = none
  sum : mg "sum" = none
  abs : mg "abs" = none
  sorted : mg "sorted" = none
  tuple : mg "tuple" = none
  list : mg "list" = none
  range : mg "range" = none
  mb : ∃ t, mg "MOST_BITS" = some (.int 65535 t)
section
variable {P : Program} {w : World} {K : PySem.W.Frag} {mg : Str → Option Value} {base : Heap}
/-! ### checks -/
abbrev s_is_integer : Stmt := topS 3
theorem sc_is_integer : FnScope ["value"] ["value"] (defScope s_is_integer) := ⟨rfl, rfl, rfl, by decide +kernel, rfl, by decide +kernel, by decide +kernel⟩
def spIsInt : Sp := fun vs H Q _ => ∃ i : Int, vs = [.int i] ∧ Q (.bl true) H
theorem ok_isInt {f : Addr} {fd : FuncData} (F : Fun K "is_integer" "is_integer" s_is_integer f fd) (T : Nm mg) : FnOk P w K mg base CX0 1 f fd ["value"] spIsInt := by
  refine F.ok sc_is_integer (fun vs H Q E h => ?_) (fun cdv A outer s H vs Q E hr h => ?_)
  · obtain ⟨i, rfl, _⟩ := h
    rfl
  · obtain ⟨i, rfl, q⟩ := h
    refine ⟨_, pss_one (ps_ret (pe_and (pe_callB call_isi (by rfl) T.isi boot_isinstance (pa_cons (pv 0) (pa_cons (pe_bltn (v := .ty "int") (by rfl) T.int PyProof.Rows.boot_int rfl) pa_nil)))
      (pe_one (pe_not (pe_callB call_isi (by rfl) T.isi boot_isinstance (pa_cons (pv 0) (pa_cons (pe_bltn (v := .ty "bool") (by rfl) T.bool PyProof.Rows.boot_bool rfl) pa_nil))))))), ?_⟩
    refine ⟨_, rfl, _, _, _, _, true, rfl, .ty "int", .base (.int i), kit_ty (by decide +kernel), true, rfl, iteT ?_⟩
    exact ⟨_, rfl, _, _, _, _, false, rfl, .ty "bool", .base (.int i), kit_ty (by decide +kernel), false, rfl, q⟩
abbrev s_is_within : Stmt := topS 4
theorem sc_is_within : FnScope ["value", "least", "most"] ["value", "least", "most"] (defScope s_is_within) := ⟨rfl, rfl, rfl, by decide +kernel, rfl, by decide +kernel, by decide +kernel⟩
def spWithin : Sp := fun vs H Q _ => ∃ i lo hi : Int, vs = [.int i, .int lo, .int hi] ∧ Q (.bl (decide (lo ≤ i ∧ i ≤ hi))) H
theorem ok_within {f fI : Addr} {fd fdI : FuncData} (F : Fun K "is_within" "is_within" s_is_within f fd) (FI : Fun K "is_integer" "is_integer" s_is_integer fI fdI) (bI : Binds K fdI ["value"] []) (gI : mg "is_integer" = some (.ref fI)) (T : Nm mg) :
    FnOk P w K mg base CX0 2 f fd ["value", "least", "most"] spWithin := by
  have GI : FnOk P w K mg base CX0 1 fI fdI ["value"] spIsInt := ok_isInt FI T
  refine F.ok sc_is_within (fun vs H Q E h => ?_) (fun cdv A outer s H vs Q E hr h => ?_)
  · obtain ⟨i, lo, hi, rfl, _⟩ := h
    rfl
  · obtain ⟨i, lo, hi, rfl, q⟩ := h
    refine ⟨_, pss_one (ps_ret (pe_and (pe_call GI hr rfl gI FI.kp bI .nil pass0 (pa_cons (pv 0) pa_nil)) (pe_one (pe_chain op_le op_le (pv 1) (pv 0) (pv 2))))), ?_⟩
    refine ⟨_, rfl, i, rfl, true, rfl, iteT ?_⟩
    refine ⟨_, rfl, _, rfl, _, _, rfl, rfl, _, rfl, ?_⟩
    by_cases c : lo ≤ i
    · rw [decide_eq_true c]
      refine iteT ⟨_, rfl, _, _, rfl, rfl, ?_⟩
      have e : decide (lo ≤ i ∧ i ≤ hi) = decide (i ≤ hi) := by simp [c]
      rw [e] at q
      exact q
    · rw [decide_eq_false c]
      refine iteF ?_
      have e : decide (lo ≤ i ∧ i ≤ hi) = false := by simp [c]
      rw [e] at q
      exact q
end
end Lr

set_option Elab.async false
set_option linter.all false
set_option maxRecDepth 100000
set_option maxHeartbeats 4000000
namespace Lr
open PySem PySem.Spec PyProof.Rows L2
section
variable {P : Program} {w : World} {K : PySem.W.Frag} {mg : Str → Option Value} {base : Heap}
abbrev s_lessened : Stmt := topS 20
theorem sc_lessened : FnScope ["bits", "rows", "rest", "row"] ["bits", "rows"] (defScope s_lessened) := ⟨rfl, rfl, rfl, by decide +kernel, rfl, by decide +kernel, by decide +kernel⟩
abbrev s_widened : Stmt := topS 21
theorem sc_widened : FnScope ["rows", "added", "kept", "row", "rest", "old"] ["rows", "added"] (defScope s_widened) := ⟨rfl, rfl, rfl, by decide +kernel, rfl, by decide +kernel, by decide +kernel⟩
abbrev s_reduced : Stmt := topS 22
theorem sc_reduced : FnScope ["rows"] ["rows"] (defScope s_reduced) := ⟨rfl, rfl, rfl, by decide +kernel, rfl, by decide +kernel, by decide +kernel⟩
theorem min_nat (a b : Nat) : (if (b : Int) < (a : Int) then (b : Int) else (a : Int)) = ((min a b : Nat) : Int) := by
  split <;> omega
/-! ### lessened: of a list -/
def spLessL (K : PySem.W.Frag) : Sp := fun vs H Q _ => ∃ (n : Nat) (a : Addr) (l : List Nat), vs = [vi n, .ref a] ∧ SqL K H a (ri l) ∧ Q (vi (Xr.lessened n l)) H
theorem ok_lessL {f : Addr} {fd : FuncData} (F : Fun K "lessened" "lessened" s_lessened f fd) : FnOk P w K mg base CX0 1 f fd ["bits", "rows"] (spLessL K) := by
  refine F.ok sc_lessened (fun vs H Q E h => ?_) (fun cdv A outer s H vs Q E hr h => ?_)
  · obtain ⟨n, a, l, rfl, _⟩ := h
    rfl
  · obtain ⟨n, a, l, rfl, hS, q⟩ := h
    refine ⟨_, pss_cons (ps_set (i := 2) sc_lessened.nd rfl (Or.inl rfl) (pv 0))
      (pss_cons (ps_for PassesOwn.never rfl (pi_list (pv 1)) (pg_name (i := 3) sc_lessened.nd rfl (Or.inl rfl))
      (pss_one (ps_if (pt_cmpR op_lt (pe_op op_xor (pv 2) (pv 3)) (pv 2) (nomark _)) (pss_one (ps_set (i := 2) sc_lessened.nd rfl (Or.inl rfl) (pe_op op_xor (pv 2) (pv 3)))) pss_nil)))
      (pss_one (ps_ret (pv 2)))), ?_⟩
    refine ⟨_, rfl, _, rfl, a, rfl, ⟨_, hS⟩, for_list (K := K) (a := a) (xs := ri l) (fun i σ H' => H' = H ∧ ∃ v, σ = [some (vi n), some (.ref a), some (vi (Xr.lessened n (l.take i))), v])
      ⟨rfl, none, rfl⟩ (fun i σ H' _ ⟨e, _⟩ => by rw [e]; exact hS) ?_ ?_⟩
    · rintro i x σ H' hi ⟨rfl, v, rfl⟩
      obtain ⟨m, hm, rfl⟩ := ri_get hi
      have st : Xr.lessened n (l.take (i + 1)) = Xr.less1 (Xr.lessened n (l.take i)) m := Xr.foldl_take hm
      generalize Xr.lessened n (l.take i) = r at *
      refine ⟨_, rfl, _, rfl, _, _, rfl, rfl, _, rfl, _, _, rfl, rfl, _, rfl, ?_⟩
      rw [bitXor_nat]
      refine ite2 (fun c => ?_) (fun c => ?_)
      · have c' : r ^^^ m < r := by simpa using c
        refine ⟨_, rfl, _, rfl, _, _, rfl, rfl, ?_⟩
        refine ⟨rfl, some (vi m), ?_⟩
        rw [st, Xr.less1, if_pos c']
        exact congrArg (fun z : Int => [some (vi n), some (V.ref a), some (V.int z), some (vi m)]) (bitXor_nat r m)
      · have c' : ¬ r ^^^ m < r := by simpa using c
        refine ⟨rfl, some (vi m), ?_⟩
        rw [st, Xr.less1, if_neg c']
        rfl
    · rintro σ H' ⟨rfl, v, rfl⟩
      rw [ri_len, List.take_length]
      exact ⟨_, rfl, q⟩
/-! ### lessened: of a tuple -/
def spLessT (K : PySem.W.Frag) : Sp := fun vs H Q _ => ∃ (n : Nat) (a : Addr) (l : List Nat), vs = [vi n, .ref a] ∧ SqT K H a (ri l) ∧ Q (vi (Xr.lessened n l)) H
theorem ok_lessT {f : Addr} {fd : FuncData} (F : Fun K "lessened" "lessened" s_lessened f fd) : FnOk P w K mg base CX0 1 f fd ["bits", "rows"] (spLessT K) := by
  refine F.ok sc_lessened (fun vs H Q E h => ?_) (fun cdv A outer s H vs Q E hr h => ?_)
  · obtain ⟨n, a, l, rfl, _⟩ := h
    rfl
  · obtain ⟨n, a, l, rfl, hS, q⟩ := h
    refine ⟨_, pss_cons (ps_set (i := 2) sc_lessened.nd rfl (Or.inl rfl) (pv 0))
      (pss_cons (ps_for PassesOwn.never rfl (pi_tup (pv 1)) (pg_name (i := 3) sc_lessened.nd rfl (Or.inl rfl))
      (pss_one (ps_if (pt_cmpR op_lt (pe_op op_xor (pv 2) (pv 3)) (pv 2) (nomark _)) (pss_one (ps_set (i := 2) sc_lessened.nd rfl (Or.inl rfl) (pe_op op_xor (pv 2) (pv 3)))) pss_nil)))
      (pss_one (ps_ret (pv 2)))), ?_⟩
    refine ⟨_, rfl, _, rfl, a, rfl, ⟨_, hS⟩, for_tup (K := K) (a := a) (xs := ri l) (fun i σ H' => H' = H ∧ ∃ v, σ = [some (vi n), some (.ref a), some (vi (Xr.lessened n (l.take i))), v])
      ⟨rfl, none, rfl⟩ (fun i σ H' _ ⟨e, _⟩ => by rw [e]; exact hS) ?_ ?_⟩
    · rintro i x σ H' hi ⟨rfl, v, rfl⟩
      obtain ⟨m, hm, rfl⟩ := ri_get hi
      have st : Xr.lessened n (l.take (i + 1)) = Xr.less1 (Xr.lessened n (l.take i)) m := Xr.foldl_take hm
      generalize Xr.lessened n (l.take i) = r at *
      refine ⟨_, rfl, _, rfl, _, _, rfl, rfl, _, rfl, _, _, rfl, rfl, _, rfl, ?_⟩
      rw [bitXor_nat]
      refine ite2 (fun c => ?_) (fun c => ?_)
      · have c' : r ^^^ m < r := by simpa using c
        refine ⟨_, rfl, _, rfl, _, _, rfl, rfl, ?_⟩
        refine ⟨rfl, some (vi m), ?_⟩
        rw [st, Xr.less1, if_pos c']
        exact congrArg (fun z : Int => [some (vi n), some (V.ref a), some (V.int z), some (vi m)]) (bitXor_nat r m)
      · have c' : ¬ r ^^^ m < r := by simpa using c
        refine ⟨rfl, some (vi m), ?_⟩
        rw [st, Xr.less1, if_neg c']
        rfl
    · rintro σ H' ⟨rfl, v, rfl⟩
      rw [ri_len, List.take_length]
      exact ⟨_, rfl, q⟩
/-- the sorted integers of reduced rows -/
theorem sorted_canon {m : List Nat} {ns : List Int} (r1 : Xr.Red m) (hp : ns.Perm (m.map fun n : Nat => (n : Int))) (hs : ns.Pairwise (· ≤ ·)) : Xr.Canon (ns.map Int.toNat) ∧ (ns.map Int.toNat).Perm m ∧ ns.map V.int = ri (ns.map Int.toNat) := by
  have hn : ∀ x ∈ ns, 0 ≤ x := fun x hx => by
    obtain ⟨n, _, e⟩ := List.mem_map.mp (hp.mem_iff.mp hx)
    omega
  have en : ns = (ns.map Int.toNat).map fun n : Nat => (n : Int) := by
    rw [List.map_map]
    refine (List.map_id ns).symm.trans (List.map_congr_left fun x hx => ?_)
    exact (Int.toNat_of_nonneg (hn x hx)).symm
  have pm : (ns.map Int.toNat).Perm m := by
    have := hp.map Int.toNat
    rw [List.map_map] at this
    refine this.trans (List.Perm.of_eq ?_)
    refine (List.map_congr_left fun x _ => ?_).trans (List.map_id m)
    exact Int.toNat_natCast x
  refine ⟨⟨r1.perm pm.symm, ?_⟩, pm, ?_⟩
  · have rd := r1.perm pm.symm
    have le : (ns.map Int.toNat).Pairwise (· ≤ ·) := by
      rw [List.pairwise_map]
      exact hs.imp fun h => by omega
    have ne : (ns.map Int.toNat).Pairwise (· ≠ ·) := List.nodup_iff_pairwise_ne.mp rd.nodup
    exact (le.and ne).imp fun h => Nat.lt_of_le_of_ne h.1 h.2
  · unfold ri
    conv => lhs; rw [en]
    rw [List.map_map]
    rfl
/-! ### widened: added of a list -/
def spWidL (K : PySem.W.Frag) : Sp := fun vs H Q _ => ∃ (e a : Addr) (l0 l : List Nat), vs = [.ref e, .ref a] ∧ SqT K H e (ri l0) ∧ SqL K H a (ri l) ∧ Xr.Red l0 ∧ l.length + l0.length ≤ 1000 ∧
  ∀ (m : List Nat) (p : Addr) (H' : Hp), Xr.Canon m → (∀ x, Xr.Span m x ↔ Xr.Span (l ++ l0) x) → Same H H' → H p = none → H' p = some (.tup (ri m)) → Q (.ref p) H'
theorem ok_widL {f fL : Addr} {fd fdL : FuncData} (F : Fun K "widened" "widened" s_widened f fd) (FL : Fun K "lessened" "lessened" s_lessened fL fdL) (bL : Binds K fdL ["bits", "rows"] []) (gL : mg "lessened" = some (.ref fL)) (T : Nm mg) :
    FnOk P w K mg base CX0 2 f fd ["rows", "added"] (spWidL K) := by
  have GL : FnOk P w K mg base CX0 1 fL fdL ["bits", "rows"] (spLessL K) := ok_lessL FL
  refine F.ok sc_widened (fun vs H Q E h => ?_) (fun cdv A outer s H vs Q E hr h => ?_)
  · obtain ⟨e, a, l0, l, rfl, _⟩ := h
    rfl
  · obtain ⟨e, a, l0, l, rfl, hE, hS, hred, hlen, q⟩ := h
    refine ⟨_, pss_cons (ps_set (i := 2) sc_widened.nd rfl (Or.inl rfl) (pe_callTy call_list_of (by rfl) T.list PyProof.Rows.boot_list (pa_cons (pv 0) pa_nil)))
      (pss_cons (ps_for PassesOwn.never rfl (pi_list (pv 1)) (pg_name (i := 3) sc_widened.nd rfl (Or.inl rfl))
      (pss_cons (ps_set (i := 4) sc_widened.nd rfl (Or.inr rfl) (pe_call GL hr rfl gL FL.kp bL .nil pass0 (pa_cons (pv 3) (pa_cons (pv 2) pa_nil))))
      (pss_one (ps_if (pt_cmpR op_gt (pv 4) pe_int (nomark _)) (pss_cons (ps_setLc (i := 2) (own := [("old", 5)]) (g := (gName 5)) (tt := tYes) rfl sc_widened.nd rfl rfl (sw_true rfl rfl rfl (by decide +kernel)) (pi_list (pv 2)) (blkOk_by (N := ["rows", "added", "kept", "row", "rest", "old"]) (sc := defScope s_widened) (by decide +kernel)) (fun _ _ _ _ _ => pg_name (i := 5) sc_widened.nd rfl (Or.inl rfl)) (fun _ _ _ _ _ => pts_nil) (fun _ _ _ _ _ => (pe_callB (call_min2 rfl) (by rfl) T.min PyProof.Rows.boot_min (pa_cons (pv 5) (pa_cons (pe_op op_xor (pv 5) (pv 4)) pa_nil)))))
      (pss_one (ps_expr (pe_bm PySem.F.plainAttrs_list PySem.F.slot_list_append PySem.F.type_list_append mt_append (pv 2) (pa_cons (pv 4) pa_nil))))) pss_nil))))
      (pss_one (ps_ret (pe_callTy call_tuple_of (by rfl) T.tuple PyProof.Rows.boot_tuple (pa_cons (pe_callB cr_sortedI (by rfl) T.sorted PyProof.Rows.boot_sorted (pa_cons (pv 2) pa_nil)) pa_nil))))), ?_⟩
    refine ⟨_, rfl, e, _, rfl, .inr hE, fun o no => ?_⟩
    refine ⟨_, rfl, a, rfl, ⟨_, Same.seq (same_upd no) hS⟩, for_list (K := K) (a := a) (xs := ri l) (fun i σ H' => Same H H' ∧ ∃ k v3 v4 v5, σ = [some (.ref e), some (.ref a), some (.ref k), v3, v4, v5] ∧ H k = none ∧ H' k = some (.lst (ri ((l.take i).foldl Xr.red1 l0))) ∧ ((l.take i).foldl Xr.red1 l0).length ≤ i + l0.length)
      ⟨same_upd no, o, none, none, none, rfl, no, upd_same, by simp⟩ (fun i σ H' _ ⟨e, _⟩ => Same.seq e hS) ?_ ?_⟩
    · rintro i x σ H' hi ⟨sm, k, v3, v4, v5, rfl, nk, hk, hl⟩
      obtain ⟨m, hm, rfl⟩ := ri_get hi
      have st : (l.take (i + 1)).foldl Xr.red1 l0 = Xr.red1 ((l.take i).foldl Xr.red1 l0) m := Xr.foldl_take hm
      rw [st]
      generalize (l.take i).foldl Xr.red1 l0 = kept at *
      have il : i < l.length := (List.getElem?_eq_some_iff.mp hm).1
      refine ⟨_, rfl, _, rfl, m, k, kept, rfl, .of hk, ?_⟩
      refine ⟨_, rfl, _, _, rfl, rfl, _, rfl, ?_⟩
      refine ite2 (fun c => ?_) (fun c => ?_)
      · have c' : 0 < Xr.lessened m kept := by simpa using c
        refine ⟨_, rfl, k, rfl, ⟨_, .of hk⟩, fun D nD => ?_⟩
        have kD : k ≠ D := ne_of_none hk nD
        refine lc_list (K := K) (a := k) (xs := ri kept) (fun j H'' => Same H H'' ∧ H D = none ∧ H'' k = some (.lst (ri kept)) ∧ H'' D = some (.lst (ri ((kept.take j).map fun o => min o (o ^^^ Xr.lessened m kept)))))
          ⟨same_put sm (sm.free nD), sm.free nD, by rw [upd_ne kD]; exact hk, upd_same⟩ (fun j H'' _ ⟨_, _, e, _⟩ => .of e) ?_ ?_
        · rintro j x H'' hj ⟨s2, nD', e1, e2⟩
          obtain ⟨o, ho, rfl⟩ := ri_get hj
          refine ⟨rfl, ?_⟩
          refine ⟨_, rfl, _, rfl, _, rfl, _, _, rfl, rfl, _, _, rfl, ?_⟩
          refine ⟨_, e2, ?_, same_put s2 nD', nD', by rw [upd_ne kD]; exact e1, ?_⟩
          · rw [ri_len, List.length_map, List.length_take]
            exact small1000 (by omega)
          · rw [upd_same, List.take_add_one, ho, List.map_append]
            have z := congrArg V.int (min_nat o (o ^^^ Xr.lessened m kept))
            rw [← bitXor_nat] at z
            have z2 : ri (((kept.take j).map fun o => min o (o ^^^ Xr.lessened m kept)) ++ [min o (o ^^^ Xr.lessened m kept)]) = ri ((kept.take j).map fun o => min o (o ^^^ Xr.lessened m kept)) ++ [vi (min o (o ^^^ Xr.lessened m kept))] := by
              unfold ri
              rw [List.map_append]
              rfl
            refine congrArg (fun x => some (HO.lst x)) ?_
            refine Eq.trans ?_ z2.symm
            exact congrArg (fun x => ri ((kept.take j).map fun o => min o (o ^^^ Xr.lessened m kept)) ++ [x]) z
        · rintro H'' ⟨s2, nD', e1, e2⟩
          rw [ri_len, List.take_length] at e2
          refine ⟨_, rfl, .inl ⟨rfl, _, .of e2⟩, _, rfl, D, _, _, rfl, rfl, e2, ?_, ?_⟩
          · rw [ri_len, List.length_map]
            exact small1000 (by omega)
          · refine ⟨same_put s2 nD', D, _, _, _, rfl, nD', ?_, ?_⟩
            · rw [upd_same, Xr.red1, if_pos c']
              unfold ri
              rw [List.map_append]
              rfl
            · rw [Xr.red1, if_pos c', List.length_append, List.length_map, List.length_singleton]
              omega
      · have c' : ¬ 0 < Xr.lessened m kept := by simpa using c
        refine ⟨sm, k, _, _, _, rfl, nk, ?_, ?_⟩
        · rw [Xr.red1, if_neg c']
          exact hk
        · rw [Xr.red1, if_neg c']
          omega
    · rintro σ H' ⟨sm, k, v3, v4, v5, rfl, nk, hk, hl⟩
      rw [ri_len, List.take_length] at hk
      obtain ⟨r1, r2⟩ := Xr.red_fold l l0 hred
      generalize l.foldl Xr.red1 l0 = m at *
      have em : ri m = (m.map fun n : Nat => (n : Int)).map V.int := by
        unfold ri
        rw [List.map_map]
        rfl
      refine ⟨_, rfl, k, m.map (fun n : Nat => (n : Int)), rfl, .of (by rw [← em]; exact hk), fun ns p hp hs np => ?_⟩
      refine ⟨p, _, rfl, .inl ⟨.of upd_same, fun t nt => ?_⟩⟩
      have tp : t ≠ p := fun e => by
        rw [e, upd_same] at nt
        cases nt
      have nt' : H' t = none := by
        rw [upd_ne tp] at nt
        exact nt
      obtain ⟨cn, pm, en⟩ := sorted_canon r1 hp hs
      refine q (ns.map Int.toNat) t _ cn (fun x => (Xr.span_perm pm x).trans (r2 x)) (same_put (same_put sm (sm.free np)) (sm.free nt')) (sm.free nt') ?_
      rw [upd_same]
      exact congrArg (fun x => some (HO.tup x)) en
/-! ### widened: added of a tuple -/
def spWidT (K : PySem.W.Frag) : Sp := fun vs H Q _ => ∃ (e a : Addr) (l0 l : List Nat), vs = [.ref e, .ref a] ∧ SqT K H e (ri l0) ∧ SqT K H a (ri l) ∧ Xr.Red l0 ∧ l.length + l0.length ≤ 1000 ∧
  ∀ (m : List Nat) (p : Addr) (H' : Hp), Xr.Canon m → (∀ x, Xr.Span m x ↔ Xr.Span (l ++ l0) x) → Same H H' → H p = none → H' p = some (.tup (ri m)) → Q (.ref p) H'
theorem ok_widT {f fL : Addr} {fd fdL : FuncData} (F : Fun K "widened" "widened" s_widened f fd) (FL : Fun K "lessened" "lessened" s_lessened fL fdL) (bL : Binds K fdL ["bits", "rows"] []) (gL : mg "lessened" = some (.ref fL)) (T : Nm mg) :
    FnOk P w K mg base CX0 2 f fd ["rows", "added"] (spWidT K) := by
  have GL : FnOk P w K mg base CX0 1 fL fdL ["bits", "rows"] (spLessL K) := ok_lessL FL
  refine F.ok sc_widened (fun vs H Q E h => ?_) (fun cdv A outer s H vs Q E hr h => ?_)
  · obtain ⟨e, a, l0, l, rfl, _⟩ := h
    rfl
  · obtain ⟨e, a, l0, l, rfl, hE, hS, hred, hlen, q⟩ := h
    refine ⟨_, pss_cons (ps_set (i := 2) sc_widened.nd rfl (Or.inl rfl) (pe_callTy call_list_of (by rfl) T.list PyProof.Rows.boot_list (pa_cons (pv 0) pa_nil)))
      (pss_cons (ps_for PassesOwn.never rfl (pi_tup (pv 1)) (pg_name (i := 3) sc_widened.nd rfl (Or.inl rfl))
      (pss_cons (ps_set (i := 4) sc_widened.nd rfl (Or.inr rfl) (pe_call GL hr rfl gL FL.kp bL .nil pass0 (pa_cons (pv 3) (pa_cons (pv 2) pa_nil))))
      (pss_one (ps_if (pt_cmpR op_gt (pv 4) pe_int (nomark _)) (pss_cons (ps_setLc (i := 2) (own := [("old", 5)]) (g := (gName 5)) (tt := tYes) rfl sc_widened.nd rfl rfl (sw_true rfl rfl rfl (by decide +kernel)) (pi_list (pv 2)) (blkOk_by (N := ["rows", "added", "kept", "row", "rest", "old"]) (sc := defScope s_widened) (by decide +kernel)) (fun _ _ _ _ _ => pg_name (i := 5) sc_widened.nd rfl (Or.inl rfl)) (fun _ _ _ _ _ => pts_nil) (fun _ _ _ _ _ => (pe_callB (call_min2 rfl) (by rfl) T.min PyProof.Rows.boot_min (pa_cons (pv 5) (pa_cons (pe_op op_xor (pv 5) (pv 4)) pa_nil)))))
      (pss_one (ps_expr (pe_bm PySem.F.plainAttrs_list PySem.F.slot_list_append PySem.F.type_list_append mt_append (pv 2) (pa_cons (pv 4) pa_nil))))) pss_nil))))
      (pss_one (ps_ret (pe_callTy call_tuple_of (by rfl) T.tuple PyProof.Rows.boot_tuple (pa_cons (pe_callB cr_sortedI (by rfl) T.sorted PyProof.Rows.boot_sorted (pa_cons (pv 2) pa_nil)) pa_nil))))), ?_⟩
    refine ⟨_, rfl, e, _, rfl, .inr hE, fun o no => ?_⟩
    refine ⟨_, rfl, a, rfl, ⟨_, same_tup (same_upd no) hS⟩, for_tup (K := K) (a := a) (xs := ri l) (fun i σ H' => Same H H' ∧ ∃ k v3 v4 v5, σ = [some (.ref e), some (.ref a), some (.ref k), v3, v4, v5] ∧ H k = none ∧ H' k = some (.lst (ri ((l.take i).foldl Xr.red1 l0))) ∧ ((l.take i).foldl Xr.red1 l0).length ≤ i + l0.length)
      ⟨same_upd no, o, none, none, none, rfl, no, upd_same, by simp⟩ (fun i σ H' _ ⟨e, _⟩ => same_tup e hS) ?_ ?_⟩
    · rintro i x σ H' hi ⟨sm, k, v3, v4, v5, rfl, nk, hk, hl⟩
      obtain ⟨m, hm, rfl⟩ := ri_get hi
      have st : (l.take (i + 1)).foldl Xr.red1 l0 = Xr.red1 ((l.take i).foldl Xr.red1 l0) m := Xr.foldl_take hm
      rw [st]
      generalize (l.take i).foldl Xr.red1 l0 = kept at *
      have il : i < l.length := (List.getElem?_eq_some_iff.mp hm).1
      refine ⟨_, rfl, _, rfl, m, k, kept, rfl, .of hk, ?_⟩
      refine ⟨_, rfl, _, _, rfl, rfl, _, rfl, ?_⟩
      refine ite2 (fun c => ?_) (fun c => ?_)
      · have c' : 0 < Xr.lessened m kept := by simpa using c
        refine ⟨_, rfl, k, rfl, ⟨_, .of hk⟩, fun D nD => ?_⟩
        have kD : k ≠ D := ne_of_none hk nD
        refine lc_list (K := K) (a := k) (xs := ri kept) (fun j H'' => Same H H'' ∧ H D = none ∧ H'' k = some (.lst (ri kept)) ∧ H'' D = some (.lst (ri ((kept.take j).map fun o => min o (o ^^^ Xr.lessened m kept)))))
          ⟨same_put sm (sm.free nD), sm.free nD, by rw [upd_ne kD]; exact hk, upd_same⟩ (fun j H'' _ ⟨_, _, e, _⟩ => .of e) ?_ ?_
        · rintro j x H'' hj ⟨s2, nD', e1, e2⟩
          obtain ⟨o, ho, rfl⟩ := ri_get hj
          refine ⟨rfl, ?_⟩
          refine ⟨_, rfl, _, rfl, _, rfl, _, _, rfl, rfl, _, _, rfl, ?_⟩
          refine ⟨_, e2, ?_, same_put s2 nD', nD', by rw [upd_ne kD]; exact e1, ?_⟩
          · rw [ri_len, List.length_map, List.length_take]
            exact small1000 (by omega)
          · rw [upd_same, List.take_add_one, ho, List.map_append]
            have z := congrArg V.int (min_nat o (o ^^^ Xr.lessened m kept))
            rw [← bitXor_nat] at z
            have z2 : ri (((kept.take j).map fun o => min o (o ^^^ Xr.lessened m kept)) ++ [min o (o ^^^ Xr.lessened m kept)]) = ri ((kept.take j).map fun o => min o (o ^^^ Xr.lessened m kept)) ++ [vi (min o (o ^^^ Xr.lessened m kept))] := by
              unfold ri
              rw [List.map_append]
              rfl
            refine congrArg (fun x => some (HO.lst x)) ?_
            refine Eq.trans ?_ z2.symm
            exact congrArg (fun x => ri ((kept.take j).map fun o => min o (o ^^^ Xr.lessened m kept)) ++ [x]) z
        · rintro H'' ⟨s2, nD', e1, e2⟩
          rw [ri_len, List.take_length] at e2
          refine ⟨_, rfl, .inl ⟨rfl, _, .of e2⟩, _, rfl, D, _, _, rfl, rfl, e2, ?_, ?_⟩
          · rw [ri_len, List.length_map]
            exact small1000 (by omega)
          · refine ⟨same_put s2 nD', D, _, _, _, rfl, nD', ?_, ?_⟩
            · rw [upd_same, Xr.red1, if_pos c']
              unfold ri
              rw [List.map_append]
              rfl
            · rw [Xr.red1, if_pos c', List.length_append, List.length_map, List.length_singleton]
              omega
      · have c' : ¬ 0 < Xr.lessened m kept := by simpa using c
        refine ⟨sm, k, _, _, _, rfl, nk, ?_, ?_⟩
        · rw [Xr.red1, if_neg c']
          exact hk
        · rw [Xr.red1, if_neg c']
          omega
    · rintro σ H' ⟨sm, k, v3, v4, v5, rfl, nk, hk, hl⟩
      rw [ri_len, List.take_length] at hk
      obtain ⟨r1, r2⟩ := Xr.red_fold l l0 hred
      generalize l.foldl Xr.red1 l0 = m at *
      have em : ri m = (m.map fun n : Nat => (n : Int)).map V.int := by
        unfold ri
        rw [List.map_map]
        rfl
      refine ⟨_, rfl, k, m.map (fun n : Nat => (n : Int)), rfl, .of (by rw [← em]; exact hk), fun ns p hp hs np => ?_⟩
      refine ⟨p, _, rfl, .inl ⟨.of upd_same, fun t nt => ?_⟩⟩
      have tp : t ≠ p := fun e => by
        rw [e, upd_same] at nt
        cases nt
      have nt' : H' t = none := by
        rw [upd_ne tp] at nt
        exact nt
      obtain ⟨cn, pm, en⟩ := sorted_canon r1 hp hs
      refine q (ns.map Int.toNat) t _ cn (fun x => (Xr.span_perm pm x).trans (r2 x)) (same_put (same_put sm (sm.free np)) (sm.free nt')) (sm.free nt') ?_
      rw [upd_same]
      exact congrArg (fun x => some (HO.tup x)) en
/-! ### reduced: of a list -/
def spRedL (K : PySem.W.Frag) : Sp := fun vs H Q _ => ∃ (a : Addr) (l : List Nat), vs = [.ref a] ∧ SqL K H a (ri l) ∧ l.length ≤ 1000 ∧
  ∀ (m : List Nat) (p : Addr) (H' : Hp), Xr.Canon m → (∀ x, Xr.Span m x ↔ Xr.Span l x) → Same H H' → H p = none → H' p = some (.tup (ri m)) → Q (.ref p) H'
theorem ok_redL {f fL fV : Addr} {fd fdL fdV : FuncData} (F : Fun K "reduced" "reduced" s_reduced f fd) (FV : Fun K "widened" "widened" s_widened fV fdV) (bV : Binds K fdV ["rows", "added"] []) (gV : mg "widened" = some (.ref fV)) (FL : Fun K "lessened" "lessened" s_lessened fL fdL) (bL : Binds K fdL ["bits", "rows"] []) (gL : mg "lessened" = some (.ref fL)) (T : Nm mg) :
    FnOk P w K mg base CX0 3 f fd ["rows"] (spRedL K) := by
  have GV : FnOk P w K mg base CX0 2 fV fdV ["rows", "added"] (spWidL K) := ok_widL FV FL bL gL T
  refine F.ok sc_reduced (fun vs H Q E h => ?_) (fun cdv A outer s H vs Q E hr h => ?_)
  · obtain ⟨a, l, rfl, _⟩ := h
    rfl
  · obtain ⟨a, l, rfl, hS, hlen, q⟩ := h
    refine ⟨_, pss_one (ps_ret (pe_call GV hr rfl gV FV.kp bV .nil pass0 (pa_cons (pe_tup pa_nil) (pa_cons (pv 0) pa_nil)))), ?_⟩
    refine ⟨Nat.zero_le _, fun e ne => ?_⟩
    refine ⟨_, rfl, e, a, [], l, rfl, .of upd_same, Same.seq (same_upd ne) hS, Xr.Red.nil, hlen, fun m p H' cm sm s1 np hp => ?_⟩
    refine q m p H' cm (fun x => ?_) ((same_upd ne).trans s1) ((same_upd ne).free np) hp
    rw [sm x, List.append_nil]
/-! ### reduced: of a tuple -/
def spRedT (K : PySem.W.Frag) : Sp := fun vs H Q _ => ∃ (a : Addr) (l : List Nat), vs = [.ref a] ∧ SqT K H a (ri l) ∧ l.length ≤ 1000 ∧
  ∀ (m : List Nat) (p : Addr) (H' : Hp), Xr.Canon m → (∀ x, Xr.Span m x ↔ Xr.Span l x) → Same H H' → H p = none → H' p = some (.tup (ri m)) → Q (.ref p) H'
theorem ok_redT {f fL fV : Addr} {fd fdL fdV : FuncData} (F : Fun K "reduced" "reduced" s_reduced f fd) (FV : Fun K "widened" "widened" s_widened fV fdV) (bV : Binds K fdV ["rows", "added"] []) (gV : mg "widened" = some (.ref fV)) (FL : Fun K "lessened" "lessened" s_lessened fL fdL) (bL : Binds K fdL ["bits", "rows"] []) (gL : mg "lessened" = some (.ref fL)) (T : Nm mg) :
    FnOk P w K mg base CX0 3 f fd ["rows"] (spRedT K) := by
  have GV : FnOk P w K mg base CX0 2 fV fdV ["rows", "added"] (spWidT K) := ok_widT FV FL bL gL T
  refine F.ok sc_reduced (fun vs H Q E h => ?_) (fun cdv A outer s H vs Q E hr h => ?_)
  · obtain ⟨a, l, rfl, _⟩ := h
    rfl
  · obtain ⟨a, l, rfl, hS, hlen, q⟩ := h
    refine ⟨_, pss_one (ps_ret (pe_call GV hr rfl gV FV.kp bV .nil pass0 (pa_cons (pe_tup pa_nil) (pa_cons (pv 0) pa_nil)))), ?_⟩
    refine ⟨Nat.zero_le _, fun e ne => ?_⟩
    refine ⟨_, rfl, e, a, [], l, rfl, .of upd_same, same_tup (same_upd ne) hS, Xr.Red.nil, hlen, fun m p H' cm sm s1 np hp => ?_⟩
    refine q m p H' cm (fun x => ?_) ((same_upd ne).trans s1) ((same_upd ne).free np) hp
    rw [sm x, List.append_nil]
end
end Lr

set_option Elab.async false
set_option linter.all false
set_option maxRecDepth 100000
set_option maxHeartbeats 4000000
namespace Lr
open PySem PySem.Spec PyProof.Rows L2 Ow
/-! ### spaces as objects -/
def SpA (C : Addr) (H : Hp) (x : Addr) (m : List Nat) : Prop := ∃ dx t, H x = some (.ins C dx [("rows", .ref t)]) ∧ H t = some (.tup (ri m)) ∧ Xr.Canon m ∧ ∀ r ∈ m, r < 2 ^ 16
theorem SpA.keep {C : Addr} {H H' : Hp} {x : Addr} {m : List Nat} (h : SpA C H x m) (s : Same H H') : SpA C H' x m := by
  obtain ⟨dx, t, h1, h2, h3⟩ := h
  exact ⟨dx, t, s _ _ h1, s _ _ h2, h3⟩
/-- what the top's names stand for -/
structure Cs (K : PySem.W.Frag) (mg : Str → Option Value) (C : Addr) : Prop where
  cl : Cls K C
  nR : NoAttr K C "rows"
  gC : mg "Space" = some (.ref C)
  ca : PySem.W.findIn K (.ref C) "__class__" = some (some (.builtin "object.__class__"))
  cn : PySem.W.specialIn K (.builtin "object.__class__") "__get__" = some (some (.builtin "getset_descriptor.__get__"))
  ct : PySem.W.takesIn K (.builtin "object.__class__") = some true
  cm : PySem.W.mroIn K C (.type "object") = some true
  kC : PySem.W.kitOne K (.ref C) (.ref C) = some true
  sf : PySem.W.selfFirst K C = true
section
variable {P : Program} {w : World} {K : PySem.W.Frag} {mg : Str → Option Value} {base : Heap}
theorem lookup_rows {t : V} : (([("rows", t)] : List (Str × V))).lookup ("rows" : Str) = some t := by simp [List.lookup]
/-! ### Space.__init__ -/
abbrev s_init : Stmt := inClass (topS 25) 1
theorem sc_init : FnScope ["self", "rows", "row"] ["self", "rows"] (defScope s_init) := ⟨rfl, rfl, rfl, by decide +kernel, rfl, by decide +kernel, by decide +kernel⟩
def spInit (C : Addr) : Sp := fun vs H Q _ => ∃ (x dx p : Addr) (l : List Nat), vs = [.ref x, .ref p] ∧ H x = some (.ins C dx []) ∧ H p = some (.tup (ri l)) ∧ (∀ r ∈ l, r < 2 ^ 16) ∧ l.length ≤ 1000 ∧
  ∀ (m : List Nat) (t : Addr) (H' : Hp), Xr.Canon m → (∀ y, Xr.Span m y ↔ Xr.Span l y) → (∀ b o, b ≠ x → H b = some o → H' b = some o) → H' x = some (.ins C dx [("rows", .ref t)]) → H' t = some (.tup (ri m)) → Q .non H'
theorem all_true {bs : List Bool} (h : ∀ b ∈ bs, b = true) : bs.all id = true := List.all_eq_true.mpr fun b hb => h b hb
theorem body_init {C : Addr} {f fW fI fR fL fV : Addr} {fdW fdI fdR fdL fdV : FuncData} {cdv : Value} {A : Around} {outer : List Env} {s : Shared} {H : Hp} {vs : List V} {Q : VK} {E : XK}
    (FW : Fun K "is_within" "is_within" s_is_within fW fdW) (bW : Binds K fdW ["value", "least", "most"] []) (gW : mg "is_within" = some (.ref fW)) (FI : Fun K "is_integer" "is_integer" s_is_integer fI fdI) (bI : Binds K fdI ["value"] []) (gI : mg "is_integer" = some (.ref fI))
    (FR : Fun K "reduced" "reduced" s_reduced fR fdR) (bR : Binds K fdR ["rows"] []) (gR : mg "reduced" = some (.ref fR)) (FL : Fun K "lessened" "lessened" s_lessened fL fdL) (bL : Binds K fdL ["bits", "rows"] []) (gL : mg "lessened" = some (.ref fL)) (FV : Fun K "widened" "widened" s_widened fV fdV) (bV : Binds K fdV ["rows", "added"] []) (gV : mg "widened" = some (.ref fV))
    (T : Nm mg) (S : Cs K mg C) (hr : Room 3 (A.deeper (envOfC "Space.__init__" (defScope s_init) s.heap.objs.size f cdv))) (h : spInit C vs H Q E) :
    ∃ t, PSs (cxOf CX0 P w K mg base ["self", "rows", "row"] "Space.__init__" (defScope s_init) f cdv A outer s H E).nox (defBody s_init) t ∧ t { nx := fun _ H' => Q .non H', rt := Q } (start ["self", "rows", "row"] vs) H := by
  have GW : FnOk P w K mg base CX0 2 fW fdW ["value", "least", "most"] spWithin := ok_within FW FI bI gI T
  have GR : FnOk P w K mg base CX0 3 fR fdR ["rows"] (spRedT K) := ok_redT FR FV bV gV FL bL gL T
  obtain ⟨tb, gM⟩ := T.mb
  obtain ⟨x, dx, p, l, rfl, hx, hp, hl, hlen, q⟩ := h
  refine ⟨_, pss_cons (ps_if (pt_not (pt_val (pe_callB (cr_all rfl) (by rfl) T.all PyProof.Rows.boot_all (pa_cons (pe_lc (own := [("row", 2)]) (g := (gName 2)) (tt := tYes) rfl sc_init.nd (pi_tup (pv 1)) (blkOk_by (N := ["self", "rows", "row"]) (sc := defScope s_init) (by decide +kernel)) (fun _ _ _ _ _ => pg_name (i := 2) sc_init.nd rfl (Or.inl rfl)) (fun _ _ _ _ _ => pts_nil)
      (fun _ _ _ _ _ => (pe_call GW (hr.mono (by decide)) rfl gW FW.kp bW .nil pass0 (pa_cons (pv 2) (pa_cons pe_int (pa_cons (pe_glob (v := .int 65535) rfl gM ⟨_, rfl⟩) pa_nil)))))) pa_nil)))) (pss_one ps_never) pss_nil)
    (pss_one (ps_fld (pv 0) (pe_call GR hr rfl gR FR.kp bR .nil pass0 (pa_cons (pv 1) pa_nil)) rfl)), ?_⟩
  refine ⟨_, rfl, p, rfl, ⟨_, .of hp⟩, fun D nD => ?_⟩
  have pD : p ≠ D := ne_of_none hp nD
  refine lc_tup (K := K) (a := p) (xs := ri l) (fun j H'' => Same H H'' ∧ H D = none ∧ H'' D = some (.lst ((List.replicate j true).map V.bl))) ⟨same_upd nD, nD, upd_same⟩ (fun j H'' _ ⟨e, _⟩ => same_tup e (.of hp)) ?_ ?_
  · rintro j y H'' hj ⟨s2, nD', e2⟩
    obtain ⟨n, hn, _, rfl⟩ := ri_mem hj
    have jl : j < l.length := by
      have := (List.getElem?_eq_some_iff.mp hj).1
      rwa [ri_len] at this
    refine ⟨rfl, ?_⟩
    refine ⟨_, rfl, n, 0, 65535, rfl, ?_⟩
    refine ⟨_, e2, ?_, same_put s2 nD', nD', ?_⟩
    · rw [List.length_map, List.length_replicate]
      exact small1000 (by omega)
    · rw [upd_same]
      have hb := hl n hn
      have e : decide ((0 : Int) ≤ (n : Int) ∧ (n : Int) ≤ 65535) = true := decide_eq_true ⟨by omega, by omega⟩
      rw [e, List.replicate_succ', List.map_append]
      rfl
  · rintro H'' ⟨s2, nD', e2⟩
    refine ⟨D, _, rfl, .of e2, true, ?_, ?_⟩
    · rw [all_true fun b hb => (List.mem_replicate.mp hb).2]
    · refine iteF ?_
      refine ⟨_, rfl, p, l, rfl, .of (s2 _ _ hp), hlen, fun m t H3 cm sm s3 nt ht => ?_⟩
      refine ⟨_, rfl, x, C, dx, [], rfl, s3 _ _ (s2 _ _ hx), S.cl, S.nR, by decide, ?_⟩
      have tx : t ≠ x := fun e => by
        rw [e, s2 _ _ hx] at nt
        cases nt
      refine q m t _ cm sm (fun b o hb e => ?_) upd_same ?_
      · rw [upd_ne hb]
        exact s3 _ _ (s2 _ _ e)
      · rw [upd_ne tx]
        exact ht
end
end Lr

set_option Elab.async false
set_option linter.all false
set_option maxRecDepth 100000
set_option maxHeartbeats 4000000
namespace Lr
open PySem PySem.Spec PyProof.Rows L2 Ow
section
variable {P : Program} {w : World} {K : PySem.W.Frag} {mg : Str → Option Value} {base : Heap}
def spInitS (C : Addr) : Sp := fun vs H Q E => ∃ ws rest, vs = ws ++ rest ∧ ws.length = (["self"] : List Str).length ∧ rest.length ≤ sizeLine ∧ ∀ p, H p = Option.none → spInit C (ws ++ [V.ref p]) (upd H p (.tup rest)) Q E
theorem ok_init {C : Addr} {f fW fI fR fL fV : Addr} {fd fdW fdI fdR fdL fdV : FuncData} (F : Fun K "__init__" "Space.__init__" s_init f fd)
    (FW : Fun K "is_within" "is_within" s_is_within fW fdW) (bW : Binds K fdW ["value", "least", "most"] []) (gW : mg "is_within" = some (.ref fW)) (FI : Fun K "is_integer" "is_integer" s_is_integer fI fdI) (bI : Binds K fdI ["value"] []) (gI : mg "is_integer" = some (.ref fI))
    (FR : Fun K "reduced" "reduced" s_reduced fR fdR) (bR : Binds K fdR ["rows"] []) (gR : mg "reduced" = some (.ref fR)) (FL : Fun K "lessened" "lessened" s_lessened fL fdL) (bL : Binds K fdL ["bits", "rows"] []) (gL : mg "lessened" = some (.ref fL)) (FV : Fun K "widened" "widened" s_widened fV fdV) (bV : Binds K fdV ["rows", "added"] []) (gV : mg "widened" = some (.ref fV))
    (T : Nm mg) (S : Cs K mg C) : FnR P w K mg base CX0 4 f (spInitS C) := by
  obtain ⟨oc, od, kV, doc, pm, an, cdv, ct, osl, rfl, lk, hcd⟩ := F.ex
  refine StX.fn_star (ps := ["self"]) (pv := "rows") (sp := spInit C) (k := 3) lk hcd sc_init StX.cxUp_none (fun us rest h => StX.bind_star1 (p1 := "self") (pv := "rows") (B := fun z => bindArgs (PySem.W.fnOf "__init__" "Space.__init__" (defArgs s_init) (defBody s_init) (defScope s_init) Value.none kV doc pm an cdv ct) { pos := z }) (fun a => rfl) (fun a r rs => rfl) us rest h) fun A outer s H vs Q E hr hsp => ?_
  obtain ⟨t, h, q⟩ := body_init (P := P) (w := w) (base := base) (outer := outer) (s := s) FW bW gW FI bI gI FR bR gR FL bL gL FV bV gV T S hr hsp
  exact ⟨t, h.nox, q⟩
/-- a space is made of few integers -/
def MkS (C : Addr) (l : List Nat) (H : Hp) (Q : VK) : Prop := (∀ r ∈ l, r < 2 ^ 16) ∧ l.length ≤ 1000 ∧ ∀ (m : List Nat) (x : Addr) (H' : Hp), (∀ y, Xr.Span m y ↔ Xr.Span l y) → SpA C H' x m → Same H H' → H x = none → Q (.ref x) H'
theorem span_lt {l m : List Nat} (h : ∀ y, Xr.Span m y ↔ Xr.Span l y) (hl : ∀ r ∈ l, r < 2 ^ 16) : ∀ r ∈ m, r < 2 ^ 16 := fun r hr =>
  Xr.span_least (S := fun x => x < 2 ^ 16) (by decide) (fun x y a b => Nat.xor_lt_two_pow a b) hl ((h r).mp (Xr.span_mem hr))
theorem ask_of {C : Addr} {l : List Nat} {H : Hp} {Q : VK} {E : XK} (h : MkS C l H Q) : mkAsk C (spInitS C) E (ri l) H Q := by
  obtain ⟨h1, h2, q⟩ := h
  intro x dx nx nd ne
  refine ⟨[V.ref x], ri l, rfl, rfl, by rw [ri_len]; exact Nat.le_of_lt (small1000 h2), fun p np => ?_⟩
  have xp : x ≠ p := fun e => by
    rw [← e, upd_same] at np
    cases np
  have dp : dx ≠ p := fun e => by
    rw [← e, upd_ne ne, upd_same] at np
    cases np
  refine ⟨x, dx, p, l, rfl, by rw [upd_ne xp, upd_same], upd_same, h1, h2, fun m t H' cm sm k hx ht => ⟨rfl, ?_⟩⟩
  refine q m x H' sm ⟨dx, t, hx, ht, cm, span_lt sm h1⟩ (fun b o e => ?_) nx
  have bx : b ≠ x := ne_of_none e nx
  have bd : b ≠ dx := ne_of_none e nd
  have bp : b ≠ p := fun z => by
    rw [← z, upd_ne bx, upd_ne bd, e] at np
    cases np
  exact k b o bx (by rw [upd_ne bp, upd_ne bx, upd_ne bd]; exact e)
/-! ### greatest_bit -/
theorem intBits_nat {n : Nat} (h : n ≠ 0) : (Builtin.Int.intBits (n : Int) : Int) - 1 = ((Xr.top n : Nat) : Int) := by
  have e : Builtin.Int.intBits (n : Int) = n.log2 + 1 := by
    unfold Builtin.Int.intBits
    have z : ((n : Int) == 0) = false := by simpa using h
    rw [z]
    rfl
  rw [e]
  show ((n.log2 + 1 : Nat) : Int) - 1 = ((n.log2 : Nat) : Int)
  omega
theorem shl_one (t : Nat) : (1 : Int) * 2 ^ ((t : Int)).toNat = ((2 ^ t : Nat) : Int) := by
  rw [Int.one_mul, Int.toNat_natCast, Int.natCast_pow]
  rfl
theorem cpow_one {t : Nat} (h : t ≤ 1000) : CPow 1 (t : Int) := ⟨by omega, by omega, by decide⟩
end
end Lr

set_option Elab.async false
set_option linter.all false
set_option maxRecDepth 100000
set_option maxHeartbeats 4000000
namespace Lr
open PySem PySem.Spec PyProof.Rows L2 Ow
/-- a value's truth -/
def tTru (K : PySem.W.Frag) (ta : TE) : TT := fun σ H Q => ta σ H fun x H' => ∃ k, TruV K x H' k ∧ Q k H'
theorem pt_tru {X : Cx} {a : Expr} {ta : TE} (ha : PE X a ta) (hw : ∀ whole : Sem Value, PySem.isTrue a X.env whole = (do
    let v ← whole
    standAt a.pos
    holding [v] (truthy v))) : PT X a (tTru X.K ta) := pt_truth ha hw
section
variable {P : Program} {w : World} {K : PySem.W.Frag} {mg : Str → Option Value} {base : Heap}
theorem ri_append (a b : List Nat) : ri (a ++ b) = ri a ++ ri b := List.map_append ..
theorem ri_all (l : List Nat) : (ri l).all flatV = true := by
  rw [List.all_eq_true]
  intro x hx
  obtain ⟨n, _, rfl⟩ := List.mem_map.mp hx
  rfl
theorem inV_ri (n : Nat) (l : List Nat) : inV (vi n) (ri l) = l.contains n := by
  induction l with
  | nil => rfl
  | cons a l ih =>
    have e : inV (vi n) (ri (a :: l)) = (((a : Int) == (n : Int)) || inV (vi n) (ri l)) := rfl
    rw [e, ih, List.contains_cons]
    congr 1
    by_cases h : a = n
    · subst h; simp
    · have h1 : ((a : Int) == (n : Int)) = false := by
        simp only [beq_eq_false_iff_ne, ne_eq]
        omega
      have h2 : (n == a) = false := by simpa using fun z => h z.symm
      rw [h1, h2]
theorem ri_int (l : List Nat) : ri l = (l.map fun n : Nat => (n : Int)).map V.int := by
  unfold ri
  rw [List.map_map]
  rfl
theorem sum_nat (l : List Nat) : (l.map fun n : Nat => (n : Int)).sum = ((l.sum : Nat) : Int) := by
  induction l with
  | nil => rfl
  | cons a l ih =>
    rw [List.map_cons, List.sum_cons, List.sum_cons, ih]
    omega
/-! ### even_rows -/
theorem pow_inj {a b : Nat} (h : 2 ^ a = 2 ^ b) : a = b := by
  rcases Nat.lt_trichotomy a b with c | c | c
  · have := Nat.pow_lt_pow_right (a := 2) (by decide) c
    omega
  · exact c
  · have := Nat.pow_lt_pow_right (a := 2) (by decide) c
    omega
theorem top_mem {l : List Nat} {b : Nat} : ((l.map fun r => 2 ^ Xr.top r).contains (2 ^ b)) = (l.map Xr.top).contains b := by
  induction l with
  | nil => rfl
  | cons r l ih =>
    rw [List.map_cons, List.map_cons, List.contains_cons, List.contains_cons, ih]
    congr 1
    by_cases h : b = Xr.top r
    · subst h; simp
    · have h2 : (b == Xr.top r) = false := by simpa using h
      have h1 : ((2 ^ b : Nat) == 2 ^ Xr.top r) = false := by
        simp only [beq_eq_false_iff_ne, ne_eq]
        exact fun z => h (pow_inj z)
      rw [h1, h2]
theorem and_pow_ne {r b : Nat} : (((r &&& 2 ^ b : Nat) : Int) != 0) = r.testBit b := by
  rw [Xr.and_pow]
  cases h : r.testBit b
  · rfl
  · rw [if_pos rfl]
    have : 2 ^ b ≠ 0 := Nat.ne_of_gt (Nat.two_pow_pos b)
    simp only [bne_iff_ne, ne_eq]
    omega
end
end Lr

set_option Elab.async false
set_option linter.all false
set_option maxRecDepth 100000
set_option maxHeartbeats 4000000
namespace Lr
open PySem PySem.Spec PyProof.Rows L2 Ow
structure Ms (K : PySem.W.Frag) (C : Addr) : Prop where
  most : ∃ mc u, ClX.CRead K C mc ∧ ClX.CVal K C mc "MOST" (.int 15) u
section
variable {P : Program} {w : World} {K : PySem.W.Frag} {mg : Str → Option Value} {base : Heap}
def oV : Option Nat → V
  | none => .non
  | some n => vi n
theorem shr_bit (n t : Nat) : (Builtin.bitAnd ((n : Int) / 2 ^ ((t : Int)).toNat) 1 != 0) = n.testBit t := by
  have e : ((n : Int) / 2 ^ ((t : Int)).toNat) = ((n / 2 ^ t : Nat) : Int) := by
    rw [Int.toNat_natCast]
    simp
  rw [e]
  have f : Builtin.bitAnd ((n / 2 ^ t : Nat) : Int) ((1 : Nat) : Int) = (((n / 2 ^ t) &&& 1 : Nat) : Int) := bitAnd_nat _ 1
  show (Builtin.bitAnd ((n / 2 ^ t : Nat) : Int) ((1 : Nat) : Int) != 0) = _
  rw [f, Nat.and_one_is_mod, Nat.testBit_eq_decide_div_mod_eq]
  rcases Nat.mod_two_eq_zero_or_one (n / 2 ^ t) with h | h <;> rw [h] <;> rfl
/-! ### Space.rest -/
abbrev s_rest : Stmt := inClass (topS 25) 14
theorem sc_rest : FnScope ["self", "bits"] ["self", "bits"] (defScope s_rest) := ⟨rfl, rfl, rfl, by decide +kernel, rfl, by decide +kernel, by decide +kernel⟩
def spRest (C : Addr) : Sp := fun vs H Q _ => ∃ (x : Addr) (m : List Nat) (n : Nat), vs = [.ref x, vi n] ∧ SpA C H x m ∧ n < 2 ^ 16 ∧ Q (vi (Xr.lessened n m)) H
theorem ok_rest {C f fW fI fL : Addr} {fd fdW fdI fdL : FuncData} (F : Fun K "rest" "Space.rest" s_rest f fd)
    (FW : Fun K "is_within" "is_within" s_is_within fW fdW) (bW : Binds K fdW ["value", "least", "most"] []) (gW : mg "is_within" = some (.ref fW)) (FI : Fun K "is_integer" "is_integer" s_is_integer fI fdI) (bI : Binds K fdI ["value"] []) (gI : mg "is_integer" = some (.ref fI))
    (FL : Fun K "lessened" "lessened" s_lessened fL fdL) (bL : Binds K fdL ["bits", "rows"] []) (gL : mg "lessened" = some (.ref fL)) (T : Nm mg) (S : Cs K mg C) : FnOk P w K mg base CX0 3 f fd ["self", "bits"] (spRest C) := by
  have GW : FnOk P w K mg base CX0 2 fW fdW ["value", "least", "most"] spWithin := ok_within FW FI bI gI T
  have GL : FnOk P w K mg base CX0 1 fL fdL ["bits", "rows"] (spLessT K) := ok_lessT FL
  obtain ⟨tb, gM⟩ := T.mb
  refine F.ok sc_rest (fun vs H Q E h => ?_) (fun cdv A outer s H vs Q E hr h => ?_)
  · obtain ⟨x, m, n, rfl, _⟩ := h
    rfl
  · obtain ⟨x, m, n, rfl, ⟨dx, t, hx, ht, cm, hm⟩, hn, q⟩ := h
    have hr1 : Room 1 _ := hr.mono (by decide)
    refine ⟨_, pss_cons (ps_if (pt_not (pt_val (pe_call GW hr rfl gW FW.kp bW .nil pass0 (pa_cons (pv 1) (pa_cons pe_int (pa_cons (pe_glob (v := .int 65535) rfl gM ⟨_, rfl⟩) pa_nil)))))) (pss_one ps_never) pss_nil)
      (pss_one (ps_ret (pe_call GL hr1 rfl gL FL.kp bL .nil pass0 (pa_cons (pv 1) (pa_cons (pe_fld (pv 0) rfl) pa_nil))))), ?_⟩
    refine ⟨_, rfl, n, 0, 65535, rfl, _, rfl, ?_⟩
    have e : decide ((0 : Int) ≤ (n : Int) ∧ (n : Int) ≤ 65535) = true := decide_eq_true ⟨by omega, by omega⟩
    rw [e]
    refine iteF ?_
    exact ⟨_, rfl, _, rfl, x, C, dx, _, _, rfl, hx, S.cl, S.nR, lookup_rows, n, t, m, rfl, .of ht, q⟩
end
end Lr

set_option Elab.async false
set_option linter.all false
set_option maxRecDepth 100000
set_option maxHeartbeats 4000000
namespace Lr
open PySem PySem.Spec PyProof.Rows L2 Ow
section
variable {P : Program} {w : World} {K : PySem.W.Frag} {mg : Str → Option Value} {base : Heap}
/-! ### Space.__add__ -/
abbrev s_add : Stmt := inClass (topS 25) 7
theorem sc_add : FnScope ["self", "other", "rows"] ["self", "other"] (defScope s_add) := ⟨rfl, rfl, rfl, by decide +kernel, rfl, by decide +kernel, by decide +kernel⟩
def spAdd (C : Addr) : Sp := fun vs H Q _ => ∃ (x y : Addr) (a b : List Nat), vs = [.ref x, .ref y] ∧ SpA C H x a ∧ SpA C H y b ∧ a.length + b.length ≤ 1000 ∧
  ∀ (m : List Nat) (z : Addr) (H' : Hp), (∀ u, Xr.Span m u ↔ Xr.Span (a ++ b) u) → SpA C H' z m → Same H H' → H z = none → Q (.ref z) H'
theorem ok_add {C f f0 : Addr} {fd : FuncData} (F : Fun K "__add__" "Space.__add__" s_add f fd) (GI : FnR P w K mg base CX0 4 f0 (spInitS C)) (MM : Mk K C f0) (T : Nm mg) (S : Cs K mg C) : FnOk P w K mg base CX0 6 f fd ["self", "other"] (spAdd C) := by
  refine F.ok sc_add (fun vs H Q E h => ?_) (fun cdv A outer s H vs Q E hr h => ?_)
  · obtain ⟨x, y, a, b, rfl, _⟩ := h
    rfl
  · obtain ⟨x, y, a, b, rfl, ⟨dx, t, hx, ht, ca, ha⟩, ⟨dy, u, hy, hu, cb, hb⟩, hl, q⟩ := h
    refine ⟨_, pss_cons (ps_if (pt_not (pt_val (pe_callB call_isi (by rfl) T.isi boot_isinstance (pa_cons (pv 1) (pa_cons (pe_glob (v := .ref C) rfl S.gC rfl) pa_nil))))) (pss_one ps_never) pss_nil)
      (pss_cons (ps_set (i := 2) sc_add.nd rfl (Or.inl rfl) (pe_op op_catA (pe_fld (pv 0) rfl) (pe_fld (pv 1) rfl)))
      (pss_one (ps_ret (pe_makeS1 MM GI hr rfl S.gC pass0 (pv 2))))), ?_⟩
    refine ⟨_, rfl, .ref y, .ref C, .ref C, .ref C, true, rfl, .own C, .base (.ins hy S.cl S.ca S.cn S.ct S.cm), S.kC, true, rfl, iteF ?_⟩
    have fin : ∀ (p : Addr) (H1 : Hp) (xs : List Nat), SqT K H1 p (ri xs) → Same H H1 → xs = a ++ b → (∃ a1 xs1, V.ref p = V.ref a1 ∧ (SqT K H1 a1 xs1 ∨ SqL K H1 a1 xs1) ∧ mkAsk C (spInitS C) E0 xs1 H1 (fun x H' => Q x H')) := by
      rintro p H1 xs hp s1 rfl
      refine ⟨p, _, rfl, .inl hp, ask_of ⟨fun r hr' => ?_, by rw [List.length_append]; exact hl, fun m z H' sm hz s2 nz => q m z H' sm hz (s1.trans s2) (s1.free nz)⟩⟩
      rcases List.mem_append.mp hr' with h | h
      · exact ha r h
      · exact hb r h
    refine ⟨_, rfl, x, C, dx, _, _, rfl, hx, S.cl, S.nR, lookup_rows, _, rfl, y, C, dy, _, _, rfl, hy, S.cl, S.nR, lookup_rows, ?_⟩
    refine ⟨t, u, ri a, ri b, rfl, rfl, .of ht, .of hu, ?_, fun e => ?_, fun _ e => ?_, fun _ _ p np => ?_⟩
    · rw [ri_len, ri_len]
      exact Nat.le_of_lt (small1000 hl)
    · have ea : a = [] := by
        cases a with
        | nil => rfl
        | cons => cases e
      exact ⟨_, rfl, fin u H b (.of hu) (fun _ _ h => h) (by rw [ea]; rfl)⟩
    · have eb : b = [] := by
        cases b with
        | nil => rfl
        | cons => cases e
      exact ⟨_, rfl, fin t H a (.of ht) (fun _ _ h => h) (by rw [eb, List.append_nil])⟩
    · rw [← ri_append]
      exact ⟨_, rfl, fin p _ (a ++ b) (.of upd_same) (same_upd np) rfl⟩
/-! ### Space.whole -/
abbrev s_whole : Stmt := inClass (topS 25) 16
theorem sc_whole : FnScope ["many", "rows", "bit"] ["many"] (defScope s_whole) := ⟨rfl, rfl, rfl, by decide +kernel, rfl, by decide +kernel, by decide +kernel⟩
def spWhole (C : Addr) : Sp := fun vs H Q _ => ∃ n : Nat, vs = [vi n] ∧ n ≤ 16 ∧
  ∀ (m : List Nat) (z : Addr) (H' : Hp), (∀ u, Xr.Span m u ↔ Xr.Span ((List.range n).map (2 ^ ·)) u) → SpA C H' z m → Same H H' → H z = none → Q (.ref z) H'
theorem ok_whole {C f f0 fW fI : Addr} {fd fdW fdI : FuncData} (F : Fun K "whole" "Space.whole" s_whole f fd) (GI : FnR P w K mg base CX0 4 f0 (spInitS C)) (MM : Mk K C f0)
    (FW : Fun K "is_within" "is_within" s_is_within fW fdW) (bW : Binds K fdW ["value", "least", "most"] []) (gW : mg "is_within" = some (.ref fW)) (FI : Fun K "is_integer" "is_integer" s_is_integer fI fdI) (bI : Binds K fdI ["value"] []) (gI : mg "is_integer" = some (.ref fI))
    (T : Nm mg) (S : Cs K mg C) (M : Ms K C) : FnOk P w K mg base CX0 6 f fd ["many"] (spWhole C) := by
  have GW : FnOk P w K mg base CX0 2 fW fdW ["value", "least", "most"] spWithin := ok_within FW FI bI gI T
  obtain ⟨mc, uu, cr, cv⟩ := M.most
  refine F.ok sc_whole (fun vs H Q E h => ?_) (fun cdv A outer s H vs Q E hr h => ?_)
  · obtain ⟨n, rfl, _⟩ := h
    rfl
  · obtain ⟨n, rfl, hn, q⟩ := h
    have hr1 : Room 2 _ := hr.mono (by decide)
    refine ⟨_, pss_cons (ps_if (pt_not (pt_val (pe_call GW hr1 rfl gW FW.kp bW .nil pass0 (pa_cons (pv 0) (pa_cons pe_int (pa_cons (pe_op op_add (ClX.pe_cval (pe_glob (v := .ref C) rfl S.gC rfl)) pe_int) pa_nil)))))) (pss_one ps_never) pss_nil)
      (pss_cons (ps_setLc (i := 1) (own := [("bit", 2)]) (g := (gName 2)) (tt := tYes) rfl sc_whole.nd rfl rfl (sw_true rfl rfl rfl (by decide +kernel)) (pi_range1 rfl T.range (pa_cons (pv 0) pa_nil)) (blkOk_by (by kernel_rfl)) (fun _ _ _ _ _ => pg_name (i := 2) sc_whole.nd rfl (Or.inl rfl)) (fun _ _ _ _ _ => pts_nil) (fun _ _ _ _ _ => (pe_op op_shl pe_int (pv 2))))
      (pss_one (ps_ret (pe_makeS1 MM GI hr rfl S.gC pass0 (pv 1))))), ?_⟩
    refine ⟨_, rfl, C, mc, _, _, rfl, cr, cv, _, _, rfl, rfl, n, 0, 16, rfl, _, rfl, ?_⟩
    have e : decide ((0 : Int) ≤ (n : Int) ∧ (n : Int) ≤ 16) = true := decide_eq_true ⟨by omega, by omega⟩
    rw [e]
    refine iteF ?_
    refine ⟨_, rfl, n, rfl, by omega, by omega, fun D nD => ?_⟩
    refine lc_range (lo := 0) (n := n) (fun j H3 => Same H H3 ∧ H3 D = some (.lst (ri ((List.range j).map (2 ^ ·))))) ⟨same_upd nD, upd_same⟩ ?_ ?_
    · rintro j H3 hj ⟨s3, e3⟩
      refine ⟨rfl, ?_⟩
      have c16 : CPow 1 ((0 : Int) + (j : Int)) := by
        rw [Int.zero_add]
        exact cpow_one (by omega)
      have ev : (fun i j => V.int (i * 2 ^ Int.toNat j)) 1 ((0 : Int) + (j : Int)) = vi (2 ^ j) := by
        rw [Int.zero_add]
        exact congrArg V.int (shl_one j)
      refine ⟨_, rfl, _, _, rfl, rfl, c16, ?_⟩
      rw [ev]
      refine ⟨_, e3, ?_, same_put s3 nD, ?_⟩
      · rw [ri_len, List.length_map, List.length_range]
        exact small1000 (by omega)
      · rw [upd_same, List.range_succ, List.map_append, ri_append]
        rfl
    · rintro H3 ⟨s3, e3⟩
      refine ⟨_, rfl, D, _, rfl, .inr (.of e3), ask_of ⟨fun r hr' => ?_, ?_, fun m z H' sm hz s2 nz => q m z H' sm hz (s3.trans s2) (s3.free nz)⟩⟩
      · obtain ⟨b, hb, rfl⟩ := List.mem_map.mp hr'
        exact Nat.pow_lt_pow_right (by decide) (by have := List.mem_range.mp hb; omega)
      · rw [List.length_map, List.length_range]
        omega
end
end Lr

set_option Elab.async false
set_option linter.all false
set_option maxRecDepth 100000
set_option maxHeartbeats 4000000
namespace Lr
open PySem PySem.Spec PyProof.Rows L2 Ow
/-! ### the pen -/
def ii (l : List Int) : List V := l.map V.int
theorem ii_len (l : List Int) : (ii l).length = l.length := List.length_map ..
theorem ri_ii (l : List Nat) : ri l = ii (l.map fun n : Nat => (n : Int)) := ri_int l
/-- a pen at a: from at most n draws -/
def PenAt (H : Hp) (a b : Addr) (n : Nat) : Prop := ∃ (ns : List Int) (i : Nat) (g : Int), H a = some (.lst [.ref b, .int (i : Int), .int g]) ∧ H b = some (.lst (ii ns)) ∧ ns.length ≤ 63 ∧ i ≤ n
/-- all stays but what stands at a -/
def Kept (a : Addr) (H H' : Hp) : Prop := ∀ c o, c ≠ a → H c = some o → H' c = some o
theorem Kept.trans {a : Addr} {H H1 H2 : Hp} (x : Kept a H H1) (y : Kept a H1 H2) : Kept a H H2 := fun c o n h => y c o n (x c o n h)
theorem Kept.refl (a : Addr) (H : Hp) : Kept a H H := fun _ _ _ h => h
theorem Same.kept {a : Addr} {H H' : Hp} (s : Same H H') : Kept a H H' := fun c o _ h => s c o h
theorem PenAt.same {H H' : Hp} {a b : Addr} {n : Nat} (p : PenAt H a b n) (s : Same H H') : PenAt H' a b n := by
  obtain ⟨ns, i, g, h1, h2, h3⟩ := p
  exact ⟨ns, i, g, s _ _ h1, s _ _ h2, h3⟩
theorem PenAt.mono {H : Hp} {a b : Addr} {n m : Nat} (p : PenAt H a b n) (h : n ≤ m) : PenAt H a b m := by
  obtain ⟨ns, i, g, h1, h2, h3, h4⟩ := p
  exact ⟨ns, i, g, h1, h2, h3, Nat.le_trans h4 h⟩
theorem kept_upd {a : Addr} {H : Hp} {o : HO} : Kept a H (upd H a o) := fun c o' n h => by
  rw [upd_ne n]
  exact h
theorem pen_ne {H : Hp} {a b c : Addr} {ns : List Int} {v w : V} (h1 : H a = some (.lst [.ref c, v, w])) (h2 : H b = some (.lst (ii ns))) : b ≠ a := by
  rintro rfl
  rw [h1] at h2
  have e : [V.ref c, v, w] = ii ns := by
    injection h2 with e
    injection e
  cases ns with
  | nil => cases e
  | cons x xs => cases e
theorem dp_ints {K : PySem.W.Frag} {H : Hp} : ∀ ns : List Int, DpAll K H (ii ns) (ns.map PyData.int)
  | [] => .nil
  | n :: ns => .cons (.int n) (dp_ints ns)
theorem canlay_ints : ∀ ns : List Int, PyData.canLayAll0 (ns.map PyData.int) = true
  | [] => by simp [PyData.canLayAll0]
  | n :: ns => by simp [PyData.canLayAll0, PyData.canLay0, canlay_ints ns]
theorem depth_ints : ∀ ns : List Int, PyData.depthAll (ns.map PyData.int) ≤ 1 := by
  intro ns
  induction ns with
  | nil => simp [PyData.depthAll]
  | cons n ns ih => simp [PyData.depthAll, PyData.depth]; omega
end Lr

set_option Elab.async false
set_option linter.all false
set_option maxRecDepth 100000
set_option maxHeartbeats 4000000
namespace Lr
open PySem PySem.Spec PyProof.Rows L2 Ow
section
variable {P : Program} {w : World} {K : PySem.W.Frag} {mg : Str → Option Value} {base : Heap}
abbrev s_draw : Stmt := topS 28
theorem sc_draw : FnScope ["_law_pen_here", "_law_many", "_law_digit", "_law_spot", "_law_cell", "_law_great", "_law_mixed"] ["_law_pen_here", "_law_many"] (defScope s_draw) := ⟨rfl, rfl, rfl, by decide +kernel, rfl, by decide +kernel, by decide +kernel⟩
def spDraw : Sp := fun vs H Q _ => ∃ (a b : Addr) (m n : Nat), vs = [.ref a, vi m] ∧ PenAt H a b n ∧ n ≤ 1000 ∧ 0 < m ∧ m ≤ 2 ^ 20 ∧ ∀ (d : Nat) (H' : Hp), d < m → PenAt H' a b (n + 1) → Kept a H H' → Q (vi d) H'
theorem modv (x : Int) {m : Nat} (h : 0 < m) : ∃ d : Nat, d < m ∧ x % (m : Int) = (d : Int) := by
  refine ⟨(x % (m : Int)).toNat, ?_, ?_⟩
  · have h1 := Int.emod_nonneg x (by omega : (m : Int) ≠ 0)
    have h2 := Int.emod_lt_of_pos x (by omega : (0 : Int) < (m : Int))
    omega
  · have h1 := Int.emod_nonneg x (by omega : (m : Int) ≠ 0)
    omega
theorem cp1 (x : Int) {i : Nat} (h : i ≤ 1000) : CPow (x % 2147483477 + 67017 * (i : Int) + 645) 5 := by
  refine ⟨by decide, by decide, ?_⟩
  show _ < 18446744073709551616
  omega
theorem mulB {y : Int} {i : Nat} (h0 : 0 ≤ y) (h1 : y < 2147483579) (h : i ≤ 1000) : 0 ≤ y * (2 * (i : Int) + 241) ∧ y * (2 * (i : Int) + 241) ≤ 2147483579 * 2973 ∧ 0 ≤ 42785 * (i : Int) * (i : Int) ∧ 42785 * (i : Int) * (i : Int) ≤ 42785000 * 1000 := by
  refine ⟨Int.mul_nonneg h0 (by omega), Int.mul_le_mul (by omega) (by omega) (by omega) (by omega), Int.mul_nonneg (by omega) (by omega), Int.mul_le_mul (by omega) (by omega) (by omega) (by omega)⟩
theorem cp2 {y : Int} {i : Nat} (h0 : 0 ≤ y) (h1 : y < 2147483579) (h : i ≤ 1000) : CPow (y * (2 * (i : Int) + 241) + 42785 * (i : Int) * (i : Int) + 439) 3 := by
  refine ⟨by decide, by decide, ?_⟩
  obtain ⟨a, b, c, d⟩ := mulB h0 h1 h
  show _ < 18446744073709551616
  omega
theorem ok_draw {f : Addr} {fd : FuncData} (F : Fun K "_law_draw" "_law_draw" s_draw f fd) (T : Nm mg) : FnOk P w K mg base CX0 1 f fd ["_law_pen_here", "_law_many"] spDraw := by
  refine F.ok sc_draw (fun vs H Q E h => ?_) (fun cdv A outer s H vs Q E hr h => ?_)
  · obtain ⟨a, b, m, n, rfl, _⟩ := h
    rfl
  · obtain ⟨a, b, m, n, rfl, ⟨ns, i, g, ha, hb, hn, hi⟩, hn1, m0, m1, q⟩ := h
    have hu := hr.units
    refine ⟨_, (pss_cons (ps_if (pt_cmpR op_gt (pe_ix ix_list (pv 0) pe_int (fun _ _ => rfl)) pe_int (nomark _)) (pss_cons (ps_set (i := 2) sc_draw.nd rfl (Or.inl rfl) (pe_op op_mod (pe_callTy call_int1 (by rfl) T.int PyProof.Rows.boot_int (pa_cons (pe_ix ix_list (pv 0) pe_int (fun _ _ => rfl)) pa_nil)) (pv 1)))
    (pss_cons (ps_asg (pe_op op_fdiv (pe_callTy call_int1 (by rfl) T.int PyProof.Rows.boot_int (pa_cons (pe_ix ix_list (pv 0) pe_int (fun _ _ => rfl)) pa_nil)) (pv 1)) (pg_sub (pv 0) pe_int set_list))
    (pss_one (ps_ret (pv 2))))) pss_nil)
    (pss_cons (ps_set (i := 3) sc_draw.nd rfl (Or.inl rfl) (pe_ix ix_list (pv 0) pe_int (fun _ _ => rfl)))
    (pss_cons (ps_asg (pe_op op_add (pv 3) pe_int) (pg_sub (pv 0) pe_int set_list))
    (pss_cons (ps_set (i := 4) sc_draw.nd rfl (Or.inl rfl) (pe_op op_add (pe_op op_mul pe_int (pv 3)) pe_int))
    (pss_cons (ps_if (pt_cmpR (op_neD hu) (pe_ix ix_list (pv 0) pe_int (fun _ _ => rfl)) (pe_lst pa_nil) (nomark _)) (pss_one (ps_set (i := 4) sc_draw.nd rfl (Or.inl rfl) (pe_ix ix_list (pe_ix ix_list (pv 0) pe_int (fun _ _ => rfl)) (pe_op op_mod (pe_callTy call_int1 (by rfl) T.int PyProof.Rows.boot_int (pa_cons (pv 3) pa_nil)) (pe_callB call_len_seq (by rfl) T.len PySem.boot_len (pa_cons (pe_ix ix_list (pv 0) pe_int (fun _ _ => rfl)) pa_nil))) (fun _ _ => rfl)))) pss_nil)
    (pss_cons (ps_if (PW.pt (pw_and (pt_cmpR op_lt (pv 3) (pe_callB call_len_seq (by rfl) T.len PySem.boot_len (pa_cons (pe_ix ix_list (pv 0) pe_int (fun _ _ => rfl)) pa_nil)) (nomark _)) (pw_and1 (pt_cmpR op_ge (pe_callB call_abs (by rfl) T.abs PyProof.Rows.boot_abs (pa_cons (pv 4) pa_nil)) (pe_op op_pow pe_int pe_int) (nomark _))))) (pss_cons (ps_set (i := 5) sc_draw.nd rfl (Or.inl rfl) (pe_op op_add (pe_op op_mul pe_int (pe_op op_sub (pe_callB call_abs (by rfl) T.abs PyProof.Rows.boot_abs (pa_cons (pv 4) pa_nil)) (pe_op op_pow pe_int pe_int))) (pe_callTy call_int1 (by rfl) T.int PyProof.Rows.boot_int (pa_cons (pe_cmpR op_lt (pv 4) pe_int (nomark _)) pa_nil))))
    (pss_cons (ps_asg (pe_op op_fdiv (pe_callTy call_int1 (by rfl) T.int PyProof.Rows.boot_int (pa_cons (pv 5) pa_nil)) (pv 1)) (pg_sub (pv 0) pe_int set_list))
    (pss_one (ps_ret (pe_op op_mod (pe_callTy call_int1 (by rfl) T.int PyProof.Rows.boot_int (pa_cons (pv 5) pa_nil)) (pv 1)))))) pss_nil)
    (pss_cons (ps_set (i := 6) sc_draw.nd rfl (Or.inl rfl) (pe_op op_mod (pe_callTy call_int1 (by rfl) T.int PyProof.Rows.boot_int (pa_cons (pe_op op_pow (pe_op op_add (pe_op op_add (pe_op op_mod (pe_callTy call_int1 (by rfl) T.int PyProof.Rows.boot_int (pa_cons (pv 4) pa_nil)) pe_int) (pe_op op_mul pe_int (pv 3))) pe_int) pe_int) pa_nil)) pe_int))
    (pss_cons (ps_set (i := 6) sc_draw.nd rfl (Or.inl rfl) (pe_op op_mod (pe_callTy call_int1 (by rfl) T.int PyProof.Rows.boot_int (pa_cons (pe_op op_pow (pe_op op_add (pe_op op_add (pe_op op_mul (pv 6) (pe_op op_add (pe_op op_mul pe_int (pv 3)) pe_int)) (pe_op op_mul (pe_op op_mul pe_int (pv 3)) (pv 3))) pe_int) pe_int) pa_nil)) pe_int))
    (pss_one (ps_ret (pe_op op_mod (pe_callTy call_int1 (by rfl) T.int PyProof.Rows.boot_int (pa_cons (pe_op op_fdiv (pv 6) pe_int) pa_nil)) (pv 1)))))))))))), ?_⟩
    have sq : ∀ {H' : Hp} {v w : V}, H' a = some (.lst [.ref b, v, w]) → SqL K H' a [.ref b, v, w] := fun h => .of h
    refine ⟨_, rfl, a, _, _, .int g, rfl, rfl, .of ha, at_of (j := 2) rfl rfl, _, _, rfl, rfl, _, rfl, ?_⟩
    refine ite2 (fun c => ?_) (fun c => ?_)
    · refine ⟨_, rfl, a, _, _, .int g, rfl, rfl, .of ha, at_of (j := 2) rfl rfl, .inl ⟨_, rfl, _, rfl, _, _, rfl, rfl, ?_, ?_⟩⟩
      · show (0 : Int) < (m : Int)
        omega
      · refine ⟨_, rfl, a, _, _, .int g, rfl, rfl, .of ha, at_of (j := 2) rfl rfl, .inl ⟨_, rfl, _, rfl, _, _, rfl, rfl, ?_, ?_⟩⟩
        · exact ⟨by omega, by omega⟩
        · refine ⟨_, rfl, a, _, _, 2, rfl, rfl, ha, rfl, ?_⟩
          obtain ⟨d, hd, ed⟩ := modv g m0
          refine ⟨_, rfl, ?_⟩
          show Q (V.int (g % (m : Int))) _
          rw [ed]
          exact q d _ hd ⟨ns, i, _, upd_same, by rw [upd_ne (pen_ne ha hb)]; exact hb, hn, by omega⟩ kept_upd
    · refine ⟨_, rfl, a, _, _, .int i, rfl, rfl, .of ha, at_of (j := 1) rfl rfl, ?_⟩
      refine ⟨_, rfl, _, _, rfl, rfl, _, rfl, a, _, _, 1, rfl, rfl, ha, rfl, ?_⟩
      have h1 : (upd H a (HO.lst ([V.ref b, V.int (i : Int), V.int g].set 1 (V.int ((i : Int) + 1))))) a = some (HO.lst [V.ref b, V.int ((i + 1 : Nat) : Int), V.int g]) := by
        rw [upd_same]
        rfl
      have hb1 : (upd H a (HO.lst ([V.ref b, V.int (i : Int), V.int g].set 1 (V.int ((i : Int) + 1))))) b = some (HO.lst (ii ns)) := by
        rw [upd_ne (pen_ne ha hb)]
        exact hb
      have k1 : Kept a H (upd H a (HO.lst ([V.ref b, V.int (i : Int), V.int g].set 1 (V.int ((i : Int) + 1))))) := kept_upd
      show (fun H3 : Hp => _) _
      generalize (upd H a (HO.lst ([V.ref b, V.int (i : Int), V.int g].set 1 (V.int ((i : Int) + 1))))) = H1 at *
      refine ⟨_, rfl, _, _, rfl, rfl, .inl ⟨by decide, by decide⟩, _, _, rfl, rfl, ?_⟩
      refine ⟨_, rfl, a, _, _, .ref b, rfl, rfl, .of h1, at_of (j := 0) rfl rfl, Nat.zero_le _, fun o no => ?_⟩
      have oa : a ≠ o := ne_of_none h1 no
      have ob : b ≠ o := ne_of_none hb1 no
      have h2 : (upd H1 o (.lst [])) a = _ := (upd_ne oa).trans h1
      have hb2 : (upd H1 o (.lst [])) b = _ := (upd_ne ob).trans hb1
      have k2 : Kept a H (upd H1 o (.lst [])) := k1.trans (Same.kept (same_upd no))
      refine ⟨.list (ns.map PyData.int), .list [], .lst (.of hb2) (dp_ints ns), .lst (.of upd_same) .nil, ?_, rfl, _, rfl, ?_⟩
      · refine Bool.and_eq_true_iff.mpr ⟨?_, decide_eq_true ?_⟩
        · show PyData.canLay0 (.list _) = true
          rw [PyData.canLay0]
          exact canlay_ints ns
        · show PyData.depth (.list _) ≤ 64
          rw [PyData.depth]
          have := depth_ints ns
          omega
      generalize upd H1 o (.lst []) = H2 at *
      have cp : CPow 10 18 := ⟨by decide, by decide, by decide⟩
      have i1 : i ≤ 1000 := Nat.le_trans hi hn1
      have cm : ∀ x : Int, CMul 42785 x ∧ CMul 67017 x ∧ CMul 2 x := fun x => ⟨.inl ⟨by decide, by decide⟩, .inl ⟨by decide, by decide⟩, .inl ⟨by decide, by decide⟩⟩
      have pos5 : (0 : Int) < (m : Int) := by omega
      have dv : CDiv 0 (m : Int) := ⟨by omega, by omega⟩
      have fin : ∀ (x : Int) (H3 : Hp), PenAt H3 a b (n + 1) → Kept a H H3 → Q (.int (x % (m : Int))) H3 := fun x H3 p k => by
        obtain ⟨d, hd, ed⟩ := modv x m0
        rw [ed]
        exact q d H3 hd p k
      have pen : PenAt H2 a b (n + 1) := ⟨ns, i + 1, g, h2, hb2, hn, by omega⟩
      have ba : b ≠ a := pen_ne h2 hb2
      refine ite2 (fun c2 => ?_) (fun c2 => ?_)
      have nz : 0 < ns.length := by
        cases ns with
        | nil =>
          have : (!(PyData.list (List.map PyData.int [])).eqv (PyData.list [])) = true := c2
          exact absurd this (by decide)
        | cons x xs => exact Nat.succ_pos _
      have lt : i % ns.length < ns.length := Nat.mod_lt _ nz
      have gz : (ii ns)[i % ns.length]? = some (V.int ns[i % ns.length]) := by
        unfold ii
        rw [List.getElem?_map, List.getElem?_eq_getElem lt]
        rfl
      refine ⟨_, rfl, a, _, _, .ref b, rfl, rfl, .of h2, at_of (j := 0) rfl rfl, _, rfl, .inl ⟨_, rfl, _, rfl, a, _, _, .ref b, rfl, rfl, .of h2, at_of (j := 0) rfl rfl, b, _, rfl, .inl (.of hb2), _, _, rfl, rfl, ?_, ?_⟩⟩
      · show (0 : Int) < (((ii ns).length : Nat) : Int)
        rw [ii_len]
        omega
      refine ⟨b, ii ns, _, _, rfl, rfl, .of hb2, at_of (j := i % ns.length) ?_ gz, ?_⟩
      · show (i : Int) % (((ii ns).length : Nat) : Int) = _
        rw [ii_len]
        exact (Int.natCast_emod i ns.length).symm
      all_goals
        refine ⟨_, rfl, _, rfl, a, _, _, .ref b, rfl, rfl, .of h2, at_of (j := 0) rfl rfl, b, _, rfl, .inl (.of hb2), _, _, rfl, rfl, _, rfl, ?_⟩
      all_goals
        refine ite2 (fun c3 => ?_) (fun c3 => ?_)
      all_goals first
        | refine ⟨_, rfl, _, rfl, _, _, rfl, rfl, cp, _, _, rfl, rfl, _, rfl, ?_⟩
          refine ite2 (fun c4 => ?_) (fun c4 => ?_)
          · refine ⟨_, rfl, _, rfl, _, _, rfl, rfl, cp, _, _, rfl, rfl, _, _, rfl, rfl, (cm _).2.2, _, rfl, _, _, rfl, rfl, .inr ⟨_, rfl, _, _, rfl, rfl, ?_⟩⟩
            refine ⟨_, rfl, .inl ⟨_, rfl, _, rfl, _, _, rfl, rfl, dv, _, rfl, a, _, _, 2, rfl, rfl, h2, rfl, ?_⟩⟩
            refine ⟨_, rfl, .inl ⟨_, rfl, _, rfl, _, _, rfl, rfl, pos5, ?_⟩⟩
            exact fin _ _ ⟨ns, i + 1, _, upd_same, by rw [upd_ne ba]; exact hb2, hn, by omega⟩ (k2.trans kept_upd)
          skip
        | skip
      all_goals
        have y0 : ∀ x : Int, 0 ≤ x % 2147483579 ∧ x % 2147483579 < 2147483579 := fun x => by omega
        refine ⟨_, rfl, .inl ⟨_, rfl, _, _, rfl, rfl, (by show (0 : Int) < 2147483477; decide), _, rfl, _, _, rfl, rfl, (cm _).2.1, _, _, rfl, rfl, _, _, rfl, rfl, _, _, rfl, rfl, cp1 _ i1, .inl ⟨_, rfl, _, _, rfl, rfl, (by show (0 : Int) < 2147483579; decide), ?_⟩⟩⟩
        refine ⟨_, rfl, _, rfl, _, _, rfl, rfl, (cm _).2.2, _, _, rfl, rfl, _, _, rfl, rfl, .inl ⟨?_, ?_⟩, _, rfl, _, _, rfl, rfl, (cm _).1, _, rfl, _, _, rfl, rfl, .inl ⟨?_, ?_⟩, _, _, rfl, rfl, _, _, rfl, rfl, _, _, rfl, rfl, cp2 (y0 _).1 (y0 _).2 i1, .inl ⟨_, rfl, _, _, rfl, rfl, (by show (0 : Int) < 2147483549; decide), ?_⟩⟩
        · exact Int.lt_of_lt_of_le (by decide) (y0 _).1
        · exact Int.lt_trans (y0 _).2 (by decide)
        · omega
        · omega
        refine ⟨_, rfl, _, _, rfl, rfl, ⟨by decide, by decide⟩, .inl ⟨_, rfl, _, rfl, _, _, rfl, rfl, pos5, ?_⟩⟩
        exact fin _ _ pen k2
end
end Lr

set_option Elab.async false
set_option linter.all false
set_option maxRecDepth 100000
set_option maxHeartbeats 4000000
namespace Lr
open PySem PySem.Spec PyProof.Rows L2 Ow
section
variable {P : Program} {w : World} {K : PySem.W.Frag} {mg : Str → Option Value} {base : Heap}
abbrev s_pen : Stmt := topS 27
theorem sc_pen : FnScope ["_law_script"] ["_law_script"] (defScope s_pen) := ⟨rfl, rfl, rfl, by decide +kernel, rfl, by decide +kernel, by decide +kernel⟩
def spPen (K : PySem.W.Frag) : Sp := fun vs H Q _ => ∃ (a : Addr) (ns : List Int), vs = [.ref a] ∧ SqL K H a (ii ns) ∧ ns.length ≤ 63 ∧ ∀ (p b : Addr) (H' : Hp), PenAt H' p b 0 → Same H H' → H p = none → Q (.ref p) H'
theorem cut_ii (ns : List Int) (lo hi : Option Int) : ∃ ms, cutV (ii ns) lo hi = ii ms ∧ ms.length ≤ ns.length := by
  refine ⟨((ns.drop (HT.sIx (ii ns).length 0 lo)).take (HT.sIx (ii ns).length (ii ns).length hi - HT.sIx (ii ns).length 0 lo)), ?_, ?_⟩
  · unfold cutV ii
    rw [List.map_take, List.map_drop]
  · rw [List.length_take, List.length_drop]
    omega
theorem ok_pen {f : Addr} {fd : FuncData} (F : Fun K "_law_pen" "_law_pen" s_pen f fd) (T : Nm mg) : FnOk P w K mg base CX0 1 f fd ["_law_script"] (spPen K) := by
  refine F.ok sc_pen (fun vs H Q E h => ?_) (fun cdv A outer s H vs Q E hr h => ?_)
  · obtain ⟨a, ns, rfl, _⟩ := h
    rfl
  · obtain ⟨a, ns, rfl, hS, hl, q⟩ := h
    refine ⟨_, pss_one (ps_ret (pe_lst (pa_cons (pe_callTy call_list_of (by rfl) T.list PyProof.Rows.boot_list (pa_cons (pe_slice sl_list (pv 0) po_none (po_some pe_int)) pa_nil)) (pa_cons pe_int (pa_cons pe_int pa_nil))))), ?_⟩
    obtain ⟨ms, em, lm⟩ := cut_ii ns none (some 63)
    refine ⟨_, rfl, _, rfl, a, _, rfl, hS, fun p np => ?_⟩
    refine ⟨p, _, rfl, .inl (.of upd_same), fun p2 np2 => ?_⟩
    have e12 : p ≠ p2 := ne_of_none upd_same np2
    have nq : H p2 = none := by
      rw [upd_ne (Ne.symm e12)] at np2
      exact np2
    refine ⟨small1000 (by show 3 ≤ 1000; omega) |> Nat.le_of_lt, fun p3 np3 => ?_⟩
    have e23 : p2 ≠ p3 := ne_of_none upd_same np3
    have nr : (upd H p (.lst (cutV (ii ns) none (some 63)))) p3 = none := by
      rw [upd_ne (Ne.symm e23)] at np3
      exact np3
    have e13 : p ≠ p3 := ne_of_none upd_same nr
    have n3 : H p3 = none := by
      rw [upd_ne (Ne.symm e13)] at nr
      exact nr
    refine q p3 p2 _ ⟨ms, 0, 0, upd_same, ?_, by omega, Nat.le_refl _⟩ (same_put (same_put (same_upd np) nq) n3) n3
    rw [upd_ne e23, upd_same, em]
abbrev s_pick : Stmt := topS 29
theorem sc_pick : FnScope ["_law_pen_here", "_law_some"] ["_law_pen_here", "_law_some"] (defScope s_pick) := ⟨rfl, rfl, rfl, by decide +kernel, rfl, by decide +kernel, by decide +kernel⟩
def spPick : Sp := fun vs H Q _ => ∃ (a b p : Addr) (n : Nat) (l : List Nat), vs = [.ref a, .ref p] ∧ PenAt H a b n ∧ n ≤ 1000 ∧ H p = some (.lst (ri l)) ∧ 0 < l.length ∧ l.length ≤ 1000 ∧ ∀ (x : Nat) (H' : Hp), x ∈ l → PenAt H' a b (n + 1) → Kept a H H' → Q (vi x) H'
theorem ok_pick {f fD : Addr} {fd fdD : FuncData} (F : Fun K "_law_pick" "_law_pick" s_pick f fd) (FD : Fun K "_law_draw" "_law_draw" s_draw fD fdD) (bD : Binds K fdD ["_law_pen_here", "_law_many"] []) (gD : mg "_law_draw" = some (.ref fD)) (T : Nm mg) :
    FnOk P w K mg base CX0 2 f fd ["_law_pen_here", "_law_some"] spPick := by
  have GD : FnOk P w K mg base CX0 1 fD fdD ["_law_pen_here", "_law_many"] spDraw := ok_draw FD T
  refine F.ok sc_pick (fun vs H Q E h => ?_) (fun cdv A outer s H vs Q E hr h => ?_)
  · obtain ⟨a, b, p, n, l, rfl, _⟩ := h
    rfl
  · obtain ⟨a, b, p, n, l, rfl, hp, hn, hl, l0, l1, q⟩ := h
    refine ⟨_, pss_one (ps_ret (pe_ix ix_list (pv 1) (pe_call GD hr rfl gD FD.kp bD .nil pass0 (pa_cons (pv 0) (pa_cons (pe_callB call_len_seq (by rfl) T.len PySem.boot_len (pa_cons (pv 1) pa_nil)) pa_nil))) (fun _ _ => rfl))), ?_⟩
    have hp' := hp
    obtain ⟨ns, i, g, ha, hb, _⟩ := hp'
    have pa : p ≠ a := pen_ne ha (by rw [← ri_ii]; exact hl)
    refine ⟨_, rfl, _, rfl, _, rfl, p, _, rfl, .inl (.of hl), a, b, l.length, n, ?_, hp, hn, l0, by omega, fun d H' hd p' k => ?_⟩
    · rw [ri_len]
      rfl
    refine ⟨p, _, _, _, rfl, rfl, .of (k _ _ pa hl), at_of (j := d) rfl ?_, q l[d] H' (List.getElem_mem hd) p' k⟩
    unfold ri
    rw [List.getElem?_map, List.getElem?_eq_getElem hd]
    rfl
end
end Lr

set_option Elab.async false
set_option linter.all false
set_option maxRecDepth 100000
set_option maxHeartbeats 4000000
namespace Lr
open PySem PySem.Spec PyProof.Rows L2 Ow
theorem fnR_of {P : Program} {w : World} {K : PySem.W.Frag} {mg : Str → Option Value} {base : Heap} {CX : CXT} {k : Nat} {f : Addr} {fd : FuncData} {ps : List Str} {sp : Sp} (F : FnOk P w K mg base CX k f fd ps sp) (b : Binds K fd ps []) : FnR P w K mg base CX k f sp :=
  (F.raw b .nil).imp fun vs H Q E h => by
    rw [List.append_nil]
    exact h
/-- the class's own + -/
structure Ad (K : PySem.W.Frag) (C g : Addr) : Prop where
  fa : PySem.W.findIn K (.ref C) "__add__" = some (some (.ref g))
  fk : PySem.W.isFn K (.ref g) = true
theorem span_app {l m l' m' : List Nat} (h1 : ∀ u, Xr.Span l u ↔ Xr.Span l' u) (h2 : ∀ u, Xr.Span m u ↔ Xr.Span m' u) (u : Nat) : Xr.Span (l ++ m) u ↔ Xr.Span (l' ++ m') u := by
  rw [Xr.span_append, Xr.span_append]
  constructor
  · rintro ⟨y, z, a, b, c⟩
    exact ⟨y, z, (h1 y).mp a, (h2 z).mp b, c⟩
  · rintro ⟨y, z, a, b, c⟩
    exact ⟨y, z, (h1 y).mpr a, (h2 z).mpr b, c⟩
/-- a reduced list of numbers below 2 ^ n has at most n rows -/
theorem canon_len : ∀ {l : List Nat} {n : Nat}, l.Pairwise (· < ·) → (∀ x ∈ l, x < n) → l.length ≤ n := by
  intro l n h1 h2
  have nd : l.Nodup := List.nodup_iff_pairwise_ne.mpr (h1.imp fun h => Nat.ne_of_lt h)
  have := List.Nodup.length_le_of_subset (l₂ := List.range n) nd (fun x hx => List.mem_range.mpr (h2 x hx))
  rwa [List.length_range] at this
theorem red_len {l : List Nat} (h : Xr.Red l) {n : Nat} (hn : ∀ r ∈ l, r < 2 ^ n) : l.length ≤ n := by
  have nd : (l.map Xr.top).Nodup := by
    have := Xr.Red.tops_nodup h (p := fun _ => true)
    rwa [List.filter_eq_self.mpr (fun _ _ => rfl)] at this
  have := List.Nodup.length_le_of_subset (l₂ := List.range n) nd (fun x hx => by
    obtain ⟨r, hr, rfl⟩ := List.mem_map.mp hx
    exact List.mem_range.mpr (Xr.top_lt (hn r hr) (h.1 r hr)))
  rw [List.length_range, List.length_map] at this
  exact this
theorem t_seq {t u : TS} {D : Ends} {σ : L2.St} {H : Hp} (h : t { D with nx := u D } σ H) : tSeq t u D σ H := h
theorem t_asg {te : TE} {g : TG} {D : Ends} {σ : L2.St} {H : Hp} (h : te σ H fun x H1 => g x σ H1 D.nx) : tAsg te g D σ H := h
section
variable {P : Program} {w : World} {K : PySem.W.Frag} {mg : Str → Option Value} {base : Heap}
abbrev s_space : Stmt := topS 999
def spSpace (C : Addr) : Sp := fun vs H Q _ => ∃ (p : Addr) (l : List Nat), vs = [.ref p] ∧ H p = some (.lst (ri l)) ∧ (∀ r ∈ l, r < 2 ^ 16) ∧
  ∀ (m : List Nat) (z : Addr) (H' : Hp), (∀ u, Xr.Span m u ↔ Xr.Span l u) → SpA C H' z m → Same H H' → Q (.ref z) H'
end
end Lr

set_option Elab.async false
set_option linter.all false
set_option maxRecDepth 100000
set_option maxHeartbeats 4000000
namespace Lr
open PySem PySem.Spec PyProof.Rows L2 Ow
theorem eqv_intsB : ∀ a b : List Int, PyData.eqvAll (a.map PyData.int) (b.map PyData.int) = decide (a = b)
  | [], [] => rfl
  | [], _ :: _ => rfl
  | _ :: _, [] => rfl
  | x :: a, y :: b => by
    show (x == y && PyData.eqvAll (a.map PyData.int) (b.map PyData.int)) = _
    rw [eqv_intsB a b]
    by_cases h : x = y
    · subst h
      by_cases k : a = b
      · subst k; simp
      · simp [k]
    · simp [h]
theorem nat_inj {a b : List Nat} : (a.map fun n : Nat => (n : Int)) = (b.map fun n : Nat => (n : Int)) ↔ a = b := by
  constructor
  · intro h
    have := congrArg (List.map Int.toNat) h
    rw [List.map_map, List.map_map] at this
    have e : (Int.toNat ∘ fun n : Nat => (n : Int)) = id := by
      funext n
      exact Int.toNat_natCast n
    rw [e, List.map_id, List.map_id] at this
    exact this
  · intro h
    rw [h]
theorem shaped_tup (ns : List Int) : SeqAt.shaped (.tuple (ns.map PyData.int)) = true := by
  refine Bool.and_eq_true_iff.mpr ⟨?_, decide_eq_true ?_⟩
  · show PyData.canLay0 (.tuple _) = true
    rw [PyData.canLay0]
    exact canlay_ints ns
  · show PyData.depth (.tuple _) ≤ 64
    rw [PyData.depth]
    have := depth_ints ns
    omega
section
variable {P : Program} {w : World} {K : PySem.W.Frag} {mg : Str → Option Value} {base : Heap}
/-! ### == -/
abbrev s_eq : Stmt := inClass (topS 25) 5
theorem sc_eq : FnScope ["self", "other"] ["self", "other"] (defScope s_eq) := ⟨rfl, rfl, rfl, by decide +kernel, rfl, by decide +kernel, by decide +kernel⟩
def spEqS (C : Addr) : Sp := fun vs H Q _ => ∃ (x y : Addr) (a b : List Nat), vs = [.ref x, .ref y] ∧ SpA C H x a ∧ SpA C H y b ∧ Q (.bl (decide (a = b))) H
theorem ok_eq {C f : Addr} {fd : FuncData} (F : Fun K "__eq__" "Space.__eq__" s_eq f fd) (T : Nm mg) (S : Cs K mg C) : FnOk P w K mg base CX0 1 f fd ["self", "other"] (spEqS C) := by
  refine F.ok sc_eq (fun vs H Q E h => ?_) (fun cdv A outer s H vs Q E hr h => ?_)
  · obtain ⟨x, y, a, b, rfl, _⟩ := h
    rfl
  · obtain ⟨x, y, a, b, rfl, ⟨dx, t, hx, ht, ca, ha⟩, ⟨dy, u, hy, hu, cb, hb⟩, q⟩ := h
    have hun := hr.units
    refine ⟨_, (pss_one (ps_ret (pe_and (pe_callB call_isi (by rfl) T.isi boot_isinstance (pa_cons (pv 1) (pa_cons (pe_glob (v := .ref C) rfl S.gC rfl) pa_nil))) (pe_one (pe_cmpR (op_eqD hun) (pe_fld (pv 0) rfl) (pe_fld (pv 1) rfl) (nomark _)))))), ?_⟩
    refine ⟨_, rfl, .ref y, .ref C, .ref C, .ref C, true, rfl, .own C, .base (.ins hy S.cl S.ca S.cn S.ct S.cm), S.kC, true, rfl, iteT ?_⟩
    refine ⟨_, rfl, x, C, dx, _, _, rfl, hx, S.cl, S.nR, lookup_rows, _, rfl, y, C, dy, _, _, rfl, hy, S.cl, S.nR, lookup_rows, ?_⟩
    refine ⟨.tuple ((a.map fun n : Nat => (n : Int)).map PyData.int), .tuple ((b.map fun n : Nat => (n : Int)).map PyData.int), .tup (.of ht) (by rw [ri_ii]; exact dp_ints _), .tup (.of hu) (by rw [ri_ii]; exact dp_ints _), shaped_tup _, shaped_tup _, ?_⟩
    have e : PyData.eqv (.tuple ((a.map fun n : Nat => (n : Int)).map PyData.int)) (.tuple ((b.map fun n : Nat => (n : Int)).map PyData.int)) = decide (a = b) := by
      rw [PyData.eqv, eqv_intsB]
      exact decide_eq_decide.mpr nat_inj
    rw [e]
    exact q
/-! ### len -/
abbrev s_len : Stmt := inClass (topS 25) 2
theorem sc_len : FnScope ["self"] ["self"] (defScope s_len) := ⟨rfl, rfl, rfl, by decide +kernel, rfl, by decide +kernel, by decide +kernel⟩
def spLenS (C : Addr) : Sp := fun vs H Q _ => ∃ (x : Addr) (a : List Nat), vs = [.ref x] ∧ SpA C H x a ∧ Q (vi a.length) H
theorem ok_len {C f : Addr} {fd : FuncData} (F : Fun K "__len__" "Space.__len__" s_len f fd) (T : Nm mg) (S : Cs K mg C) : FnOk P w K mg base CX0 1 f fd ["self"] (spLenS C) := by
  refine F.ok sc_len (fun vs H Q E h => ?_) (fun cdv A outer s H vs Q E hr h => ?_)
  · obtain ⟨x, a, rfl, _⟩ := h
    rfl
  · obtain ⟨x, a, rfl, ⟨dx, t, hx, ht, ca, ha⟩, q⟩ := h
    refine ⟨_, (pss_one (ps_ret (pe_callB call_len_seq (by rfl) T.len PySem.boot_len (pa_cons (pe_fld (pv 0) rfl) pa_nil)))), ?_⟩
    refine ⟨_, rfl, x, C, dx, _, _, rfl, hx, S.cl, S.nR, lookup_rows, t, _, rfl, .inr (.of ht), ?_⟩
    rw [ri_len]
    exact q
/-! ### in -/
abbrev s_contains : Stmt := inClass (topS 25) 4
theorem sc_contains : FnScope ["self", "x"] ["self", "x"] (defScope s_contains) := ⟨rfl, rfl, rfl, by decide +kernel, rfl, by decide +kernel, by decide +kernel⟩
def spHasS (C : Addr) : Sp := fun vs H Q _ => ∃ (x : Addr) (a : List Nat) (n : Nat), vs = [.ref x, vi n] ∧ SpA C H x a ∧ n < 2 ^ 16 ∧ ∀ k : Bool, (k = true ↔ Xr.Span a n) → Q (.bl k) H
theorem ok_contains {C f fW fI fL : Addr} {fd fdW fdI fdL : FuncData} (F : Fun K "__contains__" "Space.__contains__" s_contains f fd)
    (FW : Fun K "is_within" "is_within" s_is_within fW fdW) (bW : Binds K fdW ["value", "least", "most"] []) (gW : mg "is_within" = some (.ref fW)) (FI : Fun K "is_integer" "is_integer" s_is_integer fI fdI) (bI : Binds K fdI ["value"] []) (gI : mg "is_integer" = some (.ref fI))
    (FL : Fun K "lessened" "lessened" s_lessened fL fdL) (bL : Binds K fdL ["bits", "rows"] []) (gL : mg "lessened" = some (.ref fL)) (T : Nm mg) (S : Cs K mg C) : FnOk P w K mg base CX0 3 f fd ["self", "x"] (spHasS C) := by
  have GW : FnOk P w K mg base CX0 2 fW fdW ["value", "least", "most"] spWithin := ok_within FW FI bI gI T
  have GL : FnOk P w K mg base CX0 1 fL fdL ["bits", "rows"] (spLessT K) := ok_lessT FL
  obtain ⟨tb, gM⟩ := T.mb
  refine F.ok sc_contains (fun vs H Q E h => ?_) (fun cdv A outer s H vs Q E hr h => ?_)
  · obtain ⟨x, a, n, rfl, _⟩ := h
    rfl
  · obtain ⟨x, a, n, rfl, ⟨dx, t, hx, ht, ca, ha⟩, hn, q⟩ := h
    have hr1 : Room 1 _ := hr.mono (by decide)
    refine ⟨_, (pss_one (ps_ret (pe_and (pe_call GW hr rfl gW FW.kp bW .nil pass0 (pa_cons (pv 1) (pa_cons pe_int (pa_cons (pe_glob (v := .int 65535) rfl gM ⟨_, rfl⟩) pa_nil)))) (pe_one (pe_cmpR op_eq (pe_call GL hr1 rfl gL FL.kp bL .nil pass0 (pa_cons (pv 1) (pa_cons (pe_fld (pv 0) rfl) pa_nil))) pe_int (nomark _)))))), ?_⟩
    refine ⟨_, rfl, n, 0, 65535, rfl, true, congrArg V.bl (decide_eq_true ⟨by omega, by omega⟩), iteT ?_⟩
    refine ⟨_, rfl, _, rfl, x, C, dx, _, _, rfl, hx, S.cl, S.nR, lookup_rows, n, t, a, rfl, .of ht, rfl, ?_⟩
    refine q _ ?_
    rw [dec_int, ← Xr.lessened_zero ca.1 n]
    simp only [beq_iff_eq]
    omega
end
end Lr

set_option Elab.async false
set_option linter.all false
set_option maxRecDepth 100000
set_option maxHeartbeats 4000000
namespace Lr
open PySem PySem.Spec PyProof.Rows L2 Ow
theorem bitOr_nat (a b : Nat) : Builtin.bitOr (a : Int) (b : Int) = ((a ||| b : Nat) : Int) := by
  rw [Bits.bitOr_pp (Int.natCast_nonneg a) (Int.natCast_nonneg b)]
  simp only [Int.toNat_natCast]
theorem or_xor {a b : Nat} (h : a &&& b = 0) : a ||| b = a ^^^ b := by
  refine Nat.eq_of_testBit_eq fun j => ?_
  rw [Nat.testBit_or, Nat.testBit_xor]
  have := congrArg (fun z => z.testBit j) h
  simp only [Nat.testBit_and, Nat.zero_testBit] at this
  cases hx : a.testBit j <;> cases hy : b.testBit j <;> simp_all
theorem dbl_or {r : Nat} (h : r < 2 ^ 16) : (r <<< 16) ||| r = Xr.dbl r := by
  refine or_xor (Nat.eq_of_testBit_eq fun j => ?_)
  rw [Nat.testBit_and, Nat.testBit_shiftLeft, Nat.zero_testBit]
  by_cases c : 16 ≤ j
  · rw [Nat.testBit_lt_two_pow (Nat.lt_of_lt_of_le h (Nat.pow_le_pow_right (by decide) c)), Bool.and_false]
  · simp [c]
theorem shl16 (r : Nat) : (r : Int) * (2 : Int) ^ (16 : Int).toNat = ((r <<< 16 : Nat) : Int) := by
  rw [Nat.shiftLeft_eq]
  show (r : Int) * (2 : Int) ^ 16 = _
  rw [Int.natCast_mul, Int.natCast_pow]
  rfl
/-- a reduced list's span has a power of two exactly if it is a row -/
theorem pow_row {l : List Nat} (h : Xr.Red l) {t : Nat} : Xr.Span l (2 ^ t) ↔ 2 ^ t ∈ l := by
  refine ⟨fun hs => ?_, Xr.span_mem⟩
  have p0 : 2 ^ t ≠ 0 := Nat.ne_of_gt (Nat.two_pow_pos t)
  have tp : Xr.top (2 ^ t) = t := Nat.log2_two_pow
  obtain ⟨r, hr, e⟩ := Xr.span_top h hs p0
  rw [tp] at e
  have z := Xr.span_no_top h (Xr.span_xor l hs (Xr.span_mem hr)) fun b hb => ?_
  · have : 2 ^ t = r := by
      have := congrArg (· ^^^ r) z
      simp only [Nat.xor_assoc, Nat.xor_self, Nat.xor_zero, Nat.zero_xor] at this
      exact this
    rw [this]
    exact hr
  · rw [Nat.testBit_xor, Nat.testBit_two_pow]
    by_cases c : b = r
    · subst c
      rw [Xr.top_bit (h.1 b hb), e]
      simp
    · have rb : r.testBit (Xr.top b) = false := by
        cases hh : r.testBit (Xr.top b) with
        | false => rfl
        | true => exact absurd (Xr.Red.inj h hr hb hh).symm c
      have ne : t ≠ Xr.top b := fun z => by
        rw [← e, ] at z
        have := Xr.top_bit (h.1 r hr)
        rw [z, rb] at this
        cases this
      rw [rb]
      simp [ne]
section
variable {P : Program} {w : World} {K : PySem.W.Frag} {mg : Str → Option Value} {base : Heap}
/-! ### within -/
abbrev s_withinS : Stmt := inClass (topS 25) 9
theorem sc_withinS : FnScope ["self", "other", "row"] ["self", "other"] (defScope s_withinS) := ⟨rfl, rfl, rfl, by decide +kernel, rfl, by decide +kernel, by decide +kernel⟩
def spWith (C : Addr) : Sp := fun vs H Q _ => ∃ (x y : Addr) (a b : List Nat), vs = [.ref x, .ref y] ∧ SpA C H x a ∧ SpA C H y b ∧ a.length ≤ 1000 ∧ ∀ (k : Bool) (H' : Hp), (k = true ↔ ∀ u, Xr.Span a u → Xr.Span b u) → Same H H' → Q (.bl k) H'
theorem ok_withinS {C f fL : Addr} {fd fdL : FuncData} (F : Fun K "within" "Space.within" s_withinS f fd) (FL : Fun K "lessened" "lessened" s_lessened fL fdL) (bL : Binds K fdL ["bits", "rows"] []) (gL : mg "lessened" = some (.ref fL)) (T : Nm mg) (S : Cs K mg C) :
    FnOk P w K mg base CX0 2 f fd ["self", "other"] (spWith C) := by
  have GL : FnOk P w K mg base CX0 1 fL fdL ["bits", "rows"] (spLessT K) := ok_lessT FL
  refine F.ok sc_withinS (fun vs H Q E h => ?_) (fun cdv A outer s H vs Q E hr h => ?_)
  · obtain ⟨x, y, a, b, rfl, _⟩ := h
    rfl
  · obtain ⟨x, y, a, b, rfl, ⟨dx, t, hx, ht, ca, ha⟩, ⟨dy, u, hy, hu, cb, hb⟩, hl, q⟩ := h
    refine ⟨_, (pss_cons (ps_if (pt_not (pt_val (pe_callB call_isi (by rfl) T.isi boot_isinstance (pa_cons (pv 1) (pa_cons (pe_glob (v := .ref C) rfl S.gC rfl) pa_nil))))) (pss_one ps_never) pss_nil)
    (pss_one (ps_ret (pe_callB (cr_all rfl) (by rfl) T.all PyProof.Rows.boot_all (pa_cons (pe_lc (wi := iTup K (tFld K (tVar 0) "rows")) (own := [("row", 2)]) (g := (gName 2)) (tt := tYes) (te := tOp rEq (tCall (spLessT K) [] E0 (tCons (tVar 2) (tCons (tFld K (tVar 1) "rows") tNil))) (tC (.int 0))) rfl sc_withinS.nd (by exact pi_tup (pe_fld (pv 0) rfl)) (blkOk_by (by kernel_rfl)) (fun _ _ _ _ _ => pg_name (i := 2) sc_withinS.nd rfl (Or.inl rfl)) (fun _ _ _ _ _ => pts_nil) (fun _ _ _ _ _ => (by exact pe_cmpR op_eq (pe_call GL hr rfl gL FL.kp bL .nil pass0 (pa_cons (pv 2) (pa_cons (pe_fld (pv 1) rfl) pa_nil))) pe_int (nomark _)))) pa_nil))))), ?_⟩
    refine ⟨_, rfl, .ref y, .ref C, .ref C, .ref C, true, rfl, .own C, .base (.ins hy S.cl S.ca S.cn S.ct S.cm), S.kC, true, rfl, iteF ?_⟩
    refine ⟨_, rfl, x, C, dx, _, _, rfl, hx, S.cl, S.nR, lookup_rows, t, rfl, ⟨_, .of ht⟩, fun D nD => ?_⟩
    refine lc_tup (K := K) (a := t) (xs := ri a) (fun j H3 => Same H H3 ∧ H3 D = some (.lst (((a.take j).map fun r => Xr.lessened r b == 0).map V.bl))) ⟨same_upd nD, upd_same⟩ (fun j H3 _ ⟨e, _⟩ => .of (e _ _ ht)) ?_ ?_
    · rintro j z H3 hj ⟨s3, e3⟩
      obtain ⟨r, hr', rfl⟩ := ri_get hj
      refine ⟨rfl, _, rfl, _, rfl, y, C, dy, _, _, rfl, s3 _ _ hy, S.cl, S.nR, lookup_rows, r, u, b, rfl, .of (s3 _ _ hu), rfl, _, e3, ?_, same_put s3 nD, ?_⟩
      · rw [List.length_map, List.length_map, List.length_take]
        exact small1000 (by omega)
      · rw [upd_same, List.take_add_one, hr', List.map_append, List.map_append]
        have e : decide (vi (Xr.lessened r b) = V.int 0) = (Xr.lessened r b == 0) := by
          rw [dec_int]
          cases Xr.lessened r b <;> rfl
        exact congrArg (fun v => some (HO.lst (((a.take j).map fun r => Xr.lessened r b == 0).map V.bl ++ [V.bl v]))) e
    · rintro H3 ⟨s3, e3⟩
      rw [ri_len, List.take_length] at e3
      refine ⟨D, _, rfl, .of e3, q _ H3 ?_ s3⟩
      rw [List.all_map, List.all_eq_true]
      constructor
      · intro h v
        refine Xr.span_sub fun r hr' => ?_
        have := h r hr'
        exact (Xr.lessened_zero cb.1 r).mp (by simpa using this)
      · intro h r hr'
        have := (Xr.lessened_zero cb.1 r).mpr (h r (Xr.span_mem hr'))
        simpa using this
/-! ### older -/
abbrev s_older : Stmt := inClass (topS 25) 10
theorem sc_older : FnScope ["self", "rows", "row"] ["self"] (defScope s_older) := ⟨rfl, rfl, rfl, by decide +kernel, rfl, by decide +kernel, by decide +kernel⟩
def spOlder (C : Addr) : Sp := fun vs H Q _ => ∃ (x : Addr) (a : List Nat), vs = [.ref x] ∧ SpA C H x a ∧ a.length ≤ 1000 ∧ (∀ r ∈ a, r < 2 ^ 15) ∧
  ∀ (m : List Nat) (z : Addr) (H' : Hp), (∀ u, Xr.Span m u ↔ Xr.Span (a.map (2 * ·)) u) → SpA C H' z m → Same H H' → Q (.ref z) H'
theorem ok_older {C f f0 : Addr} {fd : FuncData} (F : Fun K "older" "Space.older" s_older f fd) (GI : FnR P w K mg base CX0 4 f0 (spInitS C)) (MM : Mk K C f0) (T : Nm mg) (S : Cs K mg C) : FnOk P w K mg base CX0 6 f fd ["self"] (spOlder C) := by
  refine F.ok sc_older (fun vs H Q E h => ?_) (fun cdv A outer s H vs Q E hr h => ?_)
  · obtain ⟨x, a, rfl, _⟩ := h
    rfl
  · obtain ⟨x, a, rfl, ⟨dx, t, hx, ht, ca, ha⟩, hl, h15, q⟩ := h
    refine ⟨_, (pss_cons (ps_setLc (i := 1) (wi := iTup K (tFld K (tVar 0) "rows")) (own := [("row", 2)]) (g := (gName 2)) (tt := tYes) rfl sc_older.nd rfl rfl (sw_true rfl rfl rfl (by decide +kernel)) (by exact pi_tup (pe_fld (pv 0) rfl)) (blkOk_by (by kernel_rfl)) (fun _ _ _ _ _ => pg_name (i := 2) sc_older.nd rfl (Or.inl rfl)) (fun _ _ _ _ _ => pts_nil) (fun _ _ _ _ _ => (pe_op op_shl (pv 2) pe_int)))
      (pss_one (ps_ret (pe_makeS1 MM GI hr rfl S.gC pass0 (pv 1))))), ?_⟩
    refine ⟨_, rfl, x, C, dx, _, _, rfl, hx, S.cl, S.nR, lookup_rows, t, rfl, ⟨_, .of ht⟩, fun D nD => ?_⟩
    refine lc_tup (K := K) (a := t) (xs := ri a) (fun j H3 => Same H H3 ∧ H3 D = some (.lst (ri ((a.take j).map (2 * ·))))) ⟨same_upd nD, upd_same⟩ (fun j H3 _ ⟨e, _⟩ => .of (e _ _ ht)) ?_ ?_
    · rintro j z H3 hj ⟨s3, e3⟩
      obtain ⟨r, hr', rfl⟩ := ri_get hj
      have r16 := ha r (List.mem_of_getElem? hr')
      refine ⟨rfl, _, rfl, _, _, rfl, rfl, ⟨by decide, by decide, by omega⟩, _, e3, ?_, same_put s3 nD, ?_⟩
      · rw [ri_len, List.length_map, List.length_take]
        exact small1000 (by omega)
      · rw [upd_same, List.take_add_one, hr', List.map_append, ri_append]
        have e : (r : Int) * 2 ^ (1 : Int).toNat = ((2 * r : Nat) : Int) := by
          show (r : Int) * 2 ^ 1 = _
          omega
        exact congrArg (fun v => some (HO.lst (ri ((a.take j).map (2 * ·)) ++ [V.int v]))) e
    · rintro H3 ⟨s3, e3⟩
      rw [ri_len, List.take_length] at e3
      refine ⟨_, rfl, D, _, rfl, .inr (.of e3), ask_of ⟨fun r hr' => ?_, by rw [List.length_map]; exact hl, fun m z H' sm hz s2 nz => q m z H' sm hz (s3.trans s2)⟩⟩
      obtain ⟨v, hv, rfl⟩ := List.mem_map.mp hr'
      have := h15 v hv
      show 2 * v < 2 ^ 16
      omega
/-! ### below -/
abbrev s_below : Stmt := inClass (topS 25) 11
theorem sc_below : FnScope ["self", "many", "rows", "row"] ["self", "many"] (defScope s_below) := ⟨rfl, rfl, rfl, by decide +kernel, rfl, by decide +kernel, by decide +kernel⟩
def spBelow (C : Addr) : Sp := fun vs H Q _ => ∃ (x : Addr) (a : List Nat) (n : Nat), vs = [.ref x, vi n] ∧ SpA C H x a ∧ a.length ≤ 1000 ∧ n ≤ 16 ∧
  ∀ (m : List Nat) (z : Addr) (H' : Hp), (∀ u, Xr.Span m u ↔ Xr.Span a u ∧ u < 2 ^ n) → SpA C H' z m → Same H H' → Q (.ref z) H'
theorem bits_le {r n : Nat} (h : r ≠ 0) : decide (((Builtin.Int.intBits (r : Int) : Nat) : Int) ≤ (n : Int)) = decide (r < 2 ^ n) := by
  have e := intBits_nat h
  have key : Xr.top r + 1 ≤ n ↔ r < 2 ^ n := by
    constructor
    · intro z
      have h1 : r < 2 ^ (Xr.top r + 1) := Nat.lt_log2_self
      exact Nat.lt_of_lt_of_le h1 (Nat.pow_le_pow_right (by decide) z)
    · intro z
      exact Xr.top_lt z h
  rw [decide_eq_decide]
  omega
theorem ok_below {C f f0 fW fI : Addr} {fd fdW fdI : FuncData} (F : Fun K "below" "Space.below" s_below f fd) (GI : FnR P w K mg base CX0 4 f0 (spInitS C)) (MM : Mk K C f0)
    (FW : Fun K "is_within" "is_within" s_is_within fW fdW) (bW : Binds K fdW ["value", "least", "most"] []) (gW : mg "is_within" = some (.ref fW)) (FI : Fun K "is_integer" "is_integer" s_is_integer fI fdI) (bI : Binds K fdI ["value"] []) (gI : mg "is_integer" = some (.ref fI))
    (T : Nm mg) (S : Cs K mg C) (M : Ms K C) : FnOk P w K mg base CX0 6 f fd ["self", "many"] (spBelow C) := by
  have GW : FnOk P w K mg base CX0 2 fW fdW ["value", "least", "most"] spWithin := ok_within FW FI bI gI T
  obtain ⟨mc, uu, cr, cv⟩ := M.most
  refine F.ok sc_below (fun vs H Q E h => ?_) (fun cdv A outer s H vs Q E hr h => ?_)
  · obtain ⟨x, a, n, rfl, _⟩ := h
    rfl
  · obtain ⟨x, a, n, rfl, ⟨dx, t, hx, ht, ca, ha⟩, hl, hn, q⟩ := h
    have hr1 : Room 2 _ := hr.mono (by decide)
    refine ⟨_, (pss_cons (ps_if (pt_not (pt_val (pe_call GW hr1 rfl gW FW.kp bW .nil pass0 (pa_cons (pv 1) (pa_cons pe_int (pa_cons (pe_op op_add (ClX.pe_cval (pe_glob (v := .ref C) rfl S.gC rfl)) pe_int) pa_nil)))))) (pss_one ps_never) pss_nil)
      (pss_cons (ps_setLc (i := 2) (wi := iTup K (tFld K (tVar 0) "rows")) (own := [("row", 3)]) (g := (gName 3)) (tt := _) rfl sc_below.nd rfl rfl (sw_true rfl rfl rfl (by decide +kernel)) (by exact pi_tup (pe_fld (pv 0) rfl)) (blkOk_by (by kernel_rfl)) (fun _ _ _ _ _ => pg_name (i := 3) sc_below.nd rfl (Or.inl rfl)) (fun _ _ _ _ _ => pts_one (pt_cmpR op_le (pe_bits (pv 3)) (pv 1) (nomark _))) (fun _ _ _ _ _ => (pv 3)))
      (pss_one (ps_ret (pe_makeS1 MM GI hr rfl S.gC pass0 (pv 2)))))), ?_⟩
    refine ⟨_, rfl, C, mc, _, _, rfl, cr, cv, _, _, rfl, rfl, n, 0, 16, rfl, _, rfl, ?_⟩
    have e : decide ((0 : Int) ≤ (n : Int) ∧ (n : Int) ≤ 16) = true := decide_eq_true ⟨by omega, by omega⟩
    rw [e]
    refine iteF ?_
    refine ⟨_, rfl, x, C, dx, _, _, rfl, hx, S.cl, S.nR, lookup_rows, t, rfl, ⟨_, .of ht⟩, fun D nD => ?_⟩
    refine lc_tup (K := K) (a := t) (xs := ri a) (fun j H3 => Same H H3 ∧ H3 D = some (.lst (ri ((a.take j).filter fun r => decide (r < 2 ^ n))))) ⟨same_upd nD, upd_same⟩ (fun j H3 _ ⟨e, _⟩ => .of (e _ _ ht)) ?_ ?_
    · rintro j z H3 hj ⟨s3, e3⟩
      obtain ⟨r, hr', rfl⟩ := ri_get hj
      have r0 : r ≠ 0 := ca.1.1 r (List.mem_of_getElem? hr')
      refine ⟨rfl, _, rfl, _, rfl, _, rfl, _, _, rfl, rfl, _, rfl, ?_⟩
      have eb := bits_le (n := n) r0
      refine ite2 (fun c => ?_) (fun c => ?_)
      · have c' : decide (r < 2 ^ n) = true := eb.symm.trans c
        refine ⟨_, rfl, _, e3, ?_, same_put s3 nD, ?_⟩
        · rw [ri_len]
          refine small1000 (Nat.le_trans (List.length_filter_le _ _) ?_)
          rw [List.length_take]
          omega
        · rw [upd_same, List.take_add_one, hr', List.filter_append, ri_append]
          simp only [Option.toList_some, List.filter_cons, List.filter_nil, c', if_true]
          rfl
      · have c' : decide (r < 2 ^ n) = false := by
          rw [← eb]
          simpa using c
        refine ⟨s3, ?_⟩
        rw [e3, List.take_add_one, hr', List.filter_append]
        simp only [Option.toList_some, List.filter_cons, List.filter_nil, c', Bool.false_eq_true, if_false, List.append_nil]
    · rintro H3 ⟨s3, e3⟩
      rw [ri_len, List.take_length] at e3
      refine ⟨_, rfl, D, _, rfl, .inr (.of e3), ask_of ⟨fun r hr' => ha r (List.mem_filter.mp hr').1, Nat.le_trans (List.length_filter_le _ _) hl, fun m z H' sm hz s2 nz => q m z H' (fun u => (sm u).trans (Xr.low_of ca.1)) hz (s3.trans s2)⟩⟩
end
end Lr

set_option Elab.async false
set_option linter.all false
set_option maxRecDepth 100000
set_option maxHeartbeats 4000000
namespace Lr
open PySem PySem.Spec PyProof.Rows L2 Ow
section
variable {P : Program} {w : World} {K : PySem.W.Frag} {mg : Str → Option Value} {base : Heap}
/-! ### tells -/
abbrev s_tells : Stmt := inClass (topS 25) 12
theorem sc_tells : FnScope ["self", "age"] ["self", "age"] (defScope s_tells) := ⟨rfl, rfl, rfl, by decide +kernel, rfl, by decide +kernel, by decide +kernel⟩
def spTells (C : Addr) : Sp := fun vs H Q _ => ∃ (x : Addr) (a : List Nat) (n : Nat), vs = [.ref x, vi n] ∧ SpA C H x a ∧ n < 16 ∧ ∀ k : Bool, (k = true ↔ Xr.Span a (2 ^ n)) → Q (.bl k) H
theorem ok_tells {C f fW fI : Addr} {fd fdW fdI : FuncData} (F : Fun K "tells" "Space.tells" s_tells f fd)
    (FW : Fun K "is_within" "is_within" s_is_within fW fdW) (bW : Binds K fdW ["value", "least", "most"] []) (gW : mg "is_within" = some (.ref fW)) (FI : Fun K "is_integer" "is_integer" s_is_integer fI fdI) (bI : Binds K fdI ["value"] []) (gI : mg "is_integer" = some (.ref fI))
    (T : Nm mg) (S : Cs K mg C) (M : Ms K C) : FnOk P w K mg base CX0 3 f fd ["self", "age"] (spTells C) := by
  have GW : FnOk P w K mg base CX0 2 fW fdW ["value", "least", "most"] spWithin := ok_within FW FI bI gI T
  obtain ⟨mc, uu, cr, cv⟩ := M.most
  refine F.ok sc_tells (fun vs H Q E h => ?_) (fun cdv A outer s H vs Q E hr h => ?_)
  · obtain ⟨x, a, n, rfl, _⟩ := h
    rfl
  · obtain ⟨x, a, n, rfl, ⟨dx, t, hx, ht, ca, ha⟩, hn, q⟩ := h
    refine ⟨_, (pss_one (ps_ret (pe_and (pe_call GW hr rfl gW FW.kp bW .nil pass0 (pa_cons (pv 1) (pa_cons pe_int (pa_cons (ClX.pe_cval (pe_glob (v := .ref C) rfl S.gC rfl)) pa_nil)))) (pe_one (pe_cmpR (r := rIn K false) op_in_seq (pe_op op_shl pe_int (pv 1)) (pe_fld (pv 0) rfl) (by rfl)))))), ?_⟩
    refine ⟨_, rfl, C, mc, _, _, rfl, cr, cv, n, 0, 15, rfl, true, congrArg V.bl (decide_eq_true ⟨by omega, by omega⟩), iteT ?_⟩
    refine ⟨_, rfl, _, _, rfl, rfl, cpow_one (by omega), _, rfl, x, C, dx, _, _, rfl, hx, S.cl, S.nR, lookup_rows, t, _, rfl, .inr (.of ht), rfl, ri_all _, ?_⟩
    refine q _ ?_
    have e : inV (V.int ((1 : Int) * 2 ^ ((n : Nat) : Int).toNat)) (ri a) = a.contains (2 ^ n) := by
      rw [shl_one]
      exact inV_ri _ _
    show inV (V.int ((1 : Int) * 2 ^ ((n : Nat) : Int).toNat)) (ri a) = true ↔ _
    rw [e, List.contains_iff_mem, pow_row ca.1]
/-! ### told -/
abbrev s_told : Stmt := inClass (topS 25) 13
def tolds (a : List Nat) (j : Nat) : List Nat := (List.range j).filter fun t => a.contains (2 ^ t)
def spTold (C : Addr) : Sp := fun vs H Q _ => ∃ (x : Addr) (a : List Nat), vs = [.ref x] ∧ SpA C H x a ∧ ∀ (p : Addr) (H' : Hp), Same H H' → H' p = some (.tup (ri (tolds a 16))) → Q (.ref p) H'
/-! ### & -/
abbrev s_and : Stmt := inClass (topS 25) 8
theorem sc_and : FnScope ["self", "other", "upper", "doubled", "lifted", "rows", "row"] ["self", "other"] (defScope s_and) := ⟨rfl, rfl, rfl, by decide +kernel, rfl, by decide +kernel, by decide +kernel⟩
def spAnd (C : Addr) : Sp := fun vs H Q _ => ∃ (x y : Addr) (a b : List Nat), vs = [.ref x, .ref y] ∧ SpA C H x a ∧ SpA C H y b ∧ a.length + b.length ≤ 1000 ∧
  ∀ (m : List Nat) (z : Addr) (H' : Hp), (∀ u, Xr.Span m u ↔ Xr.Span a u ∧ Xr.Span b u) → SpA C H' z m → Same H H' → Q (.ref z) H'
theorem low_len {R : List Nat} (h : Xr.Red R) : (R.filter fun r => decide (r < 2 ^ 16)).length ≤ 16 := by
  have nd : (R.filter fun r => decide (r < 2 ^ 16)).length ≤ 16 := by
    have n1 : ((R.filter fun r => decide (r < 2 ^ 16)).map Xr.top).Nodup := Xr.Red.tops_nodup h
    have := List.Nodup.length_le_of_subset (l₂ := List.range 16) n1 (fun x hx => by
      obtain ⟨r, hr, rfl⟩ := List.mem_map.mp hx
      have := List.mem_filter.mp hr
      exact List.mem_range.mpr (Xr.top_lt (of_decide_eq_true this.2) (h.1 r this.1)))
    rw [List.length_range, List.length_map] at this
    exact this
  exact nd
theorem ok_and {C f f0 fR fL fV : Addr} {fd fdR fdL fdV : FuncData} (F : Fun K "__and__" "Space.__and__" s_and f fd) (GI : FnR P w K mg base CX0 4 f0 (spInitS C)) (MM : Mk K C f0)
    (FR : Fun K "reduced" "reduced" s_reduced fR fdR) (bR : Binds K fdR ["rows"] []) (gR : mg "reduced" = some (.ref fR)) (FL : Fun K "lessened" "lessened" s_lessened fL fdL) (bL : Binds K fdL ["bits", "rows"] []) (gL : mg "lessened" = some (.ref fL)) (FV : Fun K "widened" "widened" s_widened fV fdV) (bV : Binds K fdV ["rows", "added"] []) (gV : mg "widened" = some (.ref fV))
    (T : Nm mg) (S : Cs K mg C) (M : Ms K C) : FnOk P w K mg base CX0 6 f fd ["self", "other"] (spAnd C) := by
  have GR : FnOk P w K mg base CX0 3 fR fdR ["rows"] (spRedL K) := ok_redL FR FV bV gV FL bL gL T
  obtain ⟨mc, uu, cr, cv⟩ := M.most
  obtain ⟨tb, gM⟩ := T.mb
  refine F.ok sc_and (fun vs H Q E h => ?_) (fun cdv A outer s H vs Q E hr h => ?_)
  · obtain ⟨x, y, a, b, rfl, _⟩ := h
    rfl
  · obtain ⟨x, y, a, b, rfl, ⟨dx, t, hx, ht, ca, ha⟩, ⟨dy, u, hy, hu, cb, hb⟩, hl, q⟩ := h
    have hr2 : Room 3 _ := hr.mono (by decide)
    refine ⟨_, (pss_cons (ps_if (pt_not (pt_val (pe_callB call_isi (by rfl) T.isi boot_isinstance (pa_cons (pv 1) (pa_cons (pe_glob (v := .ref C) rfl S.gC rfl) pa_nil))))) (pss_one ps_never) pss_nil)
    (pss_cons (ps_set (i := 2) sc_and.nd rfl (Or.inr rfl) (pe_op op_add (ClX.pe_cval (pe_glob (v := .ref C) rfl S.gC rfl)) pe_int))
    (pss_cons (ps_setLc (i := 3) (wi := iTup K (tFld K (tVar 0) "rows")) (own := [("row", 6)]) (g := (gName 6)) (tt := tYes) rfl sc_and.nd rfl rfl (sw_true rfl rfl rfl (by decide +kernel)) (by exact pi_tup (pe_fld (pv 0) rfl)) (blkOk_by (by kernel_rfl)) (fun _ _ _ _ _ => pg_name (i := 6) sc_and.nd rfl (Or.inl rfl)) (fun _ _ _ _ _ => pts_nil) (fun _ _ _ _ _ => (pe_op op_or (pe_op op_shl (pv 6) (pv 2)) (pv 6))))
    (pss_cons (ps_setLc (i := 4) (wi := iTup K (tFld K (tVar 1) "rows")) (own := [("row", 6)]) (g := (gName 6)) (tt := tYes) rfl sc_and.nd rfl rfl (sw_true rfl rfl rfl (by decide +kernel)) (by exact pi_tup (pe_fld (pv 1) rfl)) (blkOk_by (by kernel_rfl)) (fun _ _ _ _ _ => pg_name (i := 6) sc_and.nd rfl (Or.inl rfl)) (fun _ _ _ _ _ => pts_nil) (fun _ _ _ _ _ => (pe_op op_shl (pv 6) (pv 2))))
    (pss_cons (ps_setLc (i := 5) (own := [("row", 6)]) (g := (gName 6)) (tt := _) rfl sc_and.nd rfl rfl (sw_true rfl rfl rfl (by decide +kernel)) (pi_tup (pe_call GR hr2 rfl gR FR.kp bR .nil pass0 (pa_cons (pe_op op_cat (pv 3) (pv 4)) pa_nil))) (blkOk_by (by kernel_rfl)) (fun _ _ _ _ _ => pg_name (i := 6) sc_and.nd rfl (Or.inl rfl)) (fun _ _ _ _ _ => pts_one (pt_cmpR op_le (pv 6) (pe_glob (v := .int 65535) rfl gM ⟨_, rfl⟩) (nomark _))) (fun _ _ _ _ _ => (pv 6)))
    (pss_one (ps_ret (pe_makeS1 MM GI hr rfl S.gC pass0 (pv 5))))))))), ?_⟩
    refine ⟨_, rfl, .ref y, .ref C, .ref C, .ref C, true, rfl, .own C, .base (.ins hy S.cl S.ca S.cn S.ct S.cm), S.kC, true, rfl, iteF ?_⟩
    refine ⟨C, mc, _, _, rfl, cr, cv, _, _, rfl, rfl, ?_⟩
    refine ⟨_, rfl, x, C, dx, _, _, rfl, hx, S.cl, S.nR, lookup_rows, t, rfl, ⟨_, .of ht⟩, fun D nD => ?_⟩
    refine lc_tup (K := K) (a := t) (xs := ri a) (fun j H3 => Same H H3 ∧ H3 D = some (.lst (ri ((a.take j).map Xr.dbl)))) ⟨same_upd nD, upd_same⟩ (fun j H3 _ ⟨e, _⟩ => .of (e _ _ ht)) ?_ ?_
    · rintro j z H3 hj ⟨s3, e3⟩
      obtain ⟨r, hr', rfl⟩ := ri_get hj
      have r16 := ha r (List.mem_of_getElem? hr')
      refine ⟨rfl, _, rfl, _, rfl, _, _, rfl, rfl, ⟨by decide, by decide, by omega⟩, _, rfl, _, _, rfl, rfl, _, e3, ?_, same_put s3 nD, ?_⟩
      · rw [ri_len, List.length_map, List.length_take]
        exact small1000 (by omega)
      · rw [upd_same, List.take_add_one, hr', List.map_append, ri_append]
        have e : Builtin.bitOr ((r : Int) * 2 ^ ((15 : Int) + 1).toNat) (r : Int) = ((Xr.dbl r : Nat) : Int) := by
          have := shl16 r
          show Builtin.bitOr ((r : Int) * (2 : Int) ^ (16 : Int).toNat) (r : Int) = _
          rw [this, bitOr_nat, dbl_or r16]
        exact congrArg (fun v => some (HO.lst (ri ((a.take j).map Xr.dbl) ++ [V.int v]))) e
    · rintro H3 ⟨s3, e3⟩
      rw [ri_len, List.take_length] at e3
      refine ⟨_, rfl, y, C, dy, _, _, rfl, s3 _ _ hy, S.cl, S.nR, lookup_rows, u, rfl, ⟨_, .of (s3 _ _ hu)⟩, fun D2 nD2 => ?_⟩
      have d12 : D ≠ D2 := ne_of_none e3 nD2
      have n2 := s3.free nD2
      refine lc_tup (K := K) (a := u) (xs := ri b) (fun j H4 => Same H H4 ∧ H4 D = some (.lst (ri (a.map Xr.dbl))) ∧ H4 D2 = some (.lst (ri ((b.take j).map Xr.lft)))) ⟨same_put s3 n2, by rw [upd_ne d12]; exact e3, upd_same⟩ (fun j H4 _ ⟨e, _⟩ => .of (e _ _ hu)) ?_ ?_
      · rintro j z H4 hj ⟨s4, e4, f4⟩
        obtain ⟨r, hr', rfl⟩ := ri_get hj
        have r16 := hb r (List.mem_of_getElem? hr')
        refine ⟨rfl, _, rfl, _, rfl, _, _, rfl, rfl, ⟨by decide, by decide, by omega⟩, _, f4, ?_, same_put s4 n2, by rw [upd_ne d12]; exact e4, ?_⟩
        · rw [ri_len, List.length_map, List.length_take]
          exact small1000 (by omega)
        · rw [upd_same, List.take_add_one, hr', List.map_append, ri_append]
          exact congrArg (fun v => some (HO.lst (ri ((b.take j).map Xr.lft) ++ [V.int v]))) (shl16 r)
      · rintro H4 ⟨s4, e4, f4⟩
        rw [ri_len, List.take_length] at f4
        refine ⟨_, rfl, _, rfl, D, D2, _, _, rfl, rfl, e4, f4, ?_, fun p np => ?_⟩
        · rw [ri_len, ri_len, List.length_map, List.length_map]
          exact Nat.le_of_lt (small1000 hl)
        have np2 := s4.free np
        refine ⟨p, a.map Xr.dbl ++ b.map Xr.lft, rfl, .of (by rw [upd_same, ri_append]), by rw [List.length_append, List.length_map, List.length_map]; exact hl, fun m p2 H5 cm sm s5 np5 e5 => ?_⟩
        have s5' : Same H H5 := (same_put s4 np2).trans s5
        refine ⟨p2, rfl, ⟨_, .of e5⟩, fun D3 nD3 => ?_⟩
        have n3 := s5'.free nD3
        have d3 : p2 ≠ D3 := ne_of_none e5 nD3
        have low : ∀ r : Nat, decide ((r : Int) ≤ 65535) = decide (r < 2 ^ 16) := fun r => by
          rw [decide_eq_decide]
          omega
        refine lc_tup (K := K) (a := p2) (xs := ri m) (fun j H6 => Same H H6 ∧ H6 p2 = some (.tup (ri m)) ∧ H6 D3 = some (.lst (ri ((m.take j).filter fun r => decide (r < 2 ^ 16))))) ⟨same_put s5' n3, by rw [upd_ne d3]; exact e5, upd_same⟩ (fun j H6 _ ⟨_, e, _⟩ => .of e) ?_ ?_
        · rintro j z H6 hj ⟨s6, e6, f6⟩
          obtain ⟨r, hr', rfl⟩ := ri_get hj
          refine ⟨rfl, _, rfl, _, _, rfl, rfl, _, rfl, ?_⟩
          refine ite2 (fun c => ?_) (fun c => ?_)
          · have c' : decide (r < 2 ^ 16) = true := (low r).symm.trans c
            refine ⟨_, rfl, _, f6, ?_, same_put s6 n3, by rw [upd_ne d3]; exact e6, ?_⟩
            · rw [ri_len]
              have : ((m.take j).filter fun r => decide (r < 2 ^ 16)).length ≤ (m.filter fun r => decide (r < 2 ^ 16)).length := List.Sublist.length_le ((List.take_sublist j m).filter _)
              have := low_len cm.1
              exact small1000 (by omega)
            · rw [upd_same, List.take_add_one, hr', List.filter_append, ri_append]
              simp only [Option.toList_some, List.filter_cons, List.filter_nil, c', if_true]
              rfl
          · have c' : decide (r < 2 ^ 16) = false := by
              rw [← low r]
              exact Bool.eq_false_iff.mpr c
            refine ⟨s6, e6, ?_⟩
            rw [f6, List.take_add_one, hr', List.filter_append]
            simp only [Option.toList_some, List.filter_cons, List.filter_nil, c', Bool.false_eq_true, if_false, List.append_nil]
        · rintro H6 ⟨s6, e6, f6⟩
          rw [ri_len, List.take_length] at f6
          refine ⟨_, rfl, D3, _, rfl, .inr (.of f6), ask_of ⟨fun r hr' => of_decide_eq_true (List.mem_filter.mp hr').2, Nat.le_trans (low_len cm.1) (by decide), fun m2 z H7 sm2 hz s7 nz => q m2 z H7 (fun v => ?_) hz (s6.trans s7)⟩⟩
          rw [sm2 v, Xr.low_of cm.1, sm v]
          exact Xr.common ha v
end
end Lr

set_option Elab.async false
set_option linter.all false
set_option maxRecDepth 100000
set_option maxHeartbeats 4000000
namespace Lr
open PySem PySem.Spec PyProof.Rows L2 Ow
section
variable {P : Program} {w : World} {K : PySem.W.Frag} {mg : Str → Option Value} {base : Heap}
/-! ### the checks and tells, for any value -/
/-- a value that is no integer (a bool is none) -/
def NoInt (K : PySem.W.Frag) (H : Hp) (v : V) : Prop := ∃ (t : Value) (b : Bool), TyX K H v t ∧ PySem.W.kitOne K t (.type "int") = some b ∧ (b = true → PySem.W.kitOne K t (.type "bool") = some true)
theorem noInt_non {H : Hp} : NoInt K H .non := ⟨_, false, .base .non, kit_ty (by decide +kernel), fun z => nomatch z⟩
theorem noInt_bl {H : Hp} (b : Bool) : NoInt K H (.bl b) := ⟨_, true, .base (.bl b), kit_ty (by decide +kernel), fun _ => kit_ty (by decide +kernel)⟩
theorem noInt_str {H : Hp} (x : Str) : NoInt K H (.str x) := ⟨_, false, .base (.str x), kit_ty (by decide +kernel), fun z => nomatch z⟩
theorem noInt_tup {H : Hp} {a : Addr} {xs : List V} (h : H a = some (.tup xs)) : NoInt K H (.ref a) := ⟨_, false, .base (.tup h), kit_ty (by decide +kernel), fun z => nomatch z⟩
theorem noInt_lst {H : Hp} {a : Addr} {xs : List V} (h : H a = some (.lst xs)) : NoInt K H (.ref a) := ⟨_, false, .base (.lst h), kit_ty (by decide +kernel), fun z => nomatch z⟩
/-- a value as the checks take it: an integer, or no integer -/
inductive Arg (K : PySem.W.Frag) (H : Hp) : V → Option Int → Prop
  | int (i : Int) : Arg K H (.int i) (some i)
  | no {v : V} (h : NoInt K H v) : Arg K H v none
def spIsIntV (K : PySem.W.Frag) : Sp := fun vs H Q _ => ∃ (v : V) (o : Option Int), vs = [v] ∧ Arg K H v o ∧ Q (.bl o.isSome) H
theorem ok_isIntV {f : Addr} {fd : FuncData} (F : Fun K "is_integer" "is_integer" s_is_integer f fd) (T : Nm mg) : FnOk P w K mg base CX0 1 f fd ["value"] (spIsIntV K) := by
  refine F.ok sc_is_integer (fun vs H Q E h => ?_) (fun cdv A outer s H vs Q E hr h => ?_)
  · obtain ⟨v, o, rfl, _⟩ := h
    rfl
  · obtain ⟨v, o, rfl, g, q⟩ := h
    refine ⟨_, pss_one (ps_ret (pe_and (pe_callB call_isi (by rfl) T.isi boot_isinstance (pa_cons (pv 0) (pa_cons (pe_bltn (v := .ty "int") (by rfl) T.int PyProof.Rows.boot_int rfl) pa_nil)))
      (pe_one (pe_not (pe_callB call_isi (by rfl) T.isi boot_isinstance (pa_cons (pv 0) (pa_cons (pe_bltn (v := .ty "bool") (by rfl) T.bool PyProof.Rows.boot_bool rfl) pa_nil))))))), ?_⟩
    cases g with
    | int i =>
      refine ⟨_, rfl, _, _, _, _, true, rfl, .ty "int", .base (.int i), kit_ty (by decide +kernel), true, rfl, iteT ?_⟩
      exact ⟨_, rfl, _, _, _, _, false, rfl, .ty "bool", .base (.int i), kit_ty (by decide +kernel), false, rfl, q⟩
    | no h =>
      obtain ⟨t, b, ty, k1, k2⟩ := h
      refine ⟨_, rfl, _, _, _, _, b, rfl, .ty "int", ty, k1, b, rfl, ?_⟩
      cases b with
      | false => exact iteF q
      | true => exact iteT ⟨_, rfl, _, _, _, _, true, rfl, .ty "bool", ty, k2 rfl, true, rfl, q⟩
def within? (lo hi : Int) : Option Int → Bool
  | none => false
  | some i => decide (lo ≤ i ∧ i ≤ hi)
def spWithinV (K : PySem.W.Frag) : Sp := fun vs H Q _ => ∃ (v : V) (o : Option Int) (lo hi : Int), vs = [v, .int lo, .int hi] ∧ Arg K H v o ∧ Q (.bl (within? lo hi o)) H
theorem ok_withinV {f fI : Addr} {fd fdI : FuncData} (F : Fun K "is_within" "is_within" s_is_within f fd) (FI : Fun K "is_integer" "is_integer" s_is_integer fI fdI) (bI : Binds K fdI ["value"] []) (gI : mg "is_integer" = some (.ref fI)) (T : Nm mg) :
    FnOk P w K mg base CX0 2 f fd ["value", "least", "most"] (spWithinV K) := by
  have GI : FnOk P w K mg base CX0 1 fI fdI ["value"] (spIsIntV K) := ok_isIntV FI T
  refine F.ok sc_is_within (fun vs H Q E h => ?_) (fun cdv A outer s H vs Q E hr h => ?_)
  · obtain ⟨v, o, lo, hi, rfl, _⟩ := h
    rfl
  · obtain ⟨v, o, lo, hi, rfl, g, q⟩ := h
    refine ⟨_, pss_one (ps_ret (pe_and (pe_call GI hr rfl gI FI.kp bI .nil pass0 (pa_cons (pv 0) pa_nil)) (pe_one (pe_chain op_le op_le (pv 1) (pv 0) (pv 2))))), ?_⟩
    cases g with
    | no h => exact ⟨_, rfl, v, none, rfl, .no h, false, rfl, iteF q⟩
    | int i =>
      refine ⟨_, rfl, _, some i, rfl, .int i, true, rfl, iteT ?_⟩
      refine ⟨_, rfl, _, rfl, _, _, rfl, rfl, _, rfl, ?_⟩
      by_cases c : lo ≤ i
      · rw [decide_eq_true c]
        refine iteT ⟨_, rfl, _, _, rfl, rfl, ?_⟩
        have e : within? lo hi (some i) = decide (i ≤ hi) := by simp [within?, c]
        rw [e] at q
        exact q
      · rw [decide_eq_false c]
        refine iteF ?_
        have e : within? lo hi (some i) = false := by simp [within?, c]
        rw [e] at q
        exact q
/-- what tells answers -/
def Told (a : List Nat) (o : Option Int) (k : Bool) : Prop := k = true ↔ ∃ n : Nat, o = some (n : Int) ∧ n < 16 ∧ Xr.Span a (2 ^ n)
def spTellsV (K : PySem.W.Frag) (C : Addr) : Sp := fun vs H Q _ => ∃ (x : Addr) (a : List Nat) (v : V) (o : Option Int), vs = [.ref x, v] ∧ SpA C H x a ∧ Arg K H v o ∧ ∀ k : Bool, Told a o k → Q (.bl k) H
theorem ok_tellsV {C f fW fI : Addr} {fd fdW fdI : FuncData} (F : Fun K "tells" "Space.tells" s_tells f fd)
    (FW : Fun K "is_within" "is_within" s_is_within fW fdW) (bW : Binds K fdW ["value", "least", "most"] []) (gW : mg "is_within" = some (.ref fW)) (FI : Fun K "is_integer" "is_integer" s_is_integer fI fdI) (bI : Binds K fdI ["value"] []) (gI : mg "is_integer" = some (.ref fI))
    (T : Nm mg) (S : Cs K mg C) (M : Ms K C) : FnOk P w K mg base CX0 3 f fd ["self", "age"] (spTellsV K C) := by
  have GW : FnOk P w K mg base CX0 2 fW fdW ["value", "least", "most"] (spWithinV K) := ok_withinV FW FI bI gI T
  obtain ⟨mc, uu, cr, cv⟩ := M.most
  refine F.ok sc_tells (fun vs H Q E h => ?_) (fun cdv A outer s H vs Q E hr h => ?_)
  · obtain ⟨x, a, v, o, rfl, _⟩ := h
    rfl
  · obtain ⟨x, a, v, o, rfl, ⟨dx, t, hx, ht, ca, ha⟩, g, q⟩ := h
    refine ⟨_, (pss_one (ps_ret (pe_and (pe_call GW hr rfl gW FW.kp bW .nil pass0 (pa_cons (pv 1) (pa_cons pe_int (pa_cons (ClX.pe_cval (pe_glob (v := .ref C) rfl S.gC rfl)) pa_nil)))) (pe_one (pe_cmpR (r := rIn K false) op_in_seq (pe_op op_shl pe_int (pv 1)) (pe_fld (pv 0) rfl) (by rfl)))))), ?_⟩
    refine ⟨_, rfl, C, mc, _, _, rfl, cr, cv, v, o, 0, 15, rfl, g, _, rfl, ?_⟩
    have no : (∀ n : Nat, o = some (n : Int) → ¬ n < 16) → Told a o false := fun z => by
      constructor
      · intro y; cases y
      · rintro ⟨n, h1, h2, _⟩
        exact absurd h2 (z n h1)
    cases g with
    | no h => exact iteF (q false (no fun n z => nomatch z))
    | int i =>
      by_cases c : 0 ≤ i ∧ i ≤ 15
      · have e1 : within? 0 15 (some i) = true := decide_eq_true c
        rw [e1]
        refine iteT ?_
        obtain ⟨n, rfl⟩ : ∃ n : Nat, i = (n : Int) := ⟨i.toNat, by omega⟩
        have hn : n < 16 := by omega
        refine ⟨_, rfl, _, _, rfl, rfl, cpow_one (by omega), _, rfl, x, C, dx, _, _, rfl, hx, S.cl, S.nR, lookup_rows, t, _, rfl, .inr (.of ht), rfl, ri_all _, ?_⟩
        refine q _ ?_
        have e : inV (V.int ((1 : Int) * 2 ^ ((n : Nat) : Int).toNat)) (ri a) = a.contains (2 ^ n) := by
          rw [shl_one]
          exact inV_ri _ _
        show inV (V.int ((1 : Int) * 2 ^ ((n : Nat) : Int).toNat)) (ri a) = true ↔ _
        rw [e, List.contains_iff_mem, ← pow_row ca.1]
        constructor
        · intro z
          exact ⟨n, rfl, hn, z⟩
        · rintro ⟨k, h1, _, h2⟩
          have : k = n := by
            have := Option.some.inj h1
            omega
          subst this
          exact h2
      · have e1 : within? 0 15 (some i) = false := decide_eq_false c
        rw [e1]
        refine iteF (q false (no fun n z y => c ?_))
        have := Option.some.inj z
        omega
end
end Lr

set_option Elab.async false
set_option linter.all false
set_option maxRecDepth 100000
set_option maxHeartbeats 4000000
namespace Lr
open PySem PySem.Spec PyProof.Rows L2 Ow
theorem noL {t : V} {nm : Str} (h : ¬ nm = "rows") : (([("rows", t)] : List (Str × V))).lookup nm = none := by
  have : (nm == ("rows" : Str)) = false := by simpa using h
  simp [List.lookup, this]
structure Use (K : PySem.W.Frag) (mg : Str → Option Value) (nm : Str) (f : Addr) (fd : FuncData) (ps : List Str) : Prop where
  g : mg nm = some (.ref f)
  kp : PySem.W.keepIn K (.ref f) = true
  b : Binds K fd ps []
structure UseM (K : PySem.W.Frag) (C : Addr) (nm : Str) (f : Addr) (fd : FuncData) (ps : List Str) : Prop where
  m : Meth K C nm f
  b : Binds K fd ps []
/-! ### readings of expressions whose value is a space, a value, a truth -/
section
variable {C : Addr} {σ : L2.St} {H0 : Hp}
/-- a space with just the span A -/
def SX (C : Addr) (te : TE) (σ : L2.St) (H0 : Hp) (A : Nat → Prop) : Prop := ∀ (H : Hp) (Q : VK), Same H0 H → (∀ (m : List Nat) (z : Addr) (H' : Hp), (∀ u, Xr.Span m u ↔ A u) → SpA C H' z m → Same H H' → Q (.ref z) H') → te σ H Q
def VX (te : TE) (σ : L2.St) (H0 : Hp) (v : V) : Prop := ∀ (H : Hp) (Q : VK), Same H0 H → (∀ H' : Hp, Same H H' → Q v H') → te σ H Q
def BX (tt : TT) (σ : L2.St) (H0 : Hp) (k : Bool) : Prop := ∀ (H : Hp) (Q : Bool → Hp → Prop), Same H0 H → (∀ H' : Hp, Same H H' → Q k H') → tt σ H Q
theorem SX.mono {te : TE} {A : Nat → Prop} {H1 : Hp} (h : SX C te σ H0 A) (s : Same H0 H1) : SX C te σ H1 A := fun H Q s1 q => h H Q (s.trans s1) q
theorem SX.iff {te : TE} {A B : Nat → Prop} (h : SX C te σ H0 A) (e : ∀ u, A u ↔ B u) : SX C te σ H0 B := fun H Q s q => h H Q s fun m z H' hm => q m z H' fun u => (hm u).trans (e u)
theorem same_refl (H : Hp) : Same H H := fun _ _ h => h
theorem SpA.len {H : Hp} {x : Addr} {m : List Nat} (h : SpA C H x m) : m.length ≤ 16 := by
  obtain ⟨_, _, _, _, c, l⟩ := h
  exact red_len c.1 l
theorem SpA.canon {H : Hp} {x : Addr} {m : List Nat} (h : SpA C H x m) : Xr.Canon m := by
  obtain ⟨_, _, _, _, c, l⟩ := h
  exact c
theorem sx_var {i : Nat} {x : Addr} {a : List Nat} (hs : σ[i]? = some (some (.ref x))) (h : SpA C H0 x a) : SX C (tVar i) σ H0 (Xr.Span a) := fun H Q s q => ⟨.ref x, hs, q a x H (fun _ => Iff.rfl) (h.keep s) (same_refl H)⟩
/-- the sums of two spans -/
def Sum (A B : Nat → Prop) (u : Nat) : Prop := ∃ y z, A y ∧ B z ∧ u = y ^^^ z
theorem sx_add {ta tb : TE} {A B : Nat → Prop} (ha : SX C ta σ H0 A) (hb : SX C tb σ H0 B) : SX C (tOp (rBinO C (spAdd C) E0) ta tb) σ H0 (Sum A B) := fun H Q s q => by
  refine ha H _ s fun m1 z1 H1 e1 h1 s1 => ?_
  refine hb H1 _ (s.trans s1) fun m2 z2 H2 e2 h2 s2 => ?_
  have l1 := h1.len
  have l2 := h2.len
  obtain ⟨dx, t, x1, x2, x3⟩ := id (h1.keep s2)
  obtain ⟨dy, u, y1, y2, y3⟩ := id h2
  refine ⟨z1, dx, _, z2, dy, _, rfl, rfl, x1, y1, z1, z2, m1, m2, rfl, h1.keep s2, h2, by omega, fun m z H3 sm hz s3 nz => ?_⟩
  refine q m z H3 (fun v => ?_) hz ((s1.trans s2).trans s3)
  rw [sm v, Xr.span_append]
  constructor
  · rintro ⟨y, w, p1, p2, p3⟩
    exact ⟨y, w, (e1 y).mp p1, (e2 w).mp p2, p3⟩
  · rintro ⟨y, w, p1, p2, p3⟩
    exact ⟨y, w, (e1 y).mpr p1, (e2 w).mpr p2, p3⟩
theorem sx_and {ta tb : TE} {A B : Nat → Prop} (ha : SX C ta σ H0 A) (hb : SX C tb σ H0 B) : SX C (tOp (rBinO C (spAnd C) E0) ta tb) σ H0 (fun u => A u ∧ B u) := fun H Q s q => by
  refine ha H _ s fun m1 z1 H1 e1 h1 s1 => ?_
  refine hb H1 _ (s.trans s1) fun m2 z2 H2 e2 h2 s2 => ?_
  have l1 := h1.len
  have l2 := h2.len
  obtain ⟨dx, t, x1, x2, x3⟩ := id (h1.keep s2)
  obtain ⟨dy, u, y1, y2, y3⟩ := id h2
  refine ⟨z1, dx, _, z2, dy, _, rfl, rfl, x1, y1, z1, z2, m1, m2, rfl, h1.keep s2, h2, by omega, fun m z H3 sm hz s3 => ?_⟩
  refine q m z H3 (fun v => ?_) hz ((s1.trans s2).trans s3)
  rw [sm v, e1 v, e2 v]
theorem sx_make0 : SX C (fun σ H Q => mkAsk C (spInitS C) E0 [] H Q) σ H0 (fun u => u = 0) := fun H Q s q => by
  show mkAsk C (spInitS C) E0 (ri []) H Q
  exact ask_of ⟨(fun r h => by cases h), (by show 0 ≤ 1000; omega), fun m x H' hm hx s' nx => q m x H' hm hx s'⟩
theorem sx_below {ta tn : TE} {A : Nat → Prop} {n : Nat} (ha : SX C ta σ H0 A) (hn : VX tn σ H0 (vi n)) (h16 : n ≤ 16) : SX C (tMeth C "below" (spBelow C) [] E0 ta (tCons tn tNil)) σ H0 (fun u => A u ∧ u < 2 ^ n) := fun H Q s q => by
  refine ha H _ s fun m1 z1 H1 e1 h1 s1 => ?_
  obtain ⟨dx, t, x1, x2, x3⟩ := id h1
  refine ⟨z1, dx, _, rfl, x1, noL (by decide +kernel), ?_⟩
  refine hn H1 _ (s.trans s1) fun H2 s2 => ?_
  have l1 := h1.len
  refine ⟨z1, m1, n, rfl, h1.keep s2, by omega, h16, fun m z H3 sm hz s3 => ?_⟩
  refine q m z H3 (fun v => ?_) hz ((s1.trans s2).trans s3)
  rw [sm v, e1 v]
theorem sx_older {ta : TE} {A : Nat → Prop} (ha : SX C ta σ H0 A) (h15 : ∀ u, A u → u < 2 ^ 15) : SX C (tMeth C "older" (spOlder C) [] E0 ta tNil) σ H0 (fun u => ∃ v, A v ∧ u = 2 * v) := fun H Q s q => by
  refine ha H _ s fun m1 z1 H1 e1 h1 s1 => ?_
  obtain ⟨dx, t, x1, x2, x3⟩ := id h1
  refine ⟨z1, dx, _, rfl, x1, noL (by decide +kernel), ?_⟩
  have l1 := h1.len
  refine ⟨z1, m1, rfl, h1, by omega, fun r hr => h15 r ((e1 r).mp (Xr.span_mem hr)), fun m z H3 sm hz s3 => ?_⟩
  refine q m z H3 (fun v => ?_) hz (s1.trans s3)
  rw [sm v, Xr.older_span]
  constructor
  · rintro ⟨y, p1, p2⟩
    exact ⟨y, (e1 y).mp p1, p2⟩
  · rintro ⟨y, p1, p2⟩
    exact ⟨y, (e1 y).mpr p1, p2⟩
theorem span_whole {n u : Nat} : Xr.Span ((List.range n).map (2 ^ ·)) u ↔ u < 2 ^ n := by
  constructor
  · intro h
    refine Xr.span_least (S := fun x => x < 2 ^ n) (Nat.two_pow_pos n) (fun x y a b => Nat.xor_lt_two_pow a b) (fun r hr => ?_) h
    obtain ⟨b, hb, rfl⟩ := List.mem_map.mp hr
    exact Nat.pow_lt_pow_right (by decide) (List.mem_range.mp hb)
  · induction n generalizing u with
    | zero =>
      intro h
      have : u = 0 := by
        have : (2 : Nat) ^ 0 = 1 := rfl
        omega
      rw [this]
      exact Xr.span_zero _
    | succ n ih =>
      intro h
      rw [List.range_succ, List.map_append, Xr.span_append]
      cases hb : u.testBit n with
      | false =>
        refine ⟨u, 0, ih ?_, Xr.span_zero _, (Nat.xor_zero u).symm⟩
        refine Xr.lt_of_bits fun j hj => ?_
        rcases Nat.lt_or_ge n j with c | c
        · exact Nat.testBit_lt_two_pow (Nat.lt_of_lt_of_le h (Nat.pow_le_pow_right (by decide) c))
        · have : j = n := by omega
          rw [this, hb]
      | true =>
        refine ⟨u ^^^ 2 ^ n, 2 ^ n, ih ?_, Xr.span_head, by rw [Nat.xor_assoc, Nat.xor_self, Nat.xor_zero]⟩
        refine Xr.lt_of_bits fun j hj => ?_
        rw [Nat.testBit_xor, Nat.testBit_two_pow]
        rcases Nat.lt_or_ge n j with c | c
        · rw [Nat.testBit_lt_two_pow (Nat.lt_of_lt_of_le h (Nat.pow_le_pow_right (by decide) c))]
          have : n ≠ j := by omega
          simp [this]
        · have : j = n := by omega
          rw [this, hb]
          simp
theorem sx_whole {tn : TE} {n : Nat} (hn : VX tn σ H0 (vi n)) (h16 : n ≤ 16) : SX C (tSMeth C (spWhole C) E0 (tC (.ref C)) (tCons tn tNil)) σ H0 (fun u => u < 2 ^ n) := fun H Q s q => by
  refine ⟨rfl, ?_⟩
  refine hn H _ s fun H2 s2 => ?_
  refine ⟨n, rfl, h16, fun m z H3 sm hz s3 nz => q m z H3 (fun v => ?_) hz (s2.trans s3)⟩
  rw [sm v, span_whole]
/-! values -/
theorem vx_var {i : Nat} {v : V} (hs : σ[i]? = some (some v)) : VX (tVar i) σ H0 v := fun H Q s q => ⟨v, hs, q H (same_refl H)⟩
theorem vx_c {v : V} : VX (tC v) σ H0 v := fun H Q s q => q H (same_refl H)
open Classical in
theorem vx_within {ta tb : TE} {A B : Nat → Prop} (ha : SX C ta σ H0 A) (hb : SX C tb σ H0 B) : VX (tMeth C "within" (spWith C) [] E0 ta (tCons tb tNil)) σ H0 (.bl (decide (∀ u, A u → B u))) := fun H Q s q => by
  refine ha H _ s fun m1 z1 H1 e1 h1 s1 => ?_
  obtain ⟨dx, t, x1, x2, x3⟩ := id h1
  refine ⟨z1, dx, _, rfl, x1, noL (by decide +kernel), ?_⟩
  refine hb H1 _ (s.trans s1) fun m2 z2 H2 e2 h2 s2 => ?_
  have l1 := h1.len
  refine ⟨z1, z2, m1, m2, rfl, h1.keep s2, h2, by omega, fun k H3 hk s3 => ?_⟩
  have e : k = decide (∀ u, A u → B u) := by
    rw [Bool.eq_iff_iff, hk, decide_eq_true_iff]
    constructor
    · intro h u hu
      exact (e2 u).mp (h u ((e1 u).mpr hu))
    · intro h u hu
      exact (e2 u).mpr (h u ((e1 u).mp hu))
  rw [e]
  exact q H3 ((s1.trans s2).trans s3)
theorem eq_spans {H1 H2 : Hp} {z1 z2 : Addr} {m1 m2 : List Nat} {A B : Nat → Prop} (e1 : ∀ u, Xr.Span m1 u ↔ A u) (h1 : SpA C H1 z1 m1) (e2 : ∀ u, Xr.Span m2 u ↔ B u) (h2 : SpA C H2 z2 m2) : m1 = m2 ↔ ∀ u, A u ↔ B u := by
  constructor
  · rintro rfl u
    rw [← e1, ← e2]
  · intro h
    exact Xr.Canon.ext h1.canon h2.canon fun u => (e1 u).trans ((h u).trans (e2 u).symm)
open Classical in
theorem vx_eq {ta tb : TE} {A B : Nat → Prop} (ha : SX C ta σ H0 A) (hb : SX C tb σ H0 B) : VX (tOp (rBinO C (spEqS C) E0) ta tb) σ H0 (.bl (decide (∀ u, A u ↔ B u))) := fun H Q s q => by
  refine ha H _ s fun m1 z1 H1 e1 h1 s1 => ?_
  refine hb H1 _ (s.trans s1) fun m2 z2 H2 e2 h2 s2 => ?_
  obtain ⟨dx, t, x1, x2, x3⟩ := id (h1.keep s2)
  obtain ⟨dy, u, y1, y2, y3⟩ := id h2
  refine ⟨z1, dx, _, z2, dy, _, rfl, rfl, x1, y1, z1, z2, m1, m2, rfl, h1.keep s2, h2, ?_⟩
  have e : decide (m1 = m2) = decide (∀ u, A u ↔ B u) := by
    rw [decide_eq_decide]
    exact eq_spans e1 h1 e2 h2
  rw [e]
  exact q H2 (s1.trans s2)
/-! truths -/
theorem bx_ne {ta tb : TE} {A B : Nat → Prop} (ha : SX C ta σ H0 A) (hb : SX C tb σ H0 B) (e : ∀ u, A u ↔ B u) : BX (tTest (tOp (rNeO C (spEqS C) E0) ta tb)) σ H0 false := fun H Q s q => by
  refine ha H _ s fun m1 z1 H1 e1 h1 s1 => ?_
  refine hb H1 _ (s.trans s1) fun m2 z2 H2 e2 h2 s2 => ?_
  obtain ⟨dx, t, x1, x2, x3⟩ := id (h1.keep s2)
  obtain ⟨dy, u, y1, y2, y3⟩ := id h2
  refine ⟨z1, dx, _, z2, dy, _, rfl, rfl, x1, y1, z1, z2, m1, m2, rfl, h1.keep s2, h2, ?_⟩
  have e' : decide (m1 = m2) = true := decide_eq_true ((eq_spans e1 h1 e2 h2).mpr e)
  rw [e']
  exact ⟨true, rfl, false, rfl, q H2 (s1.trans s2)⟩
theorem bx_val {te : TE} {k : Bool} (h : VX te σ H0 (.bl k)) : BX (tB te) σ H0 k := fun H Q s q => h H _ s fun H' s' => ⟨k, rfl, q H' s'⟩
theorem bx_test {te : TE} {k : Bool} (h : VX te σ H0 (.bl k)) : BX (tTest te) σ H0 k := fun H Q s q => h H _ s fun H' s' => ⟨k, rfl, q H' s'⟩
theorem bx_or {t u : TT} {k : Bool} (ht : BX t σ H0 false) (hu : BX u σ H0 k) : BX (tOr t u) σ H0 k := fun H Q s q => ht H _ s fun H1 s1 => by
  refine iteF ?_
  exact hu H1 Q (s.trans s1) fun H2 s2 => q H2 (s1.trans s2)
theorem bx_not {t : TT} {k : Bool} (ht : BX t σ H0 k) : BX (tNot t) σ H0 (!k) := fun H Q s q => ht H _ s fun H1 s1 => q H1 s1
theorem bx_and {t u : TT} {j k : Bool} (ht : BX t σ H0 j) (hu : j = true → BX u σ H0 k) : BX (tAnd t u) σ H0 (j && k) := fun H Q s q => ht H _ s fun H1 s1 => by
  cases j with
  | true =>
    refine iteT ?_
    exact hu rfl H1 Q (s.trans s1) fun H2 s2 => q H2 (s1.trans s2)
  | false =>
    refine iteF ?_
    exact q H1 s1
theorem vx_neB {ta tb : TE} {j k : Bool} (ha : VX ta σ H0 (.bl j)) (hb : VX tb σ H0 (.bl k)) (e : j = k) : VX (tOp rNe ta tb) σ H0 (.bl false) := fun H Q s q => ha H _ s fun H1 s1 => hb H1 _ (s.trans s1) fun H2 s2 => by
  subst e
  refine ⟨rfl, ?_⟩
  have : (!decide (V.bl j = V.bl j)) = false := by
    rw [decide_eq_true rfl]
    rfl
  rw [this]
  exact q H2 (s1.trans s2)
end
end Lr

set_option Elab.async false
set_option linter.all false
set_option maxRecDepth 100000
set_option maxHeartbeats 4000000
namespace Lr
open PySem PySem.Spec PyProof.Rows L2 Ow Og Oi
theorem iteFe {c : Bool} {A B : Prop} (e : c = false) (h : B) : if c = true then A else B := by
  subst e
  exact iteF h
theorem iteTe {c : Bool} {A B : Prop} (e : c = true) (h : A) : if c = true then A else B := by
  subst e
  exact iteT h
theorem eqTup (l : List Nat) : PyData.eqv (.tuple ((l.map fun n : Nat => (n : Int)).map PyData.int)) (.tuple ((l.map fun n : Nat => (n : Int)).map PyData.int)) = true := by
  rw [PyData.eqv, eqv_intsB]
  exact decide_eq_true rfl
theorem neTup (l : List Nat) : (!PyData.eqv (.tuple ((l.map fun n : Nat => (n : Int)).map PyData.int)) (.tuple ((l.map fun n : Nat => (n : Int)).map PyData.int))) = false := by
  rw [eqTup]
  rfl
section
variable {K : PySem.W.Frag} {C : Addr} {mg : Str → Option Value}
theorem dpT {H : Hp} {t : Addr} {l : List Nat} (h : SqT K H t (ri l)) : Dp K H (.ref t) (.tuple ((l.map fun n : Nat => (n : Int)).map PyData.int)) := .tup h (by rw [ri_ii]; exact dp_ints _)
theorem dpL {H : Hp} {t : Addr} {l : List Nat} (h : SqL K H t (ri l)) : Dp K H (.ref t) (.list ((l.map fun n : Nat => (n : Int)).map PyData.int)) := .lst h (by rw [ri_ii]; exact dp_ints _)
/-- x.rows, x a space -/
theorem rows_of {i : Nat} {x : Addr} {m : List Nat} {σ : L2.St} {H : Hp} {Q : VK} (S : Cs K mg C) (hs : σ[i]? = some (some (.ref x))) (h : SpA C H x m) (q : ∀ t, SqT K H t (ri m) → Q (.ref t) H) : tFld K (tVar i) "rows" σ H Q := by
  obtain ⟨dx, t, x1, x2, _⟩ := h
  exact ⟨_, hs, x, C, dx, _, _, rfl, x1, S.cl, S.nR, lookup_rows, q t (.of x2)⟩
end
section
variable {K : PySem.W.Frag} {C : Addr} {mg : Str → Option Value} {σ : L2.St} {H0 : Hp}
/-- the tuple of these numbers -/
def TX (K : PySem.W.Frag) (te : TE) (σ : L2.St) (H0 : Hp) (l : List Nat) : Prop := ∀ (H : Hp) (Q : VK), Same H0 H → (∀ (t : Addr) (H' : Hp), SqT K H' t (ri l) → Same H H' → Q (.ref t) H') → te σ H Q
theorem tx_rows {i : Nat} {x : Addr} {m : List Nat} (S : Cs K mg C) (hs : σ[i]? = some (some (.ref x))) (h : SpA C H0 x m) : TX K (tFld K (tVar i) "rows") σ H0 m := fun H Q s q => rows_of S hs (h.keep s) fun t ht => q t H ht (same_refl H)
theorem tx_rowsOf {te : TE} {A : Nat → Prop} {m : List Nat} (S : Cs K mg C) (h : SX C te σ H0 A) (cm : Xr.Canon m) (e : ∀ u, A u ↔ Xr.Span m u) : TX K (tFld K te "rows") σ H0 m := fun H Q s q => h H _ s fun m1 z H1 e1 h1 s1 => by
  have em : m1 = m := Xr.Canon.ext h1.canon cm fun u => (e1 u).trans (e u)
  subst em
  obtain ⟨dx, t, x1, x2, _⟩ := h1
  exact ⟨z, C, dx, _, _, rfl, x1, S.cl, S.nR, lookup_rows, q t H1 (.of x2) s1⟩
theorem keepT {H H' : Hp} {t : Addr} {l : List Nat} (h : SqT K H t (ri l)) (s : Same H H') : SqT K H' t (ri l) := same_tup s h
theorem bx_neT {ta tb : TE} {l : List Nat} (ha : TX K ta σ H0 l) (hb : TX K tb σ H0 l) : BX (tTest (tOp (rNeD K) ta tb)) σ H0 false := fun H Q s q => by
  refine ha H _ s fun t H1 h1 s1 => ?_
  refine hb H1 _ (s.trans s1) fun u H2 h2 s2 => ?_
  refine ⟨_, _, dpT (keepT h1 s2), dpT h2, shaped_tup _, shaped_tup _, _, rfl, ?_⟩
  rw [neTup]
  exact q H2 (s1.trans s2)
theorem vx_eqT {ta tb : TE} {l : List Nat} (ha : TX K ta σ H0 l) (hb : TX K tb σ H0 l) : VX (tOp (rEqD K) ta tb) σ H0 (.bl true) := fun H Q s q => by
  refine ha H _ s fun t H1 h1 s1 => ?_
  refine hb H1 _ (s.trans s1) fun u H2 h2 s2 => ?_
  refine ⟨_, _, dpT (keepT h1 s2), dpT h2, shaped_tup _, shaped_tup _, ?_⟩
  rw [eqTup]
  exact q H2 (s1.trans s2)
theorem tx_tup {ts : TA} {l : List Nat} (h : ∀ (H : Hp) (Q : List V → Hp → Prop), Same H0 H → (∀ H', Same H H' → Q (ri l) H') → ts σ H Q) (hl : l.length ≤ 1000) : TX K (tTup ts) σ H0 l := fun H Q s q => h H _ s fun H' s' => ⟨by rw [ri_len]; exact Nat.le_of_lt (small1000 hl), fun p np => q p _ (.of upd_same) (s'.trans (same_upd np))⟩
theorem if_f {H : Hp} {tc : TT} {t rest : TS} {D : Ends} (hb : BX tc σ H0 false) (s : Same H0 H) (h : ∀ H', Same H H' → rest D σ H') : tSeq (tIfS tc t tNext) rest D σ H := hb H _ s fun H1 s1 => by
  refine iteF ?_
  exact h H1 s1
theorem if_fL {H : Hp} {tc : TT} {t : TS} {D : Ends} (hb : BX tc σ H0 false) (s : Same H0 H) (h : ∀ H', Same H H' → D.nx σ H') : tIfS tc t tNext D σ H := hb H _ s fun H1 s1 => by
  refine iteF ?_
  exact h H1 s1
/-- Space(..) of written numbers -/
theorem sx_make {ts : TA} {l : List Nat} (h : ∀ (H : Hp) (Q : List V → Hp → Prop), Same H0 H → (∀ H', Same H H' → Q (ri l) H') → ts σ H Q) (hl : ∀ r ∈ l, r < 2 ^ 16) (h1 : l.length ≤ 1000) : SX C (fun σ H Q => ts σ H fun vs H1 => mkAsk C (spInitS C) E0 vs H1 Q) σ H0 (Xr.Span l) := fun H Q s q => h H _ s fun H' s' => ask_of ⟨hl, h1, fun m x H2 hm hx s2 nx => q m x H2 hm hx (s'.trans s2)⟩
end
end Lr

set_option Elab.async false
set_option linter.all false
set_option maxRecDepth 100000
set_option maxHeartbeats 4000000
/-! What the methods of spaces raise. -/
namespace Lr
open PySem PySem.Spec PyProof.Rows L2 Ow Og Oe
section
variable {P : Program} {w : World} {K : PySem.W.Frag} {mg : Str → Option Value} {base : Heap}
/-- an own error class with one field, and its __init__ -/
structure ErrC (K : PySem.W.Frag) (mg : Str → Option Value) (nm : Str) (C fI : Addr) (fld : Str) : Prop where
  T : OexC K C
  iC : PySem.W.findIn K (.ref C) "__init__" = some (some (.ref fI))
  tI : PySem.W.typeIn K (.ref fI) = some (.type "function")
  gC : mg nm = some (.ref C)
  no : PySem.W.findIn K (.ref C) fld = some none
/-- raised: a new error of C with the field f being y, all else as it was -/
def Out (E : XK) (C : Addr) (f : Str) (y : V) (H : Hp) : Prop := ∀ (d : Addr) (H' : Hp), Same H H' → H' d = some (.xd [(f, y)]) → E (.ref C) (some d) H'
theorem Out.same {E : XK} {C : Addr} {f : Str} {y : V} {H H1 : Hp} (o : Out E C f y H) (s : Same H H1) : Out E C f y H1 := fun d H' s' => o d H' (s.trans s')
def spErr (K : PySem.W.Frag) (f : Str) : Sp := fun vs H Q _ => ∃ (a C : Addr) (y : V), vs = [.ref a, y] ∧ OexC K C ∧ PySem.W.findIn K (.ref C) f = some none ∧ H a = some (exo a C none) ∧ ∀ dx, H dx = none → dx ≠ a → Q .non (upd (upd H dx (exd dx [(f, y)])) a (exo a C (some dx)))
theorem raise_out {C : Addr} {f : Str} {y : V} {H : Hp} {E Ef : XK} (T : OexC K C) (no : PySem.W.findIn K (.ref C) f = some none) (out : Out E C f y H) : ∀ a, H a = none → spErr K f (.ref a :: ([y] ++ [])) (upd H a (exo a C none))
    (fun v H2 => v = .non ∧ ∃ (d : Addr) (fs : List (Str × V)), H2 a = some (exo a C (some d)) ∧ H2 d = some (exd d fs) ∧ H d = none ∧ E (.ref C) (some d) (upd (del H2 a) d (.xd fs))) Ef := by
  intro a na
  refine ⟨a, C, y, rfl, T, no, upd_same, fun dx nd ne => ⟨rfl, dx, [(f, y)], upd_same, by rw [upd_ne ne, upd_same], ?_, out _ _ (fun b o e => ?_) upd_same⟩⟩
  · rw [upd_ne ne] at nd
    exact nd
  · have nd' : H dx = none := by
      rw [upd_ne ne] at nd
      exact nd
    have ba : b ≠ a := ne_of_none e na
    have bd : b ≠ dx := ne_of_none e nd'
    rw [upd_ne bd, del_ne ba, upd_ne ba, upd_ne bd, upd_ne ba]
    exact e
/-! ### the errors' own __init__ -/
abbrev s_spI : Stmt := inClass (topS 7) 0
abbrev s_coI : Stmt := inClass (topS 8) 0
theorem sc_spI : FnScope ["self", "part"] ["self", "part"] (defScope s_spI) := ⟨rfl, rfl, rfl, by decide +kernel, rfl, by decide +kernel, by decide +kernel⟩
theorem sc_coI : FnScope ["self", "value"] ["self", "value"] (defScope s_coI) := ⟨rfl, rfl, rfl, by decide +kernel, rfl, by decide +kernel, by decide +kernel⟩
theorem ok_spI {f : Addr} {fd : FuncData} (F : Fun K "__init__" "BadSpace.__init__" s_spI f fd) : FnOk P w K mg base CX0 1 f fd ["self", "part"] (spErr K "part") := by
  refine F.ok sc_spI (fun vs H Q E h => ?_) (fun cdv A outer s H vs Q E hr h => ?_)
  · obtain ⟨a, C, y, rfl, _⟩ := h
    rfl
  · obtain ⟨a, C, y, rfl, T, no, ha, q⟩ := h
    refine ⟨_, pss_one (ps_ost (pv 0) (pv 1)), ?_⟩
    exact ⟨_, rfl, _, rfl, a, C, rfl, T, no, .inl ⟨ha, fun dx nd ne => q dx nd ne⟩⟩
theorem ok_coI {f : Addr} {fd : FuncData} (F : Fun K "__init__" "BadCount.__init__" s_coI f fd) : FnOk P w K mg base CX0 1 f fd ["self", "value"] (spErr K "value") := by
  refine F.ok sc_coI (fun vs H Q E h => ?_) (fun cdv A outer s H vs Q E hr h => ?_)
  · obtain ⟨a, C, y, rfl, _⟩ := h
    rfl
  · obtain ⟨a, C, y, rfl, T, no, ha, q⟩ := h
    refine ⟨_, pss_one (ps_ost (pv 0) (pv 1)), ?_⟩
    exact ⟨_, rfl, _, rfl, a, C, rfl, T, no, .inl ⟨ha, fun dx nd ne => q dx nd ne⟩⟩
/-! ### other is no space -/
def NotSp (K : PySem.W.Frag) (C : Addr) (H : Hp) (v : V) : Prop := ∃ t, TyX K H v t ∧ PySem.W.kitOne K t (.ref C) = some false
def spNoS (K : PySem.W.Frag) (C CS : Addr) : Sp := fun vs H _ E => ∃ (x : Addr) (v : V), vs = [.ref x, v] ∧ NotSp K C H v ∧ Out E CS "part" (.str "other") H
theorem ok_addX {C CS fI f : Addr} {fd fdI : FuncData} (F : Fun K "__add__" "Space.__add__" s_add f fd) (FB : FnOk P w K mg base CX0 1 fI fdI ["self", "part"] (spErr K "part")) (bB : Binds K fdI ["self", "part"] []) (R : ErrC K mg "BadSpace" CS fI "part") (T : Nm mg) (S : Cs K mg C) :
    FnOk P w K mg base (L2.CX P w) 3 f fd ["self", "other"] (spNoS K C CS) := by
  refine F.okX sc_add (fun vs H Q E h => ?_) (fun cdv A outer s H vs Q E hr h => ?_)
  · obtain ⟨x, v, rfl, _⟩ := h
    rfl
  · obtain ⟨x, v, rfl, ⟨t, ty, k⟩, out⟩ := h
    refine ⟨_, (pss_cons (ps_if (pt_not (pt_val (pe_callB call_isi (by rfl) T.isi boot_isinstance (pa_cons (pv 1) (pa_cons (pe_glob (v := .ref C) rfl S.gC rfl) pa_nil))))) (pss_one (ps_raise rfl (takes_of rfl rfl rfl rfl) (pmk_oex R.T R.iC R.tI FB hr bB .nil pass0 rfl R.gC (pa_cons pe_str pa_nil)))) pss_nil)
    (pss_cons ps_never (pss_one ps_never))), ?_⟩
    refine ⟨_, rfl, _, .ref C, t, .ref C, false, rfl, .own C, ty, k, false, rfl, iteT ?_⟩
    exact ⟨by decide, raise_out R.T R.no out⟩
theorem ok_andX {C CS fI f : Addr} {fd fdI : FuncData} (F : Fun K "__and__" "Space.__and__" s_and f fd) (FB : FnOk P w K mg base CX0 1 fI fdI ["self", "part"] (spErr K "part")) (bB : Binds K fdI ["self", "part"] []) (R : ErrC K mg "BadSpace" CS fI "part") (T : Nm mg) (S : Cs K mg C) :
    FnOk P w K mg base (L2.CX P w) 3 f fd ["self", "other"] (spNoS K C CS) := by
  refine F.okX sc_and (fun vs H Q E h => ?_) (fun cdv A outer s H vs Q E hr h => ?_)
  · obtain ⟨x, v, rfl, _⟩ := h
    rfl
  · obtain ⟨x, v, rfl, ⟨t, ty, k⟩, out⟩ := h
    refine ⟨_, (pss_cons (ps_if (pt_not (pt_val (pe_callB call_isi (by rfl) T.isi boot_isinstance (pa_cons (pv 1) (pa_cons (pe_glob (v := .ref C) rfl S.gC rfl) pa_nil))))) (pss_one (ps_raise rfl (takes_of rfl rfl rfl rfl) (pmk_oex R.T R.iC R.tI FB hr bB .nil pass0 rfl R.gC (pa_cons pe_str pa_nil)))) pss_nil)
    (pss_cons ps_never (pss_cons ps_never (pss_cons ps_never (pss_cons ps_never (pss_one ps_never)))))), ?_⟩
    refine ⟨_, rfl, _, .ref C, t, .ref C, false, rfl, .own C, ty, k, false, rfl, iteT ?_⟩
    exact ⟨by decide, raise_out R.T R.no out⟩
theorem ok_withinX {C CS fI f : Addr} {fd fdI : FuncData} (F : Fun K "within" "Space.within" s_withinS f fd) (FB : FnOk P w K mg base CX0 1 fI fdI ["self", "part"] (spErr K "part")) (bB : Binds K fdI ["self", "part"] []) (R : ErrC K mg "BadSpace" CS fI "part") (T : Nm mg) (S : Cs K mg C) :
    FnOk P w K mg base (L2.CX P w) 3 f fd ["self", "other"] (spNoS K C CS) := by
  refine F.okX sc_withinS (fun vs H Q E h => ?_) (fun cdv A outer s H vs Q E hr h => ?_)
  · obtain ⟨x, v, rfl, _⟩ := h
    rfl
  · obtain ⟨x, v, rfl, ⟨t, ty, k⟩, out⟩ := h
    refine ⟨_, (pss_cons (ps_if (pt_not (pt_val (pe_callB call_isi (by rfl) T.isi boot_isinstance (pa_cons (pv 1) (pa_cons (pe_glob (v := .ref C) rfl S.gC rfl) pa_nil))))) (pss_one (ps_raise rfl (takes_of rfl rfl rfl rfl) (pmk_oex R.T R.iC R.tI FB hr bB .nil pass0 rfl R.gC (pa_cons pe_str pa_nil)))) pss_nil)
    (pss_one ps_never)), ?_⟩
    refine ⟨_, rfl, _, .ref C, t, .ref C, false, rfl, .own C, ty, k, false, rfl, iteT ?_⟩
    exact ⟨by decide, raise_out R.T R.no out⟩
/-! ### a number that is none within the bounds -/
def spNoN (K : PySem.W.Frag) (CC : Addr) (f : Str) (lo hi : Int) (y : V → V) : Sp := fun vs H _ E => ∃ (x : Addr) (v : V) (o : Option Int), vs = [.ref x, v] ∧ Arg K H v o ∧ within? lo hi o = false ∧ Out E CC f (y v) H
theorem ok_restX {CS fI f fW fJ : Addr} {fd fdI fdW fdJ : FuncData} (F : Fun K "rest" "Space.rest" s_rest f fd) (FW : Fun K "is_within" "is_within" s_is_within fW fdW) (bW : Binds K fdW ["value", "least", "most"] []) (gW : mg "is_within" = some (.ref fW)) (FI : Fun K "is_integer" "is_integer" s_is_integer fJ fdJ) (bI : Binds K fdJ ["value"] []) (gI : mg "is_integer" = some (.ref fJ))
    (FB : FnOk P w K mg base CX0 1 fI fdI ["self", "part"] (spErr K "part")) (bB : Binds K fdI ["self", "part"] []) (R : ErrC K mg "BadSpace" CS fI "part") (T : Nm mg) :
    FnOk P w K mg base (L2.CX P w) 3 f fd ["self", "bits"] (spNoN K CS "part" 0 65535 fun _ => .str "bits") := by
  have GW : FnOk P w K mg base CX0 2 fW fdW ["value", "least", "most"] (spWithinV K) := ok_withinV FW FI bI gI T
  obtain ⟨tb, gM⟩ := T.mb
  refine F.okX sc_rest (fun vs H Q E h => ?_) (fun cdv A outer s H vs Q E hr h => ?_)
  · obtain ⟨x, v, o, rfl, _⟩ := h
    rfl
  · obtain ⟨x, v, o, rfl, hv, hb, out⟩ := h
    refine ⟨_, (pss_cons (ps_if (pt_not (pt_val (pe_call GW hr rfl gW FW.kp bW .nil pass0 (pa_cons (pv 1) (pa_cons pe_int (pa_cons (pe_glob (v := .int 65535) rfl gM ⟨_, rfl⟩) pa_nil)))))) (pss_one (ps_raise rfl (takes_of rfl rfl rfl rfl) (pmk_oex R.T R.iC R.tI FB hr bB .nil pass0 rfl R.gC (pa_cons pe_str pa_nil)))) pss_nil)
    (pss_one ps_never)), ?_⟩
    refine ⟨_, rfl, v, o, 0, 65535, rfl, hv, false, congrArg V.bl hb, iteT ?_⟩
    exact ⟨by decide, raise_out R.T R.no out⟩
theorem ok_belowX {C CC fI f fW fJ : Addr} {fd fdI fdW fdJ : FuncData} (F : Fun K "below" "Space.below" s_below f fd) (FW : Fun K "is_within" "is_within" s_is_within fW fdW) (bW : Binds K fdW ["value", "least", "most"] []) (gW : mg "is_within" = some (.ref fW)) (FI : Fun K "is_integer" "is_integer" s_is_integer fJ fdJ) (bI : Binds K fdJ ["value"] []) (gI : mg "is_integer" = some (.ref fJ))
    (FB : FnOk P w K mg base CX0 1 fI fdI ["self", "value"] (spErr K "value")) (bB : Binds K fdI ["self", "value"] []) (R : ErrC K mg "BadCount" CC fI "value") (T : Nm mg) (S : Cs K mg C) (M : Ms K C) :
    FnOk P w K mg base (L2.CX P w) 3 f fd ["self", "many"] (spNoN K CC "value" 0 16 fun v => v) := by
  have GW : FnOk P w K mg base CX0 2 fW fdW ["value", "least", "most"] (spWithinV K) := ok_withinV FW FI bI gI T
  obtain ⟨mc, uu, cr, cv⟩ := M.most
  refine F.okX sc_below (fun vs H Q E h => ?_) (fun cdv A outer s H vs Q E hr h => ?_)
  · obtain ⟨x, v, o, rfl, _⟩ := h
    rfl
  · obtain ⟨x, v, o, rfl, hv, hb, out⟩ := h
    refine ⟨_, (pss_cons (ps_if (pt_not (pt_val (pe_call GW hr rfl gW FW.kp bW .nil pass0 (pa_cons (pv 1) (pa_cons pe_int (pa_cons (pe_op op_add (ClX.pe_cval (pe_glob (v := .ref C) rfl S.gC rfl)) pe_int) pa_nil)))))) (pss_one (ps_raise rfl (takes_of rfl rfl rfl rfl) (pmk_oex R.T R.iC R.tI FB hr bB .nil pass0 rfl R.gC (pa_cons (pv 1) pa_nil)))) pss_nil)
    (pss_cons ps_never (pss_one ps_never))), ?_⟩
    refine ⟨_, rfl, C, mc, _, _, rfl, cr, cv, _, _, rfl, rfl, v, o, 0, 16, rfl, hv, false, congrArg V.bl hb, iteT ?_⟩
    exact ⟨_, rfl, (by decide : (1 : Nat) ≤ 1000), raise_out R.T R.no out⟩
abbrev s_missed : Stmt := inClass (topS 25) 15
theorem sc_missed : FnScope ["self", "age", "evens", "having", "without", "bits"] ["self", "age"] (defScope s_missed) := ⟨rfl, rfl, rfl, by decide +kernel, rfl, by decide +kernel, by decide +kernel⟩
theorem ok_missedX {C CC fI f fW fJ : Addr} {fd fdI fdW fdJ : FuncData} (F : Fun K "missed" "Space.missed" s_missed f fd) (FW : Fun K "is_within" "is_within" s_is_within fW fdW) (bW : Binds K fdW ["value", "least", "most"] []) (gW : mg "is_within" = some (.ref fW)) (FI : Fun K "is_integer" "is_integer" s_is_integer fJ fdJ) (bI : Binds K fdJ ["value"] []) (gI : mg "is_integer" = some (.ref fJ))
    (FB : FnOk P w K mg base CX0 1 fI fdI ["self", "value"] (spErr K "value")) (bB : Binds K fdI ["self", "value"] []) (R : ErrC K mg "BadCount" CC fI "value") (T : Nm mg) (S : Cs K mg C) (M : Ms K C) :
    FnOk P w K mg base (L2.CX P w) 3 f fd ["self", "age"] (spNoN K CC "value" 0 15 fun v => v) := by
  have GW : FnOk P w K mg base CX0 2 fW fdW ["value", "least", "most"] (spWithinV K) := ok_withinV FW FI bI gI T
  obtain ⟨mc, uu, cr, cv⟩ := M.most
  refine F.okX sc_missed (fun vs H Q E h => ?_) (fun cdv A outer s H vs Q E hr h => ?_)
  · obtain ⟨x, v, o, rfl, _⟩ := h
    rfl
  · obtain ⟨x, v, o, rfl, hv, hb, out⟩ := h
    refine ⟨_, (pss_cons (ps_if (pt_not (pt_val (pe_call GW hr rfl gW FW.kp bW .nil pass0 (pa_cons (pv 1) (pa_cons pe_int (pa_cons (ClX.pe_cval (pe_glob (v := .ref C) rfl S.gC rfl)) pa_nil)))))) (pss_one (ps_raise rfl (takes_of rfl rfl rfl rfl) (pmk_oex R.T R.iC R.tI FB hr bB .nil pass0 rfl R.gC (pa_cons (pv 1) pa_nil)))) pss_nil)
    (pss_cons ps_never (pss_cons ps_never (pss_cons ps_never (pss_cons ps_never (pss_one ps_never)))))), ?_⟩
    refine ⟨_, rfl, C, mc, _, _, rfl, cr, cv, v, o, 0, 15, rfl, hv, false, congrArg V.bl hb, iteT ?_⟩
    exact ⟨_, rfl, (by decide : (1 : Nat) ≤ 1000), raise_out R.T R.no out⟩
def spNoM (K : PySem.W.Frag) (CC : Addr) : Sp := fun vs H _ E => ∃ (v : V) (o : Option Int), vs = [v] ∧ Arg K H v o ∧ within? 0 16 o = false ∧ Out E CC "value" v H
theorem ok_wholeX {C CC fI f fW fJ : Addr} {fd fdI fdW fdJ : FuncData} (F : Fun K "whole" "Space.whole" s_whole f fd) (FW : Fun K "is_within" "is_within" s_is_within fW fdW) (bW : Binds K fdW ["value", "least", "most"] []) (gW : mg "is_within" = some (.ref fW)) (FI : Fun K "is_integer" "is_integer" s_is_integer fJ fdJ) (bI : Binds K fdJ ["value"] []) (gI : mg "is_integer" = some (.ref fJ))
    (FB : FnOk P w K mg base CX0 1 fI fdI ["self", "value"] (spErr K "value")) (bB : Binds K fdI ["self", "value"] []) (R : ErrC K mg "BadCount" CC fI "value") (T : Nm mg) (S : Cs K mg C) (M : Ms K C) :
    FnOk P w K mg base (L2.CX P w) 3 f fd ["many"] (spNoM K CC) := by
  have GW : FnOk P w K mg base CX0 2 fW fdW ["value", "least", "most"] (spWithinV K) := ok_withinV FW FI bI gI T
  obtain ⟨mc, uu, cr, cv⟩ := M.most
  refine F.okX sc_whole (fun vs H Q E h => ?_) (fun cdv A outer s H vs Q E hr h => ?_)
  · obtain ⟨v, o, rfl, _⟩ := h
    rfl
  · obtain ⟨v, o, rfl, hv, hb, out⟩ := h
    refine ⟨_, (pss_cons (ps_if (pt_not (pt_val (pe_call GW hr rfl gW FW.kp bW .nil pass0 (pa_cons (pv 0) (pa_cons pe_int (pa_cons (pe_op op_add (ClX.pe_cval (pe_glob (v := .ref C) rfl S.gC rfl)) pe_int) pa_nil)))))) (pss_one (ps_raise rfl (takes_of rfl rfl rfl rfl) (pmk_oex R.T R.iC R.tI FB hr bB .nil pass0 rfl R.gC (pa_cons (pv 0) pa_nil)))) pss_nil)
    (pss_cons ps_never (pss_one ps_never))), ?_⟩
    refine ⟨_, rfl, C, mc, _, _, rfl, cr, cv, _, _, rfl, rfl, v, o, 0, 16, rfl, hv, false, congrArg V.bl hb, iteT ?_⟩
    exact ⟨_, rfl, (by decide : (1 : Nat) ≤ 1000), raise_out R.T R.no out⟩
/-! ### Space(..) of what is no row -/
/-- the values of a call, as the checks take them -/
def Args (K : PySem.W.Frag) (H : Hp) (xs : List V) (os : List (Option Int)) : Prop := xs.length = os.length ∧ ∀ (j : Nat) (v : V), xs[j]? = some v → ∃ o, os[j]? = some o ∧ ∀ H', Same H H' → Arg K H' v o
def spBadR (K : PySem.W.Frag) (CS : Addr) : Sp := fun vs H _ E => ∃ (x p : Addr) (xs : List V) (os : List (Option Int)), vs = [.ref x, .ref p] ∧ H p = some (.tup xs) ∧ Args K H xs os ∧ xs.length ≤ 1000 ∧ ((os.map (within? 0 65535)).all id) = false ∧ Out E CS "part" (.str "rows") H
def spInitX (K : PySem.W.Frag) (CS : Addr) : Sp := fun vs H Q E => ∃ ws rest, vs = ws ++ rest ∧ ws.length = (["self"] : List Str).length ∧ rest.length ≤ sizeLine ∧ ∀ p, H p = Option.none → spBadR K CS (ws ++ [V.ref p]) (upd H p (.tup rest)) Q E
theorem ok_initX {CS fI f fW fJ : Addr} {fd fdI fdW fdJ : FuncData} (F : Fun K "__init__" "Space.__init__" s_init f fd) (FW : Fun K "is_within" "is_within" s_is_within fW fdW) (bW : Binds K fdW ["value", "least", "most"] []) (gW : mg "is_within" = some (.ref fW)) (FI : Fun K "is_integer" "is_integer" s_is_integer fJ fdJ) (bI : Binds K fdJ ["value"] []) (gI : mg "is_integer" = some (.ref fJ))
    (FB : FnOk P w K mg base CX0 1 fI fdI ["self", "part"] (spErr K "part")) (bB : Binds K fdI ["self", "part"] []) (R : ErrC K mg "BadSpace" CS fI "part") (T : Nm mg) : FnR P w K mg base (L2.CX P w) 3 f (spInitX K CS) := by
  have GW : FnOk P w K mg base CX0 2 fW fdW ["value", "least", "most"] (spWithinV K) := ok_withinV FW FI bI gI T
  obtain ⟨tb, gM⟩ := T.mb
  obtain ⟨oc, od, kV, doc, pm, an, cdv, ct, osl, rfl, lk, hcd⟩ := F.ex
  refine StX.fn_star (ps := ["self"]) (pv := "rows") (sp := spBadR K CS) (k := 2) lk hcd sc_init StX.cxUp (fun us rest h => StX.bind_star1 (p1 := "self") (pv := "rows") (B := fun z => bindArgs (PySem.W.fnOf "__init__" "Space.__init__" (defArgs s_init) (defBody s_init) (defScope s_init) Value.none kV doc pm an cdv ct) { pos := z }) (fun a => rfl) (fun a r rs => rfl) us rest h) fun A outer s H vs Q E hr hsp => ?_
  obtain ⟨x, p, xs, os, rfl, hp, ⟨hl, ha⟩, hlen, hbad, out⟩ := hsp
  refine ⟨_, pss_cons (ps_if (pt_not (pt_val (pe_callB (cr_all rfl) (by rfl) T.all PyProof.Rows.boot_all (pa_cons (pe_lc (own := [("row", 2)]) (g := (gName 2)) (tt := tYes) rfl sc_init.nd (pi_tup (pv 1)) (blkOk_by (N := ["self", "rows", "row"]) (sc := defScope s_init) (by decide +kernel)) (fun _ _ _ _ _ => pg_name (i := 2) sc_init.nd rfl (Or.inl rfl)) (fun _ _ _ _ _ => pts_nil)
      (fun _ _ _ _ _ => (pe_call GW (hr.mono (by decide)) rfl gW FW.kp bW .nil pass0 (pa_cons (pv 2) (pa_cons pe_int (pa_cons (pe_glob (v := .int 65535) rfl gM ⟨_, rfl⟩) pa_nil)))))) pa_nil)))) (pss_one (ps_raise rfl (takes_of rfl rfl rfl rfl) (pmk_oex R.T R.iC R.tI FB (hr.mono (by decide)) bB .nil pass0 rfl R.gC (pa_cons pe_str pa_nil)))) pss_nil)
    (pss_one ps_never), ?_⟩
  refine ⟨_, rfl, p, rfl, ⟨_, .of hp⟩, fun D nD => ?_⟩
  refine lc_tup (K := K) (a := p) (xs := xs) (fun j H'' => Same H H'' ∧ H D = none ∧ H'' D = some (.lst (((os.take j).map (within? 0 65535)).map V.bl))) ⟨same_upd nD, nD, upd_same⟩ (fun j H'' _ ⟨e, _⟩ => same_tup e (.of hp)) ?_ ?_
  · rintro j y H'' hj ⟨s2, nD', e2⟩
    obtain ⟨o, ho, har⟩ := ha j y hj
    refine ⟨rfl, ?_⟩
    refine ⟨_, rfl, y, o, 0, 65535, rfl, har _ s2, ?_⟩
    refine ⟨_, e2, ?_, same_put s2 nD', nD', ?_⟩
    · rw [List.length_map, List.length_map, List.length_take]
      exact small1000 (by omega)
    · rw [upd_same, List.take_add_one, ho, List.map_append, List.map_append]
      rfl
  · rintro H'' ⟨s2, nD', e2⟩
    rw [hl, List.take_length] at e2
    refine ⟨D, _, rfl, .of e2, false, ?_, iteT ?_⟩
    · rw [hbad]
    · exact ⟨by decide, raise_out R.T R.no (out.same s2)⟩
end
end Lr

set_option Elab.async false
set_option linter.all false
set_option maxRecDepth 100000
set_option maxHeartbeats 4000000
namespace Lr
open PySem PySem.Spec PyProof.Rows L2 Ow Og Oe LamX
section
variable {X : Cx}
/-- repr(x): data without dicts, or an empty dict -/
def rReprW (K : PySem.W.Frag) : List V → Hp → VK → Prop := fun xs H Q => rRepr K xs H Q ∨ ∃ a, xs = [.ref a] ∧ H a = some (.dK []) ∧ Q (.str (PyData.dict []).shown) H
theorem dk_reads {P : Program} {w : World} {H : Hp} {h : Heap} {a : Addr} (hok : HOk P w H h) (e : H a = some (.dK [])) : ∃ as, Reads h (.ref a) (.dict []) as ∧ sysModules ∉ as := by
  obtain ⟨_, hs, vs, kv, hd⟩ := (show ObjOk P w H h a (.dK []) from hok a _ e)
  cases kv
  obtain ⟨o, es, ep, e1, e2, e3, e4, e6⟩ := hd
  have e5 : es.toList = [] := by
    obtain ⟨pp, _⟩ := e6
    generalize es.toList = l at pp ⊢
    cases pp
    rfl
  refine ⟨_, Reads.dict (kvs := []) (as := []) (bs := []) e1 e2.1 e3 ?_ ?_, ?_⟩
  · rw [e5]
    exact .nil
  · rw [e5]
    exact .nil
  · intro z
    simp only [List.append_nil, List.mem_singleton] at z
    rw [z] at hs
    simp at hs
theorem call_reprW (hG : X.A.guards = some []) (hu : X.A.units + 64 < cLine) : CallR X (.builtin "repr") (rReprW X.K) := by
  intro pins s σ H xs us Q I r h
  rcases h with h | ⟨a, rfl, ha, q⟩
  · exact call_reprD hG hu pins s σ H xs us Q I r h
  · obtain ⟨u, rfl, ru⟩ := r.one
    cases (show u = Value.ref a from ru)
    obtain ⟨as, R, ns⟩ := dk_reads I.hok ha
    exact repr_of_reads' R (by decide) (fun _ => ns) hG (by have : (PyData.dict []).depth ≤ 2 := by decide
                                                            omega) (fun _ _ e => e) (fun h' u tk hk => ⟨.str _, H, I.kept hk, ⟨_, rfl⟩, q⟩) (Nat.le_trans (by decide : (PyData.dict []).shown.length ≤ 10) (Nat.le_of_lt (small1000 (by omega))))
end
/-! ### what a call raised, told -/
/-- the text of repr(v) -/
inductive Rp (K : PySem.W.Frag) (H : Hp) : V → Str → Prop
  | data {v : V} {d : PyData} (h : Dp K H v d) (h1 : d.showable = true) (h2 : d.depth ≤ 20) (h3 : d.shown.length ≤ sizeLine) : Rp K H v d.shown
  | dk {a : Addr} (h : H a = some (.dK [])) : Rp K H (.ref a) (PyData.dict []).shown
theorem repr_of {K : PySem.W.Frag} {H : Hp} {v : V} {t : Str} {Q : VK} (r : Rp K H v t) (q : Q (.str t) H) : rReprW K [v] H Q := by
  cases r with
  | data h h1 h2 h3 => exact .inl ⟨_, _, rfl, h, h1, h2, h3, q⟩
  | dk h => exact .inr ⟨_, rfl, h, q⟩
abbrev s_heard : Stmt := topS 30
theorem sc_heard : FnScope ["_law_ask", "_law_caught", "error"] ["_law_ask"] (defScope s_heard) := ⟨rfl, rfl, rfl, by decide +kernel, rfl, by decide +kernel, by decide +kernel⟩
def EHear (K : PySem.W.Frag) (CS CC : Addr) (Q : VK) : XK := fun cls d H' =>
  (∃ dd y, cls = .ref CS ∧ d = some dd ∧ H' dd = some (.xd [("part", y)]) ∧ ∀ a p, H' a = none → (upd H' a (ExK cls d a)) p = none → Q (.ref p) (upd (upd H' a (ExK cls d a)) p (.tup [.str "space", y]))) ∨
  ∃ dd v t, cls = .ref CC ∧ d = some dd ∧ H' dd = some (.xd [("value", v)]) ∧ (∀ H2, Same H' H2 → Rp K H2 v t) ∧ ∀ a p, H' a = none → (upd H' a (ExK cls d a)) p = none → Q (.ref p) (upd (upd H' a (ExK cls d a)) p (.tup [.str "count", .str t]))
def THear (K : PySem.W.Frag) (CS CC : Addr) : (XK → Hp → VK → Prop) → Hp → VK → Prop := fun tl H Q =>
  tl (EHear K CS CC Q) H (fun v H' => [v].length ≤ sizeLine ∧ ∀ p, H' p = none → Q (.ref p) (upd H' p (.lst [v])))
/-- what the errors' classes are to each other -/
structure Errs (K : PySem.W.Frag) (mg : Str → Option Value) (CR CS CC : Addr) : Prop where
  gR : mg "RepairError" = some (.ref CR)
  gS : mg "BadSpace" = some (.ref CS)
  gC : mg "BadCount" = some (.ref CC)
  exS : PySem.W.exmOne K (.ref CS) (.ref CR) = some true
  exC : PySem.W.exmOne K (.ref CC) (.ref CR) = some true
  cS : ExcC K CS
  cC : ExcC K CC
  xS : XfC K CS
  xC : XfC K CC
  SS : PySem.W.kitOne K (.ref CS) (.ref CS) = some true
  CSn : PySem.W.kitOne K (.ref CC) (.ref CS) = some false
  CCy : PySem.W.kitOne K (.ref CC) (.ref CC) = some true
  nP : PySem.W.findIn K (.ref CS) "part" = some none
  nV : PySem.W.findIn K (.ref CC) "value" = some none
theorem set_at {σ : L2.St} {v : V} (h : σ.length = 3) : (((σ.set 2 (some v)).set 1 (some v)).set 2 none)[1]? = some (some v) := by
  match σ, h with
  | [_, _, _], _ => rfl
theorem heard_gives {X : Cx} {q : Str} {g CR CS CC : Addr} {cdg : Value} (R : Errs X.K X.mg CR CS CC) (hG : X.A.guards = some []) (hr : Room 1 X.A) (fi : X.mg "isinstance" = none) (fr : X.mg "repr" = none) :
    GivesTo X ["_law_ask", "_law_caught", "error"] "_law_heard" (defScope s_heard) g cdg (defBody s_heard) "_law_ask" q (THear X.K CS CC) := by
  intro f c' s H Q tl act hc h
  refine ⟨_, (pss_cons (ps_set (i := 1) sc_heard.nd rfl (Or.inl rfl) pe_non)
    (pss_cons (ps_try_held (i := 2) (j := 1) (c := .ref CR)
      (tb := fun W D σ H => ∃ Ech : XK, (∀ cls d σ' H', Ech cls d H' → W cls d σ' H') ∧ σ[0]? = some (some (.ref f)) ∧ H c' = some (LamX.CodeO c' q) ∧ tl Ech H (fun v H' => [v].length ≤ sizeLine ∧ ∀ p, H' p = none → D.rt (.ref p) (upd H' p (.lst [v]))))
      rfl rfl rfl sc_heard.nd rfl rfl rfl rfl ⟨rfl, rfl, .inl R.gR⟩ (fun W pn xe tk _ => ?_) (fun a oe pn => pss_one (ps_set (i := 1) sc_heard.nd rfl (Or.inl rfl) (pv 2))))
    (pss_cons (ps_if (pt_val (pe_callB call_isX (by rfl) fi boot_isinstance (pa_cons (pv 1) (pa_cons (pe_glob (v := .ref CS) rfl R.gS rfl) pa_nil)))) (pss_one (ps_ret (pe_tup (pa_cons pe_str (pa_cons (by exact pe_xk (pv 1)) pa_nil))))) pss_nil)
    (pss_one (ps_ret (pe_ifExp (pt_val (pe_callB call_isX (by rfl) fi boot_isinstance (pa_cons (pv 1) (pa_cons (pe_glob (v := .ref CC) rfl R.gC rfl) pa_nil)))) (pe_tup (pa_cons pe_str (pa_cons (pe_callB (call_reprW hG ?_) (by rfl) fr PyProof.Rows.boot_repr (pa_cons (by exact pe_xk (pv 1)) pa_nil)) pa_nil))) (pe_tup (pa_cons pe_str pa_nil)))))))), ?_⟩
  · refine ⟨fun pins s' σ H' D I h' => ?_⟩
    obtain ⟨Ech, hW, h1, h2, h3⟩ := h'
    exact (pss_one (ps_ret (pe_lst (pa_cons (act W pn xe Ech _ _ tk hW) pa_nil)))).run pins s' σ H' D I ⟨h1, h2, h3⟩
  · exact (hr.deeper _).units
  · refine t_seq (t_asg ?_)
    refine ⟨EHear X.K CS CC Q, ?_, rfl, hc, h⟩
    have lk : ∀ (n : Str) (y : V), (([(n, y)] : List (Str × V))).lookup n = some y := fun n y => by simp [List.lookup]
    rintro cls d σ' H' (⟨dd, y, rfl, rfl, hd, k⟩ | ⟨dd, v, t, rfl, rfl, hd, hr, k⟩)
    · refine ⟨R.exS, fun a na hl => ?_⟩
      have hs := set_at (v := .ref a) hl
      have da : dd ≠ a := ne_of_none hd na
      have hd' : (upd H' a (ExK (.ref CS) (some dd) a)) dd = some (.xd [("part", y)]) := by
        rw [upd_ne da]
        exact hd
      refine ⟨_, hs, a, CS, some dd, .ref CS, .ref CS, true, rfl, upd_same, fun z e => ⟨_, by cases e; exact hd'⟩, R.cS, fun u r => r, R.SS, true, rfl, iteT ?_⟩
      refine ⟨_, hs, a, CS, dd, _, y, rfl, upd_same, hd', R.xS, R.nP, lk _ _, by show 2 ≤ sizeLine; exact Nat.le_of_lt (small1000 (by omega)), fun p np => k a p na np⟩
    · refine ⟨R.exC, fun a na hl => ?_⟩
      have hs := set_at (v := .ref a) hl
      have da : dd ≠ a := ne_of_none hd na
      have hd' : (upd H' a (ExK (.ref CC) (some dd) a)) dd = some (.xd [("value", v)]) := by
        rw [upd_ne da]
        exact hd
      refine ⟨_, hs, a, CC, some dd, .ref CS, .ref CS, false, rfl, upd_same, fun z e => ⟨_, by cases e; exact hd'⟩, R.cC, fun u r => r, R.CSn, false, rfl, iteF ?_⟩
      refine ⟨_, hs, a, CC, some dd, .ref CC, .ref CC, true, rfl, upd_same, fun z e => ⟨_, by cases e; exact hd'⟩, R.cC, fun u r => r, R.CCy, true, rfl, iteT ?_⟩
      refine ⟨_, hs, a, CC, dd, _, v, rfl, upd_same, hd', R.xC, R.nV, lk _ _, repr_of (hr _ (same_upd na)) ?_⟩
      exact ⟨by show 2 ≤ sizeLine; exact Nat.le_of_lt (small1000 (by omega)), fun p np => k a p na np⟩
end Lr

set_option Elab.async false
set_option linter.all false
set_option maxRecDepth 100000
set_option maxHeartbeats 4000000
namespace Lr
open PySem PySem.Spec PyProof.Rows L2 Ow Og Oe Oi Ox
section
variable {P : Program} {w : World} {K : PySem.W.Frag} {mg : Str → Option Value} {base : Heap}
theorem Args.same {H H1 : Hp} {xs : List V} {os : List (Option Int)} (a : Args K H xs os) (s : Same H H1) : Args K H1 xs os := ⟨a.1, fun j v e => by
  obtain ⟨o, h1, h2⟩ := a.2 j v e
  exact ⟨o, h1, fun H' s' => h2 H' (s.trans s')⟩⟩
theorem ask_bad {C CS : Addr} {xs : List V} {os : List (Option Int)} {H : Hp} {Q : VK} {E : XK} (a : Args K H xs os) (hl : xs.length ≤ 1000) (hb : ((os.map (within? 0 65535)).all id) = false) (out : Out E CS "part" (.str "rows") H) : mkAsk C (spInitX K CS) E xs H Q := by
  intro x dx nx nd ne
  have s1 := same_upd (o := HO.own x) nd
  have n1 : (upd H dx (.own x)) x = none := by
    rw [upd_ne (Ne.symm ne)]
    exact nx
  have s2 := s1.trans (same_upd (o := HO.ins C dx []) n1)
  refine ⟨[V.ref x], xs, rfl, rfl, Nat.le_of_lt (small1000 hl), fun p np => ?_⟩
  have s3 := s2.trans (same_upd (o := HO.tup xs) np)
  exact ⟨x, p, xs, os, rfl, upd_same, a.same s3, hl, hb, out.same s3⟩
theorem args_ints {H : Hp} (l : List Nat) : Args K H (ri l) (l.map fun n : Nat => some (n : Int)) := ⟨by rw [ri_len, List.length_map], fun j v e => by
  obtain ⟨n, hn, rfl⟩ := ri_get e
  exact ⟨some (n : Int), by rw [List.getElem?_map, hn]; rfl, fun _ _ => .int _⟩⟩
def spOldX (C CS : Addr) : Sp := fun vs H _ E => ∃ (x : Addr) (a : List Nat), vs = [.ref x] ∧ SpA C H x a ∧ a.length ≤ 1000 ∧ (∃ r ∈ a, 2 ^ 15 ≤ r) ∧ Out E CS "part" (.str "rows") H
theorem ok_olderX {C CS f f0 : Addr} {fd : FuncData} (F : Fun K "older" "Space.older" s_older f fd) (GX : FnR P w K mg base (L2.CX P w) 3 f0 (spInitX K CS)) (MM : Mk K C f0) (T : Nm mg) (S : Cs K mg C) : FnOk P w K mg base (L2.CX P w) 5 f fd ["self"] (spOldX C CS) := by
  refine F.okX sc_older (fun vs H Q E h => ?_) (fun cdv A outer s H vs Q E hr h => ?_)
  · obtain ⟨x, a, rfl, _⟩ := h
    rfl
  · obtain ⟨x, a, rfl, ⟨dx, t, hx, ht, ca, ha⟩, hl, ⟨rr, hrr, h15⟩, out⟩ := h
    refine ⟨_, (pss_cons (ps_setLc (i := 1) (wi := iTup K (tFld K (tVar 0) "rows")) (own := [("row", 2)]) (g := (gName 2)) (tt := tYes) rfl sc_older.nd rfl rfl (sw_true rfl rfl rfl (by decide +kernel)) (by exact pi_tup (pe_fld (pv 0) rfl)) (blkOk_by (by kernel_rfl)) (fun _ _ _ _ _ => pg_name (i := 2) sc_older.nd rfl (Or.inl rfl)) (fun _ _ _ _ _ => pts_nil) (fun _ _ _ _ _ => (pe_op op_shl (pv 2) pe_int)))
      (pss_one (ps_ret (pe_makeS1 (E := E) MM GX hr rfl S.gC (passes_call (takes_of rfl rfl rfl rfl) (fun _ _ _ _ h => h)) (pv 1))))), ?_⟩
    refine ⟨_, rfl, x, C, dx, _, _, rfl, hx, S.cl, S.nR, lookup_rows, t, rfl, ⟨_, .of ht⟩, fun D nD => ?_⟩
    refine lc_tup (K := K) (a := t) (xs := ri a) (fun j H3 => Same H H3 ∧ H3 D = some (.lst (ri ((a.take j).map (2 * ·))))) ⟨same_upd nD, upd_same⟩ (fun j H3 _ ⟨e, _⟩ => .of (e _ _ ht)) ?_ ?_
    · rintro j z H3 hj ⟨s3, e3⟩
      obtain ⟨r, hr', rfl⟩ := ri_get hj
      have r16 := ha r (List.mem_of_getElem? hr')
      refine ⟨rfl, _, rfl, _, _, rfl, rfl, ⟨by decide, by decide, by omega⟩, _, e3, ?_, same_put s3 nD, ?_⟩
      · rw [ri_len, List.length_map, List.length_take]
        exact small1000 (by omega)
      · rw [upd_same, List.take_add_one, hr', List.map_append, ri_append]
        have e : (r : Int) * 2 ^ (1 : Int).toNat = ((2 * r : Nat) : Int) := by
          show (r : Int) * 2 ^ 1 = _
          omega
        exact congrArg (fun v => some (HO.lst (ri ((a.take j).map (2 * ·)) ++ [V.int v]))) e
    · rintro H3 ⟨s3, e3⟩
      rw [ri_len, List.take_length] at e3
      refine ⟨_, rfl, D, _, rfl, .inr (.of e3), ask_bad (args_ints _) (by rw [ri_len, List.length_map]; exact hl) ?_ (out.same s3)⟩
      rw [List.all_eq_false]
      refine ⟨false, List.mem_map.mpr ⟨some ((2 * rr : Nat) : Int), List.mem_map.mpr ⟨2 * rr, List.mem_map.mpr ⟨rr, hrr, rfl⟩, rfl⟩, ?_⟩, by decide⟩
      show decide ((0 : Int) ≤ ((2 * rr : Nat) : Int) ∧ ((2 * rr : Nat) : Int) ≤ 65535) = false
      exact decide_eq_false (by omega)
/-! ### one of any values -/
def spPickV : Sp := fun vs H Q _ => ∃ (a b p : Addr) (n : Nat) (xs : List V), vs = [.ref a, .ref p] ∧ PenAt H a b n ∧ n ≤ 1000 ∧ H p = some (.lst xs) ∧ p ≠ a ∧ 0 < xs.length ∧ xs.length ≤ 1000 ∧ ∀ (j : Nat) (v : V) (H' : Hp), xs[j]? = some v → PenAt H' a b (n + 1) → Kept a H H' → Q v H'
theorem ok_pickV {f fD : Addr} {fd fdD : FuncData} (F : Fun K "_law_pick" "_law_pick" s_pick f fd) (FD : Fun K "_law_draw" "_law_draw" s_draw fD fdD) (bD : Binds K fdD ["_law_pen_here", "_law_many"] []) (gD : mg "_law_draw" = some (.ref fD)) (T : Nm mg) :
    FnOk P w K mg base CX0 2 f fd ["_law_pen_here", "_law_some"] spPickV := by
  have GD : FnOk P w K mg base CX0 1 fD fdD ["_law_pen_here", "_law_many"] spDraw := ok_draw FD T
  refine F.ok sc_pick (fun vs H Q E h => ?_) (fun cdv A outer s H vs Q E hr h => ?_)
  · obtain ⟨a, b, p, n, l, rfl, _⟩ := h
    rfl
  · obtain ⟨a, b, p, n, l, rfl, hp, hn, hl, pa, l0, l1, q⟩ := h
    refine ⟨_, pss_one (ps_ret (pe_ix ix_list (pv 1) (pe_call GD hr rfl gD FD.kp bD .nil pass0 (pa_cons (pv 0) (pa_cons (pe_callB call_len_seq (by rfl) T.len PySem.boot_len (pa_cons (pv 1) pa_nil)) pa_nil))) (fun _ _ => rfl))), ?_⟩
    refine ⟨_, rfl, _, rfl, _, rfl, p, _, rfl, .inl (.of hl), a, b, l.length, n, rfl, hp, hn, l0, by omega, fun d H' hd p' k => ?_⟩
    have e : l[d]? = some l[d] := List.getElem?_eq_getElem hd
    exact ⟨p, _, _, _, rfl, rfl, .of (k _ _ pa hl), at_of (j := d) rfl e, q d l[d] H' e p' k⟩
/-! ### added in place -/
/-- a value of a built-in type, no space -/
def Strange (K : PySem.W.Frag) (C : Addr) (H : Hp) (v : V) : Prop := ∃ T, TyX K H v (.type T) ∧ RtX K C "add" T ∧ RtX K C "and" T ∧ PySem.W.kitOne K (.type T) (.ref C) = some false
theorem Strange.no {C : Addr} {H : Hp} {v : V} (h : Strange K C H v) : NotSp K C H v := by
  obtain ⟨T, h1, _, _, h4⟩ := h
  exact ⟨_, h1, h4⟩
abbrev s_added : Stmt := topS 31
theorem sc_added : FnScope ["_law_one", "_law_other", "_law_held"] ["_law_one", "_law_other", "_law_held"] (defScope s_added) := ⟨rfl, rfl, rfl, by decide +kernel, rfl, by decide +kernel, by decide +kernel⟩
def spAddedX (K : PySem.W.Frag) (C CS : Addr) : Sp := fun vs H _ E => ∃ (x : Addr) (a : List Nat) (v u : V), vs = [u, v, .ref x] ∧ SpA C H x a ∧ Strange K C H v ∧ Out E CS "part" (.str "other") H
theorem ok_addedX {C CS f fA : Addr} {fd : FuncData} {rc : Option Value} (F : Fun K "_law_added" "_law_added" s_added f fd) (GX : FnR P w K mg base (L2.CX P w) 3 fA (spNoS K C CS)) (N : NoIn K C "__iadd__") (S : Cs K mg C)
    (hs : PySem.W.findIn K (.ref C) "__add__" = some (some (.ref fA))) (hf : PySem.W.isFn K (.ref fA) = true) (hr' : PySem.W.findIn K (.ref C) "__radd__" = some rc) (hp : rc = none ∨ ∃ g : Addr, rc = some (.ref g)) : FnOk P w K mg base (L2.CX P w) 4 f fd ["_law_one", "_law_other", "_law_held"] (spAddedX K C CS) := by
  refine F.okX sc_added (fun vs H Q E h => ?_) (fun cdv A outer s H vs Q E hr h => ?_)
  · obtain ⟨x, a, v, u, rfl, _⟩ := h
    rfl
  · obtain ⟨x, a, v, u, rfl, ⟨dx, t, hx, _⟩, ⟨T, ty, R1, R2, k⟩, out⟩ := h
    refine ⟨_, (pss_cons (ps_aug (i := 2) sc_added.nd rfl (Or.inl rfl) (pv 1) (ip_binX (op := .Add) (E := E) N S.sf hs hf hr' hp GX hr (passes_call (takes_of rfl rfl rfl rfl) (fun _ _ _ _ h => h))))
    (pss_one (ps_ret (pv 2)))), ?_⟩
    exact ⟨_, rfl, _, rfl, x, dx, _, T, rfl, hx, ty, R1, x, v, rfl, ⟨_, ty, k⟩, out⟩
end
end Lr

set_option Elab.async false
set_option linter.all false
set_option maxRecDepth 100000
set_option maxHeartbeats 4000000
namespace Oq
open PySem PySem.Spec PyProof.Rows L2 Ow Og LamX
section
variable {P : Program} {w : World} {K : PySem.W.Frag} {mg : Str → Option Value} {base : Heap} {CX : CXT} {j k : Nat} {f : Addr} {fd : FuncData} {ps : List Str} {sp sp' : Sp}
/-- a def's body, run at this state, its code object known -/
theorem run_genC {x q : Str} {st : Stmt} {N : List Str} {A : Around} {outer : List Env} {s : Shared} {H : Hp} {ar : Args} {us : List Value} {vs : List V} {Q : VK} {E : XK}
    (F : L2.Fun K x q st f fd) (S : FnScope N ps (defScope st)) (hl : vs.length = ps.length) (hr : Room (k + 1) A) (e0 : Env0 P w K mg base A outer s H) (hb : BindsTo s fd ar (ps.zip us)) (r : Vals vs us)
    (body : ∀ cdv : Value, fd.code = cdv → Room k (A.deeper (envOfC q (defScope st) s.heap.objs.size f cdv)) → ∃ t, PSs (cxOf CX P w K mg base N q (defScope st) f cdv A outer s H E) (defBody st) t ∧ t { nx := fun _ H' => Q .non H', rt := Q } (start N vs) H) :
    codeAny (model P w) A (.call (.ref f) ar) (CR CX outer P w H s Q E) s := by
  obtain ⟨oc, od, kV, doc, pm, an, cdv, ct, osl, rfl, lk, hcd⟩ := F.ex
  have Xin : K.In s.heap := e0.mod.kin.keeps fun b o z => (e0.bs b o z).1
  have free : s.heap.NoLimit := e0.mod.nolimit.keeps fun b o z => (e0.bs b o z).1
  have kinds : ∀ y ∈ ps.zip us, (defScope st).names.lookup y.1 = some .local ∨ ((defScope st).names.lookup y.1 = some .cell ∧ ((cellsFrom (s.heap.objs.size + 1) (defScope st).names []).lookup y.1).isSome = true) := by
    rintro ⟨n, v⟩ hy
    rcases S.par n (List.of_mem_zip hy).1 with z | z
    · exact .inl z
    · exact .inr ⟨z, PySem.W.cellsFrom_some _ _ _ (.inl z)⟩
  refine codeAny_call_function hr.depth (Xin _ _ lk) rfl S.co S.gen rfl (PySem.W.codeRec_of Xin hcd) (hb _ _ _ _ ?_)
  refine wpAny_newFunctionEnv_cells S.kind kinds fun env he s1 z => ?_
  subst he
  refine ⟨free.keeps z.toInCall.keep, codeAny_func ?_⟩
  obtain ⟨t, ht, hq⟩ := body cdv rfl (hr.deeper _)
  have J := inv_start (CX := CX) (E := E) S hr.hd e0 hl r z
  have fin : ∀ {σ' : L2.St} {H' : Hp} {v : V} {u : Value} {s' : Shared}, Inv (cxOf CX P w K mg base N q (defScope st) f cdv A outer s H E) [] σ' H' s' → RelV v u → Q v H' → CE outer P w H s Q u s' :=
    fun J2 rv y => ⟨_, _, J2.os, J2.bare, J2.base, J2.hok, rv, y⟩
  refine wpAny_mono (ht.run [] s1 (start N vs) H _ J hq) (fun fl s' hs => ?_) fun e s' hs => hs
  cases fl with
  | ret u =>
    obtain ⟨v, σ', H', J2, rv, y⟩ := hs
    exact fin J2 rv y
  | next =>
    obtain ⟨σ', H', J2, y⟩ := hs
    exact fin (v := V.non) (u := Value.none) J2 rfl y
  | brk =>
    obtain ⟨_, _, _, z⟩ := hs
    exact z.elim
  | cont =>
    obtain ⟨_, _, _, z⟩ := hs
    exact z.elim

/-- the rule for a def of which nothing is let out, its code object known -/
theorem okGC {x q : Str} {st : Stmt} {N : List Str} (F : L2.Fun K x q st f fd) (S : FnScope N ps (defScope st)) (len : ∀ vs H Q E, sp vs H Q E → vs.length = ps.length)
    (body : ∀ (cdv : Value) (A : Around) (outer : List Env) (s : Shared) (H : Hp) (vs : List V) (Q : VK) (E : XK), fd.code = cdv → Room k (A.deeper (envOfC q (defScope st) s.heap.objs.size f cdv)) → A.guards = some [] → sp vs H Q E →
      ∃ t, PSs (cxOf CX P w K mg base N q (defScope st) f cdv A outer s H E).nox (defBody st) t ∧ t { nx := fun _ H' => Q .non H', rt := Q } (start N vs) H) : FnG P w K mg base CX (k + 1) f fd ps sp :=
  ⟨fun h => len _ _ _ _ h, fun hr hg e0 hb r h => run_genC F S (len _ _ _ _ h) hr e0 hb r fun cdv hc hr2 => by
    obtain ⟨t, ht, hq⟩ := body cdv _ _ _ _ _ _ _ hc hr2 hg h
    exact ⟨t, ht.nox, hq⟩⟩
end
end Oq
namespace Lr
open PySem PySem.Spec PyProof.Rows L2 Ow Og Oe Oi Ox LamX Oq
section
variable {X : Cx}
/-- _law_heard(lambda: body) -/
theorem pe_heard {g c Pt CR CS CC : Addr} {fd : FuncData} {k : Nat} {scope : Scope} {params : Arguments} {body : Expr} {lpos p pos : Pos} {t : XK → TE} (F : L2.Fun X.K "_law_heard" "_law_heard" s_heard g fd) (b : Binds X.K fd ["_law_ask"] []) (gM : X.mg "_law_heard" = some (.ref g)) (R : Errs X.K X.mg CR CS CC) (hG : X.A.guards = some []) (fi : X.mg "isinstance" = none) (fr : X.mg "repr" = none)
    (TB : TabB X.base X.mg c Pt) (hcode : X.env.code = .ref c) (hr : Room (k + 2) X.A)
    (hbody : ∀ (A : Around) (outer : List Env) (s : Shared) (H : Hp) (E : XK) (f c' : Addr), Room k (A.deeper (lamEnv X scope s.heap.objs.size f c')) → PE (lamCx X A outer s H E scope f c') body (t E))
    (hgl : Gl X "_law_heard" := by rfl) (L : LamS X.env.scope scope := by exact lamS_by (by kernel_rfl)) (hdef : defaultsOf params X.env = ([], []) := by rfl) (hbind : ∀ (q : Str) (cl : List (Str × Addr)) (pm cv ctv : Value), bindArgs (PySem.W.kla_fn "<lambda>" q params body scope cl pm cv ctv) ⟨[], []⟩ = pure [] := by exact fun _ _ _ _ _ => rfl) :
    PE X (.Call (.Name "_law_heard" p) [.Lambda params body scope lpos] [] pos) (tLam [(Pt, X.env.qual ++ "<lambda>")] (THear X.K CS CC) t) := by
  obtain ⟨oc, od, kV, doc, pm, an, cdv, ct, osl, rfl, lk, hcd⟩ := F.ex
  exact pe_lamcall (T := [(Pt, X.env.qual ++ "<lambda>")]) hgl gM F.kp lk hcd b sc_heard rfl (.inl rfl) (heard_gives R hG (hr.mono (by omega)) fi fr) TB hcode List.mem_cons_self (fun p hp _ => by rw [List.mem_singleton.mp hp]) hr L hdef hbind hbody
end
theorem ext_same {H H' : Hp} (s : Same H H') : ExtN H H' := fun b o h _ => s b o h
theorem ext_tup {K : PySem.W.Frag} {H H' : Hp} {a : Addr} {xs : List V} (e : ExtN H H') (h : SqT K H a xs) : SqT K H' a xs := by
  rcases h with (h | ⟨o, h⟩) | h
  · exact .inl (.inl (e _ _ h (fun ps z => by cases z)))
  · exact .inl (.inr ⟨o, e _ _ h (fun ps z => by cases z)⟩)
  · exact .inr h
theorem ext_lst {K : PySem.W.Frag} {H H' : Hp} {a : Addr} {xs : List V} (e : ExtN H H') (h : SqL K H a xs) : SqL K H' a xs := by
  rcases h with (h | ⟨o, h⟩) | h
  · exact .inl (.inl (e _ _ h (fun ps z => by cases z)))
  · exact .inl (.inr ⟨o, e _ _ h (fun ps z => by cases z)⟩)
  · exact .inr h
mutual
theorem dp_ext {K : PySem.W.Frag} {H H' : Hp} (s : ExtN H H') : ∀ {v : V} {d : PyData}, Dp K H v d → Dp K H' v d
  | _, _, .non => .non
  | _, _, .bl b => .bl b
  | _, _, .int i => .int i
  | _, _, .str x => .str x
  | _, _, .lst h r => .lst (ext_lst s h) (dpAll_ext s r)
  | _, _, .tup h r => .tup (ext_tup s h) (dpAll_ext s r)
theorem dpAll_ext {K : PySem.W.Frag} {H H' : Hp} (s : ExtN H H') : ∀ {vs : List V} {ds : List PyData}, DpAll K H vs ds → DpAll K H' vs ds
  | _, _, .nil => .nil
  | _, _, .cons h r => .cons (dp_ext s h) (dpAll_ext s r)
end
theorem dpAll_snoc {K : PySem.W.Frag} {H : Hp} {v : V} {d : PyData} (h : Dp K H v d) : ∀ {vs : List V} {ds : List PyData}, DpAll K H vs ds → DpAll K H (vs ++ [v]) (ds ++ [d])
  | _, _, .nil => .cons h .nil
  | _, _, .cons g r => .cons g (dpAll_snoc h r)
theorem tup_put {K : PySem.W.Frag} {H : Hp} {t L : Addr} {xs ys : List V} {o : HO} (h : SqT K H t xs) (hL : H L = some (.lst ys)) : SqT K (upd H L o) t xs := by
  rcases h with (h | ⟨u, h⟩) | h
  · refine .inl (.inl ?_)
    rw [upd_ne (fun z => by rw [z, hL] at h; cases h)]
    exact h
  · refine .inl (.inr ⟨u, ?_⟩)
    rw [upd_ne (fun z => by rw [z, hL] at h; cases h)]
    exact h
  · exact .inr h
theorem upd_upd {H : Hp} {L : Addr} {o u : HO} : upd (upd H L o) L u = upd H L u := by
  funext b
  by_cases e : b = L
  · rw [e, upd_same, upd_same]
  · rw [upd_ne e, upd_ne e, upd_ne e]
theorem ext_under {H H' : Hp} {L : Addr} {o : HO} (e : ExtN H H') : ExtN (upd H L o) (upd H' L o) := fun b u h n => by
  by_cases c : b = L
  · rw [c, upd_same] at h ⊢
    exact h
  · rw [upd_ne c] at h ⊢
    exact e b u h n
theorem tabs_kept {T : List (Addr × Str)} {H H' : Hp} {a : Addr} {ys : List V} (ha : H a = some (.lst ys)) (k : Kept a H H') (t : Tabs T H) : Tabs T H' := fun p hp => by
  obtain ⟨ps, h1, h2, h3⟩ := t p hp
  have pa : p.1 ≠ a := fun z => by
    rw [z, ha] at h1
    cases h1
  refine ⟨ps, k _ _ pa h1, h2, fun pos cv hc => ?_⟩
  obtain ⟨c, e1, e2⟩ := h3 pos cv hc
  have ca : c ≠ a := fun z => by
    rw [z, ha] at e2
    unfold CodeO at e2
    cases e2
  exact ⟨c, e1, k _ _ ca e2⟩
theorem kept_at {H : Hp} {L : Addr} {o : HO} : Kept L H (upd H L o) := fun c u n h => by
  rw [upd_ne n]
  exact h
/-- a list that stays in use: whatever stands at its address, its items are these data -/
def LS (K : PySem.W.Frag) (H : Hp) (L : Addr) (vs : List V) (ds : List PyData) : Prop := H L = some (.lst vs) ∧ ∀ o, DpAll K (upd H L o) vs ds
theorem LS.ext {K : PySem.W.Frag} {H H' : Hp} {L : Addr} {vs : List V} {ds : List PyData} (h : LS K H L vs ds) (e : ExtN H H') : LS K H' L vs ds := ⟨e _ _ h.1 (fun ps z => by cases z), fun o => dpAll_ext (ext_under e) (h.2 o)⟩
theorem LS.one {K : PySem.W.Frag} {H : Hp} {L : Addr} {v : V} {d : PyData} (h : Dp K H v d) (n : H L = none) : LS K (upd H L (.lst [v])) L [v] [d] := ⟨upd_same, fun o => by
  rw [upd_upd]
  exact .cons (dp_ext (ext_same (same_upd n)) h) .nil⟩
theorem LS.dp {K : PySem.W.Frag} {H : Hp} {L : Addr} {vs : List V} {ds : List PyData} (h : LS K H L vs ds) : Dp K H (.ref L) (.list ds) := by
  have e : upd H L (.lst vs) = H := by
    funext b
    by_cases c : b = L
    · rw [c, upd_same, h.1]
    · rw [upd_ne c]
  have := h.2 (.lst vs)
  rw [e] at this
  exact .lst (.of h.1) this
/-- C.m(k = v), m a static method -/
def KB0 (K : PySem.W.Frag) (fd : FuncData) (ps ks : List Str) : Prop := ∀ (s : Shared) (ws : List Value), K.In s.heap → ws.length = ks.length → BindsTo s fd ⟨[], ks.zip ws⟩ (ps.zip ws)
def tSMethK (C : Addr) (nk : Nat) (sp : Sp) (E : XK) (ta : TE) (tk : TA) : TE := fun σ H Q => ta σ H fun x H1 => x = .ref C ∧ tk σ H1 fun zs H2 => zs.length = nk ∧ sp zs H2 Q E
section
variable {X : Cx} {CX : CXT} {C g : Addr} {sp : Sp} {E : XK}
theorem pe_smethK {fd : FuncData} {ps ks : List Str} {m : Str} {k : Nat} {mc : Value} {p : Addr} {pl : Sem Bool} {o : Expr} {kws : List Keyword} {ta : TE} {tk : TA} {apos pos : Pos} (he : PE X o ta) (r : ClX.CRead X.K C mc) (c : SMet X.K C mc m p g) (F : FnOk X.prog X.w X.K X.mg X.base CX k g fd ps sp) (hr : Room k X.A) (hb : KB0 X.K fd ps ks) (hx : Passes CX X E)
    (hkw : PK X kws tk) (hall : (backToKw pos (keywordEach kws X.env)).all (·.1.isSome) = true := by rfl) (hks : (backToKw pos (keywordEach kws X.env)).filterMap (·.1) = ks := by rfl)
    (hpl : ((backTo pos (starEach [] X.env)).any (·.1) || (backToKw pos (keywordEach kws X.env)).any (·.1.isNone)) = false := by rfl)
    (ht : eval (.Call (.Attribute o m apos) [] kws pos) X.env = (do
      let ov ← eval o X.env
      standAt apos.atName
      let (f, first) ← holding [ov] (getMethod ov m pl)
      callWith pos f first (backTo pos (starEach [] X.env)) (backToKw pos (keywordEach kws X.env))) := by rfl) :
    PE X (.Call (.Attribute o m apos) [] kws pos) (tSMethK C ks.length sp E ta tk) := by
  refine ⟨fun pins s σ H Q I h => ?_⟩
  refine PySem.W.methodCall_KW (pl := pl) (thn (he.run pins s σ H _ I h) fun u s1 ⟨x, H1, I1, rx, ex, q⟩ => ?_) ht
  subst ex
  obtain rfl : u = Value.ref C := rx
  obtain ⟨rest, hp⟩ := c.rc
  refine PySem.W.method_cls I1.kIn r.ga (PySem.W.cls_bind I1.kIn r.rd c.at_ (wpAny_call (PySem.W.sm_get (s := { s1 with toks := s1.toks + 1 }) I1.kIn hp (PySem.W.handed_on rfl ?_))))
  have I2 : Inv X pins σ H1 { s1 with toks := s1.toks + 1 } := I1.tok _
  refine PySem.W.callWith_KW0 (first := []) (h₀ := X.base) I.ok.mod.kin c.kp hall ?_ hpl
  refine thn (hkw.run pos pins _ σ H1 _ I2 q) fun ws s2 ⟨zs, H2, I3, rz, hl, q2⟩ => ⟨I3.kIn, ?_⟩
  rw [hks]
  have hlw : ws.length = ks.length := by rw [← rz.length]; exact hl
  refine wpAny_call (codeAny_mono (F.run X.A X.stack s2 H2 ⟨[], ks.zip ws⟩ ws zs Q E hr I3.env0 (hb s2 ws I3.kIn hlw) rz q2) fun r s' hq => ?_)
  cases r with
  | error e => exact hx pins σ H2 s2 e s' I3 hq
  | ok fl =>
    cases fl with
    | ret u => exact I3.after hq
    | next => exact False.elim hq
    | brk => exact False.elim hq
    | cont => exact False.elim hq
end
/-! ### heaps in which tables grow -/
theorem spA_ext {C : Addr} {H H' : Hp} {x : Addr} {m : List Nat} (h : SpA C H x m) (e : ExtN H H') : SpA C H' x m := by
  obtain ⟨dx, t, h1, h2, h3⟩ := h
  exact ⟨dx, t, e _ _ h1 (fun ps z => by cases z), e _ _ h2 (fun ps z => by cases z), h3⟩
theorem pen_ext {H H' : Hp} {a b : Addr} {n : Nat} (p : PenAt H a b n) (e : ExtN H H') : PenAt H' a b n := by
  obtain ⟨ns, i, g, h1, h2, h3⟩ := p
  exact ⟨ns, i, g, e _ _ h1 (fun ps z => by cases z), e _ _ h2 (fun ps z => by cases z), h3⟩
section
variable {K : PySem.W.Frag} {CS CC : Addr} {T : List (Addr × Str)} {σ : L2.St} {H0 : Hp}
/-- a value with these data, whatever becomes of a list that was there before; tables may grow -/
def HX (K : PySem.W.Frag) (T : List (Addr × Str)) (te : TE) (σ : L2.St) (H0 : Hp) (d : PyData) : Prop := ∀ (H : Hp) (Q : VK), ExtN H0 H → Tabs T H → (∀ (p : Addr) (H' : Hp), Dp K H' (.ref p) d → (∀ L ys, H L = some (.lst ys) → ∀ o, Dp K (upd H' L o) (.ref p) d) → ExtN H H' → Tabs T H' → Q (.ref p) H') → te σ H Q
theorem put_dp {H : Hp} {p L : Addr} {a b : Str} {ys : List V} {o : HO} (np : H p = none) (hL : H L = some (.lst ys)) : Dp K (upd (upd H p (.tup [V.str a, V.str b])) L o) (.ref p) (.tuple [.str a, .str b]) := by
  have pL : p ≠ L := fun z => by
    rw [z, hL] at np
    cases np
  refine .tup (.of ?_) (.cons (.str _) (.cons (.str _) .nil))
  rw [upd_ne pL, upd_same]
theorem hx_space {t : XK → TE} {wd : Str} (h : ∀ (E : XK) (H1 : Hp) (Q : VK), ExtN H0 H1 → Out E CS "part" (.str wd) H1 → t E σ H1 Q) : HX K T (tLam T (THear K CS CC) t) σ H0 (.tuple [.str "space", .str wd]) := fun H Q e tb q => by
  refine ⟨tb, fun H1 e1 t1 => ?_⟩
  refine h _ H1 _ (e.trans e1) fun d H' s' hd => .inl ⟨d, .str wd, rfl, rfl, hd, fun a p na np => ?_⟩
  have s1 := s'.trans (same_upd (o := ExK (.ref CS) (some d) a) na)
  have s2 := s1.trans (same_upd (o := HO.tup [V.str "space", V.str wd]) np)
  exact q p _ (.tup (.of upd_same) (.cons (.str _) (.cons (.str _) .nil))) (fun L ys hL o => put_dp np (s1 _ _ (e1 _ _ hL (fun ps z => by cases z)))) (e1.trans (ext_same s2)) (t1.ext s2)
theorem hx_count {t : XK → TE} {v : V} {tx : Str} (hv : ∀ H1, ExtN H0 H1 → Rp K H1 v tx) (h : ∀ (E : XK) (H1 : Hp) (Q : VK), ExtN H0 H1 → Out E CC "value" v H1 → t E σ H1 Q) : HX K T (tLam T (THear K CS CC) t) σ H0 (.tuple [.str "count", .str tx]) := fun H Q e tb q => by
  refine ⟨tb, fun H1 e1 t1 => ?_⟩
  refine h _ H1 _ (e.trans e1) fun d H' s' hd => .inr ⟨d, v, tx, rfl, rfl, hd, fun H2 s2 => hv _ ((e.trans e1).trans (ext_same (s'.trans s2))), fun a p na np => ?_⟩
  have s1 := s'.trans (same_upd (o := ExK (.ref CC) (some d) a) na)
  have s2 := s1.trans (same_upd (o := HO.tup [V.str "count", V.str tx]) np)
  exact q p _ (.tup (.of upd_same) (.cons (.str _) (.cons (.str _) .nil))) (fun L ys hL o => put_dp np (s1 _ _ (e1 _ _ hL (fun ps z => by cases z)))) (e1.trans (ext_same s2)) (t1.ext s2)
/-- a call that gives the tuple of these numbers -/
theorem hx_rows {t : XK → TE} {m : List Nat} (h : ∀ (E : XK) (H1 : Hp), ExtN H0 H1 → TX K (t E) σ H1 m) : HX K T (tLam T (THear K CS CC) t) σ H0 (.list [.tuple ((m.map fun n : Nat => (n : Int)).map PyData.int)]) := fun H Q e tb q => by
  refine ⟨tb, fun H1 e1 t1 => ?_⟩
  refine h _ H1 (e.trans e1) H1 _ (same_refl H1) fun v H2 hv s2 => ⟨by show 1 ≤ sizeLine; exact Nat.le_of_lt (small1000 (by omega)), fun p np => ?_⟩
  have s3 := s2.trans (same_upd (o := HO.lst [V.ref v]) np)
  refine q p _ (.lst (.of upd_same) (.cons (dpT (keepT hv (same_upd np))) .nil)) (fun L ys hL o => ?_) (e1.trans (ext_same s3)) (t1.ext s3)
  have hL3 := s3 _ _ (e1 _ _ hL (fun ps z => by cases z))
  have hL2 := s2 _ _ (e1 _ _ hL (fun ps z => by cases z))
  have pL : p ≠ L := fun z => by
    rw [z, hL2] at np
    cases np
  refine .lst (.of ?_) (.cons (dpT (tup_put (keepT hv (same_upd np)) hL3)) .nil)
  rw [upd_ne pL, upd_same]
end
end Lr

set_option Elab.async false
set_option linter.all false
set_option maxRecDepth 100000
set_option maxHeartbeats 4000000
/-! The values that the law picks, and what is known of them for as long as all but the pen stays. -/
namespace Lr
open PySem PySem.Spec PyProof.Rows L2 Ow Og Oe Oi Ox LamX Oq
theorem pen_at {H : Hp} {a b : Addr} {n : Nat} (p : PenAt H a b n) : ∃ ys, H a = some (.lst ys) := by
  obtain ⟨_, _, _, h, _⟩ := p
  exact ⟨_, h⟩
theorem kept_tup {K : PySem.W.Frag} {H H' : Hp} {a t : Addr} {xs ys : List V} (ha : H a = some (.lst ys)) (k : Kept a H H') (h : SqT K H t xs) : SqT K H' t xs := by
  rcases h with (h | ⟨o, h⟩) | h
  · refine .inl (.inl (k _ _ (fun z => ?_) h))
    rw [z, ha] at h
    cases h
  · refine .inl (.inr ⟨o, k _ _ (fun z => ?_) h⟩)
    rw [z, ha] at h
    cases h
  · exact .inr h
theorem kept_spA {C : Addr} {H H' : Hp} {a x : Addr} {m : List Nat} {ys : List V} (ha : H a = some (.lst ys)) (k : Kept a H H') (h : SpA C H x m) : SpA C H' x m := by
  obtain ⟨dx, t, h1, h2, h3⟩ := h
  refine ⟨dx, t, k _ _ (fun z => ?_) h1, k _ _ (fun z => ?_) h2, h3⟩
  · rw [z, ha] at h1
    cases h1
  · rw [z, ha] at h2
    cases h2
theorem same_kept {a : Addr} {H H' : Hp} (s : Same H H') : Kept a H H' := fun c o _ h => s c o h
/-- all but the list at a and the tables stay -/
def Rl (a : Addr) (H H' : Hp) : Prop := ∀ c u, c ≠ a → H c = some u → (∀ ps, u ≠ .tbl ps) → H' c = some u
theorem Rl.refl (a : Addr) (H : Hp) : Rl a H H := fun _ _ _ h _ => h
theorem Rl.ext {a : Addr} {H H1 H2 : Hp} (r : Rl a H H1) (e : ExtN H1 H2) : Rl a H H2 := fun c u n h t => e _ _ (r c u n h t) t
theorem Rl.kept {a : Addr} {H H1 H2 : Hp} (r : Rl a H H1) (k : Kept a H1 H2) : Rl a H H2 := fun c u n h t => k c u n (r c u n h t)
theorem Rl.put {a L : Addr} {H H1 : Hp} {o : HO} (r : Rl a H H1) (n : H L = none) : Rl a H (upd H1 L o) := fun c u nc h t => by
  rw [upd_ne (ne_of_none h n)]
  exact r c u nc h t
theorem spA_rl {C a : Addr} {H H' : Hp} {x : Addr} {m : List Nat} {ys : List V} (ha : H a = some (.lst ys)) (h : SpA C H x m) (r : Rl a H H') : SpA C H' x m := by
  obtain ⟨dx, t, h1, h2, h3⟩ := h
  refine ⟨dx, t, r _ _ (fun z => ?_) h1 (fun ps z => by cases z), r _ _ (fun z => ?_) h2 (fun ps z => by cases z), h3⟩
  · rw [z, ha] at h1
    cases h1
  · rw [z, ha] at h2
    cases h2
section
variable {K : PySem.W.Frag} {C : Addr} {mg : Str → Option Value} {σ : L2.St}
theorem rp_int {H : Hp} (i : Int) (h : (PyData.int i).showable = true) (h2 : (PyData.int i).shown.length ≤ 100) : Rp K H (.int i) (PyData.int i).shown := .data (.int i) h (by rw [PyData.depth]; omega) (Nat.le_trans h2 (Nat.le_of_lt (small1000 (by omega))))
/-- what the law asks of a value that is no number up to top -/
def NoNum (K : PySem.W.Frag) (a : Addr) (top : Int) (H : Hp) (v : V) : Prop := ∃ o, (∀ H2, Rl a H H2 → Arg K H2 v o) ∧ within? 0 top o = false
def NoNumT (K : PySem.W.Frag) (a : Addr) (top : Int) (H : Hp) (v : V) : Prop := ∃ o tx, (∀ H2, Rl a H H2 → Arg K H2 v o ∧ Rp K H2 v tx) ∧ within? 0 top o = false ∧ PyData.strOk tx = true
theorem pick_odd {pn b x : Addr} {n : Nat} {m : List Nat} {H : Hp} {Q : VK} (S : Cs K mg C) (kI : PySem.W.kitOne K (.ref C) (.type "int") = some false) (h1 : σ[1]? = some (some (.ref pn))) (h9 : σ[9]? = some (some (.ref x))) (p : PenAt H pn b n) (hn : n ≤ 900) (hx : SpA C H x m)
    (q : ∀ (v : V) (H' : Hp), NoNum K pn 65535 H' v → PenAt H' pn b (n + 1) → Kept pn H H' → Q v H') :
    tCall spPickV [] E0 (tCons (tVar 1) (tCons (tLst (tCons (tC .non) (tCons (tC (.bl true)) (tCons (tC (.bl false)) (tCons (tUn (rU fun i => .int (-i)) (tC (.int 1))) (tCons (tC (.int 65536)) (tCons (tOp (rI CPow fun i j => .int (i ^ j.toNat)) (tC (.int 10)) (tC (.int 30))) (tCons (tC (.str "1")) (tCons (tC (.str "")) (tCons (tTup (tCons (tC (.int 1)) tNil)) (tCons (tLst (tCons (tC (.int 1)) tNil)) (tCons tDNewK (tCons (tVar 9) tNil))))))))))))) tNil)) σ H Q := by
  obtain ⟨ys, hy⟩ := pen_at p
  refine ⟨_, h1, _, rfl, _, _, rfl, rfl, ⟨by decide, by decide, by decide⟩, by show 1 ≤ sizeLine; exact Nat.le_of_lt (small1000 (by omega)), fun q1 n1 => ?_⟩
  have ne1 : q1 ≠ pn := fun w => by
    rw [w, hy] at n1
    cases n1
  have u1 := same_upd (o := HO.tup [V.int 1]) n1
  have e1 : (upd H q1 (.tup [V.int 1])) q1 = _ := upd_same
  generalize upd H q1 (.tup [V.int 1]) = J1 at *
  refine ⟨by show 1 ≤ sizeLine; exact Nat.le_of_lt (small1000 (by omega)), fun q2 n2 => ?_⟩
  have u2 := same_upd (o := HO.lst [V.int 1]) n2
  have e2 : (upd J1 q2 (.lst [V.int 1])) q2 = _ := upd_same
  have q2n : q2 ≠ pn := fun z => by
    rw [z, u1 _ _ hy] at n2
    cases n2
  generalize upd J1 q2 (.lst [V.int 1]) = J2 at *
  intro q3 n3
  have ne3 : q3 ≠ pn := fun w => by
    rw [w, u2 _ _ (u1 _ _ hy)] at n3
    cases n3
  have u3 := same_upd (o := HO.dK []) n3
  have e3 : (upd J2 q3 (.dK [])) q3 = _ := upd_same
  generalize upd J2 q3 (.dK []) = J3 at *
  refine ⟨_, h9, by show 12 ≤ sizeLine; exact Nat.le_of_lt (small1000 (by omega)), fun lq nl => ?_⟩
  dsimp only
  have u4 := same_upd (o := HO.lst [V.non, V.bl true, V.bl false, V.int (-1), V.int 65536, V.int (10 ^ Int.toNat 30), V.str "1", V.str "", V.ref q1, V.ref q2, V.ref q3, V.ref x]) nl
  have lqn : lq ≠ pn := fun z => by
    rw [z, u3 _ _ (u2 _ _ (u1 _ _ hy))] at nl
    cases nl
  have z := u1.trans (u2.trans (u3.trans u4))
  have hy4 := z _ _ hy
  have f1 := u4 _ _ (u3 _ _ (u2 _ _ e1))
  have f2 := u4 _ _ (u3 _ _ e2)
  have f3 := u4 _ _ e3
  have fx := hx.keep z
  have el : (upd J3 lq (.lst [V.non, V.bl true, V.bl false, V.int (-1), V.int 65536, V.int (10 ^ Int.toNat 30), V.str "1", V.str "", V.ref q1, V.ref q2, V.ref q3, V.ref x])) lq = _ := upd_same
  refine ⟨pn, b, lq, n, _, rfl, p.same z, by omega, el, lqn, by show 0 < 12; decide, by show 12 ≤ 1000; decide, fun j v H' hj p' k => q v H' ?_ p' ((same_kept z).trans k)⟩
  have g1 := k _ _ ne1 f1
  have g2 := k _ _ q2n f2
  have g3 := k _ _ ne3 f3
  have gx := kept_spA hy4 k fx
  obtain ⟨ys', hy'⟩ := pen_at p'
  have := List.mem_of_getElem? hj
  simp only [List.mem_cons, List.not_mem_nil, or_false] at this
  rcases this with rfl | rfl | rfl | rfl | rfl | rfl | rfl | rfl | rfl | rfl | rfl | rfl
  · exact ⟨none, fun _ _ => .no noInt_non, rfl⟩
  · exact ⟨none, fun _ _ => .no (noInt_bl _), rfl⟩
  · exact ⟨none, fun _ _ => .no (noInt_bl _), rfl⟩
  · exact ⟨some (-1), fun _ _ => .int _, by decide⟩
  · exact ⟨some 65536, fun _ _ => .int _, by decide⟩
  · exact ⟨some (10 ^ Int.toNat 30), fun _ _ => .int _, by decide +kernel⟩
  · exact ⟨none, fun _ _ => .no (noInt_str _), rfl⟩
  · exact ⟨none, fun _ _ => .no (noInt_str _), rfl⟩
  · exact ⟨none, fun _ r => .no (noInt_tup (r _ _ ne1 g1 (fun ps z => by cases z))), rfl⟩
  · exact ⟨none, fun _ r => .no (noInt_lst (r _ _ q2n g2 (fun ps z => by cases z))), rfl⟩
  · exact ⟨none, fun _ r => .no ⟨_, false, .base (.dK (r _ _ ne3 g3 (fun ps z => by cases z))), kit_ty (by decide +kernel), fun z => nomatch z⟩, rfl⟩
  · exact ⟨none, fun _ r => .no (by
      obtain ⟨dx, t, w1, _⟩ := spA_rl hy' gx r
      exact ⟨_, false, .base (.ins w1 S.cl S.ca S.cn S.ct S.cm), kI, fun z => nomatch z⟩), rfl⟩
theorem pick_strange {pn b t : Addr} {n : Nat} {m : List Nat} {H : Hp} {Q : VK} (RT : ∀ X ∈ ["NoneType", "int", "bool", "str", "tuple", "list", "dict"], RtX K C "add" X ∧ RtX K C "and" X ∧ PySem.W.kitOne K (.type X) (.ref C) = some false) (h1 : σ[1]? = some (some (.ref pn))) (h3 : σ[3]? = some (some (.ref t))) (p : PenAt H pn b n) (hn : n ≤ 900) (ht : H t = some (.tup (ri m)))
    (q : ∀ (v : V) (H' : Hp), (∀ H2, Rl pn H' H2 → Strange K C H2 v) → PenAt H' pn b (n + 1) → Kept pn H H' → Q v H') :
    tCall spPickV [] E0 (tCons (tVar 1) (tCons (tLst (tCons (tC .non) (tCons (tC (.int 0)) (tCons (tC (.bl true)) (tCons (tC (.str "1")) (tCons (tTup (tCons (tC (.int 1)) tNil)) (tCons (tLst tNil) (tCons tDNewK (tCons (tVar 3) tNil))))))))) tNil)) σ H Q := by
  have rt : ∀ {X : String} {H2 : Hp} {v : V}, X ∈ ["NoneType", "int", "bool", "str", "tuple", "list", "dict"] → TyX K H2 v (.type X) → Strange K C H2 v := fun {X H2 v} hX ty => ⟨X, ty, (RT X hX).1, (RT X hX).2.1, (RT X hX).2.2⟩
  obtain ⟨ys, hy⟩ := pen_at p
  refine ⟨_, h1, by show 1 ≤ sizeLine; exact Nat.le_of_lt (small1000 (by omega)), fun q1 n1 => ?_⟩
  have ne1 : q1 ≠ pn := fun w => by
    rw [w, hy] at n1
    cases n1
  have u1 := same_upd (o := HO.tup [V.int 1]) n1
  have e1 : (upd H q1 (.tup [V.int 1])) q1 = _ := upd_same
  generalize upd H q1 (.tup [V.int 1]) = J1 at *
  refine ⟨Nat.zero_le _, fun q2 n2 => ?_⟩
  have u2 := same_upd (o := HO.lst []) n2
  have e2 : (upd J1 q2 (.lst [])) q2 = _ := upd_same
  have q2n : q2 ≠ pn := fun z => by
    rw [z, u1 _ _ hy] at n2
    cases n2
  generalize upd J1 q2 (.lst []) = J2 at *
  intro q3 n3
  have ne3 : q3 ≠ pn := fun w => by
    rw [w, u2 _ _ (u1 _ _ hy)] at n3
    cases n3
  have u3 := same_upd (o := HO.dK []) n3
  have e3 : (upd J2 q3 (.dK [])) q3 = _ := upd_same
  generalize upd J2 q3 (.dK []) = J3 at *
  refine ⟨_, h3, by show 8 ≤ sizeLine; exact Nat.le_of_lt (small1000 (by omega)), fun lq nl => ?_⟩
  dsimp only
  have u4 := same_upd (o := HO.lst [V.non, V.int 0, V.bl true, V.str "1", V.ref q1, V.ref q2, V.ref q3, V.ref t]) nl
  have lqn : lq ≠ pn := fun z => by
    rw [z, u3 _ _ (u2 _ _ (u1 _ _ hy))] at nl
    cases nl
  have z := u1.trans (u2.trans (u3.trans u4))
  have hy4 := z _ _ hy
  have f1 := u4 _ _ (u3 _ _ (u2 _ _ e1))
  have f2 := u4 _ _ (u3 _ _ e2)
  have f3 := u4 _ _ e3
  have ft := z _ _ ht
  have el : (upd J3 lq (.lst [V.non, V.int 0, V.bl true, V.str "1", V.ref q1, V.ref q2, V.ref q3, V.ref t])) lq = _ := upd_same
  refine ⟨pn, b, lq, n, _, rfl, p.same z, by omega, el, lqn, by show 0 < 8; decide, by show 8 ≤ 1000; decide, fun j v H' hj p' k => q v H' ?_ p' ((same_kept z).trans k)⟩
  have net : t ≠ pn := fun w => by
    rw [w, hy] at ht
    cases ht
  have g1 := k _ _ ne1 f1
  have g2 := k _ _ q2n f2
  have g3 := k _ _ ne3 f3
  have gt := k _ _ net ft
  have := List.mem_of_getElem? hj
  simp only [List.mem_cons, List.not_mem_nil, or_false] at this
  rcases this with rfl | rfl | rfl | rfl | rfl | rfl | rfl | rfl
  · exact fun _ _ => rt (by decide) (.base .non)
  · exact fun _ _ => rt (by decide) (.base (.int 0))
  · exact fun _ _ => rt (by decide) (.base (.bl true))
  · exact fun _ _ => rt (by decide) (.base (.str "1"))
  · exact fun _ r => rt (by decide) (.base (.tup (r _ _ ne1 g1 (fun ps z => by cases z))))
  · exact fun _ r => rt (by decide) (.base (.lst (r _ _ q2n g2 (fun ps z => by cases z))))
  · exact fun _ r => rt (by decide) (.base (.dK (r _ _ ne3 g3 (fun ps z => by cases z))))
  · exact fun _ r => rt (by decide) (.base (.tup (r _ _ net gt (fun ps z => by cases z))))
theorem pick_many {pn b : Addr} {n : Nat} {H : Hp} {Q : VK} {top : Nat} (h16 : top = 16 ∨ top = 15) (h1 : σ[1]? = some (some (.ref pn))) (p : PenAt H pn b n) (hn : n ≤ 900)
    (q : ∀ (v : V) (H' : Hp), NoNumT K pn (top : Int) H' v → PenAt H' pn b (n + 1) → Kept pn H H' → Q v H') :
    tCall spPickV [] E0 (tCons (tVar 1) (tCons (tLst (tCons (tC .non) (tCons (tC (.bl true)) (tCons (tUn (rU fun i => .int (-i)) (tC (.int 1))) (tCons (tC (.int ((top + 1 : Nat) : Int))) (tCons (tOp (rI CPow fun i j => .int (i ^ j.toNat)) (tC (.int 10)) (tC (.int 30))) (tCons (tC (.str "2")) (tCons (tTup (tCons (tC (.int 2)) tNil)) (tCons (tLst tNil) (tCons tDNewK tNil)))))))))) tNil)) σ H Q := by
  obtain ⟨ys, hy⟩ := pen_at p
  refine ⟨_, h1, _, rfl, _, _, rfl, rfl, ⟨by decide, by decide, by decide⟩, by show 1 ≤ sizeLine; exact Nat.le_of_lt (small1000 (by omega)), fun q1 n1 => ?_⟩
  have ne1 : q1 ≠ pn := fun w => by
    rw [w, hy] at n1
    cases n1
  have u1 := same_upd (o := HO.tup [V.int 2]) n1
  have e1 : (upd H q1 (.tup [V.int 2])) q1 = _ := upd_same
  generalize upd H q1 (.tup [V.int 2]) = J1 at *
  refine ⟨Nat.zero_le _, fun q2 n2 => ?_⟩
  have u2 := same_upd (o := HO.lst []) n2
  have e2 : (upd J1 q2 (.lst [])) q2 = _ := upd_same
  have q2n : q2 ≠ pn := fun z => by
    rw [z, u1 _ _ hy] at n2
    cases n2
  generalize upd J1 q2 (.lst []) = J2 at *
  intro q3 n3
  have ne3 : q3 ≠ pn := fun w => by
    rw [w, u2 _ _ (u1 _ _ hy)] at n3
    cases n3
  have u3 := same_upd (o := HO.dK []) n3
  have e3 : (upd J2 q3 (.dK [])) q3 = _ := upd_same
  generalize upd J2 q3 (.dK []) = J3 at *
  refine ⟨by show 9 ≤ sizeLine; exact Nat.le_of_lt (small1000 (by omega)), fun lq nl => ?_⟩
  dsimp only
  have u4 := same_upd (o := HO.lst [V.non, V.bl true, V.int (-1), V.int ((top + 1 : Nat) : Int), V.int (10 ^ Int.toNat 30), V.str "2", V.ref q1, V.ref q2, V.ref q3]) nl
  have lqn : lq ≠ pn := fun z => by
    rw [z, u3 _ _ (u2 _ _ (u1 _ _ hy))] at nl
    cases nl
  have z := u1.trans (u2.trans (u3.trans u4))
  have hy4 := z _ _ hy
  have f1 := u4 _ _ (u3 _ _ (u2 _ _ e1))
  have f2 := u4 _ _ (u3 _ _ e2)
  have f3 := u4 _ _ e3
  have el : (upd J3 lq (.lst [V.non, V.bl true, V.int (-1), V.int ((top + 1 : Nat) : Int), V.int (10 ^ Int.toNat 30), V.str "2", V.ref q1, V.ref q2, V.ref q3])) lq = _ := upd_same
  refine ⟨pn, b, lq, n, _, rfl, p.same z, by omega, el, lqn, by show 0 < 9; decide, by show 9 ≤ 1000; decide, fun j v H' hj p' k => q v H' ?_ p' ((same_kept z).trans k)⟩
  have g1 := k _ _ ne1 f1
  have g2 := k _ _ q2n f2
  have g3 := k _ _ ne3 f3
  have sl : ∀ {n : Nat}, n ≤ 100 → n ≤ sizeLine := fun h => Nat.le_trans h (Nat.le_of_lt (small1000 (by omega)))
  have dz : ∀ {d : PyData}, d.depth ≤ 3 → d.depth ≤ 20 := fun h => Nat.le_trans h (by decide)
  have := List.mem_of_getElem? hj
  simp only [List.mem_cons, List.not_mem_nil, or_false] at this
  rcases this with rfl | rfl | rfl | rfl | rfl | rfl | rfl | rfl | rfl
  · exact ⟨none, _, fun _ _ => ⟨.no noInt_non, .data .non (by decide) (dz (by decide)) (sl (by decide +kernel))⟩, rfl, by decide +kernel⟩
  · exact ⟨none, _, fun _ _ => ⟨.no (noInt_bl _), .data (.bl true) (by decide) (dz (by decide)) (sl (by decide +kernel))⟩, rfl, by decide +kernel⟩
  · exact ⟨some (-1), _, fun _ _ => ⟨.int _, .data (.int (-1)) (by decide +kernel) (dz (by decide)) (sl (by decide +kernel))⟩, by rcases h16 with rfl | rfl <;> decide, by decide +kernel⟩
  · rcases h16 with rfl | rfl
    · exact ⟨some 17, _, fun _ _ => ⟨.int _, .data (.int 17) (by decide +kernel) (dz (by decide)) (sl (by decide +kernel))⟩, by decide, by decide +kernel⟩
    · exact ⟨some 16, _, fun _ _ => ⟨.int _, .data (.int 16) (by decide +kernel) (dz (by decide)) (sl (by decide +kernel))⟩, by decide, by decide +kernel⟩
  · exact ⟨some (10 ^ Int.toNat 30), _, fun _ _ => ⟨.int _, .data (.int (10 ^ Int.toNat 30)) (by decide +kernel) (dz (by decide)) (sl (by decide +kernel))⟩, by rcases h16 with rfl | rfl <;> decide +kernel, by decide +kernel⟩
  · exact ⟨none, _, fun _ _ => ⟨.no (noInt_str _), .data (.str "2") (by decide +kernel) (dz (by decide)) (sl (by decide +kernel))⟩, rfl, by decide +kernel⟩
  · exact ⟨none, _, fun _ r => ⟨.no (noInt_tup (r _ _ ne1 g1 (fun ps z => by cases z))), .data (d := .tuple [.int 2]) (.tup (.of (r _ _ ne1 g1 (fun ps z => by cases z))) (.cons (.int 2) .nil)) (by decide +kernel) (dz (by decide)) (sl (by decide +kernel))⟩, rfl, by decide +kernel⟩
  · exact ⟨none, _, fun _ r => ⟨.no (noInt_lst (r _ _ q2n g2 (fun ps z => by cases z))), .data (d := .list []) (.lst (.of (r _ _ q2n g2 (fun ps z => by cases z))) .nil) (by decide +kernel) (dz (by decide)) (sl (by decide +kernel))⟩, rfl, by decide +kernel⟩
  · exact ⟨none, _, fun _ r => ⟨.no ⟨_, false, .base (.dK (r _ _ ne3 g3 (fun ps z => by cases z))), kit_ty (by decide +kernel), fun z => nomatch z⟩, .dk (r _ _ ne3 g3 (fun ps z => by cases z))⟩, rfl, by decide +kernel⟩
end
end Lr

set_option Elab.async false
set_option linter.all false
set_option maxRecDepth 100000
set_option maxHeartbeats 4000000
/-! Steps of the law: what is heard is put into a list, the list is compared. -/
namespace Lr
open PySem PySem.Spec PyProof.Rows L2 Ow Og Oe Oi Ox LamX Oq
theorem PenAt.put {H : Hp} {a b c : Addr} {n : Nat} {o : HO} (p : PenAt H a b n) (ca : c ≠ a) (cb : c ≠ b) : PenAt (upd H c o) a b n := by
  obtain ⟨ns, i, g, h1, h2, h3⟩ := p
  exact ⟨ns, i, g, by rw [upd_ne (Ne.symm ca)]; exact h1, by rw [upd_ne (Ne.symm cb)]; exact h2, h3⟩
theorem Rl.trans {a : Addr} {H H1 H2 : Hp} (x : Rl a H H1) (y : Rl a H1 H2) : Rl a H H2 := fun c u n h t => y c u n (x c u n h t) t
/-- nothing but a table may have stood there -/
def Nt (H : Hp) (L : Addr) : Prop := ∀ u, H L = some u → ∃ ps, u = .tbl ps
theorem Rl.putN {a L : Addr} {H H1 : Hp} {o : HO} (r : Rl a H H1) (n : Nt H L) : Rl a H (upd H1 L o) := fun c u nc h t => by
  have cL : c ≠ L := fun z => by
    rw [z] at h
    obtain ⟨ps, e⟩ := n u h
    exact t ps e
  rw [upd_ne cL]
  exact r c u nc h t
theorem Rl.fresh {a L : Addr} {H H1 : Hp} (r : Rl a H H1) (n : H1 L = none) (na : L ≠ a) : Nt H L := fun u h => by
  cases u with
  | tbl ps => exact ⟨ps, rfl⟩
  | _ =>
    have := r L _ na h (fun ps z => by cases z)
    rw [n] at this
    cases this
theorem Args.nil {K : PySem.W.Frag} {H : Hp} : Args K H [] [] := ⟨rfl, fun j v e => by simp at e⟩
theorem Args.cons {K : PySem.W.Frag} {H : Hp} {v : V} {o : Option Int} {xs : List V} {os : List (Option Int)} (h : ∀ H', Same H H' → Arg K H' v o) (r : Args K H xs os) : Args K H (v :: xs) (o :: os) := ⟨congrArg (· + 1) r.1, fun j u e => by
  cases j with
  | zero =>
    cases e
    exact ⟨o, rfl, h⟩
  | succ j => exact r.2 j u e⟩
section
variable {K : PySem.W.Frag} {CS CC : Addr} {T : List (Addr × Str)} {σ : L2.St} {H0 : Hp}
/-- the state of the law between two statements -/
structure Sit (pn b : Addr) (n : Nat) (T : List (Addr × Str)) (Hv H : Hp) : Prop where
  pen : PenAt H pn b n
  tab : Tabs T H
  rel : Rl pn Hv H
theorem Sit.same {pn b : Addr} {n : Nat} {Hv H H' : Hp} (s : Sit pn b n T Hv H) (e : Same H H') : Sit pn b n T Hv H' := ⟨s.pen.same e, s.tab.ext e, s.rel.ext (ext_same e)⟩
theorem Sit.ext {pn b : Addr} {n : Nat} {Hv H H' : Hp} (s : Sit pn b n T Hv H) (e : ExtN H H') (t : Tabs T H') : Sit pn b n T Hv H' := ⟨pen_ext s.pen e, t, s.rel.ext e⟩
theorem Sit.kept {pn b : Addr} {n m : Nat} {Hv H H' : Hp} (s : Sit pn b n T Hv H) (k : Kept pn H H') (p : PenAt H' pn b m) : Sit pn b m T Hv H' := by
  obtain ⟨ys, hy⟩ := pen_at s.pen
  exact ⟨p, tabs_kept hy k s.tab, s.rel.kept k⟩
/-- [heard] -/
theorem first_step {te : TE} {d : PyData} {pn b : Addr} {n : Nat} {Hv H : Hp} {Q : VK} (hx : HX K T te σ H0 d) (e0 : ExtN H0 H) (s : Sit pn b n T Hv H)
    (k : ∀ (H' : Hp) (L : Addr) (v : V), Sit pn b n T Hv H' → LS K H' L [v] [d] → Nt Hv L → L ≠ pn → L ≠ b → Q (.ref L) H') : tLst (tCons te tNil) σ H Q := by
  refine hx H _ e0 s.tab fun p1 H1 hd _ e1 t1 => ⟨by show 1 ≤ sizeLine; exact Nat.le_of_lt (small1000 (by omega)), fun L nL => ?_⟩
  have s1 := s.ext e1 t1
  obtain ⟨ns, i, g, h1, h2, _⟩ := id s1.pen
  have Lp : L ≠ pn := fun z => by
    rw [z, h1] at nL
    cases nL
  have Lb : L ≠ b := fun z => by
    rw [z, h2] at nL
    cases nL
  exact k _ L (.ref p1) (s1.same (same_upd nL)) (LS.one hd nL) (s1.rel.fresh nL Lp) Lp Lb
/-- .append(heard) -/
theorem app_step {te : TE} {d : PyData} {pn b L : Addr} {n : Nat} {vs : List V} {ds : List PyData} {Hv H : Hp} {Q : VK} (hx : HX K T te σ H0 d) (e0 : ExtN H0 H) (hs : σ[4]? = some (some (.ref L))) (s : Sit pn b n T Hv H) (nt : Nt Hv L) (Lp : L ≠ pn) (Lb : L ≠ b) (ls : LS K H L vs ds) (hv : vs.length ≤ 100)
    (k : ∀ (H' : Hp) (v : V), Sit pn b n T Hv H' → LS K H' L (vs ++ [v]) (ds ++ [d]) → Q .non H') : tBM K "list" rAppend (tVar 4) (tCons te tNil) σ H Q := by
  refine ⟨_, hs, .inl ⟨rfl, _, .of ls.1⟩, ?_⟩
  refine hx H _ e0 s.tab fun p1 H1 hd hdL e1 t1 => ?_
  have ls1 := ls.ext e1
  have s1 := s.ext e1 t1
  refine ⟨L, vs, .ref p1, rfl, rfl, ls1.1, small1000 (by omega), ?_⟩
  exact k _ (.ref p1) ⟨s1.pen.put Lp Lb, tabs_kept ls1.1 kept_at t1, s1.rel.putN nt⟩ ⟨upd_same, fun o => by
    rw [upd_upd]
    exact dpAll_snoc (hdL L vs ls.1 o) (ls1.2 o)⟩
theorem flat_one {v : V} : ∀ k : Nat, (List.replicate k [v]).flatten = List.replicate k v
  | 0 => rfl
  | k + 1 => by
    rw [List.replicate_succ, List.flatten_cons, flat_one k]
    rfl
theorem dp_rep {H : Hp} {v : V} {d : PyData} (h : Dp K H v d) : ∀ k : Nat, DpAll K H (List.replicate k v) (List.replicate k d)
  | 0 => .nil
  | k + 1 => .cons h (dp_rep h k)
/-- the list is [(x, y)] * k -/
theorem rep_step {ta tb : TE} {x y : Str} {k L : Nat} {vs : List V} {H : Hp} {Q : Bool → Hp → Prop} (hk : k ≤ 100) (hs : σ[4]? = some (some (.ref L))) (ls : LS K H L vs (List.replicate k (.tuple [.str x, .str y]))) (ha : VX ta σ H (.str x)) (hb : VX tb σ H (.str y)) (sh : SeqAt.shaped (.list (List.replicate k (.tuple [.str x, .str y]))) = true)
    (q : ∀ H', Same H H' → Q false H') : tTest (tOp (rNeD K) (tVar 4) (tOp rRep (tLst (tCons (tTup (tCons ta (tCons tb tNil))) tNil)) (tC (.int (k : Int))))) σ H Q := by
  refine ⟨_, hs, ?_⟩
  refine ha H _ (same_refl H) fun H1 s1 => hb H1 _ s1 fun H2 s2 => ?_
  refine ⟨by show 2 ≤ sizeLine; exact Nat.le_of_lt (small1000 (by omega)), fun p np => ⟨by show 1 ≤ sizeLine; exact Nat.le_of_lt (small1000 (by omega)), fun l nl => ?_⟩⟩
  have s3 := same_upd (o := HO.tup [V.str x, V.str y]) np
  have s4 := same_upd (o := HO.lst [V.ref p]) nl
  refine ⟨l, (k : Int), _, rfl, rfl, upd_same, by omega, by omega, by show 1 * (k : Int).toNat ≤ sizeLine; rw [Int.toNat_natCast]; exact Nat.le_of_lt (small1000 (by omega)), fun r nr => ?_⟩
  rw [Int.toNat_natCast, flat_one]
  have s5 := same_upd (o := HO.lst (List.replicate k (V.ref p))) nr
  have sAll := s1.trans (s2.trans (s3.trans (s4.trans s5)))
  have dp : Dp K (upd (upd (upd H2 p (.tup [V.str x, V.str y])) l (.lst [V.ref p])) r (.lst (List.replicate k (V.ref p)))) (.ref p) (.tuple [.str x, .str y]) := .tup (.of ((s4.trans s5) _ _ upd_same)) (.cons (.str x) (.cons (.str y) .nil))
  refine ⟨_, _, (ls.ext (ext_same sAll)).dp, .lst (.of upd_same) (dp_rep dp k), sh, sh, _, rfl, ?_⟩
  rw [SeqAt.eqv_refl _ (SeqAt.canLay_of_shaped sh)]
  exact q _ sAll
/-- heard(..) is (x, y) -/
theorem two_step {te ta tb : TE} {x y : Str} {pn b : Addr} {n : Nat} {Hv H : Hp} {Q : Bool → Hp → Prop} (hx : HX K T te σ H0 (.tuple [.str x, .str y])) (e0 : ExtN H0 H) (s : Sit pn b n T Hv H) (ha : ∀ H1, Sit pn b n T Hv H1 → VX ta σ H1 (.str x)) (hb : ∀ H1, Sit pn b n T Hv H1 → VX tb σ H1 (.str y)) (sh : SeqAt.shaped (.tuple [.str x, .str y]) = true)
    (q : ∀ H', Sit pn b n T Hv H' → ExtN H H' → Q false H') : tTest (tOp (rNeD K) te (tTup (tCons ta (tCons tb tNil)))) σ H Q := by
  refine hx H _ e0 s.tab fun p1 H1 hd _ e1 t1 => ?_
  have s1 := s.ext e1 t1
  refine ha H1 s1 H1 _ (same_refl H1) fun H2 c2 => hb H1 s1 H2 _ c2 fun H3 c3 => ?_
  refine ⟨by show 2 ≤ sizeLine; exact Nat.le_of_lt (small1000 (by omega)), fun p np => ?_⟩
  have c4 := same_upd (o := HO.tup [V.str x, V.str y]) np
  have c := c2.trans (c3.trans c4)
  refine ⟨_, _, dp_ext (ext_same c) hd, .tup (.of upd_same) (.cons (.str x) (.cons (.str y) .nil)), sh, sh, _, rfl, ?_⟩
  rw [SeqAt.eqv_refl _ (SeqAt.canLay_of_shaped sh)]
  exact q _ (s1.same c) (e1.trans (ext_same c))
end
end Lr

set_option Elab.async false
set_option linter.all false
set_option maxRecDepth 100000
set_option maxHeartbeats 4000000
namespace Lr
open PySem PySem.Spec PyProof.Rows L2 Ow Og Oe Oi Ox LamX Oq
theorem sh_tup {x y : Str} (hx : PyData.strOk x = true) (hy : PyData.strOk y = true) : SeqAt.shaped (.tuple [.str x, .str y]) = true := by
  unfold SeqAt.shaped
  simp [PyData.canLay0, PyData.canLayAll0, hx, hy, PyData.depth, PyData.depthAll]
theorem sh_rep {x y : Str} (hx : PyData.strOk x = true) (hy : PyData.strOk y = true) {k : Nat} (hk : k = 3 ∨ k = 5) : SeqAt.shaped (.list (List.replicate k (.tuple [.str x, .str y]))) = true := by
  unfold SeqAt.shaped
  rcases hk with rfl | rfl <;> simp [List.replicate, PyData.canLay0, PyData.canLayAll0, hx, hy, PyData.depth, PyData.depthAll]
theorem told_no {a : List Nat} {o : Option Int} {k : Bool} (h : within? 0 15 o = false) (t : Told a o k) : k = false := by
  cases k with
  | false => rfl
  | true =>
    obtain ⟨n, rfl, hn, _⟩ := t.mp rfl
    have : decide ((0 : Int) ≤ (n : Int) ∧ (n : Int) ≤ 15) = false := h
    rw [decide_eq_false_iff_not] at this
    omega
theorem within_less {o : Option Int} (h : within? 0 65535 o = false) : within? 0 15 o = false := by
  cases o with
  | none => rfl
  | some i =>
    have : decide ((0 : Int) ≤ i ∧ i ≤ 65535) = false := h
    rw [decide_eq_false_iff_not] at this
    show decide ((0 : Int) ≤ i ∧ i ≤ 15) = false
    rw [decide_eq_false_iff_not]
    omega
theorem dp_kept2 {K : PySem.W.Frag} {J J' : Hp} {a : Addr} {v : V} {x y : Str} {ys : List V} (h : Dp K J v (.tuple [.str x, .str y])) (ha : J a = some (.lst ys)) (k : Kept a J J') : Dp K J' v (.tuple [.str x, .str y]) := by
  cases h with
  | tup hs hd =>
    refine .tup (kept_tup ha k hs) ?_
    cases hd with
    | cons h1 r =>
      cases r with
      | cons h2 r2 =>
        cases r2
        cases h1
        cases h2
        exact .cons (.str _) (.cons (.str _) .nil)
theorem dpAll_kept2 {K : PySem.W.Frag} {J J' : Hp} {a : Addr} {ys : List V} (ha : J a = some (.lst ys)) (k : Kept a J J') : ∀ {vs : List V} {ds : List PyData}, (∀ d ∈ ds, ∃ x y : Str, d = .tuple [.str x, .str y]) → DpAll K J vs ds → DpAll K J' vs ds
  | _, _, _, .nil => .nil
  | _, d :: ds, hd, .cons h r => by
    obtain ⟨x, y, e⟩ := hd d List.mem_cons_self
    subst e
    exact .cons (dp_kept2 h ha k) (dpAll_kept2 ha k (fun d hd' => hd d (List.mem_cons_of_mem _ hd')) r)
theorem LS.kept {K : PySem.W.Frag} {H H' : Hp} {L a : Addr} {vs : List V} {ds : List PyData} {ys : List V} (h : LS K H L vs ds) (ha : H a = some (.lst ys)) (La : L ≠ a) (k : Kept a H H') (hd : ∀ d ∈ ds, ∃ x y : Str, d = .tuple [.str x, .str y]) : LS K H' L vs ds := ⟨k _ _ La h.1, fun o => by
  refine dpAll_kept2 (a := a) (ys := ys) (J := upd H L o) ?_ (fun c u nc e => ?_) hd (h.2 o)
  · rw [upd_ne (Ne.symm La)]
    exact ha
  · by_cases e2 : c = L
    · rw [e2, upd_same] at e ⊢
      exact e
    · rw [upd_ne e2] at e ⊢
      exact k c u nc e⟩
theorem great_row {m mg : List Nat} (e : ∀ u, Xr.Span mg u ↔ Sum (Xr.Span m) (Xr.Span [32768]) u) : ∃ r ∈ mg, 2 ^ 15 ≤ r := by
  apply Classical.byContradiction
  intro h
  have all : ∀ r ∈ mg, r < 2 ^ 15 := fun r hr => by
    apply Classical.byContradiction
    intro hn
    exact h ⟨r, hr, by omega⟩
  have s : Xr.Span mg 32768 := (e 32768).mpr ⟨0, 32768, Xr.span_zero _, Xr.span_head, (Nat.zero_xor _).symm⟩
  have := Xr.span_least (S := fun y => y < 2 ^ 15) (by decide) (fun y z a b => Nat.xor_lt_two_pow a b) all s
  omega
theorem canon_pows (n : Nat) : Xr.Canon ((List.range n).map (2 ^ ·)) := by
  refine ⟨⟨fun r hr => ?_, ?_⟩, ?_⟩
  · obtain ⟨b, _, rfl⟩ := List.mem_map.mp hr
    exact Nat.ne_of_gt (Nat.two_pow_pos b)
  · rw [List.pairwise_map]
    refine List.pairwise_lt_range.imp ?_
    intro a b h
    show (2 ^ a).testBit (2 ^ b).log2 = false ∧ (2 ^ b).testBit (2 ^ a).log2 = false
    rw [Nat.log2_two_pow, Nat.log2_two_pow, Nat.testBit_two_pow, Nat.testBit_two_pow]
    exact ⟨decide_eq_false (by omega), decide_eq_false (by omega)⟩
  · rw [List.pairwise_map]
    refine List.pairwise_lt_range.imp ?_
    intro a b h
    exact Nat.pow_lt_pow_right (by decide) h
theorem canon_z : Xr.Canon [] := ⟨Xr.Red.nil, .nil⟩
theorem canon_2 : Xr.Canon [2, 32768] := ⟨⟨by decide, .cons (by intro b hb; rw [List.mem_singleton.mp hb]; decide +kernel) (.cons (by intro b hb; cases hb) .nil)⟩, by decide⟩
theorem canon_f : Xr.Canon [65535] := ⟨⟨by decide, .cons (by intro b hb; cases hb) .nil⟩, by decide⟩
theorem ex_2 (u : Nat) : (∃ v, Xr.Span [16384, 1] v ∧ u = 2 * v) ↔ Xr.Span [2, 32768] u := (Xr.older_span (l := [16384, 1]) (u := u)).symm.trans (Xr.span_perm (List.Perm.swap 2 32768 []) u)
theorem ex_f (u : Nat) : (Xr.Span [65535] u ∧ u < 2 ^ 16) ↔ Xr.Span [65535] u := ⟨fun h => h.1, fun h => ⟨h, Xr.span_least (S := fun y => y < 2 ^ 16) (by decide) (fun y z a b => Nat.xor_lt_two_pow a b) (by decide) h⟩⟩
theorem ex_g (u : Nat) : (Xr.Span [65535] u ∧ u < 2 ^ 15) ↔ Xr.Span [] u := by
  constructor
  · rintro ⟨h, hl⟩
    rcases h with h | h
    · exact h
    · have h2 : u ^^^ 65535 = 0 := h
      have h3 : u ^^^ 65535 ^^^ 65535 = 0 ^^^ 65535 := by rw [h2]
      rw [Nat.xor_assoc, Nat.xor_self, Nat.xor_zero, Nat.zero_xor] at h3
      omega
  · intro h
    have h0 : u = 0 := h
    subst h0
    exact ⟨Xr.span_zero _, by decide⟩
theorem lt15 (u : Nat) (h : Xr.Span [16384, 1] u) : u < 2 ^ 15 := Xr.span_least (S := fun y => y < 2 ^ 15) (by decide) (fun y z a b => Nat.xor_lt_two_pow a b) (by decide) h
end Lr

set_option Elab.async false
set_option linter.all false
set_option maxRecDepth 100000
set_option maxHeartbeats 8000000
namespace Lr
open PySem PySem.Spec PyProof.Rows L2 Ow Og Oe Oi Ox LamX Oq
section
variable {P : Program} {w : World} {K : PySem.W.Frag} {mg : Str → Option Value} {base : Heap}
structure Ws (K : PySem.W.Frag) (C g : Addr) : Prop where
  wh : ∃ mc p, ClX.CRead K C mc ∧ SMet K C mc "whole" p g
/-- what own operators of spaces ask -/
structure Ops3 (P : Program) (w : World) (K : PySem.W.Frag) (mg : Str → Option Value) (base : Heap) (C fA fN : Addr) : Prop where
  add : PySem.W.findIn K (.ref C) "__add__" = some (some (.ref fA))
  addF : PySem.W.isFn K (.ref fA) = true
  gA : FnR P w K mg base CX0 6 fA (spAdd C)
  and : PySem.W.findIn K (.ref C) "__and__" = some (some (.ref fN))
  andF : PySem.W.isFn K (.ref fN) = true
abbrev s_law : Stmt := topS 32
theorem sc_law : FnScope ["_law_script", "_law_pen_here", "_law_turn_so", "_law_rows", "_law_heard_here", "_law_age", "_law_great", "_law_many", "_law_odd", "_law_one", "_law_strange"] ["_law_script"] (defScope s_law) := ⟨rfl, rfl, rfl, by decide +kernel, rfl, by decide +kernel, by decide +kernel⟩
def spLaw (K : PySem.W.Frag) (Pt : Addr) : Sp := fun vs H Q _ => ∃ (a : Addr) (ns : List Int), vs = [.ref a] ∧ SqL K H a (ii ns) ∧ ns.length ≤ 63 ∧ H Pt = some (.tbl #[]) ∧ ∀ H', Q (.bl true) H'
theorem ok_law {C CR CS CC c Pt f fp fk fD f0 fA fN fWi fH fR fB fM fO fT fG fh fE : Addr} {fdp fdk fdD fdWi fdH fdR fdB fdM fdO fdT fdG fdh fd : FuncData} {rcA rcN : Option Value} (F : L2.Fun K "law" "law" s_law f fd) (hfc : fd.code = .ref c) (TB : TabB base mg c Pt) (O : Ops3 P w K mg base C fA fN)
    (Gp : FnOk P w K mg base CX0 1 fp fdp ["_law_script"] (spPen K)) (Up : Use K mg "_law_pen" fp fdp ["_law_script"])
    (GD : FnOk P w K mg base CX0 1 fD fdD ["_law_pen_here", "_law_many"] spDraw) (UD : Use K mg "_law_draw" fD fdD ["_law_pen_here", "_law_many"])
    (Gk : FnOk P w K mg base CX0 2 fk fdk ["_law_pen_here", "_law_some"] spPickV) (Uk : Use K mg "_law_pick" fk fdk ["_law_pen_here", "_law_some"])
    (FH : L2.Fun K "_law_heard" "_law_heard" s_heard fh fdh) (bH : Binds K fdh ["_law_ask"] []) (gH : mg "_law_heard" = some (.ref fh)) (R : Errs K mg CR CS CC) (fr : mg "repr" = none)
    (GX : FnR P w K mg base (L2.CX P w) 3 f0 (spInitX K CS)) (GI : FnR P w K mg base CX0 4 f0 (spInitS C)) (MM : Mk K C f0)
    (GAX : FnR P w K mg base (L2.CX P w) 3 fA (spNoS K C CS)) (rA : PySem.W.findIn K (.ref C) "__radd__" = some rcA) (pA : rcA = none ∨ ∃ g : Addr, rcA = some (.ref g))
    (GNX : FnR P w K mg base (L2.CX P w) 3 fN (spNoS K C CS)) (rN : PySem.W.findIn K (.ref C) "__rand__" = some rcN) (pN : rcN = none ∨ ∃ g : Addr, rcN = some (.ref g))
    (GWX : FnOk P w K mg base (L2.CX P w) 3 fWi fdWi ["self", "other"] (spNoS K C CS)) (UW : UseM K C "within" fWi fdWi ["self", "other"]) (kW : KB1 K fdWi ["self", "other"] ["other"])
    (GD2 : FnOk P w K mg base (L2.CX P w) 4 fG fdG ["_law_one", "_law_other", "_law_held"] (spAddedX K C CS)) (UD2 : Use K mg "_law_added" fG fdG ["_law_one", "_law_other", "_law_held"])
    (GRX : FnOk P w K mg base (L2.CX P w) 3 fR fdR ["self", "bits"] (spNoN K CS "part" 0 65535 fun _ => .str "bits")) (UR : UseM K C "rest" fR fdR ["self", "bits"])
    (GBX : FnOk P w K mg base (L2.CX P w) 3 fB fdB ["self", "many"] (spNoN K CC "value" 0 16 fun v => v)) (GB : FnOk P w K mg base CX0 6 fB fdB ["self", "many"] (spBelow C)) (UB : UseM K C "below" fB fdB ["self", "many"])
    (GMX : FnOk P w K mg base (L2.CX P w) 3 fM fdM ["self", "age"] (spNoN K CC "value" 0 15 fun v => v)) (UM : UseM K C "missed" fM fdM ["self", "age"])
    (GOX : FnOk P w K mg base (L2.CX P w) 5 fO fdO ["self"] (spOldX C CS)) (GO : FnOk P w K mg base CX0 6 fO fdO ["self"] (spOlder C)) (UO : UseM K C "older" fO fdO ["self"])
    (GT : FnOk P w K mg base CX0 3 fT fdT ["self", "age"] (spTellsV K C)) (UT : UseM K C "tells" fT fdT ["self", "age"]) (kT : KB1 K fdT ["self", "age"] ["age"])
    (GHX : FnR P w K mg base (L2.CX P w) 3 fH (spNoM K CC)) (GHK : FnOk P w K mg base (L2.CX P w) 3 fH fdH ["many"] (spNoM K CC)) (kH : KB0 K fdH ["many"] ["many"]) (GH : FnR P w K mg base CX0 6 fH (spWhole C)) (W : Ws K C fH)
    (RT : ∀ X ∈ ["NoneType", "int", "bool", "str", "tuple", "list", "dict"], RtX K C "add" X ∧ RtX K C "and" X ∧ PySem.W.kitOne K (.type X) (.ref C) = some false) (kI : PySem.W.kitOne K (.ref C) (.type "int") = some false)
    (T : Nm mg) (S : Cs K mg C) : FnG P w K mg base CX0 9 f fd ["_law_script"] (spLaw K Pt) := by
  obtain ⟨mc, pw, cr, sm⟩ := W.wh
  refine okGC F sc_law (fun vs H Q E h => ?_) (fun cdv A outer s H vs Q E hcd hr hG h => ?_)
  · obtain ⟨a, ns, rfl, _⟩ := h
    rfl
  · obtain ⟨a0, ns, rfl, hS, hlen, hPt, q⟩ := h
    rw [hfc] at hcd
    subst hcd
    have hcode : (envOfC "law" (defScope s_law) s.heap.objs.size f (.ref c)).code = .ref c := rfl
    have hu := hr.units
    have hr1 : Room 1 _ := hr.mono (by decide)
    have hr2 : Room 2 _ := hr.mono (by decide)
    have hr3 : Room 3 _ := hr.mono (by decide)
    have hr5 : Room 5 _ := hr.mono (by decide)
    have hr6 : Room 6 _ := hr.mono (by decide)
    refine ⟨_, (pss_cons (ps_set (i := 1) sc_law.nd rfl (Or.inl rfl) (pe_call Gp hr1 rfl Up.g Up.kp Up.b .nil pass0 (pa_cons (pv 0) pa_nil)))
      (pss_cons (ps_for PassesOwn.never rfl (pi_range1 rfl T.range (pa_cons pe_int pa_nil)) (pg_name (i := 2) sc_law.nd rfl (Or.inl rfl))
      (pss_cons (ps_set (i := 9) sc_law.nd rfl (Or.inr rfl) (pe_makeRs (E := E0) MM GI hr5 rfl S.gC pass0 (pa_cons (pe_call GD hr1 rfl UD.g UD.kp UD.b .nil pass0 (pa_cons (pv 1) (pa_cons pe_int (pa_nil)))) (pa_cons (pe_call GD hr1 rfl UD.g UD.kp UD.b .nil pass0 (pa_cons (pv 1) (pa_cons pe_int (pa_nil)))) (pa_nil)))))
      (pss_cons (ps_set (i := 3) sc_law.nd rfl (Or.inl rfl) (by exact pe_fld (pv 9) rfl))
      (pss_cons (ps_set (i := 8) sc_law.nd rfl (Or.inr rfl) (pe_call Gk hr2 rfl Uk.g Uk.kp Uk.b .nil pass0 (pa_cons (pv 1) (pa_cons (pe_lst (pa_cons pe_non (pa_cons pe_bl (pa_cons pe_bl (pa_cons (pe_un un_neg pe_int) (pa_cons pe_int (pa_cons (pe_op op_pow pe_int pe_int) (pa_cons pe_str (pa_cons pe_str (pa_cons (pe_tup (pa_cons pe_int (pa_nil))) (pa_cons (pe_lst (pa_cons pe_int (pa_nil))) (pa_cons pe_dnewK (pa_cons (pv 9) (pa_nil)))))))))))))) (pa_nil)))))
      (pss_cons (ps_set (i := 10) sc_law.nd rfl (Or.inr rfl) (pe_call Gk hr2 rfl Uk.g Uk.kp Uk.b .nil pass0 (pa_cons (pv 1) (pa_cons (pe_lst (pa_cons pe_non (pa_cons pe_int (pa_cons pe_bl (pa_cons pe_str (pa_cons (pe_tup (pa_cons pe_int (pa_nil))) (pa_cons (pe_lst pa_nil) (pa_cons pe_dnewK (pa_cons (pv 3) (pa_nil)))))))))) (pa_nil)))))
      (pss_cons (ps_set (i := 4) sc_law.nd rfl (Or.inl rfl) (pe_lst (pa_cons (pe_heard (k := 6) FH bH gH R hG T.isi fr TB hcode hr (fun A2 outer2 s2 H2 E2 f2 c2 hr' => pe_makeRs (E := E2) MM GX (hr'.mono (by decide)) rfl S.gC (passes_call (takes_of rfl rfl rfl rfl) (fun _ _ _ _ h => h)) (pa_cons (pv 8) (pa_nil)))) (pa_nil))))
      (pss_cons (ps_expr (pe_bm PySem.F.plainAttrs_list PySem.F.slot_list_append PySem.F.type_list_append mt_append (pv 4) (pa_cons (pe_heard (k := 6) FH bH gH R hG T.isi fr TB hcode hr (fun A2 outer2 s2 H2 E2 f2 c2 hr' => pe_makeRs (E := E2) MM GX (hr'.mono (by decide)) rfl S.gC (passes_call (takes_of rfl rfl rfl rfl) (fun _ _ _ _ h => h)) (pa_cons pe_int (pa_cons pe_int (pa_cons (pv 8) (pa_cons pe_int (pa_nil))))))) (pa_nil))))
      (pss_cons (ps_expr (pe_bm PySem.F.plainAttrs_list PySem.F.slot_list_append PySem.F.type_list_append mt_append (pv 4) (pa_cons (pe_heard (k := 6) FH bH gH R hG T.isi fr TB hcode hr (fun A2 outer2 s2 H2 E2 f2 c2 hr' => pe_makeRs (E := E2) MM GX (hr'.mono (by decide)) rfl S.gC (passes_call (takes_of rfl rfl rfl rfl) (fun _ _ _ _ h => h)) (pa_cons pe_int (pa_cons (pv 8) (pa_nil))))) (pa_nil))))
      (pss_cons (ps_if (pt_cmpR (r := rNeD K) (op_neD hu) (pv 4) (pe_op op_rep (pe_lst (pa_cons (pe_tup (pa_cons pe_str (pa_cons pe_str (pa_nil)))) (pa_nil))) pe_int) (nomark _)) (pss_one (ps_ret pe_bl)) pss_nil)
      (pss_cons (ps_set (i := 4) sc_law.nd rfl (Or.inl rfl) (pe_lst (pa_cons (pe_heard (k := 6) (t := fun E2 => tOp (rBinX K C "add" (spNoS K C CS) E2) (tVar 9) (tVar 10)) FH bH gH R hG T.isi fr TB hcode hr (fun A2 outer2 s2 H2 E2 f2 c2 hr' => by exact pe_op (op_binX (op := .Add) (E := E2) S.sf O.add O.addF rA pA GAX (hr'.mono (by decide : (3 : Nat) ≤ 6)) (passes_call (takes_of rfl rfl rfl rfl) (fun _ _ _ _ h => h))) (pv 9) (pv 10))) (pa_nil))))
      (pss_cons (ps_expr (pe_bm PySem.F.plainAttrs_list PySem.F.slot_list_append PySem.F.type_list_append mt_append (pv 4) (pa_cons (pe_heard (k := 6) (t := fun E2 => tOp (rBinX K C "and" (spNoS K C CS) E2) (tVar 9) (tVar 10)) FH bH gH R hG T.isi fr TB hcode hr (fun A2 outer2 s2 H2 E2 f2 c2 hr' => by exact pe_op (op_binX (op := .BitAnd) (E := E2) S.sf O.and O.andF rN pN GNX (hr'.mono (by decide : (3 : Nat) ≤ 6)) (passes_call (takes_of rfl rfl rfl rfl) (fun _ _ _ _ h => h))) (pv 9) (pv 10))) (pa_nil))))
      (pss_cons (ps_expr (pe_bm PySem.F.plainAttrs_list PySem.F.slot_list_append PySem.F.type_list_append mt_append (pv 4) (pa_cons (pe_heard (k := 6) FH bH gH R hG T.isi fr TB hcode hr (fun A2 outer2 s2 H2 E2 f2 c2 hr' => pe_meth (E := E2) (pv 9) S.cl UW.m GWX (hr'.mono (by decide)) UW.b .nil (passes_call (takes_of rfl rfl rfl rfl) (fun _ _ _ _ h => h)) (pa_cons (pv 10) (pa_nil)))) (pa_nil))))
      (pss_cons (ps_expr (pe_bm PySem.F.plainAttrs_list PySem.F.slot_list_append PySem.F.type_list_append mt_append (pv 4) (pa_cons (pe_heard (k := 6) FH bH gH R hG T.isi fr TB hcode hr (fun A2 outer2 s2 H2 E2 f2 c2 hr' => pe_methK (E := E2) (pv 9) S.cl UW.m GWX (hr'.mono (by decide)) kW (passes_call (takes_of rfl rfl rfl rfl) (fun _ _ _ _ h => h)) (pk_cons (pv 10) pk_nil))) (pa_nil))))
      (pss_cons (ps_expr (pe_bm PySem.F.plainAttrs_list PySem.F.slot_list_append PySem.F.type_list_append mt_append (pv 4) (pa_cons (pe_heard (k := 6) FH bH gH R hG T.isi fr TB hcode hr (fun A2 outer2 s2 H2 E2 f2 c2 hr' => pe_call (E := E2) GD2 (hr'.mono (by decide)) rfl UD2.g UD2.kp UD2.b .nil (passes_call (takes_of rfl rfl rfl rfl) (fun _ _ _ _ h => h)) (pa_cons (pv 9) (pa_cons (pv 10) (pa_cons (pv 9) (pa_nil)))))) (pa_nil))))
      (pss_cons (ps_if (PW.pt (pw_or (pt_cmpR (r := rNeD K) (op_neD hu) (pv 4) (pe_op op_rep (pe_lst (pa_cons (pe_tup (pa_cons pe_str (pa_cons pe_str (pa_nil)))) (pa_nil))) pe_int) (nomark _)) (pw_or1 (pt_cmpR (r := rNeD K) (op_neD hu) (pe_heard (k := 6) FH bH gH R hG T.isi fr TB hcode hr (fun A2 outer2 s2 H2 E2 f2 c2 hr' => pe_meth (E := E2) (pv 9) S.cl UR.m GRX (hr'.mono (by decide)) UR.b .nil (passes_call (takes_of rfl rfl rfl rfl) (fun _ _ _ _ h => h)) (pa_cons (pv 8) (pa_nil)))) (pe_tup (pa_cons pe_str (pa_cons pe_str (pa_nil)))) (nomark _))))) (pss_one (ps_ret pe_bl)) pss_nil)
      (pss_cons (ps_set (i := 7) sc_law.nd rfl (Or.inr rfl) (pe_call Gk hr2 rfl Uk.g Uk.kp Uk.b .nil pass0 (pa_cons (pv 1) (pa_cons (pe_lst (pa_cons pe_non (pa_cons pe_bl (pa_cons (pe_un un_neg pe_int) (pa_cons pe_int (pa_cons (pe_op op_pow pe_int pe_int) (pa_cons pe_str (pa_cons (pe_tup (pa_cons pe_int (pa_nil))) (pa_cons (pe_lst pa_nil) (pa_cons pe_dnewK (pa_nil))))))))))) (pa_nil)))))
      (pss_cons (ps_set (i := 4) sc_law.nd rfl (Or.inl rfl) (pe_lst (pa_cons (pe_heard (k := 6) FH bH gH R hG T.isi fr TB hcode hr (fun A2 outer2 s2 H2 E2 f2 c2 hr' => pe_meth (E := E2) (pv 9) S.cl UB.m GBX (hr'.mono (by decide)) UB.b .nil (passes_call (takes_of rfl rfl rfl rfl) (fun _ _ _ _ h => h)) (pa_cons (pv 7) (pa_nil)))) (pa_nil))))
      (pss_cons (ps_expr (pe_bm PySem.F.plainAttrs_list PySem.F.slot_list_append PySem.F.type_list_append mt_append (pv 4) (pa_cons (pe_heard (k := 6) FH bH gH R hG T.isi fr TB hcode hr (fun A2 outer2 s2 H2 E2 f2 c2 hr' => pe_smeth (E := E2) (pe_glob (v := .ref C) rfl S.gC rfl) cr sm GHX (hr'.mono (by decide)) (passes_call (takes_of rfl rfl rfl rfl) (fun _ _ _ _ h => h)) (pa_cons (pv 7) (pa_nil)))) (pa_nil))))
      (pss_cons (ps_expr (pe_bm PySem.F.plainAttrs_list PySem.F.slot_list_append PySem.F.type_list_append mt_append (pv 4) (pa_cons (pe_heard (k := 6) FH bH gH R hG T.isi fr TB hcode hr (fun A2 outer2 s2 H2 E2 f2 c2 hr' => pe_smethK (E := E2) (pe_glob (v := .ref C) rfl S.gC rfl) cr sm GHK (hr'.mono (by decide)) kH (passes_call (takes_of rfl rfl rfl rfl) (fun _ _ _ _ h => h)) (pk_cons (pv 7) pk_nil))) (pa_nil))))
      (pss_cons (ps_set (i := 5) sc_law.nd rfl (Or.inr rfl) (pe_call Gk hr2 rfl Uk.g Uk.kp Uk.b .nil pass0 (pa_cons (pv 1) (pa_cons (pe_lst (pa_cons pe_non (pa_cons pe_bl (pa_cons (pe_un un_neg pe_int) (pa_cons pe_int (pa_cons (pe_op op_pow pe_int pe_int) (pa_cons pe_str (pa_cons (pe_tup (pa_cons pe_int (pa_nil))) (pa_cons (pe_lst pa_nil) (pa_cons pe_dnewK (pa_nil))))))))))) (pa_nil)))))
      (pss_cons (ps_if (PW.pt (pw_or (pt_cmpR (r := rNeD K) (op_neD hu) (pv 4) (pe_op op_rep (pe_lst (pa_cons (pe_tup (pa_cons pe_str (pa_cons (pe_callB (call_reprW hG hu) (by rfl) fr PyProof.Rows.boot_repr (pa_cons (pv 7) (pa_nil))) (pa_nil)))) (pa_nil))) pe_int) (nomark _)) (pw_or1 (pt_cmpR (r := rNeD K) (op_neD hu) (pe_heard (k := 6) FH bH gH R hG T.isi fr TB hcode hr (fun A2 outer2 s2 H2 E2 f2 c2 hr' => pe_meth (E := E2) (pv 9) S.cl UM.m GMX (hr'.mono (by decide)) UM.b .nil (passes_call (takes_of rfl rfl rfl rfl) (fun _ _ _ _ h => h)) (pa_cons (pv 5) (pa_nil)))) (pe_tup (pa_cons pe_str (pa_cons (pe_callB (call_reprW hG hu) (by rfl) fr PyProof.Rows.boot_repr (pa_cons (pv 5) (pa_nil))) (pa_nil)))) (nomark _))))) (pss_one (ps_ret pe_bl)) pss_nil)
      (pss_cons (ps_if (PW.pt (pw_or (pt_cmpR op_isnot_bl (pe_meth (E := E0) (pv 9) S.cl UT.m GT hr3 UT.b .nil pass0 (pa_cons (pv 5) (pa_nil))) pe_bl (by rfl)) (pw_or (pt_cmpR op_isnot_bl (pe_meth (E := E0) (pv 9) S.cl UT.m GT hr3 UT.b .nil pass0 (pa_cons (pv 8) (pa_nil))) pe_bl (by rfl)) (pw_or1 (pt_cmpR op_isnot_bl (pe_methK (E := E0) (pv 9) S.cl UT.m GT hr3 kT pass0 (pk_cons pe_str pk_nil)) pe_bl (by rfl)))))) (pss_one (ps_ret pe_bl)) pss_nil)
      (pss_cons (ps_set (i := 6) sc_law.nd rfl (Or.inr rfl) (pe_op (op_binO (E := E0) S.sf O.add O.addF O.gA hr6 pass0) (pv 9) (pe_makeRs (E := E0) MM GI hr5 rfl S.gC pass0 (pa_cons pe_int (pa_nil)))))
      (pss_one (ps_if (PW.pt (pw_or (pt_cmpR (r := rNeD K) (op_neD hu) (pe_heard (k := 6) FH bH gH R hG T.isi fr TB hcode hr (fun A2 outer2 s2 H2 E2 f2 c2 hr' => pe_meth0 (E := E2) (pv 6) S.cl UO.m GOX (hr'.mono (by decide)) UO.b .nil (passes_call (takes_of rfl rfl rfl rfl) (fun _ _ _ _ h => h)))) (pe_tup (pa_cons pe_str (pa_cons pe_str (pa_nil)))) (nomark _)) (pw_or1 (pt_cmpR (r := rNeD K) (op_neD hu) (by exact pe_fld (pv 9) rfl) (pv 3) (nomark _))))) (pss_one (ps_ret pe_bl)) pss_nil)))))))))))))))))))))))))
      (pss_cons (ps_set (i := 4) sc_law.nd rfl (Or.inl rfl) (pe_lst (pa_cons (pe_heard (k := 6) (t := fun E2 => tFld K (tSMeth C (spWhole C) E0 (tC (.ref C)) (tCons (tC (.int 16)) tNil)) "rows") FH bH gH R hG T.isi fr TB hcode hr (fun A2 outer2 s2 H2 E2 f2 c2 hr' => by exact pe_fld (pe_smeth (E := E0) (pe_glob (v := .ref C) rfl S.gC rfl) cr sm GH hr' pass0 (pa_cons pe_int (pa_nil))) rfl /- 16 -/)) (pa_nil))))
      (pss_cons (ps_expr (pe_bm PySem.F.plainAttrs_list PySem.F.slot_list_append PySem.F.type_list_append mt_append (pv 4) (pa_cons (pe_heard (k := 6) (t := fun E2 => tFld K (tSMeth C (spWhole C) E0 (tC (.ref C)) (tCons (tC (.int 0)) tNil)) "rows") FH bH gH R hG T.isi fr TB hcode hr (fun A2 outer2 s2 H2 E2 f2 c2 hr' => by exact pe_fld (pe_smeth (E := E0) (pe_glob (v := .ref C) rfl S.gC rfl) cr sm GH hr' pass0 (pa_cons pe_int (pa_nil))) rfl /- 0 -/)) (pa_nil))))
      (pss_cons (ps_expr (pe_bm PySem.F.plainAttrs_list PySem.F.slot_list_append PySem.F.type_list_append mt_append (pv 4) (pa_cons (pe_heard (k := 6) (t := fun E2 => tFld K (tMeth C "older" (spOlder C) [] E0 (fun σ H Q => (tCons (tC (.int 16384)) (tCons (tC (.int 1)) tNil)) σ H fun vs H1 => mkAsk C (spInitS C) E0 vs H1 Q) tNil) "rows") FH bH gH R hG T.isi fr TB hcode hr (fun A2 outer2 s2 H2 E2 f2 c2 hr' => by exact pe_fld (pe_meth0 (E := E0) (pe_makeRs (E := E0) MM GI (hr'.mono (by decide : (5 : Nat) ≤ 6)) rfl S.gC pass0 (pa_cons pe_int (pa_cons pe_int (pa_nil)))) S.cl UO.m GO hr' UO.b .nil pass0) rfl)) (pa_nil))))
      (pss_cons (ps_expr (pe_bm PySem.F.plainAttrs_list PySem.F.slot_list_append PySem.F.type_list_append mt_append (pv 4) (pa_cons (pe_heard (k := 6) (t := fun E2 => tFld K (tMeth C "below" (spBelow C) [] E0 (fun σ H Q => (tCons (tC (.int 65535)) tNil) σ H fun vs H1 => mkAsk C (spInitS C) E0 vs H1 Q) (tCons (tC (.int 16)) tNil)) "rows") FH bH gH R hG T.isi fr TB hcode hr (fun A2 outer2 s2 H2 E2 f2 c2 hr' => by exact pe_fld (pe_meth (E := E0) (pe_makeRs (E := E0) MM GI (hr'.mono (by decide : (5 : Nat) ≤ 6)) rfl S.gC pass0 (pa_cons pe_int (pa_nil))) S.cl UB.m GB hr' UB.b .nil pass0 (pa_cons pe_int (pa_nil))) rfl /- 16 -/)) (pa_nil))))
      (pss_cons (ps_expr (pe_bm PySem.F.plainAttrs_list PySem.F.slot_list_append PySem.F.type_list_append mt_append (pv 4) (pa_cons (pe_heard (k := 6) (t := fun E2 => tFld K (tMeth C "below" (spBelow C) [] E0 (fun σ H Q => (tCons (tC (.int 65535)) tNil) σ H fun vs H1 => mkAsk C (spInitS C) E0 vs H1 Q) (tCons (tC (.int 15)) tNil)) "rows") FH bH gH R hG T.isi fr TB hcode hr (fun A2 outer2 s2 H2 E2 f2 c2 hr' => by exact pe_fld (pe_meth (E := E0) (pe_makeRs (E := E0) MM GI (hr'.mono (by decide : (5 : Nat) ≤ 6)) rfl S.gC pass0 (pa_cons pe_int (pa_nil))) S.cl UB.m GB hr' UB.b .nil pass0 (pa_cons pe_int (pa_nil))) rfl /- 15 -/)) (pa_nil))))
      (pss_one (ps_ret (pe_cmpR (r := rEqD K) (op_eqD hu) (pv 4) (pe_lst (pa_cons (pe_lst (pa_cons (pe_callTy call_tuple_of (by rfl) T.tuple PyProof.Rows.boot_tuple (pa_cons (pe_lc (own := [("_law_age", 5)]) (g := (gName 5)) (tt := tYes) rfl sc_law.nd (pi_range1 rfl T.range (pa_cons pe_int pa_nil)) (blkOk_by (by kernel_rfl)) (fun _ _ _ _ _ => pg_name (i := 5) sc_law.nd rfl (Or.inl rfl)) (fun _ _ _ _ _ => pts_nil) (fun _ _ _ _ _ => (pe_op op_shl pe_int (pv 5)))) pa_nil)) (pa_nil))) (pa_cons (pe_lst (pa_cons (pe_tup (pa_nil)) (pa_nil))) (pa_cons (pe_lst (pa_cons (pe_tup (pa_cons pe_int (pa_cons pe_int (pa_nil)))) (pa_nil))) (pa_cons (pe_lst (pa_cons (pe_tup (pa_cons pe_int (pa_nil))) (pa_nil))) (pa_cons (pe_lst (pa_cons (pe_tup (pa_nil)) (pa_nil))) (pa_nil))))))) (nomark _))))))))))), ?_⟩
    refine ⟨_, rfl, a0, ns, rfl, hS, hlen, fun pn b H1 p1 s1 np1 => ?_⟩
    have tabs1 : Tabs [(Pt, (envOfC "law" (defScope s_law) s.heap.objs.size f (.ref c)).qual ++ "<lambda>")] H1 := fun p hp => by
      rw [List.mem_singleton.mp hp]
      exact TabS.nil (s1 _ _ hPt)
    refine ⟨10, rfl, by decide, by decide, ?_⟩
    refine for_range (lo := 0) (n := 10) (fun i σ H' => PenAt H' pn b (6 * i) ∧ Tabs [(Pt, (envOfC "law" (defScope s_law) s.heap.objs.size f (.ref c)).qual ++ "<lambda>")] H' ∧ ∃ v2 v3 v4 v5 v6 v7 v8 v9 v10 : Option V, σ = [some (.ref a0), some (.ref pn), v2, v3, v4, v5, v6, v7, v8, v9, v10]) ⟨p1, tabs1, none, none, none, none, none, none, none, none, none, rfl⟩ ?_ ?_
    · rintro i σ H2 hi ⟨p2, t2, v2, v3, v4, v5, v6, v7, v8, v9, v10, rfl⟩
      refine t_seq (t_asg ?_)
      refine ⟨_, rfl, pn, b, 65536, 6 * i, rfl, p2, by omega, by decide, by decide, fun d1 H3 hd1 p3 k3 => ?_⟩
      refine ⟨_, rfl, pn, b, 256, _, rfl, p3, by omega, by decide, by decide, fun d2 H4 hd2 p4 k4 => ?_⟩
      obtain ⟨ya, hya⟩ := pen_at p2
      obtain ⟨yb, hyb⟩ := pen_at p3
      have t4 := tabs_kept hyb k4 (tabs_kept hya k3 t2)
      dsimp only [tNil]
      rw [show [vi d1, vi d2] = ri [d1, d2] from rfl]
      refine ask_of (l := [d1, d2]) ⟨fun r hr' => ?_, by show 2 ≤ 1000; decide, fun m x H5 hm hx s5 nx => ?_⟩
      · simp only [List.mem_cons, List.not_mem_nil, or_false] at hr'
        omega
      have p5 := p4.same s5
      have t5 := t4.ext s5
      have lm := hx.len
      obtain ⟨dx, tr, x1, x2, x3⟩ := id hx
      dsimp only
      refine t_seq (t_asg ?_)
      refine ⟨_, rfl, x, C, dx, _, _, rfl, x1, S.cl, S.nR, lookup_rows, ?_⟩
      dsimp only
      obtain ⟨y5, hy5⟩ := pen_at p5
      refine t_seq (t_asg (pick_odd S kI rfl rfl p5 (by omega) hx fun odd H6 fo p6 k6 => ?_))
      dsimp only
      have trn : tr ≠ pn := fun w => by
        rw [w, hy5] at x2
        cases x2
      have x26 := k6 _ _ trn x2
      have hx6 := kept_spA hy5 k6 hx
      obtain ⟨y6, hy6⟩ := pen_at p6
      refine t_seq (t_asg (pick_strange RT rfl rfl p6 (by omega) x26 fun str H7 fs p7 k7 => ?_))
      dsimp only
      have hx7 := kept_spA hy6 k7 hx6
      have x27 := k7 _ _ trn x26
      have t7 := tabs_kept hy6 k7 (tabs_kept hy5 k6 t5)
      obtain ⟨y7, hy7⟩ := pen_at p7
      obtain ⟨oo, fo1, fo2⟩ := fo
      have go : ∀ H', Rl pn H7 H' → Arg K H' odd oo := fun H' r => fo1 H' (((Rl.refl pn H6).kept k7).trans r)
      have gx : ∀ H', Rl pn H7 H' → SpA C H' x m := fun H' r => spA_rl hy7 hx7 r
      have oa : ∀ H1, Rl pn H7 H1 → ∀ H', Same H1 H' → Arg K H' odd oo := fun H1 r H' s => go H' (r.ext (ext_same s))
      have ia : ∀ (i : Int) (H1 : Hp), ∀ H', Same H1 H' → Arg K H' (.int i) (some i) := fun i _ _ _ => .int i
      have S7 : Sit pn b _ [(Pt, (envOfC "law" (defScope s_law) s.heap.objs.size f (.ref c)).qual ++ "<lambda>")] H7 H7 := ⟨p7, t7, Rl.refl _ _⟩
      refine t_seq (t_asg (first_step (hx_space (K := K) (CS := CS) (CC := CC) (wd := "rows") fun E H1 Q e out => ⟨_, rfl, ask_bad (.cons (oa H1 ((Rl.refl pn H7).ext e)) .nil) (by show 1 ≤ 1000; decide) (by simp [fo2]) out⟩) (ExtN.refl _) S7 fun H8 L u1 S8 l8 nt Lp Lb => ?_))
      dsimp only
      refine t_seq ?_
      refine app_step (hx_space (K := K) (CS := CS) (CC := CC) (wd := "rows") fun E H1 Q e out => ⟨_, rfl, ask_bad (.cons (ia 1 H1) (.cons (ia 2 H1) (.cons (oa H1 (S8.rel.ext e)) (.cons (ia 4 H1) .nil)))) (by show 4 ≤ 1000; decide) (by simp [fo2]) out⟩) (ExtN.refl _) rfl S8 nt Lp Lb l8 (by show 1 ≤ 100; decide) fun H9 u2 S9 l9 => ?_
      refine t_seq ?_
      refine app_step (hx_space (K := K) (CS := CS) (CC := CC) (wd := "rows") fun E H1 Q e out => ⟨_, rfl, ask_bad (.cons (ia 0 H1) (.cons (oa H1 (S9.rel.ext e)) .nil)) (by show 2 ≤ 1000; decide) (by simp [fo2]) out⟩) (ExtN.refl _) rfl S9 nt Lp Lb l9 (by show 2 ≤ 100; decide) fun H10 u3 S10 l10 => ?_
      refine t_seq ?_
      refine rep_step (K := K) (k := 3) (by decide) rfl l10 vx_c vx_c (sh_rep (by decide +kernel) (by decide +kernel) (.inl rfl)) fun H11 s11 => iteF ?_
      have S11 := S10.same s11
      refine t_seq (t_asg (first_step (hx_space (K := K) (CS := CS) (CC := CC) (wd := "other") fun E H1 Q e out => by
        obtain ⟨dw, tw, w1, _⟩ := gx H1 (S11.rel.ext e)
        obtain ⟨X, ty, r1, r2, r3⟩ := fs H1 (S11.rel.ext e)
        exact ⟨_, rfl, _, rfl, x, dw, _, X, rfl, w1, ty, r1, x, str, rfl, ⟨_, ty, r3⟩, out⟩) (ExtN.refl _) S11 fun H12 L2 w1 S12 l12 nt2 Lp2 Lb2 => ?_))
      dsimp only
      refine t_seq ?_
      refine app_step (hx_space (K := K) (CS := CS) (CC := CC) (wd := "other") fun E H1 Q e out => by
        obtain ⟨dw, tw, w1, _⟩ := gx H1 (S12.rel.ext e)
        obtain ⟨X, ty, r1, r2, r3⟩ := fs H1 (S12.rel.ext e)
        exact ⟨_, rfl, _, rfl, x, dw, _, X, rfl, w1, ty, r2, x, str, rfl, ⟨_, ty, r3⟩, out⟩) (ExtN.refl _) rfl S12 nt2 Lp2 Lb2 l12 (by show 1 ≤ 100; decide) fun H13 w2 S13 l13 => ?_
      refine t_seq ?_
      refine app_step (hx_space (K := K) (CS := CS) (CC := CC) (wd := "other") fun E H1 Q e out => by
        obtain ⟨dw, tw, w1, _⟩ := gx H1 (S13.rel.ext e)
        exact ⟨_, rfl, x, dw, _, rfl, w1, noL (by decide +kernel), _, rfl, x, str, rfl, (fs H1 (S13.rel.ext e)).no, out⟩) (ExtN.refl _) rfl S13 nt2 Lp2 Lb2 l13 (by show 2 ≤ 100; decide) fun H14 w3 S14 l14 => ?_
      refine t_seq ?_
      refine app_step (hx_space (K := K) (CS := CS) (CC := CC) (wd := "other") fun E H1 Q e out => by
        obtain ⟨dw, tw, w1, _⟩ := gx H1 (S14.rel.ext e)
        exact ⟨_, rfl, x, dw, _, rfl, w1, noL (by decide +kernel), _, rfl, rfl, x, str, rfl, (fs H1 (S14.rel.ext e)).no, out⟩) (ExtN.refl _) rfl S14 nt2 Lp2 Lb2 l14 (by show 3 ≤ 100; decide) fun H15 w4 S15 l15 => ?_
      refine t_seq ?_
      refine app_step (hx_space (K := K) (CS := CS) (CC := CC) (wd := "other") fun E H1 Q e out => ⟨_, rfl, _, rfl, _, rfl, x, m, str, .ref x, rfl, gx H1 (S15.rel.ext e), fs H1 (S15.rel.ext e), out⟩) (ExtN.refl _) rfl S15 nt2 Lp2 Lb2 l15 (by show 4 ≤ 100; decide) fun H16 w5 S16 l16 => ?_
      refine t_seq ?_
      refine rep_step (K := K) (k := 5) (by decide) rfl l16 vx_c vx_c (sh_rep (by decide +kernel) (by decide +kernel) (.inr rfl)) fun H17 s17 => iteF ?_
      have S17 := S16.same s17
      refine two_step (K := K) (hx_space (K := K) (CS := CS) (CC := CC) (wd := "bits") fun E H1 Q e out => by
        obtain ⟨dw, tw, w1, _⟩ := gx H1 (S17.rel.ext e)
        exact ⟨_, rfl, x, dw, _, rfl, w1, noL (by decide +kernel), _, rfl, x, odd, oo, rfl, go H1 (S17.rel.ext e), fo2, out⟩) (ExtN.refl _) S17 (fun _ _ => vx_c) (fun _ _ => vx_c) (sh_tup (by decide +kernel) (by decide +kernel)) fun H18 S18 e18 => iteF ?_
      -- many
      refine t_seq (t_asg (pick_many (K := K) (top := 16) (.inl rfl) rfl S18.pen (by omega) fun many Hm fm pm km => ?_))
      dsimp only
      obtain ⟨om, tx, fm1, fm2, fm3⟩ := fm
      have M0 := S18.kept km pm
      have gxm : ∀ H', Rl pn Hm H' → SpA C H' x m := fun H' r => gx H' (M0.rel.trans r)
      have Sm : Sit pn b _ [(Pt, (envOfC "law" (defScope s_law) s.heap.objs.size f (.ref c)).qual ++ "<lambda>")] Hm Hm := ⟨pm, M0.tab, Rl.refl _ _⟩
      refine t_seq (t_asg (first_step (hx_count (K := K) (CS := CS) (CC := CC) (v := many) (tx := tx) (fun H1 e => (fm1 H1 (Sm.rel.ext e)).2) fun E H1 Q e out => by
        obtain ⟨dw, tw, w1, _⟩ := gxm H1 (Sm.rel.ext e)
        exact ⟨_, rfl, x, dw, _, rfl, w1, noL (by decide +kernel), _, rfl, x, many, om, rfl, (fm1 H1 (Sm.rel.ext e)).1, fm2, out⟩) (ExtN.refl _) Sm fun H19 L3 w1 S19 l19 nt3 Lp3 Lb3 => ?_))
      dsimp only
      refine t_seq ?_
      refine app_step (hx_count (K := K) (CS := CS) (CC := CC) (v := many) (tx := tx) (fun H1 e => (fm1 H1 (S19.rel.ext e)).2) fun E H1 Q e out => ⟨rfl, _, rfl, many, om, rfl, (fm1 H1 (S19.rel.ext e)).1, fm2, out⟩) (ExtN.refl _) rfl S19 nt3 Lp3 Lb3 l19 (by show 1 ≤ 100; decide) fun H20 w2 S20 l20 => ?_
      refine t_seq ?_
      refine app_step (hx_count (K := K) (CS := CS) (CC := CC) (v := many) (tx := tx) (fun H1 e => (fm1 H1 (S20.rel.ext e)).2) fun E H1 Q e out => ⟨rfl, _, rfl, rfl, many, om, rfl, (fm1 H1 (S20.rel.ext e)).1, fm2, out⟩) (ExtN.refl _) rfl S20 nt3 Lp3 Lb3 l20 (by show 2 ≤ 100; decide) fun H21 w3 S21 l21 => ?_
      -- age
      obtain ⟨y21, hy21⟩ := pen_at S21.pen
      refine t_seq (t_asg (pick_many (K := K) (top := 15) (.inr rfl) rfl S21.pen (by omega) fun age Ha fa pa ka => ?_))
      dsimp only
      obtain ⟨oa2, ty, ga1, ga2, ga3⟩ := fa
      have A0 := S21.kept ka pa
      have lA : LS K Ha L3 _ _ := l21.kept hy21 Lp3 ka (fun d hd => by
        have : d = .tuple [.str "count", .str tx] := by simpa using hd
        exact ⟨_, _, this⟩)
      have gxa : ∀ H', Rl pn Ha H' → SpA C H' x m := fun H' r => gxm H' (A0.rel.trans r)
      have gma : ∀ H', Rl pn Ha H' → Rp K H' many tx := fun H' r => (fm1 H' (A0.rel.trans r)).2
      have goa : ∀ H', Rl pn Ha H' → Arg K H' odd oo := fun H' r => go H' (M0.rel.trans (A0.rel.trans r))
      have Sa : Sit pn b _ [(Pt, (envOfC "law" (defScope s_law) s.heap.objs.size f (.ref c)).qual ++ "<lambda>")] Ha Ha := ⟨pa, A0.tab, Rl.refl _ _⟩
      refine t_seq ?_
      refine rep_step (K := K) (k := 3) (by decide) rfl lA vx_c (fun H' Q s q => ⟨_, rfl, repr_of (gma H' ((Rl.refl pn Ha).ext (ext_same s))) (q H' (same_refl H'))⟩) (sh_rep (by decide +kernel) fm3 (.inl rfl)) fun H22 s22 => iteF ?_
      have S22 := Sa.same s22
      refine two_step (K := K) (hx_count (K := K) (CS := CS) (CC := CC) (v := age) (tx := ty) (fun H1 e => (ga1 H1 (S22.rel.ext e)).2) fun E H1 Q e out => by
        obtain ⟨dw, tw, w1, _⟩ := gxa H1 (S22.rel.ext e)
        exact ⟨_, rfl, x, dw, _, rfl, w1, noL (by decide +kernel), _, rfl, x, age, oa2, rfl, (ga1 H1 (S22.rel.ext e)).1, ga2, out⟩) (ExtN.refl _) S22 (fun _ _ => vx_c) (fun H1 S1 H' Q s q => ⟨_, rfl, repr_of (ga1 H' (S1.rel.ext (ext_same s))).2 (q H' (same_refl H'))⟩) (sh_tup (by decide +kernel) ga3) fun H23 S23 e23 => iteF ?_
      have hx23 := gxa H23 S23.rel
      refine t_seq ?_
      obtain ⟨dw, tw, w1, _⟩ := id hx23
      refine ⟨_, rfl, x, dw, _, rfl, w1, noL (by decide +kernel), _, rfl, x, m, age, oa2, rfl, hx23, (ga1 H23 S23.rel).1, fun k hk => ?_⟩
      rw [told_no ga2 hk]
      refine ⟨false, false, rfl, rfl, ?_⟩
      rw [show (!decide (false = false)) = false from rfl]
      refine ⟨false, rfl, iteF ?_⟩
      obtain ⟨dw, tw, w1, _⟩ := id hx23
      refine ⟨_, rfl, x, dw, _, rfl, w1, noL (by decide +kernel), _, rfl, x, m, odd, oo, rfl, hx23, goa H23 S23.rel, fun k hk => ?_⟩
      rw [told_no (within_less fo2) hk]
      refine ⟨false, false, rfl, rfl, ?_⟩
      rw [show (!decide (false = false)) = false from rfl]
      refine ⟨false, rfl, iteF ?_⟩
      obtain ⟨dw, tw, w1, _⟩ := id hx23
      refine ⟨_, rfl, x, dw, _, rfl, w1, noL (by decide +kernel), rfl, x, m, _, none, rfl, hx23, .no (noInt_str _), fun k hk => ?_⟩
      rw [told_no rfl hk]
      refine ⟨false, false, rfl, rfl, ?_⟩
      rw [show (!decide (false = false)) = false from rfl]
      refine ⟨false, rfl, iteF ?_⟩
      -- great
      refine t_seq (t_asg (sx_add (C := C) (sx_var rfl hx23) (sx_make (ts := (tCons (tC (.int 32768)) tNil)) (l := [32768]) (fun H Q _ q => q H (same_refl H)) (by decide) (by decide)) H23 _ (same_refl H23) fun mg zg H24 eg hg s24 => ?_))
      dsimp only
      have S24 := S23.same s24
      have big := great_row eg
      have hx24 := gxa H24 S24.rel
      refine two_step (K := K) (hx_space (K := K) (CS := CS) (CC := CC) (wd := "rows") fun E H1 Q e out => by
        have sz := spA_ext hg e
        obtain ⟨dw, tw, w1, _⟩ := id sz
        have l16 := hg.len
        exact ⟨_, rfl, zg, dw, _, rfl, w1, noL (by decide +kernel), zg, mg, rfl, sz, by omega, big, out⟩) (ExtN.refl _) S24 (fun _ _ => vx_c) (fun _ _ => vx_c) (sh_tup (by decide +kernel) (by decide +kernel)) fun H25 S25 e25 => iteF ?_
      have hx25 := gxa H25 S25.rel
      have ra : Rl pn H7 Ha := M0.rel.trans A0.rel
      have tr25 : H25 tr = some (.tup (ri m)) := (ra.trans S25.rel) _ _ trn x27 (fun ps z => by cases z)
      refine bx_neT (K := K) (l := m) (tx_rows S rfl hx25) (fun H' Q s q => ⟨_, rfl, q tr H' (.of (s _ _ tr25)) (same_refl H')⟩) H25 _ (same_refl H25) fun H26 s26 => iteF ?_
      have S26 := S25.same s26
      exact ⟨S26.pen.mono (by omega), S26.tab, _, _, _, _, _, _, _, _, _, rfl⟩
    · rintro σ H2 ⟨p2, t2, v2, v3, v4, v5, v6, v7, v8, v9, v10, rfl⟩
      have S2 : Sit pn b _ [(Pt, (envOfC "law" (defScope s_law) s.heap.objs.size f (.ref c)).qual ++ "<lambda>")] H2 H2 := ⟨p2, t2, Rl.refl _ _⟩
      dsimp only
      refine t_seq (t_asg (first_step (hx_rows (K := K) (CS := CS) (CC := CC) (m := (List.range 16).map (2 ^ ·)) fun E H1 e => tx_rowsOf S (sx_whole (C := C) (n := 16) vx_c (by decide)) (canon_pows 16) fun u => span_whole.symm) (ExtN.refl _) S2 fun H3 L w1 S3 l3 nt Lp Lb => ?_))
      dsimp only
      refine t_seq ?_
      refine app_step (hx_rows (K := K) (CS := CS) (CC := CC) (m := []) fun E H1 e => tx_rowsOf S (sx_whole (C := C) (n := 0) vx_c (by decide)) canon_z fun u => (span_whole (n := 0) (u := u)).symm) (ExtN.refl _) rfl S3 nt Lp Lb l3 (by show 1 ≤ 100; decide) fun H4 w2 S4 l4 => ?_
      refine t_seq ?_
      refine app_step (hx_rows (K := K) (CS := CS) (CC := CC) (m := [2, 32768]) fun E H1 e => tx_rowsOf S (sx_older (sx_make (C := C) (ts := (tCons (tC (.int 16384)) (tCons (tC (.int 1)) tNil))) (l := [16384, 1]) (fun H Q _ q => q H (same_refl H)) (by decide) (by decide)) lt15) canon_2 ex_2) (ExtN.refl _) rfl S4 nt Lp Lb l4 (by show 2 ≤ 100; decide) fun H5 w3 S5 l5 => ?_
      refine t_seq ?_
      refine app_step (hx_rows (K := K) (CS := CS) (CC := CC) (m := [65535]) fun E H1 e => tx_rowsOf S (sx_below (n := 16) (sx_make (C := C) (ts := (tCons (tC (.int 65535)) tNil)) (l := [65535]) (fun H Q _ q => q H (same_refl H)) (by decide) (by decide)) vx_c (by decide)) canon_f ex_f) (ExtN.refl _) rfl S5 nt Lp Lb l5 (by show 3 ≤ 100; decide) fun H6 w4 S6 l6 => ?_
      refine t_seq ?_
      refine app_step (hx_rows (K := K) (CS := CS) (CC := CC) (m := []) fun E H1 e => tx_rowsOf S (sx_below (n := 15) (sx_make (C := C) (ts := (tCons (tC (.int 65535)) tNil)) (l := [65535]) (fun H Q _ q => q H (same_refl H)) (by decide) (by decide)) vx_c (by decide)) canon_z ex_g) (ExtN.refl _) rfl S6 nt Lp Lb l6 (by show 4 ≤ 100; decide) fun H7 w5 S7 l7 => ?_
      refine ⟨_, rfl, ?_⟩
      refine ⟨(16 : Int), rfl, by decide, by decide, fun D nD => ?_⟩
      refine lc_range (lo := 0) (n := 16) (fun j H8 => Same H7 H8 ∧ H8 D = some (.lst (ri ((List.range j).map (2 ^ ·))))) ⟨same_upd nD, upd_same⟩ ?_ ?_
      · rintro j H8 hj ⟨s8, e8⟩
        have c16 : CPow 1 ((0 : Int) + (j : Int)) := by
          rw [Int.zero_add]
          exact cpow_one (by omega)
        refine ⟨rfl, _, rfl, _, _, rfl, rfl, c16, _, e8, ?_, same_put s8 nD, ?_⟩
        · rw [ri_len, List.length_map, List.length_range]
          exact small1000 (by omega)
        · rw [upd_same, List.range_succ, List.map_append, ri_append]
          refine congrArg (fun v => some (HO.lst (ri ((List.range j).map (2 ^ ·)) ++ [V.int v]))) ?_
          rw [Int.zero_add]
          exact shl_one _
      · rintro H8 ⟨s8, e8⟩
        refine ⟨D, _, rfl, .inl ⟨.of e8, fun q1 n1 => ?_⟩⟩
        have c1 := same_upd (o := HO.tup (ri ((List.range 16).map (2 ^ ·)))) n1
        have e1 : (upd H8 q1 (.tup (ri ((List.range 16).map (2 ^ ·))))) q1 = _ := upd_same
        generalize upd H8 q1 (.tup (ri ((List.range 16).map (2 ^ ·)))) = J1 at *
        refine ⟨by show 1 ≤ sizeLine; exact Nat.le_of_lt (small1000 (by omega)), fun qa na => ?_⟩
        have ca := same_upd (o := HO.lst [V.ref q1]) na
        have ea : (upd J1 qa (.lst [V.ref q1])) qa = _ := upd_same
        generalize upd J1 qa (.lst [V.ref q1]) = Ja at *
        refine ⟨by show 0 ≤ sizeLine; exact Nat.le_of_lt (small1000 (by omega)), fun qb nb => ?_⟩
        have cb := same_upd (o := HO.tup []) nb
        have eb : (upd Ja qb (.tup [])) qb = _ := upd_same
        generalize upd Ja qb (.tup []) = Jb at *
        refine ⟨by show 1 ≤ sizeLine; exact Nat.le_of_lt (small1000 (by omega)), fun qc nc => ?_⟩
        have cc := same_upd (o := HO.lst [V.ref qb]) nc
        have ec : (upd Jb qc (.lst [V.ref qb])) qc = _ := upd_same
        generalize upd Jb qc (.lst [V.ref qb]) = Jc at *
        refine ⟨by show 2 ≤ sizeLine; exact Nat.le_of_lt (small1000 (by omega)), fun qd nd => ?_⟩
        have cd := same_upd (o := HO.tup [V.int 2, V.int 32768]) nd
        have ed : (upd Jc qd (.tup [V.int 2, V.int 32768])) qd = _ := upd_same
        generalize upd Jc qd (.tup [V.int 2, V.int 32768]) = Jd at *
        refine ⟨by show 1 ≤ sizeLine; exact Nat.le_of_lt (small1000 (by omega)), fun qe ne => ?_⟩
        have ce := same_upd (o := HO.lst [V.ref qd]) ne
        have ee : (upd Jd qe (.lst [V.ref qd])) qe = _ := upd_same
        generalize upd Jd qe (.lst [V.ref qd]) = Je at *
        refine ⟨by show 1 ≤ sizeLine; exact Nat.le_of_lt (small1000 (by omega)), fun qf nf => ?_⟩
        have cf := same_upd (o := HO.tup [V.int 65535]) nf
        have ef : (upd Je qf (.tup [V.int 65535])) qf = _ := upd_same
        generalize upd Je qf (.tup [V.int 65535]) = Jf at *
        refine ⟨by show 1 ≤ sizeLine; exact Nat.le_of_lt (small1000 (by omega)), fun qg ng => ?_⟩
        have cg := same_upd (o := HO.lst [V.ref qf]) ng
        have eg : (upd Jf qg (.lst [V.ref qf])) qg = _ := upd_same
        generalize upd Jf qg (.lst [V.ref qf]) = Jg at *
        refine ⟨by show 0 ≤ sizeLine; exact Nat.le_of_lt (small1000 (by omega)), fun qh nh => ?_⟩
        have ch := same_upd (o := HO.tup []) nh
        have eh : (upd Jg qh (.tup [])) qh = _ := upd_same
        generalize upd Jg qh (.tup []) = Jh at *
        refine ⟨by show 1 ≤ sizeLine; exact Nat.le_of_lt (small1000 (by omega)), fun qk nk => ?_⟩
        have ck := same_upd (o := HO.lst [V.ref qh]) nk
        have ek : (upd Jh qk (.lst [V.ref qh])) qk = _ := upd_same
        generalize upd Jh qk (.lst [V.ref qh]) = Jk at *
        refine ⟨by show 5 ≤ sizeLine; exact Nat.le_of_lt (small1000 (by omega)), fun qz nz => ?_⟩
        have cz := same_upd (o := HO.lst [V.ref qa, V.ref qc, V.ref qe, V.ref qg, V.ref qk]) nz
        have ez : (upd Jk qz (.lst [V.ref qa, V.ref qc, V.ref qe, V.ref qg, V.ref qk])) qz = _ := upd_same
        generalize upd Jk qz (.lst [V.ref qa, V.ref qc, V.ref qe, V.ref qg, V.ref qk]) = Jz at *
        have tk := cz
        have th := ck.trans tk
        have tg := ch.trans th
        have tf := cg.trans tg
        have te := cf.trans tf
        have td := ce.trans te
        have tc := cd.trans td
        have tb := cc.trans tc
        have ta := cb.trans tb
        have t1 := ca.trans ta
        have d1 : Dp K Jz (.ref q1) _ := dpT (K := K) (l := (List.range 16).map (2 ^ ·)) (.of (t1 _ _ e1))
        have db : Dp K Jz (.ref qb) (.tuple []) := .tup (.of (tb _ _ eb)) .nil
        have dd : Dp K Jz (.ref qd) (.tuple [.int 2, .int 32768]) := .tup (.of (td _ _ ed)) (.cons (.int 2) (.cons (.int 32768) .nil))
        have df : Dp K Jz (.ref qf) (.tuple [.int 65535]) := .tup (.of (tf _ _ ef)) (.cons (.int 65535) .nil)
        have dh : Dp K Jz (.ref qh) (.tuple []) := .tup (.of (th _ _ eh)) .nil
        have all : Dp K Jz (.ref qz) _ := .lst (.of ez) (.cons (.lst (.of (ta _ _ ea)) (.cons d1 .nil)) (.cons (.lst (.of (tc _ _ ec)) (.cons db .nil)) (.cons (.lst (.of (te _ _ ee)) (.cons dd .nil)) (.cons (.lst (.of (tg _ _ eg)) (.cons df .nil)) (.cons (.lst (.of (tk _ _ ek)) (.cons dh .nil)) .nil)))))
        have left := (l7.ext (ext_same (s8.trans (c1.trans t1)))).dp
        have sh : SeqAt.shaped (.list [.list [.tuple ((((List.range 16).map (2 ^ ·)).map fun n : Nat => (n : Int)).map PyData.int)], .list [.tuple []], .list [.tuple [.int 2, .int 32768]], .list [.tuple [.int 65535]], .list [.tuple []]]) = true := by decide +kernel
        refine ⟨_, _, left, all, sh, sh, ?_⟩
        have ee2 := SeqAt.eqv_refl _ (SeqAt.canLay_of_shaped sh)
        refine Eq.mpr (congrArg (fun z => Q (.bl z) Jz) ?_) (q Jz)
        exact ee2

end
end Lr

set_option Elab.async false
set_option linter.all false
set_option maxRecDepth 100000
set_option maxHeartbeats 0
/-! What the top leaves: the defs, the class, found by name. -/
namespace Hk
open PySem PySem.Spec PyProof.Rows L2 Lr Ow Oe Ox
section
variable (K : PySem.W.Frag)
def sp : Addr := He.ga K "Space"
def wp_whole : Addr := He.ma K (sp K) "whole"
def wg_whole : Addr := match PySem.W.recIn K (wp_whole K) "staticmethod" with
  | some (.ref g :: _) => g
  | _ => 0
def most : Bool := match PySem.W.findCls K (.ref (sp K)) (.type "type") "MOST" with
  | some (.val (.int i _)) => decide (i = 15)
  | _ => false
def upto : Bool := match PySem.W.clsIn K (sp K) with
  | some cd => decide (cd.mro = [.ref (sp K), .type "object"])
  | _ => false
def recd (p : Addr) (T : String) : Bool := match PySem.W.recIn K p T with
  | some (.ref _ :: _) => true
  | _ => false
def isSm (p : Addr) (nm : Str) : Bool := match PySem.W.findCls K (.ref (sp K)) (.type "type") nm with
  | some (.get g a o t) => decide ([g, a, o, t] = [.builtin "staticmethod.__get__", .ref p, .none, .ref (sp K)])
  | _ => false
def atA (a : Addr) : He.FnW := match K.lookup a with
  | some ob => (match ob.data with
    | .func z => some (z.name, z.qualname, z.params, z.body, z.scope, z.globals, z.closure, z.builtins)
    | _ => none)
  | none => none
def okA (a : Addr) (q : Str) : Bool := match K.lookup a with
  | some ob => (match ob.data with
    | .func z => PySem.W.codeIn K z.code q && decide (z.defaults = Value.none)
    | _ => false)
  | none => false
def none_ (T : Value) (nm : Str) : Bool := match PySem.W.findIn K T nm with
  | some none => true
  | _ => false
def rtB (T : String) : Bool := (PySem.W.findIn K (.type T) (PySem.dunder "add")).isSome && ((PySem.W.findIn K (.type T) (dunderR "add")).isSome && ((PySem.W.findIn K (.type T) (PySem.dunder "and")).isSome && ((PySem.W.findIn K (.type T) (dunderR "and")).isSome && (decide (PySem.W.subIn K (.type T) (.ref (sp K)) = some false) && decide (PySem.W.kitOne K (.type T) (.ref (sp K)) = some false)))))
def oexB (C : Addr) : Bool := match K.lookup C with
  | some ⟨.type "type", _, .cls cd, sl⟩ => (match cd.mro, sl.toList with
    | .ref C' :: bm, [_, _, _, _, some (.builtin n), _] => C' == C && (PySem.HandSPX.refsVE bm && (n == "ValueError.__new__" && (cd.hasDict && !cd.hasDel)))
    | _, _ => false)
  | _ => false
def errB (C : Addr) (f : Str) : Bool := oexB K C && (He.eqO (PySem.W.findIn K (.ref C) "__setattr__") (some (some (.builtin "object.__setattr__"))) && (decide (PySem.W.subIn K (.ref C) (.type "BaseException") = some true) && (decide (PySem.W.typeIn K (.ref C) = some (.type "type")) && (PySem.W.keepIn K (.ref C) && (xfB K C &&
  (He.eqO (PySem.W.findIn K (.ref C) "__class__") (some (some (.builtin "object.__class__"))) && (He.eqO (PySem.W.specialIn K (.builtin "object.__class__") "__get__") (some (some (.builtin "getset_descriptor.__get__"))) && (decide (PySem.W.takesIn K (.builtin "object.__class__") = some true) && (decide (PySem.W.mroIn K C (.type "object") = some true) &&
  (He.eqO (PySem.W.findIn K (.ref C) "__init__") (some (some (.ref (He.ma K C "__init__")))) && (decide (PySem.W.typeIn K (.ref (He.ma K C "__init__")) = some (.type "function")) && none_ K (.ref C) f)))))))))))
def tabB : Bool := match K.lookup (He.ga K "law") with
  | some ⟨_, _, .func fd, _⟩ => (match fd.code with
    | .ref c => (match K.lookup c with
      | some ⟨_, _, .fields vs, _⟩ => (match (vs[11]? : Option Value) with
        | some (.ref p) => (K.lookup p).isNone
        | _ => false)
      | _ => false)
    | _ => false)
  | _ => false
def tests : List Bool := [
  He.eqO (PySem.W.findIn K (.ref (sp K)) "__class__") (some (some (.builtin "object.__class__"))),
  He.eqO (PySem.W.specialIn K (.builtin "object.__class__") "__get__") (some (some (.builtin "getset_descriptor.__get__"))),
  decide (PySem.W.takesIn K (.builtin "object.__class__") = some true),
  decide (PySem.W.mroIn K (sp K) (.type "object") = some true),
  decide (PySem.W.kitOne K (.ref (sp K)) (.ref (sp K)) = some true),
  PySem.W.selfFirst K (sp K),
  PySem.W.readsIn K (sp K) (.type "type"),
  He.eqO (PySem.W.specialIn K (.ref (sp K)) "__getattribute__") (some (some (.builtin "type.__getattribute__"))),
  most K,
  He.eqO (PySem.W.findIn K (.ref (sp K)) "__ne__") (some (some (.builtin "object.__ne__"))),
  isSm K (wp_whole K) "whole",
  recd K (wp_whole K) "staticmethod",
  PySem.W.keepIn K (.ref (wg_whole K)),
  okA K (wg_whole K) "Space.whole",
  upto K,
  none_ K (.ref (sp K)) "__iadd__",
  none_ K (.type "object") "__iadd__",
  decide (PySem.W.kitOne K (.ref (sp K)) (.type "int") = some false),
  none_ K (.ref (sp K)) "__radd__",
  none_ K (.ref (sp K)) "__rand__",
  ["NoneType", "int", "bool", "str", "tuple", "list", "dict"].all fun T => rtB K T,
  decide (PySem.W.exmOne K (.ref (He.ga K "BadSpace")) (.ref (He.ga K "RepairError")) = some true),
  decide (PySem.W.exmOne K (.ref (He.ga K "BadCount")) (.ref (He.ga K "RepairError")) = some true),
  errB K (He.ga K "BadSpace") "part",
  errB K (He.ga K "BadCount") "value",
  decide (PySem.W.kitOne K (.ref (He.ga K "BadSpace")) (.ref (He.ga K "BadSpace")) = some true),
  decide (PySem.W.kitOne K (.ref (He.ga K "BadCount")) (.ref (He.ga K "BadSpace")) = some false),
  decide (PySem.W.kitOne K (.ref (He.ga K "BadCount")) (.ref (He.ga K "BadCount")) = some true),
  tabB K,
  (He.Fa.glo "RepairError").ok K,
  (He.Fa.glo "BadSpace").ok K,
  (He.Fa.glo "BadCount").ok K]
end
def dg (x : Str) (st : Stmt) : He.DefD := ⟨(x, none), x, x, defArgs st, defBody st, defScope st, [], []⟩
def dm (m q : Str) (st : Stmt) : He.DefD := ⟨("Space", some m), m, q, defArgs st, defBody st, defScope st, [], []⟩
def de (x m q : Str) (st : Stmt) : He.DefD := ⟨(x, some m), m, q, defArgs st, defBody st, defScope st, [], []⟩
def fn : List He.DefD := [dg "is_integer" s_is_integer, dg "is_within" s_is_within, dg "lessened" s_lessened, dg "widened" s_widened, dg "reduced" s_reduced, dg "_law_pen" s_pen, dg "_law_draw" s_draw, dg "_law_pick" s_pick, dg "_law_heard" s_heard, dg "_law_added" s_added, dg "law" s_law, dm "__init__" "Space.__init__" s_init, dm "__add__" "Space.__add__" s_add, dm "__and__" "Space.__and__" s_and, dm "within" "Space.within" s_withinS, dm "older" "Space.older" s_older, dm "below" "Space.below" s_below, dm "tells" "Space.tells" s_tells, dm "rest" "Space.rest" s_rest, dm "missed" "Space.missed" s_missed, de "BadSpace" "__init__" "BadSpace.__init__" s_spI, de "BadCount" "__init__" "BadCount.__init__" s_coI]
def faA : List He.Fa := [.free "len", .free "isinstance", .free "int", .free "bool", .free "all", .free "min", .free "sum", .free "abs", .free "sorted", .free "tuple", .free "list", .free "range", .free "repr", .int "MOST_BITS" 65535, .cls "Space", .noat "Space" "rows", .mkr "Space", .glo "Space", .glo "is_integer", .glo "is_within", .glo "lessened", .glo "widened", .glo "reduced", .glo "_law_pen", .glo "_law_draw", .glo "_law_pick", .glo "_law_heard", .glo "_law_added", .glo "law", .meth "Space" "__init__", .meth "Space" "__add__", .meth "Space" "__and__", .meth "Space" "within", .meth "Space" "older", .meth "Space" "below", .meth "Space" "tells", .meth "Space" "rest", .meth "Space" "missed"]
def v_whole : He.FnW := some ("whole", "Space.whole", defArgs s_whole, .stmts (defBody s_whole), defScope s_whole, mainGlobals, [], builtinsNs)
abbrev Al : Type := He.AlD × Bool × List He.FnW
def see (K : PySem.W.Frag) : Al := (He.obsD faA fn K, (tests K).all id, [atA K (wg_whole K)])
def seen : Al := (He.valD fn, true, [v_whole])
def reach (g : Addr → Option Obj) : Nat → List Addr
  | 0 => [mainGlobals, cStatics]
  | n + 1 => He.growD g (reach g n)
def notTab (g : Addr → Option Obj) (a : Addr) : Bool := match g a with
  | some o => !(o.cls == .none && (match o.data with | .fields vs => vs.isEmpty | _ => false))
  | none => true
def look (g : Addr → Option Obj) : Al := see (He.frG g ((reach g 6).filter (notTab g)))
def hook : PySem.W.Hook where
  α := Al
  obs := fun s => look s.heap.get?
  val := fun _ => seen
  says := fun _ h => ∃ K : PySem.W.Frag, K.In h ∧ see K = seen
  of := fun _ _ e => ⟨_, He.frG_in, e⟩
  keeps := fun _ _ _ z k => z.elim fun K y => ⟨K, y.1.keeps k, y.2⟩
def ob (s : PySem.W.SharedT) : Al := look (HandSHeadRun.getT s)
theorem ob_eq (s : PySem.W.SharedT) : ob s = hook.obs s.abs := by
  have e : HandSHeadRun.getT s = s.abs.heap.get? := funext (HandSHeadRun.getT_eq s)
  unfold ob
  rw [e]
  rfl
abbrev R : PySem.W.OpenRow := PySem.W.OpenLaw.row PySem.Challenge.rw_laterepair_k03_spaces_refused
def names : List PySem.Str := "_wall" :: "MOST_BITS" :: "is_integer" :: "is_within" :: "RepairError" :: "BadSpace" :: "BadCount" :: "BadText" :: "words_of" :: "word_at" :: "ended" :: "tells_natural" :: "tells_number" :: "number_at" :: "space_rows" :: "stands_behind" :: "lessened" :: "widened" :: "reduced" :: "greatest_bit" :: "even_rows" :: "Space" :: "_law_pen" :: "_law_draw" :: "_law_pick" :: "_law_heard" :: "_law_added" :: []
theorem run (w : World) : HandSHeadRun.RunEq R (PySem.W.view R.prog [32]) hook ob 4000 names w := by
  intro os
  kernel_rfl
end Hk

set_option Elab.async false
set_option linter.all false
set_option maxRecDepth 100000
set_option maxHeartbeats 0
namespace Hk
open PySem PySem.Spec PyProof.Rows L2 Lr Ow Og Oe Oi Ox Oq LamX
section
variable {K : PySem.W.Frag} {x q : Str} {st : Stmt} {f : Addr} {fd : FuncData}
theorem toFun (F : FunD K x q (defArgs st) (defBody st) (defScope st) [] [] f fd) : L2.Fun K x q st f fd := by
  obtain ⟨oc, od, dV, kV, doc, pm, an, cdv, ct, osl, rfl, lk, hc, hD, _⟩ := F.ex
  rcases hD with ⟨_, e⟩ | ⟨e, _⟩
  · subst e
    exact ⟨⟨oc, od, kV, doc, pm, an, cdv, ct, osl, rfl, lk, hc⟩, F.kp⟩
  · exact absurd rfl e
theorem kb_of {ps ks : List Str} (F : L2.Fun K x q st f fd) (h : ∀ (kV doc pm : Value) (an : Option Addr) (cdv ct u : Value) (ws : List Value), ws.length = ks.length → bindArgs (PySem.W.fnOf x q (defArgs st) (defBody st) (defScope st) .none kV doc pm an cdv ct) ⟨[u], ks.zip ws⟩ = pure (ps.zip (u :: ws))) : KB1 K fd ps ks := by
  obtain ⟨oc, od, kV, doc, pm, an, cdv, ct, osl, rfl, lk, hc⟩ := F.ex
  exact fun s u ws _ hl => .of_eq (h kV doc pm an cdv ct u ws hl)
theorem fun_at {a : Addr} (e : atA K a = some (x, q, defArgs st, .stmts (defBody st), defScope st, mainGlobals, [], builtinsNs)) (c : okA K a q = true) (kp : PySem.W.keepIn K (.ref a) = true) : ∃ fd, L2.Fun K x q st a fd := by
  unfold atA at e
  unfold okA at c
  cases lk : K.lookup a with
  | none =>
    rw [lk] at c
    cases c
  | some o =>
    rw [lk] at e c
    obtain ⟨oc, od, dt, osl⟩ := o
    cases dt with
    | func z =>
      obtain ⟨a1, a2, a3, a4, a5, a6, a7, a8, a9, b1, b2, b3, b4, b5, b6⟩ := z
      have e' : (some (a1, a2, a3, a4, a5, a6, a7, b6) : He.FnW) = some (x, q, defArgs st, .stmts (defBody st), defScope st, mainGlobals, [], builtinsNs) := e
      have c' : (PySem.W.codeIn K b4 q && decide (a8 = Value.none)) = true := c
      obtain ⟨c1, c2⟩ := He.ba c'
      have c3 := of_decide_eq_true c2
      simp only [Option.some.injEq, Prod.mk.injEq] at e'
      obtain ⟨h1, h2, h3, h4, h5, h6, h7, h8⟩ := e'
      subst h1 h2 h3 h4 h5 h6 h7 h8 c3
      exact ⟨_, ⟨oc, od, a9, b1, b2, b3, b4, b5, osl, rfl, lk, c1⟩, kp⟩
    | _ => cases c
end
theorem all_id {l : List Bool} (h : l.all id = true) {i : Nat} {b : Bool} (e : l[i]? = some b) : b = true := List.all_eq_true.mp h b (List.mem_of_getElem? e)
theorem none_ok {K : PySem.W.Frag} {T : Value} {nm : Str} (h : none_ K T nm = true) : PySem.W.findIn K T nm = some none := by
  unfold none_ at h
  split at h
  · assumption
  · cases h
structure ErrX (K : PySem.W.Frag) (C : Addr) (f : Str) : Prop where
  ox : OexC K C
  ec : L2.ExcC K C
  xf : XfC K C
  ic : PySem.W.findIn K (.ref C) "__init__" = some (some (.ref (He.ma K C "__init__")))
  ti : PySem.W.typeIn K (.ref (He.ma K C "__init__")) = some (.type "function")
  no : PySem.W.findIn K (.ref C) f = some none
theorem oexB_ok {K : PySem.W.Frag} {C : Addr} (h : oexB K C = true) : ∃ nm q N bs bm sn sub ab col dd k0 k1 k2 k3 k5, K.lookup C = some (excClassObj nm q C N bs bm true sn sub ab col dd k0 k1 k2 k3 k5 "ValueError.__new__") ∧ PySem.HandSPX.refsVE bm = true := by
  unfold oexB at h
  split at h
  · rename_i dd cd sl ho
    split at h
    · rename_i C' bm k0 k1 k2 k3 n k5 hm hs
      simp only [Bool.and_eq_true, beq_iff_eq, Bool.not_eq_true'] at h
      obtain ⟨rfl, hr, rfl, hd1, hd2⟩ := h
      obtain ⟨nm, bs, mro, ns, qn, hd, sn, sub, ab, col, del⟩ := cd
      dsimp only at hm hd1 hd2
      subst hm hd1 hd2
      have hsl : sl = #[k0, k1, k2, k3, some (.builtin "ValueError.__new__"), k5] := by
        obtain ⟨l⟩ := sl
        simp only at hs
        rw [hs]
      subst hsl
      exact ⟨nm, qn, ns, bs, bm, sn, sub, ab, col, dd, k0, k1, k2, k3, k5, ho, hr⟩
    · cases h
  · cases h
theorem errB_ok {K : PySem.W.Frag} {C : Addr} {f : Str} (h : errB K C f = true) : ErrX K C f := by
  obtain ⟨h1, h⟩ := He.ba h
  obtain ⟨h2, h⟩ := He.ba h
  obtain ⟨h3, h⟩ := He.ba h
  obtain ⟨h4, h⟩ := He.ba h
  obtain ⟨h5, h⟩ := He.ba h
  obtain ⟨h6, h⟩ := He.ba h
  obtain ⟨h7, h⟩ := He.ba h
  obtain ⟨h8, h⟩ := He.ba h
  obtain ⟨h9, h⟩ := He.ba h
  obtain ⟨h10, h⟩ := He.ba h
  obtain ⟨h11, h⟩ := He.ba h
  obtain ⟨h12, h13⟩ := He.ba h
  have xf := xfB_ok h6
  exact ⟨⟨oexB_ok h1, He.eqO_ok h2, of_decide_eq_true h3, of_decide_eq_true h4, h5⟩, ⟨xf.ga, xf.gg, of_decide_eq_true h3, xf.hdC, He.eqO_ok h7, He.eqO_ok h8, of_decide_eq_true h9, of_decide_eq_true h10⟩, xf, He.eqO_ok h11, of_decide_eq_true h12, none_ok h13⟩
theorem rt_ok {K : PySem.W.Frag} (h : (["NoneType", "int", "bool", "str", "tuple", "list", "dict"].all fun T => rtB K T) = true) : ∀ T ∈ ["NoneType", "int", "bool", "str", "tuple", "list", "dict"], RtX K (sp K) "add" T ∧ RtX K (sp K) "and" T ∧ PySem.W.kitOne K (.type T) (.ref (sp K)) = some false := fun T hT => by
  obtain ⟨h1, h2⟩ := He.ba (List.all_eq_true.mp h T hT)
  obtain ⟨h2, h3⟩ := He.ba h2
  obtain ⟨h3, h4⟩ := He.ba h3
  obtain ⟨h4, h5⟩ := He.ba h4
  obtain ⟨h5, h6⟩ := He.ba h5
  exact ⟨⟨Option.isSome_iff_exists.mp h1, Option.isSome_iff_exists.mp h2, of_decide_eq_true h5⟩, ⟨Option.isSome_iff_exists.mp h3, Option.isSome_iff_exists.mp h4, of_decide_eq_true h5⟩, of_decide_eq_true h6⟩
theorem tabB_ok {K : PySem.W.Frag} {h : Heap} {fd : FuncData} {c P : Addr} {oc : Value} {od : Option Addr} {sl : Array (Option Value)} (X : K.In h) (t : tabB K = true) (lk : K.lookup (He.ga K "law") = some ⟨oc, od, .func fd, sl⟩) (hc : fd.code = .ref c) (C : PySem.W.CodeHd h c P) : K.lookup P = none := by
  unfold tabB at t
  rw [lk] at t
  dsimp only at t
  rw [hc] at t
  dsimp only at t
  split at t
  · rename_i vs _ ho
    obtain ⟨o, us, _, _, _, _, _, _, _, e1, _, e2, e3, _⟩ := C
    rw [X _ _ ho] at e1
    cases e1
    cases e2
    rw [e3] at t
    exact Option.isNone_iff_eq_none.mp t
  · cases t
theorem kb0_of {K : PySem.W.Frag} {x q : Str} {st : Stmt} {f : Addr} {fd : FuncData} {ps ks : List Str} (F : L2.Fun K x q st f fd) (h : ∀ (kV doc pm : Value) (an : Option Addr) (cdv ct : Value) (ws : List Value), ws.length = ks.length → bindArgs (PySem.W.fnOf x q (defArgs st) (defBody st) (defScope st) .none kV doc pm an cdv ct) ⟨[], ks.zip ws⟩ = pure (ps.zip ws)) : KB0 K fd ps ks := by
  obtain ⟨oc, od, kV, doc, pm, an, cdv, ct, osl, rfl, lk, hc⟩ := F.ex
  exact fun s ws _ hl => .of_eq (h kV doc pm an cdv ct ws hl)
theorem facts {P : Program} {w : World} {K : PySem.W.Frag} {h : Heap} {mg : Str → Option Value} {f : Addr} (X : K.In h) (G : h.Ns mainGlobals mg) (hfa : mg ("law" : Str) = some (.ref f)) (c : see K = seen) :
    ∃ fd : FuncData, (∀ (s : Shared) (v : Value), BindsTo s fd ⟨[v], []⟩ [("_law_script", v)]) ∧ (∃ oc od sl, K.lookup (He.ga K "law") = some ⟨oc, od, .func fd, sl⟩) ∧ f = He.ga K "law" ∧ tabB K = true ∧ ∀ (cc Pt : Addr), fd.code = .ref cc → ∀ base : Heap, K.In base → base.Ns mainGlobals mg → TabB base mg cc Pt → Og.FnG P w K mg base CX0 9 f fd ["_law_script"] (spLaw K Pt) := by
  have cD : He.SaysD faA fn K := congrArg (fun z : Al => z.1) c
  have cT : (tests K).all id = true := congrArg (fun z : Al => z.2.1) c
  have cA : [atA K (wg_whole K)] = [v_whole] := congrArg (fun z : Al => z.2.2) c
  have t : ∀ i {b}, (tests K)[i]? = some b → b = true := fun i b e => all_id cT e
  obtain ⟨fd_is_integer, D_is_integer⟩ := cD.def_ 0 (d := dg "is_integer" s_is_integer) rfl
  have F_is_integer : L2.Fun K "is_integer" "is_integer" s_is_integer (He.ga K "is_integer") fd_is_integer := toFun D_is_integer
  have b_is_integer : Binds K fd_is_integer ["value"] [] := F_is_integer.binds fun _ _ _ _ _ _ us hl => match us, hl with | [_], _ => rfl
  obtain ⟨fd_is_within, D_is_within⟩ := cD.def_ 1 (d := dg "is_within" s_is_within) rfl
  have F_is_within : L2.Fun K "is_within" "is_within" s_is_within (He.ga K "is_within") fd_is_within := toFun D_is_within
  have b_is_within : Binds K fd_is_within ["value", "least", "most"] [] := F_is_within.binds fun _ _ _ _ _ _ us hl => match us, hl with | [_, _, _], _ => rfl
  obtain ⟨fd_lessened, D_lessened⟩ := cD.def_ 2 (d := dg "lessened" s_lessened) rfl
  have F_lessened : L2.Fun K "lessened" "lessened" s_lessened (He.ga K "lessened") fd_lessened := toFun D_lessened
  have b_lessened : Binds K fd_lessened ["bits", "rows"] [] := F_lessened.binds fun _ _ _ _ _ _ us hl => match us, hl with | [_, _], _ => rfl
  obtain ⟨fd_widened, D_widened⟩ := cD.def_ 3 (d := dg "widened" s_widened) rfl
  have F_widened : L2.Fun K "widened" "widened" s_widened (He.ga K "widened") fd_widened := toFun D_widened
  have b_widened : Binds K fd_widened ["rows", "added"] [] := F_widened.binds fun _ _ _ _ _ _ us hl => match us, hl with | [_, _], _ => rfl
  obtain ⟨fd_reduced, D_reduced⟩ := cD.def_ 4 (d := dg "reduced" s_reduced) rfl
  have F_reduced : L2.Fun K "reduced" "reduced" s_reduced (He.ga K "reduced") fd_reduced := toFun D_reduced
  have b_reduced : Binds K fd_reduced ["rows"] [] := F_reduced.binds fun _ _ _ _ _ _ us hl => match us, hl with | [_], _ => rfl
  obtain ⟨fd_pen, D_pen⟩ := cD.def_ 5 (d := dg "_law_pen" s_pen) rfl
  have F_pen : L2.Fun K "_law_pen" "_law_pen" s_pen (He.ga K "_law_pen") fd_pen := toFun D_pen
  have b_pen : Binds K fd_pen ["_law_script"] [] := F_pen.binds fun _ _ _ _ _ _ us hl => match us, hl with | [_], _ => rfl
  obtain ⟨fd_draw, D_draw⟩ := cD.def_ 6 (d := dg "_law_draw" s_draw) rfl
  have F_draw : L2.Fun K "_law_draw" "_law_draw" s_draw (He.ga K "_law_draw") fd_draw := toFun D_draw
  have b_draw : Binds K fd_draw ["_law_pen_here", "_law_many"] [] := F_draw.binds fun _ _ _ _ _ _ us hl => match us, hl with | [_, _], _ => rfl
  obtain ⟨fd_pick, D_pick⟩ := cD.def_ 7 (d := dg "_law_pick" s_pick) rfl
  have F_pick : L2.Fun K "_law_pick" "_law_pick" s_pick (He.ga K "_law_pick") fd_pick := toFun D_pick
  have b_pick : Binds K fd_pick ["_law_pen_here", "_law_some"] [] := F_pick.binds fun _ _ _ _ _ _ us hl => match us, hl with | [_, _], _ => rfl
  obtain ⟨fd_heard, D_heard⟩ := cD.def_ 8 (d := dg "_law_heard" s_heard) rfl
  have F_heard : L2.Fun K "_law_heard" "_law_heard" s_heard (He.ga K "_law_heard") fd_heard := toFun D_heard
  have b_heard : Binds K fd_heard ["_law_ask"] [] := F_heard.binds fun _ _ _ _ _ _ us hl => match us, hl with | [_], _ => rfl
  obtain ⟨fd_added, D_added⟩ := cD.def_ 9 (d := dg "_law_added" s_added) rfl
  have F_added : L2.Fun K "_law_added" "_law_added" s_added (He.ga K "_law_added") fd_added := toFun D_added
  have b_added : Binds K fd_added ["_law_one", "_law_other", "_law_held"] [] := F_added.binds fun _ _ _ _ _ _ us hl => match us, hl with | [_, _, _], _ => rfl
  obtain ⟨fd_law, D_law⟩ := cD.def_ 10 (d := dg "law" s_law) rfl
  have F_law : L2.Fun K "law" "law" s_law (He.ga K "law") fd_law := toFun D_law
  obtain ⟨fd_init, D_init⟩ := cD.def_ 11 (d := dm "__init__" "Space.__init__" s_init) rfl
  have F_init : L2.Fun K "__init__" "Space.__init__" s_init (He.ma K (sp K) "__init__") fd_init := toFun D_init
  obtain ⟨fd_add, D_add⟩ := cD.def_ 12 (d := dm "__add__" "Space.__add__" s_add) rfl
  have F_add : L2.Fun K "__add__" "Space.__add__" s_add (He.ma K (sp K) "__add__") fd_add := toFun D_add
  have b_add : Binds K fd_add ["self", "other"] [] := F_add.binds fun _ _ _ _ _ _ us hl => match us, hl with | [_, _], _ => rfl
  obtain ⟨fd_and, D_and⟩ := cD.def_ 13 (d := dm "__and__" "Space.__and__" s_and) rfl
  have F_and : L2.Fun K "__and__" "Space.__and__" s_and (He.ma K (sp K) "__and__") fd_and := toFun D_and
  have b_and : Binds K fd_and ["self", "other"] [] := F_and.binds fun _ _ _ _ _ _ us hl => match us, hl with | [_, _], _ => rfl
  obtain ⟨fd_withinS, D_withinS⟩ := cD.def_ 14 (d := dm "within" "Space.within" s_withinS) rfl
  have F_withinS : L2.Fun K "within" "Space.within" s_withinS (He.ma K (sp K) "within") fd_withinS := toFun D_withinS
  have b_withinS : Binds K fd_withinS ["self", "other"] [] := F_withinS.binds fun _ _ _ _ _ _ us hl => match us, hl with | [_, _], _ => rfl
  obtain ⟨fd_older, D_older⟩ := cD.def_ 15 (d := dm "older" "Space.older" s_older) rfl
  have F_older : L2.Fun K "older" "Space.older" s_older (He.ma K (sp K) "older") fd_older := toFun D_older
  have b_older : Binds K fd_older ["self"] [] := F_older.binds fun _ _ _ _ _ _ us hl => match us, hl with | [_], _ => rfl
  obtain ⟨fd_below, D_below⟩ := cD.def_ 16 (d := dm "below" "Space.below" s_below) rfl
  have F_below : L2.Fun K "below" "Space.below" s_below (He.ma K (sp K) "below") fd_below := toFun D_below
  have b_below : Binds K fd_below ["self", "many"] [] := F_below.binds fun _ _ _ _ _ _ us hl => match us, hl with | [_, _], _ => rfl
  obtain ⟨fd_tells, D_tells⟩ := cD.def_ 17 (d := dm "tells" "Space.tells" s_tells) rfl
  have F_tells : L2.Fun K "tells" "Space.tells" s_tells (He.ma K (sp K) "tells") fd_tells := toFun D_tells
  have b_tells : Binds K fd_tells ["self", "age"] [] := F_tells.binds fun _ _ _ _ _ _ us hl => match us, hl with | [_, _], _ => rfl
  obtain ⟨fd_rest, D_rest⟩ := cD.def_ 18 (d := dm "rest" "Space.rest" s_rest) rfl
  have F_rest : L2.Fun K "rest" "Space.rest" s_rest (He.ma K (sp K) "rest") fd_rest := toFun D_rest
  have b_rest : Binds K fd_rest ["self", "bits"] [] := F_rest.binds fun _ _ _ _ _ _ us hl => match us, hl with | [_, _], _ => rfl
  obtain ⟨fd_missed, D_missed⟩ := cD.def_ 19 (d := dm "missed" "Space.missed" s_missed) rfl
  have F_missed : L2.Fun K "missed" "Space.missed" s_missed (He.ma K (sp K) "missed") fd_missed := toFun D_missed
  have b_missed : Binds K fd_missed ["self", "age"] [] := F_missed.binds fun _ _ _ _ _ _ us hl => match us, hl with | [_, _], _ => rfl
  obtain ⟨fd_spI, D_spI⟩ := cD.def_ 20 (d := de "BadSpace" "__init__" "BadSpace.__init__" s_spI) rfl
  have F_spI : L2.Fun K "__init__" "BadSpace.__init__" s_spI (He.ma K (He.ga K "BadSpace") "__init__") fd_spI := toFun D_spI
  have b_spI : Binds K fd_spI ["self", "part"] [] := F_spI.binds fun _ _ _ _ _ _ us hl => match us, hl with | [_, _], _ => rfl
  obtain ⟨fd_coI, D_coI⟩ := cD.def_ 21 (d := de "BadCount" "__init__" "BadCount.__init__" s_coI) rfl
  have F_coI : L2.Fun K "__init__" "BadCount.__init__" s_coI (He.ma K (He.ga K "BadCount") "__init__") fd_coI := toFun D_coI
  have b_coI : Binds K fd_coI ["self", "value"] [] := F_coI.binds fun _ _ _ _ _ _ us hl => match us, hl with | [_, _], _ => rfl
  have e_whole : atA K (wg_whole K) = v_whole := by
    have := congrArg (fun l : List He.FnW => l[0]?) cA
    exact Option.some.inj this
  obtain ⟨fd_whole, F_whole⟩ := fun_at (st := s_whole) e_whole (t 13 rfl) (t 12 rfl)
  have b_whole : Binds K fd_whole ["many"] [] := F_whole.binds fun _ _ _ _ _ _ us hl => match us, hl with | [_], _ => rfl
  have k_whole : KB0 K fd_whole ["many"] ["many"] := kb0_of F_whole fun _ _ _ _ _ _ ws hl => match ws, hl with | [_], _ => rfl
  have k_withinS : KB1 K fd_withinS ["self", "other"] ["other"] := kb_of F_withinS fun _ _ _ _ _ _ _ ws hl => match ws, hl with | [_], _ => rfl
  have k_tells : KB1 K fd_tells ["self", "age"] ["age"] := kb_of F_tells fun _ _ _ _ _ _ _ ws hl => match ws, hl with | [_], _ => rfl
  have g_is_integer := He.glo_ok X G (cD.fact 18 (f := .glo "is_integer") rfl)
  have g_is_within := He.glo_ok X G (cD.fact 19 (f := .glo "is_within") rfl)
  have g_lessened := He.glo_ok X G (cD.fact 20 (f := .glo "lessened") rfl)
  have g_widened := He.glo_ok X G (cD.fact 21 (f := .glo "widened") rfl)
  have g_reduced := He.glo_ok X G (cD.fact 22 (f := .glo "reduced") rfl)
  have g_pen := He.glo_ok X G (cD.fact 23 (f := .glo "_law_pen") rfl)
  have g_draw := He.glo_ok X G (cD.fact 24 (f := .glo "_law_draw") rfl)
  have g_pick := He.glo_ok X G (cD.fact 25 (f := .glo "_law_pick") rfl)
  have g_heard := He.glo_ok X G (cD.fact 26 (f := .glo "_law_heard") rfl)
  have g_added := He.glo_ok X G (cD.fact 27 (f := .glo "_law_added") rfl)
  have g_law := He.glo_ok X G (cD.fact 28 (f := .glo "law") rfl)
  have m_init : Meth K (sp K) "__init__" (He.ma K (sp K) "__init__") := He.meth_ok (cD.fact 29 (f := .meth "Space" "__init__") rfl)
  have m_add : Meth K (sp K) "__add__" (He.ma K (sp K) "__add__") := He.meth_ok (cD.fact 30 (f := .meth "Space" "__add__") rfl)
  have m_and : Meth K (sp K) "__and__" (He.ma K (sp K) "__and__") := He.meth_ok (cD.fact 31 (f := .meth "Space" "__and__") rfl)
  have m_withinS : Meth K (sp K) "within" (He.ma K (sp K) "within") := He.meth_ok (cD.fact 32 (f := .meth "Space" "within") rfl)
  have m_older : Meth K (sp K) "older" (He.ma K (sp K) "older") := He.meth_ok (cD.fact 33 (f := .meth "Space" "older") rfl)
  have m_below : Meth K (sp K) "below" (He.ma K (sp K) "below") := He.meth_ok (cD.fact 34 (f := .meth "Space" "below") rfl)
  have m_tells : Meth K (sp K) "tells" (He.ma K (sp K) "tells") := He.meth_ok (cD.fact 35 (f := .meth "Space" "tells") rfl)
  have m_rest : Meth K (sp K) "rest" (He.ma K (sp K) "rest") := He.meth_ok (cD.fact 36 (f := .meth "Space" "rest") rfl)
  have m_missed : Meth K (sp K) "missed" (He.ma K (sp K) "missed") := He.meth_ok (cD.fact 37 (f := .meth "Space" "missed") rfl)
  have fr_len := He.free_ok X G (cD.fact 0 (f := .free "len") rfl)
  have fr_isinstance := He.free_ok X G (cD.fact 1 (f := .free "isinstance") rfl)
  have fr_int := He.free_ok X G (cD.fact 2 (f := .free "int") rfl)
  have fr_bool := He.free_ok X G (cD.fact 3 (f := .free "bool") rfl)
  have fr_all := He.free_ok X G (cD.fact 4 (f := .free "all") rfl)
  have fr_min := He.free_ok X G (cD.fact 5 (f := .free "min") rfl)
  have fr_sum := He.free_ok X G (cD.fact 6 (f := .free "sum") rfl)
  have fr_abs := He.free_ok X G (cD.fact 7 (f := .free "abs") rfl)
  have fr_sorted := He.free_ok X G (cD.fact 8 (f := .free "sorted") rfl)
  have fr_tuple := He.free_ok X G (cD.fact 9 (f := .free "tuple") rfl)
  have fr_list := He.free_ok X G (cD.fact 10 (f := .free "list") rfl)
  have fr_range := He.free_ok X G (cD.fact 11 (f := .free "range") rfl)
  have fr_repr := He.free_ok X G (cD.fact 12 (f := .free "repr") rfl)
  have T : Nm mg := ⟨fr_len, fr_isinstance, fr_int, fr_bool, fr_all, fr_min, fr_sum, fr_abs, fr_sorted, fr_tuple, fr_list, fr_range, He.int_ok X G (cD.fact 13 (f := .int "MOST_BITS" 65535) rfl)⟩
  have rd : ClX.CRead K (sp K) (.type "type") := ⟨t 6 rfl, He.eqO_ok (t 7 rfl)⟩
  have S : Cs K mg (sp K) := ⟨He.cls_ok (cD.fact 14 (f := .cls "Space") rfl), He.noat_ok (cD.fact 15 (f := .noat "Space" "rows") rfl), He.glo_ok X G (cD.fact 17 (f := .glo "Space") rfl), He.eqO_ok (t 0 rfl), He.eqO_ok (t 1 rfl), of_decide_eq_true (t 2 rfl), of_decide_eq_true (t 3 rfl), of_decide_eq_true (t 4 rfl), t 5 rfl⟩
  have hm : most K = true := t 8 rfl
  have M : Ms K (sp K) := by
    unfold most at hm
    split at hm
    · rename_i i tk e
      have := of_decide_eq_true hm
      subst this
      exact ⟨_, _, rd, ⟨e, ⟨_, rfl⟩⟩⟩
    · cases hm
  have W_whole : ∃ mc p, ClX.CRead K (sp K) mc ∧ SMet K (sp K) mc "whole" p (wg_whole K) := by
    have h1 : isSm K (wp_whole K) "whole" = true := t 10 rfl
    have h2 : recd K (wp_whole K) "staticmethod" = true := t 11 rfl
    refine ⟨.type "type", wp_whole K, rd, ⟨?_, ?_, t 12 rfl⟩⟩
    · unfold isSm at h1
      split at h1
      · rename_i g1 a1 o1 t1 e
        have := of_decide_eq_true h1
        simp only [List.cons.injEq, and_true] at this
        obtain ⟨r1, r2, r3, r4⟩ := this
        subst r1 r2 r3 r4
        exact e
      · cases h1
    · unfold recd at h2
      unfold wg_whole
      split at h2
      · rename_i g1 r1 e
        rw [e]
        exact ⟨_, rfl⟩
      · cases h2
  have up : ∃ cd, PySem.W.clsIn K (sp K) = some cd ∧ cd.mro = [.ref (sp K), .type "object"] := by
    have h1 : upto K = true := t 14 rfl
    unfold upto at h1
    split at h1
    · rename_i cd e
      exact ⟨cd, e, of_decide_eq_true h1⟩
    · cases h1
  have N__iadd__ : Oi.NoIn K (sp K) "__iadd__" := ⟨up, none_ok (t 15 rfl), none_ok (t 16 rfl)⟩
  have MM : Mk K (sp K) (He.ma K (sp K) "__init__") := He.mkr_ok (cD.fact 16 (f := .mkr "Space") rfl)
  have e := hfa.symm.trans g_law
  cases e
  refine ⟨fd_law, fun s v => ?_, ?_, rfl, t 28 rfl, fun cc Pt hcc base _ _ TB => ?_⟩
  · obtain ⟨oc, od, kV, doc, pm, an, cdv, ct, osl, rfl, lk, hc⟩ := F_law.ex
    exact .of_eq rfl
  · obtain ⟨oc, od, kV, doc, pm, an, cdv, ct, osl, rfl, lk, hc⟩ := F_law.ex
    exact ⟨_, _, _, lk⟩
  · have GI : FnR P w K mg base CX0 4 (He.ma K (sp K) "__init__") (spInitS (sp K)) := ok_init F_init F_is_within b_is_within g_is_within F_is_integer b_is_integer g_is_integer F_reduced b_reduced g_reduced F_lessened b_lessened g_lessened F_widened b_widened g_widened T S
    have EE : ErrX K (He.ga K "BadSpace") "part" := errB_ok (t 23 rfl)
    have EC : ErrX K (He.ga K "BadCount") "value" := errB_ok (t 24 rfl)
    have gR := He.glo_ok X G (t 29 rfl)
    have gS := He.glo_ok X G (t 30 rfl)
    have gC := He.glo_ok X G (t 31 rfl)
    have R : Errs K mg (He.ga K "RepairError") (He.ga K "BadSpace") (He.ga K "BadCount") := ⟨gR, gS, gC, of_decide_eq_true (t 21 rfl), of_decide_eq_true (t 22 rfl), EE.ec, EC.ec, EE.xf, EC.xf, of_decide_eq_true (t 25 rfl), of_decide_eq_true (t 26 rfl), of_decide_eq_true (t 27 rfl), EE.no, EC.no⟩
    have RS : ErrC K mg "BadSpace" (He.ga K "BadSpace") (He.ma K (He.ga K "BadSpace") "__init__") "part" := ⟨EE.ox, EE.ic, EE.ti, gS, EE.no⟩
    have RC : ErrC K mg "BadCount" (He.ga K "BadCount") (He.ma K (He.ga K "BadCount") "__init__") "value" := ⟨EC.ox, EC.ic, EC.ti, gC, EC.no⟩
    have FS : FnOk P w K mg base CX0 1 _ fd_spI ["self", "part"] (spErr K "part") := ok_spI F_spI
    have FC : FnOk P w K mg base CX0 1 _ fd_coI ["self", "value"] (spErr K "value") := ok_coI F_coI
    have ra := none_ok (t 18 rfl)
    have rn := none_ok (t 19 rfl)
    have GAX : FnR P w K mg base (L2.CX P w) 3 (He.ma K (sp K) "__add__") (spNoS K (sp K) (He.ga K "BadSpace")) := fnR_of (ok_addX F_add FS b_spI RS T S) b_add
    have GNX : FnR P w K mg base (L2.CX P w) 3 (He.ma K (sp K) "__and__") (spNoS K (sp K) (He.ga K "BadSpace")) := fnR_of (ok_andX F_and FS b_spI RS T S) b_and
    have GX : FnR P w K mg base (L2.CX P w) 3 (He.ma K (sp K) "__init__") (spInitX K (He.ga K "BadSpace")) := ok_initX F_init F_is_within b_is_within g_is_within F_is_integer b_is_integer g_is_integer FS b_spI RS T
    have O : Ops3 P w K mg base (sp K) (He.ma K (sp K) "__add__") (He.ma K (sp K) "__and__") := ⟨m_add.at_, m_add.fn, fnR_of (ok_add F_add GI MM T S) b_add, m_and.at_, m_and.fn⟩
    have W : Ws K (sp K) (wg_whole K) := ⟨W_whole⟩
    have GH : FnR P w K mg base CX0 6 (wg_whole K) (spWhole (sp K)) := fnR_of (ok_whole F_whole GI MM F_is_within b_is_within g_is_within F_is_integer b_is_integer g_is_integer T S M) b_whole
    have GHK : FnOk P w K mg base (L2.CX P w) 3 (wg_whole K) fd_whole ["many"] (spNoM K (He.ga K "BadCount")) := ok_wholeX F_whole F_is_within b_is_within g_is_within F_is_integer b_is_integer g_is_integer FC b_coI RC T S M
    have GB : FnOk P w K mg base CX0 6 (He.ma K (sp K) "below") fd_below ["self", "many"] (spBelow (sp K)) := ok_below F_below GI MM F_is_within b_is_within g_is_within F_is_integer b_is_integer g_is_integer T S M
    have GO : FnOk P w K mg base CX0 6 (He.ma K (sp K) "older") fd_older ["self"] (spOlder (sp K)) := ok_older F_older GI MM T S
    have GT : FnOk P w K mg base CX0 3 (He.ma K (sp K) "tells") fd_tells ["self", "age"] (spTellsV K (sp K)) := ok_tellsV F_tells F_is_within b_is_within g_is_within F_is_integer b_is_integer g_is_integer T S M
    have GD : FnOk P w K mg base CX0 1 (He.ga K "_law_draw") fd_draw ["_law_pen_here", "_law_many"] spDraw := ok_draw F_draw T
    exact ok_law (fE := 0) F_law hcc TB O (ok_pen F_pen T) ⟨g_pen, F_pen.kp, b_pen⟩ GD ⟨g_draw, F_draw.kp, b_draw⟩ (ok_pickV F_pick F_draw b_draw g_draw T) ⟨g_pick, F_pick.kp, b_pick⟩ F_heard b_heard g_heard R fr_repr GX GI MM GAX ra (.inl rfl) GNX rn (.inl rfl) (ok_withinX F_withinS FS b_spI RS T S) ⟨m_withinS, b_withinS⟩ k_withinS (ok_addedX F_added GAX N__iadd__ S m_add.at_ m_add.fn ra (.inl rfl)) ⟨g_added, F_added.kp, b_added⟩ (ok_restX F_rest F_is_within b_is_within g_is_within F_is_integer b_is_integer g_is_integer FS b_spI RS T) ⟨m_rest, b_rest⟩ (ok_belowX F_below F_is_within b_is_within g_is_within F_is_integer b_is_integer g_is_integer FC b_coI RC T S M) GB ⟨m_below, b_below⟩ (ok_missedX F_missed F_is_within b_is_within g_is_within F_is_integer b_is_integer g_is_integer FC b_coI RC T S M) ⟨m_missed, b_missed⟩ (ok_olderX F_older GX MM T S) GO ⟨m_older, b_older⟩ GT ⟨m_tells, b_tells⟩ k_tells (fnR_of GHK b_whole) GHK k_whole GH W (rt_ok (t 20 rfl)) (of_decide_eq_true (t 17 rfl)) T S
end Hk
open PySem PySem.W PySem.Calls PyProof.Rows
theorem PySem.Challenge.cw_laterepair_k03_spaces_refused_holds : PySem.Challenge.rw_laterepair_k03_spaces_refused.Holds := by
  w_on; o_law
  refine HandSHeadRun.head_any (r := Hk.R) (q := view Hk.R.prog [32]) (H := Hk.hook) (ob := Hk.ob) (M := 4000) (loose := Hk.names) (d := HandSHeadRun.topDef Hk.R.prog 32) (kwd := []) Hk.ob_eq
    (by kernel_rfl) (fun s => by kernel_rfl) Hk.run (by kernel_rfl) (by kernel_rfl) (by kernel_rfl) (by rfl) (by first | assumption | decide +kernel) (by decide +kernel) ⟨rfl, rfl, rfl, rfl, rfl, by decide +kernel⟩ ?hw ?hc
  case hw => w_witness2
  case hc =>
    refine Oq.walk_endT (l := PySem.Challenge.rw_laterepair_k03_spaces_refused) (n := 63) (k := 9) (x := "_law_script") (CX := fun _ => L2.CX0) rfl (by decide) (by kernel_rfl) ⟨rfl, by decide, by decide⟩ ?F (fun _ _ _ _ _ z => z)
    intro w mg fa h Y TT G hmg0
    obtain ⟨K, KX, c⟩ := Y
    have dn : (HandSHeadRun.topDef Hk.R.prog 32).name = ("law" : PySem.Str) := by kernel_rfl
    have hmg : mg ("law" : PySem.Str) = some (.ref fa) := by
      rw [← dn]
      exact hmg0
    obtain ⟨fd, hb, ⟨oc, od, sl, lk⟩, ef, tb, hF⟩ := Hk.facts (P := (PySem.Challenge.rw_laterepair_k03_spaces_refused).prog) (w := w) KX G hmg c
    subst ef
    obtain ⟨o, fd2, c2, P2, h1, h2, h3, h4, h5⟩ := TT "law" _ (by kernel_rfl) hmg
    have e1 := KX _ _ lk
    rw [h1] at e1
    cases e1
    cases h2
    exact ⟨K, fd, [(c2, P2)], Lr.spLaw K P2, KX, fun p hp => by rw [List.mem_singleton.mp hp]; exact h5, fun p hp => by rw [List.mem_singleton.mp hp]; exact Hk.tabB_ok KX tb lk h3 h4, fun p hp => by rw [List.mem_singleton.mp hp]; exact h4, hb, fun H a ns hl hT hS => ⟨a, ns, rfl, hS, hl, hT (c2, P2) List.mem_cons_self, fun _ => rfl⟩, fun base b1 b2 b3 => hF c2 P2 h3 base b1 b2 (b3 (c2, P2) List.mem_cons_self)⟩
#print axioms PySem.Challenge.cw_laterepair_k03_spaces_refused_holds

