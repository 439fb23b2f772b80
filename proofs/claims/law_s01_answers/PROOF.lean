import PyProof.Rows.All
import Wide.All
import OpenK.AllK
import Wide.FinOn
import Open.SpecLaws
import KE.OsGo
import KE.KDictKeyed
import HandS.ForSpec
import HandS.Comp
import HandS.Dict
import HandS.TupAny
import HandS.Zip
import HandS.Evl
import PySem.Challenge.RW_lasttricksdesk_s01_answers
set_option Elab.async false
set_option linter.all false
set_option maxRecDepth 100000
set_option maxHeartbeats 4000000
/-! The mathematics of positions: values, lines. No library. -/
namespace Lm
open Vbbraf

/-! ### small things about lists -/
theorem getD_getElem? {α : Type} (l : List α) (i : Nat) (d : α) : l.getD i d = (l[i]?).getD d := by
  simp [List.getD]

theorem setAt_len (l : List (List Nat)) (s : Nat) (h : List Nat) : (setAt l s h).length = l.length := by
  simp [setAt]
theorem setAt_get (l : List (List Nat)) (s i : Nat) (h : List Nat) : (setAt l s h)[i]? = (l[i]?).map fun x => if i = s then h else x := by
  unfold setAt
  rw [List.getElem?_map, List.getElem?_zipIdx]
  cases l[i]? with
  | none => rfl
  | some x => simp
theorem setAt_set (l : List (List Nat)) (s : Nat) (h : List Nat) : setAt l s h = l.set s h := by
  apply List.ext_getElem?
  intro i
  rw [setAt_get, List.getElem?_set]
  by_cases e : s = i
  · subst e
    rw [if_pos rfl]
    cases q : l[s]? with
    | none =>
      have : ¬ s < l.length := by
        intro hl
        rw [List.getElem?_eq_getElem hl] at q
        cases q
      rw [if_neg this]
      rfl
    | some x =>
      have : s < l.length := (List.getElem?_eq_some_iff.mp q).1
      rw [if_pos this]
      simp
  · rw [if_neg e]
    cases q : l[i]? with
    | none => rfl
    | some x => simp; intro e2; exact absurd e2.symm e

theorem total_eq (l : List Nat) : total l = l.sum := by
  have gen : ∀ (l : List Nat) (a : Nat), l.foldl (fun a b => a + b) a = a + l.sum := by
    intro l
    induction l with
    | nil => intro a; simp
    | cons x r ih => intro a; rw [List.foldl_cons, ih, List.sum_cons]; omega
  unfold total
  rw [gen]
  omega

theorem without_len {c : Nat} : ∀ {l : List Nat}, l.Nodup → c ∈ l → (without c l).length + 1 = l.length
  | [], _, h => by cases h
  | d :: r, hn, h => by
    rw [List.nodup_cons] at hn
    by_cases e : d = c
    · subst e
      have : without d (d :: r) = r := by
        unfold without
        rw [List.filter_cons]
        simp
        intro a ha e
        subst e
        exact hn.1 ha
      rw [this]
      rfl
    · have hc : c ∈ r := by
        rcases List.mem_cons.mp h with h | h
        · exact absurd h.symm e
        · exact h
      have ih := without_len hn.2 hc
      have : without c (d :: r) = d :: without c r := by
        unfold without
        rw [List.filter_cons]
        simp [e]
      rw [this, List.length_cons, List.length_cons, ih]
theorem without_nodup {c : Nat} {l : List Nat} (h : l.Nodup) : (without c l).Nodup := List.Sublist.nodup List.filter_sublist h

/-! ### a good position -/
def hasPlayed (p : Pos) (s : Nat) : Nat := if (s + 4 - p.leader) % 4 < p.trick.length then 1 else 0
structure Good (p : Pos) : Prop where
  len : p.hands.length = 4
  nd : ∀ h ∈ p.hands, h.Nodup
  tl : p.leader < 4
  tr : p.trick.length < 4
  sz : ∃ n, ∀ s, s < 4 → (handOf p s).length + hasPlayed p s = n

theorem hands4 {p : Pos} (h : p.hands.length = 4) : p.hands = [handOf p 0, handOf p 1, handOf p 2, handOf p 3] := by
  obtain ⟨hands, tru, lead, tri⟩ := p
  match hands, h with
  | [a, b, c, d], _ => rfl
theorem held_eq {p : Pos} (h : p.hands.length = 4) : held p = (handOf p 0).length + (handOf p 1).length + (handOf p 2).length + (handOf p 3).length := by
  unfold held
  rw [hands4 h, total_eq]
  simp [handOf]
  omega
theorem turn_lt (p : Pos) : turnOf p < 4 := Nat.mod_lt _ (by decide)
theorem handOf_mem {p : Pos} (h : p.hands.length = 4) {s : Nat} (hs : s < 4) : handOf p s ∈ p.hands := by
  have hl : s < p.hands.length := by omega
  have e : handOf p s = p.hands[s] := by
    unfold handOf
    rw [getD_getElem?, List.getElem?_eq_getElem hl]
    rfl
  rw [e]
  exact List.getElem_mem hl
theorem Good.hnd {p : Pos} (g : Good p) {s : Nat} (hs : s < 4) : (handOf p s).Nodup := g.nd _ (handOf_mem g.len hs)

theorem legal_sub {p : Pos} {c : Nat} (h : c ∈ legal p) : c ∈ handOf p (turnOf p) := by
  unfold legal at h
  cases q : p.trick with
  | nil => rw [q] at h; exact h
  | cons d r =>
    rw [q] at h
    simp only at h
    split at h
    · exact h
    · exact (List.mem_filter.mp h).1
theorem legal_nil {p : Pos} (h : legal p = []) : handOf p (turnOf p) = [] := by
  unfold legal at h
  cases q : p.trick with
  | nil => rw [q] at h; exact h
  | cons d r =>
    rw [q] at h
    simp only at h
    split at h
    · exact h
    · rename_i h1
      rw [h] at h1
      exact absurd rfl h1
theorem legal_of_nil {p : Pos} (h : handOf p (turnOf p) = []) : legal p = [] := by
  cases q : legal p with
  | nil => rfl
  | cons c r =>
    have : c ∈ handOf p (turnOf p) := legal_sub (by rw [q]; exact List.Mem.head _)
    rw [h] at this
    cases this

/-- the hands behind a card -/
theorem behind_hands (p : Pos) (c : Nat) : (behind p c).1.hands = setAt p.hands (turnOf p) (without c (handOf p (turnOf p))) := by
  unfold behind
  simp only
  split <;> rfl
theorem behind_trump (p : Pos) (c : Nat) : (behind p c).1.trump = p.trump := by
  unfold behind
  simp only
  split <;> rfl
theorem behind_part {p : Pos} {c : Nat} (h : p.trick.length + 1 ≠ 4) : behind p c = (⟨setAt p.hands (turnOf p) (without c (handOf p (turnOf p))), p.trump, p.leader, p.trick ++ [c]⟩, none) := by
  unfold behind
  simp only
  rw [if_neg]
  rw [List.length_append]
  exact h
theorem behind_whole {p : Pos} {c : Nat} (h : p.trick.length + 1 = 4) : behind p c = (⟨setAt p.hands (turnOf p) (without c (handOf p (turnOf p))), p.trump, winner p (p.trick ++ [c]), []⟩, some (winner p (p.trick ++ [c]))) := by
  unfold behind
  simp only
  rw [if_pos (by rw [List.length_append]; exact h)]
theorem winner_lt {p : Pos} (h : p.leader < 4) (t : List Nat) : winner p t < 4 := by
  unfold winner
  cases t with
  | nil => exact h
  | cons c r => exact Nat.mod_lt _ (by decide)
theorem handOf_behind {p : Pos} (hl : p.hands.length = 4) (c s : Nat) (hs : s < 4) : handOf (behind p c).1 s = if s = turnOf p then without c (handOf p (turnOf p)) else handOf p s := by
  have e : handOf (behind p c).1 s = ((p.hands[s]?).map fun x => if s = turnOf p then without c (handOf p (turnOf p)) else x).getD [] := by
    unfold handOf
    rw [getD_getElem?, behind_hands, setAt_get]
    rfl
  have e2 : p.hands[s]? = some (handOf p s) := by
    unfold handOf
    rw [getD_getElem?, List.getElem?_eq_getElem (by omega)]
    rfl
  rw [e, e2]
  simp

theorem held_behind {p : Pos} (g : Good p) {c : Nat} (hc : c ∈ legal p) : held (behind p c).1 + 1 = held p := by
  have hlen : (behind p c).1.hands.length = 4 := by rw [behind_hands, setAt_len]; exact g.len
  rw [held_eq hlen, held_eq g.len, handOf_behind g.len c 0 (by omega), handOf_behind g.len c 1 (by omega), handOf_behind g.len c 2 (by omega), handOf_behind g.len c 3 (by omega)]
  have ht := turn_lt p
  have hw := without_len (g.hnd ht) (legal_sub hc)
  generalize turnOf p = t at *
  generalize hX : without c (handOf p t) = Y at *
  match t, ht with
  | 0, _ => rw [if_pos rfl, if_neg (by decide), if_neg (by decide), if_neg (by decide)]; omega
  | 1, _ => rw [if_neg (by decide), if_pos rfl, if_neg (by decide), if_neg (by decide)]; omega
  | 2, _ => rw [if_neg (by decide), if_neg (by decide), if_pos rfl, if_neg (by decide)]; omega
  | 3, _ => rw [if_neg (by decide), if_neg (by decide), if_neg (by decide), if_pos rfl]; omega

theorem toCome_behind {p : Pos} (g : Good p) {c : Nat} (hc : c ∈ legal p) : gained (behind p c).2 + toCome (behind p c).1 ≤ toCome p := by
  have hh := held_behind g hc
  unfold toCome
  by_cases h : p.trick.length + 1 = 4
  · rw [behind_whole h] at hh ⊢
    have : gained (some (winner p (p.trick ++ [c]))) ≤ 1 := by
      unfold gained
      simp only
      split <;> omega
    simp only [List.length_nil] at *
    omega
  · rw [behind_part h] at hh ⊢
    simp only [gained, List.length_append, List.length_cons, List.length_nil] at *
    omega

theorem mod4 {l t s : Nat} (hl : l < 4) (ht : t < 4) (hs : s < 4) : s = (l + t) % 4 ↔ (s + 4 - l) % 4 = t := by
  constructor <;> intro h <;> omega

theorem good_behind {p : Pos} (g : Good p) {c : Nat} (hc : c ∈ legal p) : Good (behind p c).1 := by
  have hlen : (behind p c).1.hands.length = 4 := by rw [behind_hands, setAt_len]; exact g.len
  obtain ⟨n, hn⟩ := g.sz
  have ht := turn_lt p
  have hw := without_len (g.hnd ht) (legal_sub hc)
  have hnd : ∀ h ∈ (behind p c).1.hands, h.Nodup := by
    intro h hm
    rw [behind_hands, setAt_set] at hm
    rcases List.mem_or_eq_of_mem_set hm with hm | e
    · exact g.nd h hm
    · rw [e]
      exact without_nodup (g.hnd ht)
  have htr := g.tr
  have htl := g.tl
  refine ⟨hlen, hnd, ?_, ?_, ?_⟩
  · by_cases h : p.trick.length + 1 = 4
    · rw [behind_whole h]; exact winner_lt g.tl _
    · rw [behind_part h]; exact g.tl
  · by_cases h : p.trick.length + 1 = 4
    · rw [behind_whole h]; exact (by decide : 0 < 4)
    · rw [behind_part h]
      show (p.trick ++ [c]).length < 4
      rw [List.length_append]
      show p.trick.length + 1 < 4
      omega
  · by_cases h : p.trick.length + 1 = 4
    · refine ⟨n - 1, fun s hs => ?_⟩
      have h1 := hn s hs
      rw [handOf_behind g.len c s hs]
      have h2 : hasPlayed (behind p c).1 s = 0 := by
        rw [behind_whole h]
        exact if_neg (Nat.not_lt_zero _)
      rw [h2]
      unfold hasPlayed at h1
      have hm := mod4 (l := p.leader) (t := p.trick.length) (s := s) htl htr hs
      have htu : turnOf p = (p.leader + p.trick.length) % 4 := rfl
      by_cases e : s = turnOf p
      · have e2 : (s + 4 - p.leader) % 4 = p.trick.length := hm.mp (e.trans htu)
        rw [if_pos e]
        rw [if_neg (by omega)] at h1
        rw [← e] at hw ⊢
        omega
      · have e2 : (s + 4 - p.leader) % 4 ≠ p.trick.length := fun z => e ((hm.mpr z).trans htu.symm)
        rw [if_neg e]
        rw [if_pos (by omega)] at h1
        omega
    · refine ⟨n, fun s hs => ?_⟩
      have h1 := hn s hs
      rw [handOf_behind g.len c s hs]
      have hm := mod4 (l := p.leader) (t := p.trick.length) (s := s) htl htr hs
      have htu : turnOf p = (p.leader + p.trick.length) % 4 := rfl
      have h2 : hasPlayed (behind p c).1 s = if (s + 4 - p.leader) % 4 < p.trick.length + 1 then 1 else 0 := by
        rw [behind_part h]
        unfold hasPlayed
        rw [List.length_append]
        rfl
      rw [h2]
      unfold hasPlayed at h1
      by_cases e : s = turnOf p
      · have e2 : (s + 4 - p.leader) % 4 = p.trick.length := hm.mp (e.trans htu)
        rw [if_pos e, if_pos (by omega)]
        rw [if_neg (by omega)] at h1
        rw [← e] at hw ⊢
        omega
      · have e2 : (s + 4 - p.leader) % 4 ≠ p.trick.length := fun z => e ((hm.mpr z).trans htu.symm)
        rw [if_neg e]
        by_cases e3 : (s + 4 - p.leader) % 4 < p.trick.length
        · rw [if_pos (by omega)]
          rw [if_pos e3] at h1
          exact h1
        · rw [if_neg (by omega)]
          rw [if_neg e3] at h1
          exact h1

/-- if a card is left, the seat on turn has one -/
theorem turn_has {p : Pos} (g : Good p) (h : held p ≠ 0) : handOf p (turnOf p) ≠ [] := by
  obtain ⟨n, hn⟩ := g.sz
  have htu : turnOf p = (p.leader + p.trick.length) % 4 := rfl
  have ht := turn_lt p
  have e2 := (mod4 g.tl g.tr ht).mp htu
  have h1 := hn _ ht
  unfold hasPlayed at h1
  rw [if_neg (by omega)] at h1
  intro z
  rw [z] at h1
  have hz : n = 0 := h1.symm
  subst hz
  apply h
  rw [held_eq g.len]
  have a0 := hn 0 (by omega)
  have a1 := hn 1 (by omega)
  have a2 := hn 2 (by omega)
  have a3 := hn 3 (by omega)
  omega
theorem legal_ne {p : Pos} (g : Good p) (h : held p ≠ 0) : legal p ≠ [] := fun z => turn_has g h (legal_nil z)
theorem held_zero {p : Pos} (h : p.hands.length = 4) (hz : held p = 0) : ∀ s, s < 4 → handOf p s = [] := by
  intro s hs
  rw [held_eq h] at hz
  have : (handOf p s).length = 0 := by
    match s, hs with
    | 0, _ => omega
    | 1, _ => omega
    | 2, _ => omega
    | 3, _ => omega
  exact List.eq_nil_of_length_eq_zero this
theorem held_pos {p : Pos} (g : Good p) {c : Nat} (hc : c ∈ legal p) : held p ≠ 0 := by
  have := held_behind g hc
  omega

/-! ### the value -/
theorem most_le {f : Nat → Nat} {top : Nat} : ∀ {l : List Nat}, (∀ c ∈ l, f c ≤ top) → most f top l ≤ top ∧ ∀ c ∈ l, f c ≤ most f top l
  | [], _ => ⟨Nat.zero_le _, fun _ h => by cases h⟩
  | c :: r, h => by
    have hc := h c (List.Mem.head _)
    have ih := most_le (l := r) fun d hd => h d (List.Mem.tail _ hd)
    show (if top ≤ f c then f c else max (f c) (most f top r)) ≤ top ∧ ∀ d ∈ c :: r, f d ≤ (if top ≤ f c then f c else max (f c) (most f top r))
    split
    · rename_i ht
      refine ⟨hc, fun d hd => ?_⟩
      have := h d hd
      omega
    · refine ⟨by omega, fun d hd => ?_⟩
      rcases List.mem_cons.mp hd with e | hd
      · subst e; omega
      · have := ih.2 d hd
        omega
theorem most_mem {f : Nat → Nat} {top : Nat} : ∀ {l : List Nat}, l ≠ [] → ∃ c ∈ l, most f top l = f c
  | [], h => absurd rfl h
  | c :: r, _ => by
    show ∃ d ∈ c :: r, (if top ≤ f c then f c else max (f c) (most f top r)) = f d
    split
    · exact ⟨c, List.Mem.head _, rfl⟩
    · by_cases hr : r = []
      · subst hr
        exact ⟨c, List.Mem.head _, by show max (f c) 0 = f c; omega⟩
      · obtain ⟨d, hd, e⟩ := most_mem (f := f) (top := top) hr
        rw [e]
        by_cases q : f d ≤ f c
        · exact ⟨c, List.Mem.head _, by omega⟩
        · exact ⟨d, List.Mem.tail _ hd, by omega⟩
theorem least_le {f : Nat → Nat} : ∀ {l : List Nat}, ∀ c ∈ l, least f l ≤ f c
  | [], _, h => by cases h
  | [c], d, h => by
    rcases List.mem_cons.mp h with e | h
    · subst e; exact Nat.le_refl _
    · cases h
  | c :: d :: r, x, h => by
    show (if f c = 0 then 0 else min (f c) (least f (d :: r))) ≤ f x
    split
    · exact Nat.zero_le _
    · rcases List.mem_cons.mp h with e | h
      · subst e; omega
      · have := least_le (f := f) (l := d :: r) x h
        omega
theorem least_mem {f : Nat → Nat} : ∀ {l : List Nat}, l ≠ [] → ∃ c ∈ l, least f l = f c
  | [], h => absurd rfl h
  | [c], _ => ⟨c, List.Mem.head _, rfl⟩
  | c :: d :: r, _ => by
    show ∃ x ∈ c :: d :: r, (if f c = 0 then 0 else min (f c) (least f (d :: r))) = f x
    split
    · rename_i e
      exact ⟨c, List.Mem.head _, e.symm⟩
    · obtain ⟨x, hx, e⟩ := least_mem (f := f) (l := d :: r) (by simp)
      rw [e]
      by_cases q : f c ≤ f x
      · exact ⟨c, List.Mem.head _, by omega⟩
      · exact ⟨x, List.Mem.tail _ hx, by omega⟩

/-- the number of a card, over a fuel -/
def byIn (n : Nat) (p : Pos) (c : Nat) : Nat := gained (behind p c).2 + valueIn n (behind p c).1
theorem valueIn_succ (n : Nat) (p : Pos) : valueIn (n + 1) p = if turnOf p % 2 = 0 then most (byIn n p) (toCome p) (legal p) else least (byIn n p) (legal p) := rfl
theorem valueIn_le : ∀ (n : Nat) (p : Pos), Good p → held p = n → valueIn n p ≤ toCome p
  | 0, _, _, _ => Nat.zero_le _
  | n + 1, p, g, h => by
    have hf : ∀ c ∈ legal p, byIn n p c ≤ toCome p := by
      intro c hc
      have h1 := held_behind g hc
      have ih := valueIn_le n _ (good_behind g hc) (by omega)
      have h2 := toCome_behind g hc
      unfold byIn
      omega
    rw [valueIn_succ]
    split
    · exact (most_le hf).1
    · by_cases hl : legal p = []
      · rw [hl]; exact Nat.zero_le _
      · obtain ⟨c, hc, e⟩ := least_mem (f := byIn n p) hl
        rw [e]
        exact hf c hc
theorem value_le {p : Pos} (g : Good p) : value p ≤ toCome p := valueIn_le _ p g rfl
theorem byIn_eq {p : Pos} (g : Good p) {c n : Nat} (hc : c ∈ legal p) (hn : held p = n + 1) : byIn n p c = valueBy p c := by
  have h1 := held_behind g hc
  have : held (behind p c).1 = n := by omega
  show gained (behind p c).2 + valueIn n (behind p c).1 = gained (behind p c).2 + valueIn (held (behind p c).1) (behind p c).1
  rw [this]
theorem valueBy_le {p : Pos} (g : Good p) {c : Nat} (hc : c ∈ legal p) : valueBy p c ≤ toCome p := by
  have h1 := toCome_behind g hc
  have h2 := value_le (good_behind g hc)
  unfold valueBy
  simp only
  omega
/-- the value is one of the numbers by a card, and the best of them -/
theorem value_is {p : Pos} (g : Good p) (hl : legal p ≠ []) : (∃ c ∈ legal p, value p = valueBy p c) ∧ ∀ c ∈ legal p, if turnOf p % 2 = 0 then valueBy p c ≤ value p else value p ≤ valueBy p c := by
  obtain ⟨c0, hc0⟩ := List.exists_mem_of_ne_nil _ hl
  have h0 := held_pos g hc0
  obtain ⟨n, hn⟩ : ∃ n, held p = n + 1 := ⟨held p - 1, by omega⟩
  have hf : ∀ c ∈ legal p, byIn n p c ≤ toCome p := fun c hc => by rw [byIn_eq g hc hn]; exact valueBy_le g hc
  have ev : value p = if turnOf p % 2 = 0 then most (byIn n p) (toCome p) (legal p) else least (byIn n p) (legal p) := by
    unfold value
    rw [hn, valueIn_succ]
  rw [ev]
  split
  · obtain ⟨c, hc, e⟩ := most_mem (f := byIn n p) (top := toCome p) hl
    exact ⟨⟨c, hc, by rw [e, byIn_eq g hc hn]⟩, fun d hd => by rw [← byIn_eq g hd hn]; exact (most_le hf).2 d hd⟩
  · obtain ⟨c, hc, e⟩ := least_mem (f := byIn n p) hl
    exact ⟨⟨c, hc, by rw [e, byIn_eq g hc hn]⟩, fun d hd => by rw [← byIn_eq g hd hn]; exact least_le d hd⟩
theorem value_nil {p : Pos} (hl : legal p = []) : value p = 0 := by
  unfold value
  cases q : held p with
  | zero => rfl
  | succ n =>
    rw [valueIn_succ, hl]
    split <;> rfl
theorem value_max {p : Pos} (g : Good p) (he : turnOf p % 2 = 0) {m : Nat} (hm : m ∈ (legal p).map (valueBy p)) (hle : ∀ y ∈ (legal p).map (valueBy p), y ≤ m) : value p = m := by
  obtain ⟨c, hc, e⟩ := List.mem_map.mp hm
  obtain ⟨⟨d, hd, e2⟩, hall⟩ := value_is g (List.ne_nil_of_mem hc)
  have h1 := hall c hc
  rw [if_pos he] at h1
  have h2 := hle (valueBy p d) (List.mem_map_of_mem hd)
  omega
theorem value_min {p : Pos} (g : Good p) (he : ¬ turnOf p % 2 = 0) {m : Nat} (hm : m ∈ (legal p).map (valueBy p)) (hle : ∀ y ∈ (legal p).map (valueBy p), m ≤ y) : value p = m := by
  obtain ⟨c, hc, e⟩ := List.mem_map.mp hm
  obtain ⟨⟨d, hd, e2⟩, hall⟩ := value_is g (List.ne_nil_of_mem hc)
  have h1 := hall c hc
  rw [if_neg he] at h1
  have h2 := hle (valueBy p d) (List.mem_map_of_mem hd)
  omega

/-! ### the line -/
theorem find_first {f : Nat → Bool} : ∀ {l : List Nat} {c : Nat}, c ∈ l → f c = true → ∃ (j d : Nat), l[j]? = some d ∧ f d = true ∧ l.find? f = some d ∧ ∀ i e, i < j → l[i]? = some e → f e = false
  | [], _, h, _ => by cases h
  | x :: r, c, h, hf => by
    by_cases e : f x = true
    · exact ⟨0, x, rfl, e, by rw [List.find?_cons, e], fun i e h => absurd h (Nat.not_lt_zero _)⟩
    · have hc : c ∈ r := by
        rcases List.mem_cons.mp h with h | h
        · subst h; exact absurd hf e
        · exact h
      obtain ⟨j, d, h1, h2, h3, h4⟩ := find_first hc hf
      have e' : f x = false := by cases q : f x with
        | true => exact absurd q e
        | false => rfl
      refine ⟨j + 1, d, h1, h2, by rw [List.find?_cons, e']; exact h3, fun i y hi hy => ?_⟩
      cases i with
      | zero =>
        have : x = y := Option.some.inj hy
        rw [← this]
        exact e'
      | succ i => exact h4 i y (by omega) hy
theorem line_nil {p : Pos} (h : held p = 0) : line p = [] := by
  unfold line
  rw [h]
  rfl
theorem lineIn_succ (n : Nat) (p : Pos) : lineIn (n + 1) p = match (legal p).find? (keeps p) with
  | none => []
  | some c => c :: lineIn n (behind p c).1 := rfl
theorem line_cons {p : Pos} (g : Good p) (h : held p ≠ 0) : ∃ (j c : Nat), (legal p)[j]? = some c ∧ valueBy p c = value p ∧ (∀ i d, i < j → (legal p)[i]? = some d → valueBy p d ≠ value p) ∧ line p = c :: line (behind p c).1 := by
  obtain ⟨⟨c0, hc0, e0⟩, _⟩ := value_is g (legal_ne g h)
  obtain ⟨j, c, h1, h2, h3, h4⟩ := find_first (f := keeps p) hc0 (by unfold keeps; rw [e0]; exact beq_self_eq_true _)
  have hc : c ∈ legal p := List.mem_of_getElem? h1
  refine ⟨j, c, h1, by simpa [keeps] using h2, fun i d hi hd => ?_, ?_⟩
  · have := h4 i d hi hd
    simpa [keeps] using this
  · have hb := held_behind g hc
    unfold line
    rw [← hb, lineIn_succ, h3]
end Lm

/-! The mathematics of endings: what can be reached, deals, going back. No library. -/
namespace Lm
open Vbbraf

/-! ### the cards that are still there -/
theorem without_perm {c : Nat} {l : List Nat} (hn : l.Nodup) (h : c ∈ l) : (c :: without c l).Perm l := by
  rw [List.perm_iff_count]
  intro x
  have h1 : (without c l).count x = if x = c then 0 else l.count x := by
    unfold without
    by_cases e : x = c
    · subst e
      rw [if_pos rfl]
      exact List.count_eq_zero.mpr fun z => by
        have := (List.mem_filter.mp z).2
        simp at this
    · rw [if_neg e]
      exact List.count_filter (by simpa using e)
  rw [List.count_cons, h1]
  by_cases e : x = c
  · subst e
    rw [if_pos rfl, if_pos (beq_self_eq_true _)]
    have := List.nodup_iff_count.mp hn x
    have h2 := List.count_pos_iff.mpr h
    omega
  · rw [if_neg e, if_neg (fun z => e (beq_iff_eq.mp z).symm)]
    rfl
structure Deck (p : Pos) : Prop where
  nd : (cardsOf p).Nodup
  lt : ∀ c ∈ cardsOf p, c < 52
theorem cards4 {p : Pos} (h : p.hands.length = 4) : cardsOf p = handOf p 0 ++ (handOf p 1 ++ (handOf p 2 ++ (handOf p 3 ++ p.trick))) := by
  unfold cardsOf
  rw [hands4 h]
  simp [handOf]
/-- higher cards of a suit: at most twelve, and as many ranks are above the card -/
theorem higher_le {l : List Nat} (hn : l.Nodup) (c : Nat) (hc : c < 52) (hl : ∀ d ∈ l, d < 52) : (l.filter fun d => suitOf d == suitOf c && decide (c < d)).length ≤ 12 - c % 13 := by
  have h1 : (l.filter fun d => suitOf d == suitOf c && decide (c < d)).Nodup := List.Sublist.nodup List.filter_sublist hn
  have h2 : ∀ d ∈ l.filter fun d => suitOf d == suitOf c && decide (c < d), d ∈ List.range' (c + 1) (12 - c % 13) := by
    intro d hd
    obtain ⟨_, hd⟩ := List.mem_filter.mp hd
    rw [Bool.and_eq_true] at hd
    have e1 : d / 13 = c / 13 := beq_iff_eq.mp hd.1
    have e2 : c < d := of_decide_eq_true hd.2
    rw [List.mem_range'_1]
    omega
  have gen : ∀ {l m : List Nat}, l.Nodup → (∀ x ∈ l, x ∈ m) → l.length ≤ m.length := by
    intro l
    induction l with
    | nil => intro m _ _; exact Nat.zero_le _
    | cons a r ih =>
      intro m hn h
      rw [List.nodup_cons] at hn
      have h1 : ∀ x ∈ r, x ∈ m.erase a := fun x hx => by
        have hne : x ≠ a := fun e => hn.1 (e ▸ hx)
        exact (List.mem_erase_of_ne hne).mpr (h x (List.mem_cons_of_mem _ hx))
      have h2 := ih hn.2 h1
      have ha : a ∈ m := h a List.mem_cons_self
      have h3 := List.length_erase_of_mem ha
      have h4 : 0 < m.length := List.length_pos_of_mem ha
      rw [List.length_cons]
      omega
  have h3 := gen h1 h2
  rw [List.length_range'] at h3
  exact h3
/-- a card goes from a hand to the trick, or away -/
theorem deck_behind {p : Pos} (g : Good p) (k : Deck p) {c : Nat} (hc : c ∈ legal p) : Deck (behind p c).1 := by
  have hlen : (behind p c).1.hands.length = 4 := by rw [behind_hands, setAt_len]; exact g.len
  have ht := turn_lt p
  have hm := legal_sub hc
  have hcd : c ∈ cardsOf p := by
    rw [cards4 g.len]
    generalize turnOf p = t at *
    match t, ht with
    | 0, _ => exact List.mem_append_left _ hm
    | 1, _ => exact List.mem_append_right _ (List.mem_append_left _ hm)
    | 2, _ => exact List.mem_append_right _ (List.mem_append_right _ (List.mem_append_left _ hm))
    | 3, _ => exact List.mem_append_right _ (List.mem_append_right _ (List.mem_append_right _ (List.mem_append_left _ hm)))
  have k1 := k.nd
  rw [cards4 g.len] at k1
  -- all hands behind, with the old trick and the card, are an arrangement of the cards
  have perm : (handOf (behind p c).1 0 ++ (handOf (behind p c).1 1 ++ (handOf (behind p c).1 2 ++ (handOf (behind p c).1 3 ++ (p.trick ++ [c]))))).Perm (cardsOf p) := by
    rw [cards4 g.len, handOf_behind g.len c 0 (by omega), handOf_behind g.len c 1 (by omega), handOf_behind g.len c 2 (by omega), handOf_behind g.len c 3 (by omega)]
    have hp := without_perm (g.hnd ht) hm
    generalize turnOf p = t at *
    rw [List.perm_iff_count] at hp ⊢
    intro x
    have hx := hp x
    match t, ht with
    | 0, _ => rw [if_pos rfl, if_neg (by decide), if_neg (by decide), if_neg (by decide)]; simp only [List.count_append, List.count_cons, List.count_nil] at hx ⊢; omega
    | 1, _ => rw [if_neg (by decide), if_pos rfl, if_neg (by decide), if_neg (by decide)]; simp only [List.count_append, List.count_cons, List.count_nil] at hx ⊢; omega
    | 2, _ => rw [if_neg (by decide), if_neg (by decide), if_pos rfl, if_neg (by decide)]; simp only [List.count_append, List.count_cons, List.count_nil] at hx ⊢; omega
    | 3, _ => rw [if_neg (by decide), if_neg (by decide), if_neg (by decide), if_pos rfl]; simp only [List.count_append, List.count_cons, List.count_nil] at hx ⊢; omega
  have sub : List.Sublist (cardsOf (behind p c).1) (handOf (behind p c).1 0 ++ (handOf (behind p c).1 1 ++ (handOf (behind p c).1 2 ++ (handOf (behind p c).1 3 ++ (p.trick ++ [c]))))) := by
    rw [cards4 hlen]
    refine List.Sublist.append_left (List.Sublist.append_left (List.Sublist.append_left (List.Sublist.append_left ?_ _) _) _) _
    by_cases h : p.trick.length + 1 = 4
    · rw [behind_whole h]; exact List.nil_sublist _
    · rw [behind_part h]; exact List.Sublist.refl _
  exact ⟨List.Sublist.nodup sub (perm.nodup_iff.mpr k.nd), fun x hx => k.lt x (perm.mem_iff.mp (sub.subset hx))⟩

inductive Reach : State → Prop
  | deal (p : Pos) : Good p → held p ≤ 16 → p.trick = [] → p.trump < 5 → Deck p → Reach (dealt p)
  | play {st : State} {c : Nat} : Reach st → c ∈ legal st.now → Reach (playedBy st c)

theorem by_now (st : State) (c : Nat) : (playedBy st c).now = (behind st.now c).1 := rfl
theorem by_played (st : State) (c : Nat) : (playedBy st c).played = st.played ++ [c] := rfl
theorem by_first (st : State) (c : Nat) : (playedBy st c).first = st.first := rfl
theorem Reach.good {st : State} (r : Reach st) : Good st.now ∧ Good st.first ∧ held st.first ≤ 16 ∧ st.played.length + held st.now = held st.first ∧ st.first.trick = [] := by
  induction r with
  | deal p g h t tr k => exact ⟨g, g, h, by show 0 + held p = held p; omega, t⟩
  | @play st c r hc ih =>
    obtain ⟨h1, h2, h3, h4, h5⟩ := ih
    have hb := held_behind h1 hc
    refine ⟨good_behind h1 hc, h2, h3, ?_, h5⟩
    rw [by_now, by_played, by_first, List.length_append]
    show st.played.length + 1 + _ = _
    omega
theorem Reach.trump {st : State} (r : Reach st) : st.now.trump < 5 ∧ st.first.trump < 5 := by
  induction r with
  | deal p g h t tr k => exact ⟨tr, tr⟩
  | @play st c r hc ih => exact ⟨by rw [by_now, behind_trump]; exact ih.1, ih.2⟩
theorem Reach.le {st : State} (r : Reach st) : held st.now ≤ 16 := by
  obtain ⟨_, _, h3, h4, _⟩ := r.good
  omega
theorem Reach.fold {st : State} (r : Reach st) : st.played.foldl playedBy (dealt st.first) = st := by
  induction r with
  | deal p g h t tr k => rfl
  | @play st c r hc ih => rw [by_played, by_first, List.foldl_append, ih]; rfl
theorem Reach.chain {st : State} (r : Reach st) : ∀ i c, st.played[i]? = some c → c ∈ legal ((st.played.take i).foldl playedBy (dealt st.first)).now ∧ Reach ((st.played.take i).foldl playedBy (dealt st.first)) := by
  induction r with
  | deal p g h t tr k => intro i c h; exact absurd h (by show ¬ ([] : List Nat)[i]? = some c; simp)
  | @play st c r hc ih =>
    intro i x hx
    rw [by_played] at hx ⊢
    rw [by_first]
    by_cases hi : i < st.played.length
    · rw [List.getElem?_append_left hi] at hx
      have e : (st.played ++ [c]).take i = st.played.take i := List.take_append_of_le_length (by omega)
      rw [e]
      exact ih i x hx
    · have hi2 : i = st.played.length := by
        have := (List.getElem?_eq_some_iff.mp hx).1
        rw [List.length_append] at this
        simp only [List.length_cons, List.length_nil] at this
        omega
      subst hi2
      rw [List.getElem?_append_right (Nat.le_refl _), Nat.sub_self] at hx
      have ex : x = c := (Option.some.inj hx).symm
      subst ex
      have e : (st.played ++ [x]).take st.played.length = st.played := by rw [List.take_append_of_le_length (Nat.le_refl _), List.take_length]
      rw [e, r.fold]
      exact ⟨hc, r⟩
theorem Reach.back {st : State} (r : Reach st) (h : st.played ≠ []) : Reach (st.played.dropLast.foldl playedBy (dealt st.first)) := by
  cases r with
  | deal p g h' t tr k => exact absurd rfl h
  | @play st c r hc =>
    rw [by_played, by_first, List.dropLast_concat, r.fold]
    exact r
theorem Reach.deck0 {st : State} (r : Reach st) : Deck st.first := by
  induction r with
  | deal p g h t tr k => exact k
  | @play st c r hc ih => exact ih
theorem Reach.dealt {st : State} (r : Reach st) : Reach (Vbbraf.dealt st.first) := by
  obtain ⟨_, h2, h3, _, h5⟩ := r.good
  exact .deal _ h2 h3 h5 r.trump.2 r.deck0
theorem good_empty : Good empty := by
  refine ⟨rfl, ?_, by decide, by decide, ⟨0, ?_⟩⟩
  · intro h hm
    simp [empty] at hm
    subst hm
    exact List.nodup_nil
  · intro s hs
    match s, hs with
    | 0, _ => rfl
    | 1, _ => rfl
    | 2, _ => rfl
    | 3, _ => rfl
theorem reach_start : Reach start := .deal _ good_empty (by decide) rfl (by decide) ⟨by decide, by decide⟩

/-- a line has as many cards as are held -/
theorem line_len : ∀ {p : Pos}, Good p → (line p).length = held p := by
  have gen : ∀ (n : Nat) (p : Pos), Good p → held p = n → (line p).length = n := by
    intro n
    induction n with
    | zero => intro p g h; rw [line_nil h]; rfl
    | succ n ih =>
      intro p g h
      obtain ⟨j, c, h1, _, _, h4⟩ := line_cons g (by omega)
      have hc : c ∈ legal p := List.mem_of_getElem? h1
      have hb := held_behind g hc
      rw [h4, List.length_cons, ih _ (good_behind g hc) (by omega)]
  intro p g
  exact gen _ p g rfl
/-! ### rows that are dealt -/
theorem put_perm (c : Nat) : ∀ l : List Nat, (put c l).Perm (c :: l)
  | [] => .refl _
  | d :: r => by
    show (if c ≤ d then c :: d :: r else d :: put c r).Perm (c :: d :: r)
    split
    · exact .refl _
    · exact ((put_perm c r).cons d).trans (.swap c d r)
theorem sorted_perm : ∀ l : List Nat, (sorted l).Perm l
  | [] => .refl _
  | c :: r => (put_perm c (sorted r)).trans ((sorted_perm r).cons c)
theorem put_pair (c : Nat) : ∀ {l : List Nat}, l.Pairwise (· ≤ ·) → (put c l).Pairwise (· ≤ ·)
  | [], _ => by show ([c] : List Nat).Pairwise _; simp
  | d :: r, h => by
    show (if c ≤ d then c :: d :: r else d :: put c r).Pairwise _
    rw [List.pairwise_cons] at h
    split
    · rename_i hc
      rw [List.pairwise_cons]
      refine ⟨fun x hx => ?_, List.pairwise_cons.mpr h⟩
      rcases List.mem_cons.mp hx with e | hx
      · subst e; exact hc
      · exact Nat.le_trans hc (h.1 x hx)
    · rename_i hc
      rw [List.pairwise_cons]
      refine ⟨fun x hx => ?_, put_pair c h.2⟩
      rcases List.mem_cons.mp ((put_perm c r).mem_iff.mp hx) with e | hx
      · subst e; omega
      · exact h.1 x hx
theorem sorted_pair : ∀ l : List Nat, (sorted l).Pairwise (· ≤ ·)
  | [] => .nil
  | c :: r => put_pair c (sorted_pair r)
theorem sorted_len (l : List Nat) : (sorted l).length = l.length := (sorted_perm l).length_eq
theorem perm_sorted_eq : ∀ {l m : List Nat}, l.Perm m → l.Pairwise (· ≤ ·) → m.Pairwise (· ≤ ·) → l = m
  | [], m, p, _, _ => (List.Perm.nil_eq p)
  | a :: l, [], p, _, _ => by have := p.length_eq; simp at this
  | a :: l, b :: m, p, h1, h2 => by
    rw [List.pairwise_cons] at h1 h2
    have ea : a = b := by
      have h3 : a ∈ b :: m := p.mem_iff.mp List.mem_cons_self
      have h4 : b ∈ a :: l := p.mem_iff.mpr List.mem_cons_self
      have h5 : b ≤ a := by
        rcases List.mem_cons.mp h3 with e | h
        · omega
        · exact h2.1 a h
      have h6 : a ≤ b := by
        rcases List.mem_cons.mp h4 with e | h
        · omega
        · exact h1.1 b h
      omega
    subst ea
    rw [perm_sorted_eq (List.Perm.cons_inv p) h1.2 h2.2]
/-- what sorted hands over: the specification's own sort -/
theorem sorted_ints {ns ns' : List Int} (h0 : ∀ z ∈ ns, 0 ≤ z) (p : ns'.Perm ns) (h : ns'.Pairwise (· ≤ ·)) : ns' = (sorted (nats ns)).map fun (n : Nat) => (n : Int) := by
  have h1 : ∀ z ∈ ns', 0 ≤ z := fun z hz => h0 z (p.mem_iff.mp hz)
  have back : ∀ {l : List Int}, (∀ z ∈ l, 0 ≤ z) → (l.map Int.toNat).map (fun (n : Nat) => (n : Int)) = l := by
    intro l hl
    rw [List.map_map]
    conv => rhs; rw [← List.map_id l]
    refine List.map_congr_left fun z hz => ?_
    show ((z.toNat : Nat) : Int) = z
    have := hl z hz
    omega
  have e : ns'.map Int.toNat = sorted (nats ns) := by
    refine perm_sorted_eq ((p.map Int.toNat).trans (sorted_perm (nats ns)).symm) ?_ (sorted_pair _)
    rw [List.pairwise_map]
    exact h.imp fun {a b} hab => by omega
  rw [← e, back h1]
theorem noneTwice_eq : ∀ l : List Nat, noneTwice l = decide l.Nodup
  | [] => rfl
  | c :: r => by
    show (!r.contains c && noneTwice r) = _
    rw [noneTwice_eq r]
    by_cases h1 : c ∈ r
    · have : r.contains c = true := List.contains_iff_mem.mpr h1
      rw [this, decide_eq_false (p := (c :: r).Nodup) (fun z => (List.nodup_cons.mp z).1 h1)]
      rfl
    · have : r.contains c = false := by
        cases z : r.contains c with
        | false => rfl
        | true => exact absurd (List.contains_iff_mem.mp z) h1
      rw [this]
      by_cases h2 : r.Nodup
      · rw [decide_eq_true h2, decide_eq_true (List.nodup_cons.mpr ⟨h1, h2⟩)]
        rfl
      · rw [decide_eq_false h2, decide_eq_false (p := (c :: r).Nodup) (fun z => h2 (List.nodup_cons.mp z).2)]
        rfl
theorem card_range {z : Int} (h : isCard z = true) : 0 ≤ z ∧ z ≤ 51 := by
  unfold isCard within at h
  rw [Bool.and_eq_true] at h
  exact ⟨of_decide_eq_true h.1, of_decide_eq_true h.2⟩
theorem nodup_nats {l : List Int} (h : ∀ z ∈ l, 0 ≤ z) : (nats l).Nodup ↔ l.Nodup := by
  induction l with
  | nil => simp [nats]
  | cons a r ih =>
    have h1 := ih fun z hz => h z (List.mem_cons_of_mem _ hz)
    show (a.toNat :: nats r).Nodup ↔ _
    rw [List.nodup_cons, List.nodup_cons, h1]
    have : a.toNat ∈ nats r ↔ a ∈ r := by
      unfold nats
      rw [List.mem_map]
      constructor
      · rintro ⟨b, hb, e⟩
        have h2 := h a List.mem_cons_self
        have h3 := h b (List.mem_cons_of_mem _ hb)
        have : a = b := by omega
        rw [this]
        exact hb
      · intro hb
        exact ⟨a, hb, rfl⟩
    rw [this]
/-- the deal's own test, as the program has it -/
theorem deal_test {rows : List (List Int)} (h : ∀ r ∈ rows, ∀ z ∈ r, 0 ≤ z) (a : List Int) : (((rows.map fun r => sorted (nats r)).all fun h => h.length == a.length) && noneTwice ((rows.map fun r => sorted (nats r)).flatMap fun h => h)) = ((rows.all fun n => decide (n.length = a.length)) && decide rows.flatten.Nodup) := by
  have e1 : ((rows.map fun r => sorted (nats r)).all fun h => h.length == a.length) = rows.all fun n => decide (n.length = a.length) := by
    rw [List.all_map]
    congr 1
    funext r
    show ((sorted (nats r)).length == a.length) = _
    rw [sorted_len]
    unfold nats
    rw [List.length_map]
    by_cases z : r.length = a.length
    · rw [decide_eq_true z, z]; exact beq_self_eq_true _
    · rw [decide_eq_false z]; exact beq_eq_false_iff_ne.mpr z
  have p : ∀ rows : List (List Int), ((rows.map fun r => sorted (nats r)).flatMap fun h => h).Perm (nats rows.flatten) := by
    intro rows
    induction rows with
    | nil => exact .refl _
    | cons r rs ih =>
      rw [List.map_cons, List.flatMap_cons, List.flatten_cons]
      unfold nats at ih ⊢
      rw [List.map_append]
      exact (sorted_perm _).append ih
  have e2 : noneTwice ((rows.map fun r => sorted (nats r)).flatMap fun h => h) = decide rows.flatten.Nodup := by
    rw [noneTwice_eq]
    have h2 : ∀ z ∈ rows.flatten, 0 ≤ z := fun z hz => by
      obtain ⟨r, hr, hz⟩ := List.mem_flatten.mp hz
      exact h r hr z hz
    have := (p rows).nodup_iff.trans (nodup_nats h2)
    by_cases z : rows.flatten.Nodup
    · rw [decide_eq_true z, decide_eq_true (this.mpr z)]
    · rw [decide_eq_false z, decide_eq_false fun y => z (this.mp y)]
  rw [e1, e2]
/-- the position that is dealt is a good one -/
theorem good_deal {a b c d : List Int} {t l : Int} (hl : within l 0 3 = true) (h4 : ∀ r ∈ [a, b, c, d], r.length ≤ 4) (h0 : ∀ r ∈ [a, b, c, d], ∀ z ∈ r, 0 ≤ z)
    (hk : (([a, b, c, d].all fun n => decide (n.length = a.length)) && decide [a, b, c, d].flatten.Nodup) = true) :
    Good ⟨[a, b, c, d].map fun r => sorted (nats r), t.toNat, l.toNat, []⟩ ∧ held ⟨[a, b, c, d].map fun r => sorted (nats r), t.toNat, l.toNat, []⟩ ≤ 16 := by
  rw [Bool.and_eq_true] at hk
  have hall := List.all_eq_true.mp hk.1
  have hnd := of_decide_eq_true hk.2
  have len : ∀ r, (sorted (nats r)).length = r.length := fun r => by rw [sorted_len]; unfold nats; rw [List.length_map]
  have lb := of_decide_eq_true (hall b (by simp))
  have lc := of_decide_eq_true (hall c (by simp))
  have ld := of_decide_eq_true (hall d (by simp))
  have la := h4 a (by simp)
  refine ⟨⟨rfl, ?_, ?_, (by decide : 0 < 4), ⟨a.length, ?_⟩⟩, ?_⟩
  · intro h hm
    obtain ⟨r, hr, rfl⟩ := List.mem_map.mp hm
    rw [(sorted_perm (nats r)).nodup_iff, nodup_nats (h0 r hr)]
    exact List.Sublist.nodup (List.sublist_flatten_of_mem hr) hnd
  · unfold within at hl
    rw [Bool.and_eq_true] at hl
    have h1 := of_decide_eq_true hl.1
    have h2 := of_decide_eq_true hl.2
    show l.toNat < 4
    omega
  · intro s hs
    have e : hasPlayed ⟨[a, b, c, d].map fun r => sorted (nats r), t.toNat, l.toNat, []⟩ s = 0 := if_neg (Nat.not_lt_zero _)
    rw [e]
    match s, hs with
    | 0, _ => exact len a
    | 1, _ => exact (len b).trans lb
    | 2, _ => exact (len c).trans lc
    | 3, _ => exact (len d).trans ld
  · rw [held_eq rfl]
    show (sorted (nats a)).length + (sorted (nats b)).length + (sorted (nats c)).length + (sorted (nats d)).length ≤ 16
    rw [len, len, len, len]
    omega
/-- its cards are cards, and none stands twice -/
theorem deck_deal {a b c d : List Int} {t l : Int} (h0 : ∀ r ∈ [a, b, c, d], ∀ z ∈ r, isCard z = true) (hnd : [a, b, c, d].flatten.Nodup) : Deck ⟨[a, b, c, d].map fun r => sorted (nats r), t.toNat, l.toNat, []⟩ := by
  have e : cardsOf ⟨[a, b, c, d].map fun r => sorted (nats r), t.toNat, l.toNat, []⟩ = ([a, b, c, d].map fun r => sorted (nats r)).flatMap fun h => h := List.append_nil _
  have p : ∀ rows : List (List Int), ((rows.map fun r => sorted (nats r)).flatMap fun h => h).Perm (nats rows.flatten) := by
    intro rows
    induction rows with
    | nil => exact .refl _
    | cons r rs ih =>
      rw [List.map_cons, List.flatMap_cons, List.flatten_cons]
      unfold nats at ih ⊢
      rw [List.map_append]
      exact (sorted_perm _).append ih
  have hc : ∀ z ∈ [a, b, c, d].flatten, isCard z = true := fun z hz => by
    obtain ⟨r, hr, hz⟩ := List.mem_flatten.mp hz
    exact h0 r hr z hz
  refine ⟨?_, fun x hx => ?_⟩
  · rw [e, (p _).nodup_iff, nodup_nats fun z hz => (card_range (hc z hz)).1]
    exact hnd
  · rw [e] at hx
    obtain ⟨z, hz, rfl⟩ := List.mem_map.mp ((p _).mem_iff.mp hx)
    have := card_range (hc z hz)
    omega
end Lm

/-! The mathematics of the keys that can be met, and of the flat list of calls. No library. -/
namespace Lm
open Vbbraf
def subs : List Nat → List (List Nat)
  | [] => [[]]
  | a :: r => subs r ++ (subs r).map fun x => a :: x
theorem subs_len : ∀ l : List Nat, (subs l).length = 2 ^ l.length
  | [] => rfl
  | a :: r => by
    show (subs r ++ (subs r).map fun x => a :: x).length = 2 ^ (r.length + 1)
    rw [List.length_append, List.length_map, subs_len r, Nat.pow_succ]
    omega
theorem subs_mem : ∀ {l m : List Nat}, List.Sublist m l → m ∈ subs l
  | _, _, .slnil => List.mem_cons_self
  | _, _, .cons a h => List.mem_append_left _ (subs_mem h)
  | _, _, .cons_cons a h => List.mem_append_right _ (List.mem_map_of_mem (subs_mem h))
def allHands : List (List Nat) → List (List (List Nat))
  | [] => [[]]
  | h :: r => (subs h).flatMap fun x => (allHands r).map fun y => x :: y
theorem flatMap_len {α β : Type} (f : α → List β) (n : Nat) : ∀ l : List α, (∀ x ∈ l, (f x).length = n) → (l.flatMap f).length = l.length * n
  | [], _ => by simp
  | a :: r, h => by
    rw [List.flatMap_cons, List.length_append, h a List.mem_cons_self, flatMap_len f n r fun x hx => h x (List.mem_cons_of_mem _ hx), List.length_cons, Nat.add_mul, Nat.one_mul, Nat.add_comm]
theorem allHands_len : ∀ hs : List (List Nat), (allHands hs).length = 2 ^ (hs.map List.length).sum
  | [] => rfl
  | h :: r => by
    show ((subs h).flatMap fun x => (allHands r).map fun y => x :: y).length = _
    rw [flatMap_len _ (allHands r).length (subs h) (fun x _ => List.length_map _), subs_len, allHands_len r, List.map_cons, List.sum_cons, Nat.pow_add]
def allKeys (hs : List (List Nat)) : List (List (List Nat) × Nat × Nat) := (allHands hs).flatMap fun x => (List.range 5).flatMap fun t => (List.range 4).map fun l => (x, t, l)
theorem allKeys_len (hs : List (List Nat)) : (allKeys hs).length = 2 ^ (hs.map List.length).sum * 20 := by
  unfold allKeys
  rw [flatMap_len _ 20, allHands_len]
  intro x _
  rw [flatMap_len _ 4]
  · rfl
  · intro t _
    rw [List.length_map, List.length_range]
theorem allKeys_mem {hs x : List (List Nat)} {t l : Nat} (h : x ∈ allHands hs) (ht : t < 5) (hl : l < 4) : (x, t, l) ∈ allKeys hs :=
  List.mem_flatMap.mpr ⟨x, h, List.mem_flatMap.mpr ⟨t, List.mem_range.mpr ht, List.mem_map.mpr ⟨l, List.mem_range.mpr hl, rfl⟩⟩⟩
theorem allKeys_le {p : Pos} (h : held p ≤ 16) : (allKeys p.hands).length ≤ 1310720 := by
  rw [allKeys_len]
  have e : (p.hands.map List.length).sum ≤ 16 := by
    have : held p = (p.hands.map List.length).sum := by unfold held; rw [total_eq]
    omega
  have := Nat.pow_le_pow_right (n := 2) (by decide) e
  have e2 : (2 : Nat) ^ 16 = 65536 := by decide
  omega

/-! ### the flat list of calls -/
theorem calls_cons {shape : Int → Option (Nat × Nat)} {f : Nat} {p : Int} {r : List Int} {cs : List (List (List Int))} (h : PyFlat.calls shape f (p :: r) = some cs) :
    ∃ f' c t cs', f = f' + 1 ∧ PyFlat.call shape (p :: r) = some (c, t) ∧ PyFlat.calls shape f' t = some cs' ∧ cs = c :: cs' := by
  cases f with
  | zero => cases h
  | succ f =>
    have h' : (match PyFlat.call shape (p :: r) with
      | none => none
      | some (c, t) => match PyFlat.calls shape f t with
        | none => none
        | some cs => some (c :: cs)) = some cs := h
    cases e : PyFlat.call shape (p :: r) with
    | none => rw [e] at h'; cases h'
    | some ct =>
      obtain ⟨c, t⟩ := ct
      rw [e] at h'
      cases e2 : PyFlat.calls shape f t with
      | none => simp only [e2] at h'; cases h'
      | some cs' =>
        simp only [e2] at h'
        exact ⟨f, c, t, cs', rfl, rfl, e2, (Option.some.inj h').symm⟩
theorem calls_nil {shape : Int → Option (Nat × Nat)} {f : Nat} {cs : List (List (List Int))} (h : PyFlat.calls shape f [] = some cs) : cs = [] := by
  cases f <;> exact (Option.some.inj h).symm
theorem row_some {l x s : List Int} (h : PyFlat.row l = some (x, s)) : ∃ (n : Nat) (r : List Int), l = (n : Int) :: r ∧ n ≤ r.length ∧ x = r.take n ∧ s = r.drop n := by
  cases l with
  | nil => cases h
  | cons z r =>
    have h' : (if 0 ≤ z ∧ z.toNat ≤ r.length then some (r.take z.toNat, r.drop z.toNat) else none) = some (x, s) := h
    by_cases c : 0 ≤ z ∧ z.toNat ≤ r.length
    · rw [if_pos c] at h'
      obtain ⟨e1, e2⟩ := Prod.mk.inj (Option.some.inj h')
      refine ⟨z.toNat, r, ?_, c.2, e1.symm, e2.symm⟩
      have : z = (z.toNat : Int) := by omega
      rw [← this]
    · rw [if_neg c] at h'
      cases h'
theorem rows_succ {k : Nat} {l s : List Int} {xs : List (List Int)} (h : PyFlat.rows (k + 1) l = some (xs, s)) : ∃ x m ys, PyFlat.row l = some (x, m) ∧ PyFlat.rows k m = some (ys, s) ∧ xs = x :: ys := by
  have h' : (match PyFlat.row l with
    | none => none
    | some (x, s) => match PyFlat.rows k s with
      | none => none
      | some (xs, t) => some (x :: xs, t)) = some (xs, s) := h
  cases e : PyFlat.row l with
  | none => rw [e] at h'; cases h'
  | some xm =>
    obtain ⟨x, m⟩ := xm
    rw [e] at h'
    cases e2 : PyFlat.rows k m with
    | none => simp only [e2] at h'; cases h'
    | some ys =>
      obtain ⟨ys, t⟩ := ys
      simp only [e2] at h'
      obtain ⟨q1, q2⟩ := Prod.mk.inj (Option.some.inj h')
      exact ⟨x, m, ys, rfl, by rw [e2, q2], q1.symm⟩
theorem rows_zero {l s : List Int} {xs : List (List Int)} (h : PyFlat.rows 0 l = some (xs, s)) : xs = [] ∧ s = l := by
  have h' : some (([] : List (List Int)), l) = some (xs, s) := h
  obtain ⟨q1, q2⟩ := Prod.mk.inj (Option.some.inj h')
  exact ⟨q1.symm, q2.symm⟩

/-! ### what is asked -/
theorem asked_is {l : List Int} (h : PyVbbraf.answers_asked l = true) : ∃ raw, PyFlat.calls PyVbbraf.shape l.length l = some raw ∧ (∀ c ∈ raw, VbbrafNeutral.asked1 (PyVbbraf.whole c) = true) ∧ ((raw.map PyVbbraf.whole).filter VbbrafNeutral.heavy).length ≤ 6 ∧
    (PyVbbraf.answers l).length ≤ 10000000 ∧ PyVbbraf.answers l = PyFlat.told (PyFlat.played VbbrafNeutral.step VbbrafNeutral.start (raw.map PyVbbraf.whole)) := by
  unfold PyVbbraf.answers_asked at h
  cases e : PyFlat.calls PyVbbraf.shape l.length l with
  | none => rw [e] at h; cases h
  | some raw =>
    rw [e] at h
    simp only [Bool.and_eq_true] at h
    obtain ⟨⟨⟨⟨h1, h2⟩, h3⟩, h4⟩, h5⟩ := h
    unfold VbbrafNeutral.asked at h4
    simp only [Bool.and_eq_true] at h4
    obtain ⟨h6, h7, h8, h9⟩ := h4
    refine ⟨raw, rfl, fun c hc => List.all_eq_true.mp h8 _ (List.mem_map_of_mem hc), of_decide_eq_true h9, of_decide_eq_true h5, ?_⟩
    unfold PyVbbraf.answers PyVbbraf.calls
    rw [e]
theorem played_cons (st : State) (c : List (List Int)) (r : List (List (List Int))) : PyFlat.told (PyFlat.played VbbrafNeutral.step st (c :: r)) = (((stepRows st c).2.length : Int) :: (stepRows st c).2) ++ PyFlat.told (PyFlat.played VbbrafNeutral.step (stepRows st c).1 r) := rfl

/-! ### what a call can be -/
theorem whole_is (c : List (List Int)) : PyVbbraf.whole c = c := by
  unfold PyVbbraf.whole
  split <;> rfl
inductive CallIs : List Int → List (List Int) → List Int → Prop
  | deal (t l : Int) (r0 r1 r2 r3 : List Int) {rest rest' : List Int} : PyFlat.rows 4 rest = some ([r0, r1, r2, r3], rest') → (∀ x ∈ [r0, r1, r2, r3], x.length ≤ 20) → CallIs (0 :: t :: l :: rest) [[0, t, l], r0, r1, r2, r3] rest'
  | play (z : Int) {rest : List Int} : CallIs (1 :: z :: rest) [[1, z]] rest
  | back {rest : List Int} : CallIs (2 :: rest) [[2]] rest
  | turn {rest : List Int} : CallIs (3 :: rest) [[3]] rest
  | value {rest : List Int} : CallIs (4 :: rest) [[4]] rest
  | cards {rest : List Int} : CallIs (5 :: rest) [[5]] rest
  | line {rest : List Int} : CallIs (6 :: rest) [[6]] rest
  | account (x : List Int) {rest rest' : List Int} : PyFlat.row rest = some (x, rest') → x.length ≤ 20 → CallIs (7 :: rest) [[7], x] rest'
  | past {rest : List Int} : CallIs (8 :: rest) [[8]] rest
  | table {rest : List Int} : CallIs (9 :: rest) [[9]] rest
  | alike (z : Int) {rest : List Int} : CallIs (10 :: z :: rest) [[10, z]] rest
  | squeezed {rest : List Int} : CallIs (11 :: rest) [[11]] rest
  | can (s k : Int) {rest : List Int} : CallIs (12 :: s :: k :: rest) [[12, s, k]] rest
  | told {rest : List Int} : CallIs (13 :: rest) [[13]] rest
theorem call_some {shape : Int → Option (Nat × Nat)} {p : Int} {r t : List Int} {c : List (List Int)} (h : PyFlat.call shape (p :: r) = some (c, t)) : ∃ n k xs, shape p = some (n, k) ∧ n ≤ r.length ∧ PyFlat.rows k (r.drop n) = some (xs, t) ∧ c = (p :: r.take n) :: xs := by
  have h' : (match shape p with
    | none => none
    | some (n, k) => if r.length < n then none else match PyFlat.rows k (r.drop n) with
      | none => none
      | some (xs, t) => some ((p :: r.take n) :: xs, t)) = some (c, t) := h
  cases e : shape p with
  | none => rw [e] at h'; cases h'
  | some nk =>
    obtain ⟨n, k⟩ := nk
    simp only [e] at h'
    by_cases hl : r.length < n
    · rw [if_pos hl] at h'; cases h'
    · rw [if_neg hl] at h'
      cases e2 : PyFlat.rows k (r.drop n) with
      | none => simp only [e2] at h'; cases h'
      | some xt =>
        obtain ⟨xs, t'⟩ := xt
        simp only [e2] at h'
        obtain ⟨q1, q2⟩ := Prod.mk.inj (Option.some.inj h')
        exact ⟨n, k, xs, rfl, by omega, by rw [e2, q2], q1.symm⟩
theorem take1 {r : List Int} (h : 1 ≤ r.length) : ∃ z s, r = z :: s := by
  cases r with
  | nil => simp at h
  | cons z s => exact ⟨z, s, rfl⟩
theorem take2 {r : List Int} (h : 2 ≤ r.length) : ∃ y z s, r = y :: z :: s := by
  match r, h with
  | y :: z :: s, _ => exact ⟨y, z, s, rfl⟩
  | [_], h => simp at h
theorem rows1 {l t : List Int} {xs : List (List Int)} (h : PyFlat.rows 1 l = some (xs, t)) : ∃ x, xs = [x] ∧ PyFlat.row l = some (x, t) := by
  obtain ⟨x, m, ys, h1, h2, rfl⟩ := rows_succ h
  obtain ⟨rfl, rfl⟩ := rows_zero h2
  exact ⟨x, rfl, h1⟩
theorem rows4 {l t : List Int} {xs : List (List Int)} (h : PyFlat.rows 4 l = some (xs, t)) : ∃ a b c d, xs = [a, b, c, d] := by
  obtain ⟨a, _, _, _, h2, rfl⟩ := rows_succ h
  obtain ⟨b, _, _, _, h3, rfl⟩ := rows_succ h2
  obtain ⟨c, _, _, _, h4, rfl⟩ := rows_succ h3
  obtain ⟨d, _, _, _, h5, rfl⟩ := rows_succ h4
  obtain ⟨rfl, _⟩ := rows_zero h5
  exact ⟨a, b, c, d, rfl⟩
theorem row20 {n : Nat} {l : List Int} (h : VbbrafNeutral.row n l = true) : l.length ≤ n := by
  unfold VbbrafNeutral.row at h
  rw [Bool.and_eq_true] at h
  exact of_decide_eq_true h.1
theorem call_is {rest t : List Int} {c : List (List Int)} (h : PyFlat.call PyVbbraf.shape rest = some (c, t)) (ha : VbbrafNeutral.asked1 c = true) : CallIs rest c t := by
  cases rest with
  | nil => cases h
  | cons p r =>
    obtain ⟨n, k, xs, h1, h2, h3, rfl⟩ := call_some h
    by_cases p0 : p = 0
    · subst p0
      obtain ⟨rfl, rfl⟩ := Prod.mk.inj (Option.some.inj (show some (2, 4) = some (n, k) from h1))
      obtain ⟨y, z, s, rfl⟩ := take2 h2
      obtain ⟨a, b, c, d, rfl⟩ := rows4 h3
      refine .deal y z a b c d h3 ?_
      have ha' : (VbbrafNeutral.whole60 y && VbbrafNeutral.whole60 z && VbbrafNeutral.row 20 a && VbbrafNeutral.row 20 b && VbbrafNeutral.row 20 c && VbbrafNeutral.row 20 d) = true := ha
      simp only [Bool.and_eq_true] at ha'
      obtain ⟨⟨⟨⟨_, h5⟩, h6⟩, h7⟩, h8⟩ := ha'
      intro x hx
      simp only [List.mem_cons, List.not_mem_nil, or_false] at hx
      rcases hx with rfl | rfl | rfl | rfl
      · exact row20 h5
      · exact row20 h6
      · exact row20 h7
      · exact row20 h8
    by_cases p1 : p = 1
    · subst p1
      obtain ⟨rfl, rfl⟩ := Prod.mk.inj (Option.some.inj (show some (1, 0) = some (n, k) from h1))
      obtain ⟨z, s, rfl⟩ := take1 h2
      obtain ⟨rfl, rfl⟩ := rows_zero h3
      exact .play z
    by_cases p2 : p = 2
    · subst p2
      obtain ⟨rfl, rfl⟩ := Prod.mk.inj (Option.some.inj (show some (0, 0) = some (n, k) from h1))
      obtain ⟨rfl, rfl⟩ := rows_zero h3
      exact .back
    by_cases p3 : p = 3
    · subst p3
      obtain ⟨rfl, rfl⟩ := Prod.mk.inj (Option.some.inj (show some (0, 0) = some (n, k) from h1))
      obtain ⟨rfl, rfl⟩ := rows_zero h3
      exact .turn
    by_cases p4 : p = 4
    · subst p4
      obtain ⟨rfl, rfl⟩ := Prod.mk.inj (Option.some.inj (show some (0, 0) = some (n, k) from h1))
      obtain ⟨rfl, rfl⟩ := rows_zero h3
      exact .value
    by_cases p5 : p = 5
    · subst p5
      obtain ⟨rfl, rfl⟩ := Prod.mk.inj (Option.some.inj (show some (0, 0) = some (n, k) from h1))
      obtain ⟨rfl, rfl⟩ := rows_zero h3
      exact .cards
    by_cases p6 : p = 6
    · subst p6
      obtain ⟨rfl, rfl⟩ := Prod.mk.inj (Option.some.inj (show some (0, 0) = some (n, k) from h1))
      obtain ⟨rfl, rfl⟩ := rows_zero h3
      exact .line
    by_cases p7 : p = 7
    · subst p7
      obtain ⟨rfl, rfl⟩ := Prod.mk.inj (Option.some.inj (show some (0, 1) = some (n, k) from h1))
      obtain ⟨x, rfl, h4⟩ := rows1 h3
      exact .account x h4 (row20 ha)
    by_cases p8 : p = 8
    · subst p8
      obtain ⟨rfl, rfl⟩ := Prod.mk.inj (Option.some.inj (show some (0, 0) = some (n, k) from h1))
      obtain ⟨rfl, rfl⟩ := rows_zero h3
      exact .past
    by_cases p9 : p = 9
    · subst p9
      obtain ⟨rfl, rfl⟩ := Prod.mk.inj (Option.some.inj (show some (0, 0) = some (n, k) from h1))
      obtain ⟨rfl, rfl⟩ := rows_zero h3
      exact .table
    by_cases p10 : p = 10
    · subst p10
      obtain ⟨rfl, rfl⟩ := Prod.mk.inj (Option.some.inj (show some (1, 0) = some (n, k) from h1))
      obtain ⟨z, s, rfl⟩ := take1 h2
      obtain ⟨rfl, rfl⟩ := rows_zero h3
      exact .alike z
    by_cases p11 : p = 11
    · subst p11
      obtain ⟨rfl, rfl⟩ := Prod.mk.inj (Option.some.inj (show some (0, 0) = some (n, k) from h1))
      obtain ⟨rfl, rfl⟩ := rows_zero h3
      exact .squeezed
    by_cases p12 : p = 12
    · subst p12
      obtain ⟨rfl, rfl⟩ := Prod.mk.inj (Option.some.inj (show some (2, 0) = some (n, k) from h1))
      obtain ⟨y, z, s, rfl⟩ := take2 h2
      obtain ⟨rfl, rfl⟩ := rows_zero h3
      exact .can y z
    by_cases p13 : p = 13
    · subst p13
      obtain ⟨rfl, rfl⟩ := Prod.mk.inj (Option.some.inj (show some (0, 0) = some (n, k) from h1))
      obtain ⟨rfl, rfl⟩ := rows_zero h3
      exact .told
    unfold PyVbbraf.shape at h1
    rw [if_neg p0, if_neg p1, if_neg p2, if_neg p3, if_neg p4, if_neg p5, if_neg p6, if_neg p7, if_neg p8, if_neg p9, if_neg p10, if_neg p11, if_neg p12, if_neg p13] at h1
    cases h1
end Lm

/-! The mathematics of what is asked later: gifts, accounts, tables, squeezed cards. No library. -/
namespace Lm
open Vbbraf

/-! ### gifts -/
theorem gift_even {p : Pos} (g : Good p) {c : Nat} (hc : c ∈ legal p) (h : turnOf p % 2 = 0) : valueBy p c ≤ value p ∧ gift p c = value p - valueBy p c := by
  have := (value_is g (List.ne_nil_of_mem hc)).2 c hc
  rw [if_pos h] at this
  exact ⟨this, if_pos h⟩
theorem gift_odd {p : Pos} (g : Good p) {c : Nat} (hc : c ∈ legal p) (h : ¬ turnOf p % 2 = 0) : value p ≤ valueBy p c ∧ gift p c = valueBy p c - value p := by
  have := (value_is g (List.ne_nil_of_mem hc)).2 c hc
  rw [if_neg h] at this
  exact ⟨this, if_neg h⟩

/-! ### accounts -/
theorem account_nil (p : Pos) : account p [] = some ([], p) := rfl
theorem account_cons (p : Pos) (c : Nat) (r : List Nat) : account p (c :: r) = if (legal p).contains c = false then none else match account (behind p c).1 r with
  | none => none
  | some (l, q) => some (⟨turnOf p, gift p c, gained (behind p c).2⟩ :: l, q) := rfl
/-- one card more -/
theorem account_snoc : ∀ (l : List Nat) (p : Pos) (c : Nat), account p (l ++ [c]) = (match account p l with
    | none => none
    | some (es, q) => if (legal q).contains c = false then none else some (es ++ [⟨turnOf q, gift q c, gained (behind q c).2⟩], (behind q c).1))
  | [], p, c => by
    show account p (c :: []) = _
    rw [account_cons, account_nil, account_nil]
    rfl
  | d :: l, p, c => by
    rw [List.cons_append, account_cons, account_cons]
    by_cases h : (legal p).contains d = false
    · rw [if_pos h, if_pos h]
    · rw [if_neg h, if_neg h, account_snoc l (behind p d).1 c]
      cases e : account (behind p d).1 l with
      | none => rfl
      | some x =>
        obtain ⟨es, q⟩ := x
        show (match (if (legal q).contains c = false then none else some (es ++ [⟨turnOf q, gift q c, gained (behind q c).2⟩], (behind q c).1)) with
          | none => none
          | some (l, q) => some (⟨turnOf p, gift p d, gained (behind p d).2⟩ :: l, q)) = if (legal q).contains c = false then none else some ((⟨turnOf p, gift p d, gained (behind p d).2⟩ :: es) ++ [⟨turnOf q, gift q c, gained (behind q c).2⟩], (behind q c).1)
        by_cases h2 : (legal q).contains c = false
        · rw [if_pos h2, if_pos h2]
        · rw [if_neg h2, if_neg h2]
          rfl
theorem account_none : ∀ {l : List Nat} {p : Pos}, account p l = none → ∀ r, account p (l ++ r) = none
  | [], p, h, _ => by cases h
  | d :: l, p, h, r => by
    rw [account_cons] at h
    rw [List.cons_append, account_cons]
    by_cases hd : (legal p).contains d = false
    · rw [if_pos hd]
    · rw [if_neg hd] at h ⊢
      cases e : account (behind p d).1 l with
      | none => rw [account_none e r]
      | some x => rw [e] at h; cases h
theorem contains_of {l : List Nat} {c : Nat} (h : c ∈ l) : ¬ l.contains c = false := by
  rw [List.contains_iff_mem.mpr h]
  decide
theorem mem_of_contains {l : List Nat} {c : Nat} (h : ¬ l.contains c = false) : c ∈ l := by
  cases e : l.contains c with
  | false => exact absurd e h
  | true => exact List.contains_iff_mem.mp e
/-- the position behind an account is a good one; as many cards fewer -/
theorem account_good : ∀ {l : List Nat} {p q : Pos} {es : List Entry}, Good p → account p l = some (es, q) → Good q ∧ held q + l.length = held p ∧ es.length = l.length ∧ q.trump = p.trump
  | [], p, q, es, g, h => by
    obtain ⟨rfl, rfl⟩ := Prod.mk.inj (Option.some.inj (show some (([] : List Entry), p) = some (es, q) from h))
    exact ⟨g, rfl, rfl, rfl⟩
  | d :: l, p, q, es, g, h => by
    rw [account_cons] at h
    by_cases hd : (legal p).contains d = false
    · rw [if_pos hd] at h; cases h
    · rw [if_neg hd] at h
      have hm := mem_of_contains hd
      cases e : account (behind p d).1 l with
      | none => rw [e] at h; cases h
      | some x =>
        obtain ⟨fs, q'⟩ := x
        rw [e] at h
        obtain ⟨rfl, rfl⟩ := Prod.mk.inj (Option.some.inj (show some ((⟨turnOf p, gift p d, gained (behind p d).2⟩ : Entry) :: fs, q') = some (es, q) from h))
        obtain ⟨h1, h2, h3, h4⟩ := account_good (good_behind g hm) e
        have hb := held_behind g hm
        refine ⟨h1, ?_, ?_, ?_⟩
        · rw [List.length_cons]; omega
        · rw [List.length_cons, List.length_cons, h3]
        · rw [h4, behind_trump]
/-- what was played since the deal has an account, and it ends at the position now -/
theorem Reach.past {st : State} (r : Reach st) : ∃ es, account st.first st.played = some (es, st.now) := by
  induction r with
  | deal p g h t tr => exact ⟨[], rfl⟩
  | @play st c r hc ih =>
    obtain ⟨es, e⟩ := ih
    rw [by_played, by_first, account_snoc, e]
    refine ⟨es ++ [⟨turnOf st.now, gift st.now c, gained (behind st.now c).2⟩], ?_⟩
    show (if (legal st.now).contains c = false then none else some (es ++ [⟨turnOf st.now, gift st.now c, gained (behind st.now c).2⟩], (behind st.now c).1)) = _
    rw [if_neg (contains_of hc)]
    rfl
theorem total_snoc (l : List Nat) (x : Nat) : total (l ++ [x]) = total l + x := by
  rw [total_eq, total_eq, List.sum_append, List.sum_cons, List.sum_nil, Nat.add_zero]
theorem givenBy_snoc (s : Nat) (l : List Entry) (e : Entry) : givenBy s (l ++ [e]) = givenBy s l + (if e.seat % 2 = s then e.gift else 0) := by
  unfold givenBy
  rw [List.filter_append, List.map_append]
  by_cases h : e.seat % 2 = s
  · have : [e].filter (fun e => e.seat % 2 == s) = [e] := by
      rw [List.filter_cons, if_pos (beq_iff_eq.mpr h)]
      rfl
    rw [this, if_pos h]
    exact total_snoc _ _
  · have : [e].filter (fun e => e.seat % 2 == s) = [] := by
      rw [List.filter_cons, if_neg (fun z => h (beq_iff_eq.mp z))]
      rfl
    rw [this, if_neg h]
    show total (_ ++ []) = _
    rw [List.append_nil]
    rfl
theorem wonIn_snoc (l : List Entry) (e : Entry) : wonIn (l ++ [e]) = wonIn l + e.won := by
  unfold wonIn
  rw [List.map_append]
  exact total_snoc _ _

/-! ### tables -/
theorem good_table {p : Pos} (g : Good p) (h : p.trick = []) {t l : Nat} (hl : l < 4) : Good ⟨p.hands, t, l, []⟩ := by
  obtain ⟨n, hn⟩ := g.sz
  refine ⟨g.len, g.nd, hl, (by decide : 0 < 4), ⟨n, fun s hs => ?_⟩⟩
  have h1 := hn s hs
  have e1 : hasPlayed p s = 0 := by
    unfold hasPlayed
    rw [h]
    exact if_neg (Nat.not_lt_zero _)
  rw [e1] at h1
  have e2 : hasPlayed (⟨p.hands, t, l, []⟩ : Pos) s = 0 := if_neg (Nat.not_lt_zero _)
  rw [e2]
  exact h1

/-! ### the cards of what is reached -/
theorem Reach.deck {st : State} (r : Reach st) : Deck st.now := by
  induction r with
  | deal p g h t tr k => exact k
  | @play st c r hc ih => exact deck_behind r.good.1 ih hc
end Lm

/-! The mathematics of alike and squeezed cards, as the program finds them. No library. -/
namespace Lm
open Vbbraf
theorem owner_some {q : Pos} {c t : Nat} (ht : t < 4) (h : (handOf q t).contains c = true) (hl : ∀ j, j < t → (handOf q j).contains c = false) : ownerOf q c = some t := by
  unfold ownerOf
  have e : List.range 4 = [0, 1, 2, 3] := rfl
  rw [e]
  match t, ht with
  | 0, _ => rw [List.find?_cons_of_pos (by exact h)]
  | 1, _ => rw [List.find?_cons_of_neg (by rw [hl 0 (by decide)]; decide), List.find?_cons_of_pos (by exact h)]
  | 2, _ => rw [List.find?_cons_of_neg (by rw [hl 0 (by decide)]; decide), List.find?_cons_of_neg (by rw [hl 1 (by decide)]; decide), List.find?_cons_of_pos (by exact h)]
  | 3, _ => rw [List.find?_cons_of_neg (by rw [hl 0 (by decide)]; decide), List.find?_cons_of_neg (by rw [hl 1 (by decide)]; decide), List.find?_cons_of_neg (by rw [hl 2 (by decide)]; decide), List.find?_cons_of_pos (by exact h)]
theorem owner_none {q : Pos} {c : Nat} (hl : ∀ j, j < 4 → (handOf q j).contains c = false) : ownerOf q c = none := by
  unfold ownerOf
  have e : List.range 4 = [0, 1, 2, 3] := rfl
  rw [e, List.find?_cons_of_neg (by rw [hl 0 (by decide)]; decide), List.find?_cons_of_neg (by rw [hl 1 (by decide)]; decide), List.find?_cons_of_neg (by rw [hl 2 (by decide)]; decide), List.find?_cons_of_neg (by rw [hl 3 (by decide)]; decide)]
  rfl
/-- all cards, the trick first -/
def seenOf (p : Pos) : List Nat := p.trick ++ p.hands.flatten
theorem seen4 {p : Pos} (h : p.hands.length = 4) : seenOf p = p.trick ++ (handOf p 0 ++ (handOf p 1 ++ (handOf p 2 ++ handOf p 3))) := by
  unfold seenOf
  rw [hands4 h]
  simp [handOf]
theorem seen_perm {p : Pos} (h : p.hands.length = 4) : (seenOf p).Perm (cardsOf p) := by
  unfold seenOf cardsOf
  rw [show (p.hands.flatMap fun h => h) = p.hands.flatten by rw [hands4 h]; simp]
  exact List.perm_append_comm
theorem seen_mem {p : Pos} (h : p.hands.length = 4) {c : Nat} : c ∈ seenOf p ↔ c ∈ p.trick ∨ ∃ t, t < 4 ∧ c ∈ handOf p t := by
  rw [seen4 h]
  simp only [List.mem_append]
  constructor
  · rintro (h | h | h | h | h)
    · exact .inl h
    · exact .inr ⟨0, by decide, h⟩
    · exact .inr ⟨1, by decide, h⟩
    · exact .inr ⟨2, by decide, h⟩
    · exact .inr ⟨3, by decide, h⟩
  · rintro (h | ⟨t, ht, h⟩)
    · exact .inl h
    · match t, ht, h with
      | 0, _, h => exact .inr (.inl h)
      | 1, _, h => exact .inr (.inr (.inl h))
      | 2, _, h => exact .inr (.inr (.inr (.inl h)))
      | 3, _, h => exact .inr (.inr (.inr (.inr h)))
theorem seen_len {p : Pos} (h : p.hands.length = 4) : (seenOf p).length = p.trick.length + held p := by
  rw [seen4 h, held_eq h]
  simp only [List.length_append]
  omega
/-- a card of one hand is in no other hand, and not in the trick -/
theorem deck_trick {p : Pos} (h : p.hands.length = 4) (k : Deck p) {t : Nat} (ht : t < 4) {c : Nat} (hc : c ∈ handOf p t) : c ∉ p.trick := by
  have nd := (seen_perm h).nodup_iff.mpr k.nd
  rw [seen4 h, List.nodup_append] at nd
  intro hz
  refine nd.2.2 c hz c ?_ rfl
  simp only [List.mem_append]
  match t, ht, hc with
  | 0, _, h => exact .inl h
  | 1, _, h => exact .inr (.inl h)
  | 2, _, h => exact .inr (.inr (.inl h))
  | 3, _, h => exact .inr (.inr (.inr h))
theorem deck_hand {p : Pos} (h : p.hands.length = 4) (k : Deck p) {t u : Nat} (ht : t < 4) (hu : u < 4) (hn : u ≠ t) {c : Nat} (hc : c ∈ handOf p t) : c ∉ handOf p u := by
  have nd := (seen_perm h).nodup_iff.mpr k.nd
  rw [seen4 h, List.nodup_append] at nd
  have nd := nd.2.1
  rw [List.nodup_append, List.nodup_append, List.nodup_append] at nd
  obtain ⟨_, ⟨_, ⟨_, _, d3⟩, d2⟩, d1⟩ := nd
  simp only [List.mem_append] at d1 d2
  intro hz
  match t, ht, u, hu, hc, hz with
  | 0, _, 0, _, _, _ => exact hn rfl
  | 1, _, 1, _, _, _ => exact hn rfl
  | 2, _, 2, _, _, _ => exact hn rfl
  | 3, _, 3, _, _, _ => exact hn rfl
  | 0, _, 1, _, a, b => exact d1 c a c (.inl b) rfl
  | 0, _, 2, _, a, b => exact d1 c a c (.inr (.inl b)) rfl
  | 0, _, 3, _, a, b => exact d1 c a c (.inr (.inr b)) rfl
  | 1, _, 0, _, a, b => exact d1 c b c (.inl a) rfl
  | 2, _, 0, _, a, b => exact d1 c b c (.inr (.inl a)) rfl
  | 3, _, 0, _, a, b => exact d1 c b c (.inr (.inr a)) rfl
  | 1, _, 2, _, a, b => exact d2 c a c (.inl b) rfl
  | 1, _, 3, _, a, b => exact d2 c a c (.inr b) rfl
  | 2, _, 1, _, a, b => exact d2 c b c (.inl a) rfl
  | 3, _, 1, _, a, b => exact d2 c b c (.inr a) rfl
  | 2, _, 3, _, a, b => exact d3 c a c b rfl
  | 3, _, 2, _, a, b => exact d3 c b c a rfl
def partedBy (a b : Nat) (l : List Nat) : Bool := l.any fun y => decide (min a b < y) && decide (y < max a b)
def aliked (h : List Nat) (c : Nat) (s : List Nat) : List Nat := (h.filter fun x => suitOf x == suitOf c).filter fun x => !partedBy x c (s.filter fun y => !h.contains y)
theorem parted_is {p : Pos} (hl : p.hands.length = 4) (k : Deck p) {t : Nat} (ht : t < 4) (x c : Nat) : partedBy x c ((seenOf p).filter fun y => !(handOf p t).contains y) = between p t c x := by
  rw [Bool.eq_iff_iff]
  unfold partedBy between
  rw [List.any_eq_true, Bool.or_eq_true, List.any_eq_true, List.any_eq_true, Nat.min_comm x c, Nat.max_comm x c]
  constructor
  · rintro ⟨y, hy, hb⟩
    obtain ⟨h1, h2⟩ := List.mem_filter.mp hy
    rcases (seen_mem hl).mp h1 with h | ⟨u, hu, h⟩
    · exact .inl ⟨y, h, hb⟩
    · refine .inr ⟨u, List.mem_range.mpr hu, ?_⟩
      have n : u ≠ t := fun e => by
        subst e
        rw [List.contains_iff_mem.mpr h] at h2
        cases h2
      rw [Bool.and_eq_true, List.any_eq_true]
      exact ⟨bne_iff_ne.mpr n, y, h, hb⟩
  · rintro (⟨y, hy, hb⟩ | ⟨u, hu, h⟩)
    · refine ⟨y, List.mem_filter.mpr ⟨(seen_mem hl).mpr (.inl hy), ?_⟩, hb⟩
      cases e : (handOf p t).contains y with
      | false => rfl
      | true => exact absurd hy (deck_trick hl k ht (List.contains_iff_mem.mp e))
    · rw [Bool.and_eq_true, List.any_eq_true] at h
      obtain ⟨n, y, hy, hb⟩ := h
      have hu := List.mem_range.mp hu
      have n := bne_iff_ne.mp n
      refine ⟨y, List.mem_filter.mpr ⟨(seen_mem hl).mpr (.inr ⟨u, hu, hy⟩), ?_⟩, hb⟩
      cases e : (handOf p t).contains y with
      | false => rfl
      | true => exact absurd hy (deck_hand hl k ht hu n (List.contains_iff_mem.mp e))
theorem aliked_is {p : Pos} (hl : p.hands.length = 4) (k : Deck p) {t : Nat} (ht : t < 4) (c : Nat) : aliked (handOf p t) c (seenOf p) = (handOf p t).filter (alike p t c) := by
  unfold aliked
  rw [List.filter_filter]
  refine List.filter_congr fun x _ => ?_
  rw [parted_is hl k ht]
  show (!between p t c x && (suitOf x == suitOf c)) = (suitOf c == suitOf x && !between p t c x)
  rw [Bool.and_comm, BEq.comm (a := suitOf x)]
/-- how many higher ones -/
def highers (c : Nat) (s : List Nat) : Nat := (s.filter fun y => suitOf y == suitOf c && decide (c < y)).length
theorem squeezed_is {p : Pos} (hl : p.hands.length = 4) (k : Deck p) {c : Nat} (hc : c ∈ seenOf p) : (13 * (suitOf c : Int) + 12) - (highers c (seenOf p) : Int) = (squeezedCard p c : Int) := by
  have e : highers c (seenOf p) = ((cardsOf p).filter fun d => suitOf d == suitOf c && decide (c < d)).length := ((seen_perm hl).filter _).length_eq
  have hm := (seen_perm hl).mem_iff.mp hc
  have h1 := higher_le k.nd c (k.lt c hm) k.lt
  unfold squeezedCard
  rw [e]
  omega
theorem seen_hand {p : Pos} (hl : p.hands.length = 4) {h : List Nat} (hh : h ∈ p.hands) {c : Nat} (hc : c ∈ h) : c ∈ seenOf p := by
  unfold seenOf
  exact List.mem_append_right _ (List.mem_flatten.mpr ⟨h, hh, hc⟩)
end Lm

/-! A dict whose keys are positions between two tricks, and whose values are theirs. -/
namespace Lx
open PySem PySem.Spec PyProof.Rows L2

/-- a number, a row of numbers as values -/
def iv (n : Nat) : V := .int (n : Int)
def ivs (l : List Nat) : List V := l.map iv

/-- the four hands -/
def HandsAt (H : Hp) (h : Addr) (hs : List (List Nat)) : Prop := ∃ rs : List Addr, H h = some (.tup (rs.map V.ref)) ∧ Paired (fun a l => H a = some (.tup (ivs l))) rs hs
def KeyP (H : Hp) (b : Addr) (hs : List (List Nat)) (t l : Nat) : Prop := ∃ h, H b = some (.tup [.ref h, iv t, iv l]) ∧ HandsAt H h hs
def nkHand (l : List Nat) : NestedKey := .tup (l.map fun (c : Nat) => NestedKey.num (c : Int))
def keyOf (hs : List (List Nat)) (t l : Nat) : NestedKey := .tup [.tup (hs.map nkHand), .num t, .num l]

theorem nums_inj : ∀ {l m : List Nat}, (l.map fun (c : Nat) => NestedKey.num (c : Int)) = (m.map fun (c : Nat) => NestedKey.num (c : Int)) → l = m
  | [], [], _ => rfl
  | [], _ :: _, h => by cases h
  | _ :: _, [], h => by cases h
  | a :: l, b :: m, h => by
    rw [List.map_cons, List.map_cons] at h
    injection h with h1 h2
    injection h1 with h1
    rw [nums_inj h2, Int.ofNat.inj h1]
theorem nkHand_inj {l m : List Nat} (h : nkHand l = nkHand m) : l = m := by
  unfold nkHand at h
  injection h with h
  exact nums_inj h
theorem nkHands_inj : ∀ {l m : List (List Nat)}, l.map nkHand = m.map nkHand → l = m
  | [], [], _ => rfl
  | [], _ :: _, h => by cases h
  | _ :: _, [], h => by cases h
  | a :: l, b :: m, h => by
    rw [List.map_cons, List.map_cons] at h
    injection h with h1 h2
    rw [nkHands_inj h2, nkHand_inj h1]
theorem keyOf_inj {hs hs' : List (List Nat)} {t t' l l' : Nat} (h : keyOf hs t l = keyOf hs' t' l') : hs = hs' ∧ t = t' ∧ l = l' := by
  unfold keyOf at h
  injection h with h
  injection h with h1 h
  injection h with h2 h
  injection h with h3 h
  injection h1 with h1
  injection h2 with h2
  injection h3 with h3
  exact ⟨nkHands_inj h1, Int.ofNat.inj h2, Int.ofNat.inj h3⟩
theorem nums_depth : ∀ l : List Nat, NestedKey.depthAll (l.map fun (c : Nat) => NestedKey.num (c : Int)) ≤ 1
  | [] => by simp [NestedKey.depthAll]
  | a :: l => by
    have := nums_depth l
    simp only [List.map_cons, NestedKey.depthAll, NestedKey.depth]
    omega
theorem hands_depth : ∀ hs : List (List Nat), NestedKey.depthAll (hs.map nkHand) ≤ 2
  | [] => by simp [NestedKey.depthAll]
  | a :: l => by
    have h1 := hands_depth l
    have h2 := nums_depth a
    have h3 : (nkHand a).depth = NestedKey.depthAll (a.map fun (c : Nat) => NestedKey.num (c : Int)) + 1 := by simp only [nkHand, NestedKey.depth]
    simp only [List.map_cons, NestedKey.depthAll]
    omega
theorem keyOf_depth (hs : List (List Nat)) (t l : Nat) : (keyOf hs t l).depth ≤ 8 := by
  have h1 := hands_depth hs
  simp only [keyOf, NestedKey.depth, NestedKey.depthAll]
  omega

/-! ### relations of heaps: all but what stands at d is as it was -/
def Gx (d : Addr) (H H' : Hp) : Prop := ∀ a o, a ≠ d → H a = some o → H' a = some o
theorem Gx.refl (d : Addr) (H : Hp) : Gx d H H := fun _ _ _ h => h
theorem Gx.trans {d : Addr} {H H1 H2 : Hp} (a : Gx d H H1) (b : Gx d H1 H2) : Gx d H H2 := fun x o n h => b x o n (a x o n h)
theorem Gx.of {d : Addr} {H H' : Hp} (e : Evl.Ex H H') : Gx d H H' := fun a o _ h => e a o h
theorem ivs_len (l : List Nat) : (ivs l).length = l.length := by unfold ivs; rw [List.length_map]

theorem HandsAt.mono {H H' : Hp} {h : Addr} {hs : List (List Nat)} (k : ∀ a xs, H a = some (.tup xs) → H' a = some (.tup xs)) (x : HandsAt H h hs) : HandsAt H' h hs := by
  obtain ⟨rs, h1, h2⟩ := x
  exact ⟨rs, k _ _ h1, Paired.mapP h2 fun a l e => k _ _ e⟩
theorem KeyP.mono {H H' : Hp} {b : Addr} {hs : List (List Nat)} {t l : Nat} (k : ∀ a xs, H a = some (.tup xs) → H' a = some (.tup xs)) (x : KeyP H b hs t l) : KeyP H' b hs t l := by
  obtain ⟨h, h1, h2⟩ := x
  exact ⟨h, k _ _ h1, h2.mono k⟩

section
variable {X : Cx} {pins : List (Addr × Obj)} {σ : L2.St} {H : Hp} {s : Shared}
theorem nums_all {h : Heap} : ∀ {l : List Nat} {its : List Value}, Vals (ivs l) its → NestedAll h (l.map fun (c : Nat) => NestedKey.num (c : Int)) its
  | [], _, r => by cases r; exact .nil
  | c :: l, _, r => by
    cases r with
    | cons r1 r2 =>
      obtain ⟨t, e⟩ := (show ∃ t, _ = Value.int (c : Int) t from r1)
      subst e
      exact .cons (.int _ _) (nums_all r2)
theorem tup_nested {h : Heap} {a : Addr} {its : List Value} {ks : List NestedKey} (p : IsTup h a its.toArray) (n : NestedAll h ks its) : NestedIs h (.tup ks) (.ref a) := by
  obtain ⟨o, h1, h2, m, h3⟩ := p
  exact .tup h1 h2 h3 (by simpa using n)
theorem hand_nested (I : L2.Inv X pins σ H s) {a : Addr} {l : List Nat} (e : H a = some (.tup (ivs l))) : NestedIs s.heap (nkHand l) (.ref a) := by
  obtain ⟨_, its, r, p⟩ := (show ObjOk X.prog X.w H s.heap a (.tup (ivs l)) from I.hok a _ e)
  exact tup_nested p (nums_all r)
theorem hands_nested (I : L2.Inv X pins σ H s) : ∀ {rs : List Addr} {hs : List (List Nat)} {its : List Value}, Paired (fun a l => H a = some (.tup (ivs l))) rs hs → Vals (rs.map V.ref) its → NestedAll s.heap (hs.map nkHand) its
  | [], _, _, p, r => by cases p; cases r; exact .nil
  | a :: rs, _, _, p, r => by
    cases p with
    | cons p1 p2 =>
      cases r with
      | cons r1 r2 =>
        cases r1
        exact .cons (hand_nested I p1) (hands_nested I p2 r2)
theorem key_nested (I : L2.Inv X pins σ H s) {b : Addr} {hs : List (List Nat)} {t l : Nat} (k : KeyP H b hs t l) : NestedIs s.heap (keyOf hs t l) (.ref b) := by
  obtain ⟨h, h1, rs, h2, h3⟩ := k
  obtain ⟨_, its, r, p⟩ := (show ObjOk X.prog X.w H s.heap b (.tup [.ref h, iv t, iv l]) from I.hok b _ h1)
  obtain ⟨_, its2, r2, p2⟩ := (show ObjOk X.prog X.w H s.heap h (.tup (rs.map V.ref)) from I.hok h _ h2)
  cases r with
  | cons q1 r =>
    cases r with
    | cons q2 r =>
      cases r with
      | cons q3 r =>
        cases r
        cases q1
        obtain ⟨t1, e1⟩ := (show ∃ t', _ = Value.int (t : Int) t' from q2)
        obtain ⟨t2, e2⟩ := (show ∃ t', _ = Value.int (l : Int) t' from q3)
        subst e1 e2
        exact tup_nested p (.cons (tup_nested p2 (hands_nested I h3 r2)) (.cons (.int _ _) (.cons (.int _ _) .nil)))
end
theorem key_is {X : Cx} {pins : List (Addr × Obj)} {σ : L2.St} {H : Hp} {s : Shared} (I : L2.Inv X pins σ H s) {b : Addr} {hs : List (List Nat)} {t l : Nat} (k : KeyP H b hs t l) : (nestedKind X.prog X.w).is s.heap (keyOf hs t l) b :=
  ⟨key_nested I k, keyOf_depth hs t l⟩

/-! ### the dict -/
abbrev Ent := NestedKey × Addr × Value
def DRaw (P : Program) (w : World) (a : Addr) (xs : List Ent) : Heap → Prop := fun h => ∃ o es ep, h.get? a = some o ∧ o.ExactDict ∧ o.data = .dict es ep ∧ es.toList = xs.map (entryOfKey (nestedKind P w))
def DX (P : Program) (w : World) (a : Addr) (xs : List Ent) : HO := .ext (DRaw P w a xs)
abbrev PK3 := List (List Nat) × Nat × Nat
def EntOk (H : Hp) (U : List PK3) (x : Ent) : Prop := ∃ hs t l, x.1 = keyOf hs t l ∧ (hs, t, l) ∈ U ∧ KeyP H x.2.1 hs t l ∧ ∃ tk, x.2.2 = .int (Vbbraf.value ⟨hs, t, l, []⟩ : Int) tk
/-- what is found is right, and of the keys U -/
def FoundOk (P : Program) (w : World) (H : Hp) (d : Addr) (U : List PK3) : Prop := (d == sysModules) = false ∧ ∃ xs, H d = some (DX P w d xs) ∧ (xs.map (·.1)).Nodup ∧ ∀ x ∈ xs, EntOk H U x
/-- .. and a key is there -/
def FoundHas (P : Program) (w : World) (H : Hp) (d : Addr) (U : List PK3) (k : NestedKey) : Prop := (d == sysModules) = false ∧ ∃ xs, H d = some (DX P w d xs) ∧ (xs.map (·.1)).Nodup ∧ (∀ x ∈ xs, EntOk H U x) ∧ ∃ x ∈ xs, x.1 = k
theorem FoundHas.ok {P : Program} {w : World} {H : Hp} {d : Addr} {U : List PK3} {k : NestedKey} (f : FoundHas P w H d U k) : FoundOk P w H d U := by
  obtain ⟨h1, xs, h2, h3, h4, _⟩ := f
  exact ⟨h1, xs, h2, h3, h4⟩
theorem EntOk.mono {H H' : Hp} {U U' : List PK3} {x : Ent} (k : ∀ a xs, H a = some (.tup xs) → H' a = some (.tup xs)) (hU : ∀ y ∈ U, y ∈ U') (e : EntOk H U x) : EntOk H' U' x := by
  obtain ⟨hs, t, l, h1, h2, h3, h4⟩ := e
  exact ⟨hs, t, l, h1, hU _ h2, h3.mono k, h4⟩
theorem FoundOk.mono {P : Program} {w : World} {H H' : Hp} {d : Addr} {U U' : List PK3} (e : Evl.Ex H H') (hU : ∀ y ∈ U, y ∈ U') (f : FoundOk P w H d U) : FoundOk P w H' d U' := by
  obtain ⟨hd, xs, h1, h2, h3⟩ := f
  exact ⟨hd, xs, e _ _ h1, h2, fun x hx => (h3 x hx).mono (fun a xs h => e _ _ h) hU⟩
theorem FoundOk.ex {P : Program} {w : World} {H H' : Hp} {d : Addr} {U : List PK3} (e : Evl.Ex H H') (f : FoundOk P w H d U) : FoundOk P w H' d U := f.mono e fun _ h => h
/-- an object that isn't the dict may change -/
theorem FoundOk.other {P : Program} {w : World} {H : Hp} {d a : Addr} {o : HO} {U : List PK3} (ha : ∀ xs, H a ≠ some (.tup xs)) (hd : a ≠ d) (f : FoundOk P w H d U) : FoundOk P w (upd H a o) d U := by
  obtain ⟨hd', xs, h1, h2, h3⟩ := f
  refine ⟨hd', xs, by rw [upd_ne (Ne.symm hd)]; exact h1, h2, fun x hx => (h3 x hx).mono (fun b ys h => ?_) fun _ h => h⟩
  have : b ≠ a := fun e => ha ys (by rw [← e]; exact h)
  rw [upd_ne this]
  exact h

theorem dx_ofH {X : Cx} {pins : List (Addr × Obj)} {σ : L2.St} {H : Hp} {s : Shared} {d : Addr} {U : List PK3} {xs : List Ent} (I : L2.Inv X pins σ H s) (h1 : H d = some (DX X.prog X.w d xs)) (h2 : (xs.map (·.1)).Nodup) (h3 : ∀ x ∈ xs, EntOk H U x) :
    s.heap.DictOfH (nestedKind X.prog X.w) d xs := by
  obtain ⟨⟨o, es, ep, e1, e2, e3, e4⟩, _⟩ := (show ObjOk X.prog X.w H s.heap d (.ext (DRaw X.prog X.w d xs)) from I.hok d _ h1)
  refine ⟨o, es, ep, e1, e2, e3, e4, fun x hx => ?_, h2⟩
  obtain ⟨hs, t, l, k1, _, k3, _⟩ := h3 x hx
  rw [k1]
  exact key_is I k3
theorem dx_ok {P : Program} {w : World} {P' : Program} {w' : World} {H' : Hp} {h' : Heap} {d : Addr} {xs : List Ent} (m : h'.DictOfH (nestedKind P w) d xs) : ObjOk P' w' H' h' d (DX P w d xs) := by
  obtain ⟨o, es, ep, e1, e2, e3, e4, _, _⟩ := m
  refine ⟨⟨o, es, ep, e1, e2, e3, e4⟩, ⟨o, e1⟩, fun g1 g2 p k => ?_⟩
  obtain ⟨o, es, ep, e1, e2, e3, e4⟩ := p
  exact ⟨o, es, ep, k _ e1, e2, e3, e4⟩

/-! ### no more entries than keys -/
theorem nodup_le {α : Type} [DecidableEq α] : ∀ {l m : List α}, l.Nodup → (∀ x ∈ l, x ∈ m) → l.length ≤ m.length
  | [], _, _, _ => Nat.zero_le _
  | a :: l, m, hn, h => by
    rw [List.nodup_cons] at hn
    have h1 : ∀ x ∈ l, x ∈ m.erase a := fun x hx => by
      have hne : x ≠ a := fun e => hn.1 (e ▸ hx)
      exact (List.mem_erase_of_ne hne).mpr (h x (List.mem_cons_of_mem _ hx))
    have h2 := nodup_le hn.2 h1
    have ha : a ∈ m := h a List.mem_cons_self
    have h3 := List.length_erase_of_mem ha
    have h4 : 0 < m.length := List.length_pos_of_mem ha
    rw [List.length_cons]
    omega
theorem ent_len {H : Hp} {U : List PK3} {xs : List Ent} (h2 : (xs.map (·.1)).Nodup) (h3 : ∀ x ∈ xs, EntOk H U x) : xs.length ≤ U.length := by
  have h : (xs.map (·.1)).length ≤ (U.map fun y => keyOf y.1 y.2.1 y.2.2).length := by
    refine nodup_le h2 fun k hk => ?_
    obtain ⟨x, hx, rfl⟩ := List.mem_map.mp hk
    obtain ⟨hs, t, l, e, hu, _⟩ := h3 x hx
    exact List.mem_map.mpr ⟨(hs, t, l), hu, e.symm⟩
  rw [List.length_map, List.length_map] at h
  exact h
theorem atKey_some {xs : List Ent} {k : NestedKey} {p : Addr × Value} (h : atKey xs k = some p) : (k, p) ∈ xs := by
  unfold atKey at h
  obtain ⟨x, hx, e⟩ := Option.map_eq_some_iff.mp h
  have h1 := List.mem_of_find?_eq_some hx
  have h2 := List.find?_some hx
  have h3 : x.1 = k := of_decide_eq_true h2
  rw [← h3, ← e]
  exact h1
theorem atKey_has {xs : List Ent} {k : NestedKey} (h : ∃ x ∈ xs, x.1 = k) : ∃ p, atKey xs k = some p := by
  obtain ⟨x, hx, e⟩ := h
  unfold atKey
  have : (xs.find? fun x => decide (x.1 = k)).isSome = true := by
    rw [List.find?_isSome]
    exact ⟨x, hx, decide_eq_true e⟩
  obtain ⟨y, hy⟩ := Option.isSome_iff_exists.mp this
  exact ⟨y.2, by rw [hy]; rfl⟩
theorem stored_mem {xs : List Ent} {k : NestedKey} {a : Addr} {v : Value} {x : Ent} (h : x ∈ storedH xs k a v) : (∃ y ∈ xs, x = y) ∨ (x.1 = k ∧ x.2.2 = v ∧ (x.2.1 = a ∨ ∃ y ∈ xs, y.1 = k ∧ y.2.1 = x.2.1)) := by
  unfold storedH at h
  split at h
  · obtain ⟨y, hy, e⟩ := List.mem_map.mp h
    unfold putAt at e
    split at e
    · rename_i hk
      subst e
      exact .inr ⟨hk, rfl, .inr ⟨y, hy, hk, rfl⟩⟩
    · subst e
      exact .inl ⟨y, hy, rfl⟩
  · rcases List.mem_append.mp h with h | h
    · exact .inl ⟨x, h, rfl⟩
    · rcases List.mem_cons.mp h with e | h
      · subst e
        exact .inr ⟨rfl, rfl, .inl rfl⟩
      · cases h
theorem stored_has {xs : List Ent} {k : NestedKey} {a : Addr} {v : Value} : ∃ x ∈ storedH xs k a v, x.1 = k := by
  unfold storedH
  split
  · rename_i h
    obtain ⟨p, hp⟩ := Option.isSome_iff_exists.mp h
    have hm := atKey_some hp
    refine ⟨putAt k v (k, p), List.mem_map.mpr ⟨_, hm, rfl⟩, ?_⟩
    unfold putAt
    rw [if_pos rfl]
  · exact ⟨(k, a, v), List.mem_append_right _ List.mem_cons_self, rfl⟩

/-! ### the rules -/
section
variable {P : Program} {w : World}
/-- {} -/
def tXNew (P : Program) (w : World) : TE := fun _ H Q => ∀ p, H p = none → (p == sysModules) = false → Q (.ref p) (upd H p (DX P w p []))
/-- y not in d -/
def tXNotIn (P : Program) (w : World) (ty td : TE) : TE := fun σ H Q => ty σ H fun y H1 => td σ H1 fun x H2 => ∃ a b hs t l U, x = .ref a ∧ y = .ref b ∧ FoundOk P w H2 a U ∧ KeyP H2 b hs t l ∧ ∀ c : Bool, (c = false → FoundHas P w H2 a U (keyOf hs t l)) → Q (.bl c) H2
/-- d[y] -/
def tXGet (P : Program) (w : World) (td ty : TE) : TE := fun σ H Q => td σ H fun x H1 => ty σ H1 fun y H2 => ∃ a b hs t l U, x = .ref a ∧ y = .ref b ∧ FoundHas P w H2 a U (keyOf hs t l) ∧ KeyP H2 b hs t l ∧ Q (iv (Vbbraf.value ⟨hs, t, l, []⟩)) H2
/-- d[y] = v -/
def sXPut (P : Program) (w : World) (td ty tv : TE) : TS := fun D σ H => tv σ H fun v H1 => td σ H1 fun x H2 => ty σ H2 fun y H3 => ∃ a b hs t l U, x = .ref a ∧ y = .ref b ∧ v = iv (Vbbraf.value ⟨hs, t, l, []⟩) ∧ FoundOk P w H3 a U ∧ U.length ≤ sizeLine ∧ (hs, t, l) ∈ U ∧ KeyP H3 b hs t l ∧
  ∀ H4, Gx a H3 H4 → FoundHas P w H4 a U (keyOf hs t l) → D.nx σ H4
end
section
variable {X : Cx} {o i e value : Expr} {pos pos' tpos : Pos} {td ty tv : TE}
theorem room8 (hu : X.A.units + 64 < cLine) : (nestedKind X.prog X.w).room X.A.in1 := by
  show X.A.in1.units + 8 < cLine
  have : X.A.in1.units = X.A.units + 1 := rfl
  omega
theorem pe_xnew : PE X (.Dict [] [] pos) (tXNew X.prog X.w) := ⟨fun pins s σ H Q I h => by
  have hne : (s.heap.objs.size == sysModules) = false := beq_eq_false_iff_ne.mpr (fun e => Nat.ne_of_gt I.big e)
  exact wpAny_Dict_empty ⟨.ref s.heap.objs.size, _, I.laid (a := s.heap.objs.size) (o := DX X.prog X.w s.heap.objs.size []) (t' := s.toks) (fun _ _ q => Heap.get?_push_of_some _ q) (Nat.le_refl _) (dx_ok (Heap.DictOfH.new s.heap)), rfl, h _ (I.hok.fresh (Nat.le_refl _)) hne⟩⟩
theorem pc_xnotin (hu : X.A.units + 64 < cLine) (hi : PE X i ty) (ho : PE X o td) : PC X .NotIn i o (tXNotIn X.prog X.w ty td) := by
  refine ⟨fun pins s σ H Q I h => ?_⟩
  refine thn (hi.run pins s σ H _ I h) fun iv' s1 ⟨y, H1, I1, ry, q1⟩ => thn (ho.run pins s1 σ H1 _ I1 q1) fun u s2 ⟨x, H2, I2, rx, a, b, hs, t, l, U, ex, ey, f, kp, q2⟩ => ?_
  subst ex ey
  obtain rfl : u = Value.ref a := rx
  obtain rfl : iv' = Value.ref b := ry
  obtain ⟨hd, xs, f1, f2, f3⟩ := f
  have dd := dx_ofH I2 f1 f2 f3
  refine wpAny_notIn_heap (room8 hu) (key_is I2 kp) hd dd ?_
  refine ⟨.bl (!(atKey xs (keyOf hs t l)).isSome), H2, I2.tok _, rfl, q2 _ fun hc => ⟨hd, xs, f1, f2, f3, ?_⟩⟩
  cases q : atKey xs (keyOf hs t l) with
  | none => rw [q] at hc; cases hc
  | some p => exact ⟨_, atKey_some q, rfl⟩
theorem pe_xget (hu : X.A.units + 64 < cLine) (ho : PE X o td) (hi : PE X i ty) (hs : NoSl i) : PE X (.Subscript o i pos) (tXGet X.prog X.w td ty) := by
  refine ⟨fun pins s σ H Q I h => ?_⟩
  refine subD_of PySem.F.slot_dict_getitem.lookup hs (thn (ho.run pins s σ H _ I h) fun u s1 ⟨x, H1, I1, rx, q1⟩ => thn (hi.run pins s1 σ H1 _ I1 q1) fun iv' s2 ⟨y, H2, I2, ry, a, b, hs, t, l, U, ex, ey, f, kp, q2⟩ => ?_)
  subst ex ey
  obtain rfl : u = Value.ref a := rx
  obtain rfl : iv' = Value.ref b := ry
  obtain ⟨hd, xs, f1, f2, f3, g2⟩ := f
  have dd := dx_ofH I2 f1 f2 f3
  obtain ⟨p, hp⟩ := atKey_has g2
  refine ⟨dd.typeIs, wpAny_getItem_heap (room8 hu) (key_is I2 kp) dd hp ?_⟩
  obtain ⟨hs', t', l', e1, _, _, tk, e2⟩ := f3 _ (atKey_some hp)
  obtain ⟨rfl, rfl, rfl⟩ := keyOf_inj e1
  refine ⟨iv (Vbbraf.value ⟨hs, t, l, []⟩), H2, I2.tok _, ⟨tk, e2⟩, q2⟩
theorem ps_xput (hu : X.A.units + 64 < cLine) (ho : PE X o td) (hi : PE X i ty) (hv : PE X value tv) (hs : swapsWith value (some (.Subscript o i pos')) pos.line X.env = pure false) :
    PS X (.Assign [.Subscript o i pos'] value pos) (sXPut X.prog X.w td ty tv) := by
  refine ⟨fun pins s σ H D I h => ?_⟩
  refine wpAny_Assign_Subscript (thn (hv.run pins s σ H _ I h) fun r s1 ⟨v, H1, I1, rv, q1⟩ => thn (ho.run pins s1 σ H1 _ I1 q1) fun u s2 ⟨x, H2, I2, rx, q2⟩ => thn (hi.run pins s2 σ H2 _ I2 q2) fun iv' s3 ⟨y, H3, I3, ry, a, b, hs, t, l, U, ex, ey, ev, f, hU, hm, kp, q3⟩ => ?_) hs
  subst ex ey ev
  obtain rfl : u = Value.ref a := rx
  obtain rfl : iv' = Value.ref b := ry
  obtain ⟨tk, rfl⟩ := (show ∃ t', r = Value.int (Vbbraf.value ⟨hs, t, l, []⟩ : Int) t' from rv)
  obtain ⟨hd, xs, f1, f2, f3⟩ := f
  have dd := dx_ofH I3 f1 f2 f3
  refine wpAny_setItem_heap (hsz := Nat.le_trans (ent_len f2 f3) hU) (room8 hu) (key_is I3 kp) dd fun h' dd' hsb => ?_
  have he : ∃ q, h'.get? a = some q := let ⟨q, _, _, hq, _⟩ := dd'; ⟨q, hq⟩
  have kt : ∀ c ys, H3 c = some (.tup ys) → upd H3 a (DX X.prog X.w a (storedH xs (keyOf hs t l) b (.int (Vbbraf.value ⟨hs, t, l, []⟩ : Int) tk))) c = some (.tup ys) := fun c ys ec => by
    rw [upd_ne (ne_of ec f1 (fun z => nomatch z))]
    exact ec
  have I4 := d_write (t' := s3.toks + (nestedKind X.prog X.w).draws (keyOf hs t l)) I3 (by rw [f1]; exact True.intro) hsb he (dx_ok (H' := upd H3 a (DX X.prog X.w a (storedH xs (keyOf hs t l) b (.int (Vbbraf.value ⟨hs, t, l, []⟩ : Int) tk)))) dd')
  refine ⟨σ, _, I4, q3 _ (fun c ob n e => by rw [upd_ne n]; exact e) ⟨hd, _, upd_same, ?_, fun x hx => ?_, stored_has⟩⟩
  · obtain ⟨_, _, _, _, _, _, _, _, nd⟩ := dd'
    exact nd
  · rcases stored_mem hx with ⟨y, hy, e⟩ | ⟨e1, e2, e3⟩
    · subst e
      exact (f3 _ hy).mono kt fun _ h => h
    · refine ⟨hs, t, l, e1, hm, ?_, tk, e2⟩
      rcases e3 with e3 | ⟨y, hy, ey1, ey2⟩
      · rw [e3]
        exact kp.mono kt
      · obtain ⟨hs', t', l', k1, _, k3, _⟩ := f3 y hy
        obtain ⟨rfl, rfl, rfl⟩ := keyOf_inj (ey1.symm.trans k1)
        rw [← ey2]
        exact k3.mono kt
end
end Lx

/-! Two more rules: xs[i] op= e of a list, len(set(xs)) of ints that may stand twice. -/
namespace Lx
open PySem PySem.Spec PyProof.Rows L2
/-- xs[k], 0 <= k, by values -/
def rGetL (K : PySem.W.Frag) : V → V → Hp → VK → Prop := fun o i H Q => ∃ p xs k v, o = .ref p ∧ i = .int (k : Nat) ∧ SqL K H p xs ∧ xs[k]? = some v ∧ Q v H
theorem get_list {X : Cx} : PGet X (rGetL X.K) := by
  intro pins s σ H o i ov iv Q I ro ri h
  obtain ⟨p, xs, k, v, rfl, rfl, hq, hv, q⟩ := h
  cases ro
  obtain ⟨t, rfl⟩ := ri
  obtain ⟨its, r, pl, hz⟩ := I.list hq
  obtain ⟨w, ew, rw'⟩ := r.get hv
  have hl := r.length
  have hn := line63
  have hk := (List.getElem?_eq_some_iff.mp ew).1
  exact wpAny_getItem_list pl.isList (by omega) (by omega) (by simpa using ew) ⟨v, H, I, rw', q⟩

/-! ### len(set(xs)) -/
theorem met_mem (f : Nat → Int) : ∀ (i : Nat) (y : Int), y ∈ PyProof.Rows.firstMet f i ↔ ∃ j, j < i ∧ f j = y
  | 0, y => Iff.intro (fun h => by cases h) (fun h => by obtain ⟨j, h, _⟩ := h; exact absurd h (Nat.not_lt_zero _))
  | i + 1, y => by
    have ih := met_mem f i y
    rw [PyProof.Rows.firstMet_succ]
    show y ∈ (if (PyProof.Rows.firstMet f i).any (· == f i) then PyProof.Rows.firstMet f i else PyProof.Rows.firstMet f i ++ [f i]) ↔ _
    split
    · rename_i hb
      obtain ⟨z, hz, ez⟩ := List.any_eq_true.mp hb
      have ez2 : z = f i := eq_of_beq ez
      rw [ez2] at hz
      constructor
      · intro h
        obtain ⟨j, hj, e⟩ := ih.mp h
        exact ⟨j, by omega, e⟩
      · rintro ⟨j, hj, e⟩
        by_cases hji : j = i
        · subst hji
          rw [← e]
          exact hz
        · exact ih.mpr ⟨j, by omega, e⟩
    · rw [List.mem_append, ih]
      constructor
      · rintro (⟨j, hj, e⟩ | h)
        · exact ⟨j, by omega, e⟩
        · rcases List.mem_cons.mp h with h | h
          · exact ⟨i, by omega, h.symm⟩
          · cases h
      · rintro ⟨j, hj, e⟩
        by_cases hji : j = i
        · subst hji
          exact .inr (by rw [e]; exact List.mem_cons_self)
        · exact .inl ⟨j, by omega, e⟩
theorem met_len (ns : List Int) : ∀ i, i ≤ ns.length → (PyProof.Rows.firstMet (fun i => ns.getD i 0) i).length ≤ i ∧ ((PyProof.Rows.firstMet (fun i => ns.getD i 0) i).length = i → (ns.take i).Nodup)
  | 0, _ => ⟨Nat.le_refl _, fun _ => by simp⟩
  | i + 1, hi => by
    have hlt : i < ns.length := hi
    have ih := met_len ns i (Nat.le_of_lt hlt)
    have e1 : ns.getD i 0 = ns[i] := by
      rw [List.getD_eq_getElem?_getD, List.getElem?_eq_getElem hlt] <;> rfl
    have e2 : ns.take (i + 1) = ns.take i ++ [ns[i]] := by
      rw [List.take_add_one, List.getElem?_eq_getElem hlt] <;> rfl
    rw [PyProof.Rows.firstMet_succ]
    show (if (PyProof.Rows.firstMet (fun i => ns.getD i 0) i).any (· == ns.getD i 0) then PyProof.Rows.firstMet (fun i => ns.getD i 0) i else PyProof.Rows.firstMet (fun i => ns.getD i 0) i ++ [ns.getD i 0]).length ≤ i + 1 ∧ ((if (PyProof.Rows.firstMet (fun i => ns.getD i 0) i).any (· == ns.getD i 0) then PyProof.Rows.firstMet (fun i => ns.getD i 0) i else PyProof.Rows.firstMet (fun i => ns.getD i 0) i ++ [ns.getD i 0]).length = i + 1 → (ns.take (i + 1)).Nodup)
    split
    · exact ⟨by omega, fun h => by omega⟩
    · rename_i hb
      rw [List.length_append]
      refine ⟨by have := ih.1; simp only [List.length_cons, List.length_nil]; omega, fun h => ?_⟩
      have h1 : (PyProof.Rows.firstMet (fun i => ns.getD i 0) i).length = i := by
        have := ih.1
        simp only [List.length_cons, List.length_nil] at h
        omega
      have nd := ih.2 h1
      rw [e2, List.nodup_append]
      refine ⟨nd, by simp, fun a ha b hb2 => ?_⟩
      rcases List.mem_cons.mp hb2 with e | hb2
      · subst e
        intro e
        subst e
        apply hb
        refine List.any_eq_true.mpr ⟨ns[i], ?_, by show (ns[i] == ns.getD i 0) = true; rw [e1]; exact beq_self_eq_true _⟩
        obtain ⟨j, hj⟩ := List.mem_iff_getElem?.mp ha
        rw [List.getElem?_take] at hj
        by_cases hji : j < i
        · rw [if_pos hji] at hj
          exact (met_mem _ i _).mpr ⟨j, hji, by rw [List.getD_eq_getElem?_getD, hj] <;> rfl⟩
        · rw [if_neg hji] at hj
          cases hj
      · cases hb2
theorem met_iff (ns : List Int) : (PyProof.Rows.firstMet (fun i => ns.getD i 0) ns.length).length = ns.length ↔ ns.Nodup := by
  constructor
  · intro h
    have := (met_len ns ns.length (Nat.le_refl _)).2 h
    rw [List.take_length] at this
    exact this
  · intro h
    rw [RZ.firstMet_nodup h ns.length (Nat.le_refl _), List.take_length]
def tLenSetA (K : PySem.W.Frag) (ta : TE) : TE := fun σ H Q => ta σ H fun x H1 => ∃ (l : Addr) (ns : List Int), x = .ref l ∧ SqL K H1 l (ns.map V.int) ∧ ns.length ≤ 4000 ∧ ∀ k : Nat, (k = ns.length ↔ ns.Nodup) → Q (.int k) H1
theorem pe_lenSetA {X : Cx} {a : Expr} {ta : TE} {p p2 q pos : Pos} (hg : Gl X "len") (hm : X.mg "len" = none) (hg2 : Gl X "set") (hm2 : X.mg "set" = none) (ha : PE X a ta) (hc : X.calm = true := by rfl)
    (na : starEach [a] X.env = (false, eval a X.env) :: starEach [] X.env := by rfl) : PE X (.Call (.Name "len" p) [.Call (.Name "set" p2) [a] [] q] [] pos) (tLenSetA X.K ta) := by
  refine ⟨fun pins s σ H Q I h => ?_⟩
  refine Call_ (ld_blt I hg hm boot_len ?_)
  refine PyProof.Rows.callWith_builtin1 (PyProof.Rows.args_cons ?_ rfl) rfl rfl
  refine Call_ (ld_blt I hg2 hm2 boot_set ?_)
  refine PyProof.Rows.callWith_type1 (PyProof.Rows.args_cons (thn (ha.run pins s σ H _ I h) fun v s1 ⟨x, H1, I1, r1, q1⟩ => PyProof.Rows.args_nil ?_) na) na rfl
  obtain ⟨l, ns, rfl, hq, hl, q1⟩ := q1
  cases r1
  obtain ⟨its, r, pl, hz⟩ := I1.list hq
  have hlen : its.toArray.size = ns.length := by rw [List.size_toArray, ← r.length, List.length_map]
  refine call_set_list (I1.ok.hd hc) pl.isList (by simpa using RZ.intsAre_vals r) (by rw [hlen]; unfold scanBound; omega) fun h' tk hS hk => ?_
  refine PyProof.Rows.args_nil ?_
  rw [hlen] at hS
  obtain ⟨o, es, ep, t, ho, hex, hd, _, _, _, hf, hn⟩ := hS
  have I2 : L2.Inv X pins σ H1 { s1 with heap := h', toks := tk } := I1.kept fun b o e => hk b o (Heap.lt_size e) e
  have hle := (met_len ns ns.length (Nat.le_refl _)).1
  exact call_len_set ho hex hd hf (by rw [hn] <;> omega) ⟨.int (PyProof.Rows.firstMet (fun i => ns.getD i 0) ns.length).length, H1, I2.tok _, ⟨_, by rw [hn]⟩, q1 _ (met_iff ns)⟩
/-! ### xs.extend(t), t a tuple -/
/-- the library has it for a tuple that has no dict and no slots; here it may have them -/
theorem ext_tup (l q : Addr) (us vs : Array Value) (n m : Nat) (dict : Option Addr) (slots : Array (Option Value)) (hd : ¬(!us.isEmpty && Builtin.List.listTooLong (us.size + vs.size)) = true) (h1 : us.size ≤ sizeLine) (h2 : us.size + vs.size ≤ sizeLine + 1) :
    Meets (Builtin.«list.extend» ⟨[.ref l, .ref q], []⟩) (fun _ R s => s.heap.get? l = some { cls := .type "list", dict := none, data := .seq us n, slots := #[] } ∧ s.heap.get? q = some { cls := .type "tuple", dict := dict, data := .seq vs m, slots := slots } ∧ R (.ok (.ret Value.none)) { s with heap := s.heap.update l (Obj.mapSeq fun x => x ++ vs), toks := s.toks }) := by
  refine .of_wp fun prog w A R s ⟨hl, hq, hR⟩ => ?_
  obtain ⟨hp, g, d, tk, os⟩ := s
  have f1 := AutoSeq1.idx_int
  have f2 := AutoSeq1.sub_tuple_tuple
  have f3 := AutoSeq1.sub_list_list
  have f4 := AutoSeq1.sub_tuple_list
  have f5 := AutoSeq1.sub_list_tuple
  have hs : (us ++ vs).size ≤ sizeLine + 1 := Nat.le_trans (Nat.le_of_eq Array.size_append) h2
  wp_walk using (wpAny_updateSeq hl rfl (hz := h1) (_hz' := hs)), AutoSeq1.wpAny_loadPart' hl, AutoSeq1.wpAny_loadPart' hq
  exact ⟨_, rfl, hR⟩
def rExtendT : V → List V → Hp → VK → Prop := fun x vs H Q => ∃ l b xs zs, x = .ref l ∧ vs = [.ref b] ∧ H l = some (.lst xs) ∧ H b = some (.tup zs) ∧ xs.length + zs.length ≤ sizeLine ∧ Q .non (upd H l (.lst (xs ++ zs)))
theorem mt_extendT {X : Cx} : MtM X "list.extend" rExtendT := by
  intro pins s σ H o args ov ovs Q I ro rargs hyp
  obtain ⟨l, t, xs, zs, rfl, rfl, hl, ht, hlen, cont⟩ := hyp
  cases ro
  obtain ⟨tv, rfl, rt⟩ := rargs.one
  cases rt
  obtain ⟨hx, us, n, ru, eu, hget⟩ := I.lstM hl
  obtain ⟨vs, rv, ⟨⟨cls, dict, data, slots⟩, tget, hc, m, hd⟩, _⟩ := I.tuple (SqT.of ht)
  dsimp only at hc hd
  subst hc hd
  have ev := rv.length
  have su : us.toArray.size = xs.length := List.size_toArray.trans eu.symm
  have sv : vs.toArray.size = zs.length := List.size_toArray.trans ev.symm
  have door : ¬ (!us.toArray.isEmpty && Builtin.List.listTooLong (us.toArray.size + vs.toArray.size)) = true := by
    rw [su, sv, notLongL hlen, Bool.and_false]
    exact Bool.false_ne_true
  refine call_meets F.slot_list_extend ⟨_, hget, rfl⟩ F.entry_list_extend (F.args_list_extend_2 _ _) (ext_tup l t us.toArray vs.toArray n m dict slots door (by rw [su]; exact hx) (by rw [su, sv]; omega)) ⟨hget, tget, ?_⟩
  refine ⟨.non, _, I.lset (its' := us ++ vs) hl hget (by simp) (ru.append rv) ?_, rfl, cont⟩
  rw [List.length_append]
  exact hlen
/-! ### in, within a comprehension: the written part is named -/
theorem op_notInK {X : Cx} (K : PySem.W.Frag) (h : X.K = K := by rfl) : OpR X (compareOp .NotIn) (rIn K true) := by
  subst h
  exact op_notIn_seq
end Lx

/-! Defs, methods and classes that are called, each with its promise: one fact each. -/
namespace Lx
open PySem PySem.Spec PyProof.Rows L2

section
variable (P : Program) (w : World) (K : PySem.W.Frag) (mg : Str → Option Value) (base : Heap)
/-- a def of the top that may be called: by its name x -/
def CalF (k : Nat) (x : Str) (sp : Sp) : Prop := ∃ f fd ps, FnOk P w K mg base CX0 k f fd ps sp ∧ Binds K fd ps [] ∧ mg x = some (.ref f) ∧ PySem.W.keepIn K (.ref f) = true
/-- a method m of the class at C -/
def CalM (k : Nat) (C : Addr) (m : Str) (sp : Sp) : Prop := ∃ f fd ps, FnOk P w K mg base CX0 k f fd ps sp ∧ Binds K fd ps [] ∧ Meth K C m f
/-- a class x that may be called: its __init__ -/
def CalC (k : Nat) (C : Addr) (x : Str) (sp : Sp) : Prop := ∃ f fd ps, FnOk P w K mg base CX0 k f fd ps sp ∧ Binds K fd ps [] ∧ mg x = some (.ref C) ∧ Mk K C f
/-- where a def of the text stands -/
def DefF (x : Str) (st : Stmt) (ps : List Str) : Prop := ∃ f fd, Fun K x x st f fd ∧ Binds K fd ps [] ∧ mg x = some (.ref f)
def DefM (C : Addr) (x q : Str) (st : Stmt) (ps : List Str) : Prop := ∃ f fd, Fun K x q st f fd ∧ Binds K fd ps [] ∧ Meth K C x f
def DefI (C : Addr) (c q : Str) (st : Stmt) (ps : List Str) : Prop := ∃ f fd, Fun K "__init__" q st f fd ∧ Binds K fd ps [] ∧ Mk K C f ∧ mg c = some (.ref C)
end
section
variable {P : Program} {w : World} {K : PySem.W.Frag} {mg : Str → Option Value} {base : Heap} {k j : Nat} {x m q : Str} {C : Addr} {sp sp' : Sp}
theorem CalF.mono (G : CalF P w K mg base j x sp) (h : j ≤ k) : CalF P w K mg base k x sp := by
  obtain ⟨f, fd, ps, F, b, r⟩ := G
  exact ⟨f, fd, ps, F.mono h, b, r⟩
theorem CalM.mono (G : CalM P w K mg base j C x sp) (h : j ≤ k) : CalM P w K mg base k C x sp := by
  obtain ⟨f, fd, ps, F, b, r⟩ := G
  exact ⟨f, fd, ps, F.mono h, b, r⟩
theorem CalC.mono (G : CalC P w K mg base j C x sp) (h : j ≤ k) : CalC P w K mg base k C x sp := by
  obtain ⟨f, fd, ps, F, b, r⟩ := G
  exact ⟨f, fd, ps, F.mono h, b, r⟩
theorem CalM.imp (G : CalM P w K mg base k C x sp) (h : ∀ vs H Q E, sp' vs H Q E → sp vs H Q E) : CalM P w K mg base k C x sp' := by
  obtain ⟨f, fd, ps, F, b, r⟩ := G
  exact ⟨f, fd, ps, F.imp h, b, r⟩
abbrev BodyOk (P : Program) (w : World) (K : PySem.W.Frag) (mg : Str → Option Value) (base : Heap) (N : List Str) (q : Str) (st : Stmt) (f : Addr) (k : Nat) (sp : Sp) : Prop :=
  ∀ (cdv : Value) (A : Around) (outer : List Env) (s : Shared) (H : Hp) (vs : List V) (Q : VK) (E : XK), Room k (A.deeper (envOfC q (defScope st) s.heap.objs.size f cdv)) → sp vs H Q E →
      ∃ t, PSs (cxOf CX0 P w K mg base N q (defScope st) f cdv A outer s H E).nox (defBody st) t ∧ t { nx := fun _ H' => Q .non H', rt := Q } (start N vs) H
theorem DefF.cal {st : Stmt} {N ps : List Str} (D : DefF K mg x st ps) (S : FnScope N ps (defScope st)) (len : ∀ vs H Q E, sp vs H Q E → vs.length = ps.length) (hb : ∀ f, BodyOk P w K mg base N x st f k sp) : CalF P w K mg base (k + 1) x sp := by
  obtain ⟨f, fd, F, b, m⟩ := D
  exact ⟨f, fd, ps, F.ok S len (hb f), b, m, F.kp⟩
theorem DefM.cal {st : Stmt} {N ps : List Str} (D : DefM K C x q st ps) (S : FnScope N ps (defScope st)) (len : ∀ vs H Q E, sp vs H Q E → vs.length = ps.length) (hb : ∀ f, BodyOk P w K mg base N q st f k sp) : CalM P w K mg base (k + 1) C x sp := by
  obtain ⟨f, fd, F, b, m⟩ := D
  exact ⟨f, fd, ps, F.ok S len (hb f), b, m⟩
theorem DefI.cal {st : Stmt} {N ps : List Str} {c : Str} (D : DefI K mg C c q st ps) (S : FnScope N ps (defScope st)) (len : ∀ vs H Q E, sp vs H Q E → vs.length = ps.length) (hb : ∀ f, BodyOk P w K mg base N q st f k sp) : CalC P w K mg base (k + 1) C c sp := by
  obtain ⟨f, fd, F, b, m, g⟩ := D
  exact ⟨f, fd, ps, F.ok S len (hb f), b, g, m⟩
/-- a promise that asks what can't be holds at any level -/
theorem DefM.never {st : Stmt} {ps : List Str} (D : DefM K C x q st ps) : CalM P w K mg base k C x (fun _ _ _ _ => False) := by
  obtain ⟨f, fd, F, b, m⟩ := D
  exact ⟨f, fd, ps, ⟨fun _ _ _ _ h => h.elim, fun _ _ _ _ _ _ _ _ _ _ _ _ _ h => h.elim⟩, b, m⟩
end
section
variable {X : Cx} {k j : Nat} {C : Addr} {sp : Sp} {x m : Str} {p pos apos : Pos} {e o : Expr} {es : List Expr} {ta : TE} {t : TA}
theorem pe_cf (G : CalF X.prog X.w X.K X.mg X.base k x sp) (hr : Room j X.A) (hj : k ≤ j) (hg : Gl X x) (ha : PA X (e :: es) t) (hdb : (x == ("__debug__" : Str)) = false := by decide) (he : starEach (e :: es) X.env = (false, eval e X.env) :: starEach es X.env := by rfl) (hpl : (backTo pos (starEach es X.env)).any (·.1) = false := by rfl) :
    PE X (.Call (.Name x p) (e :: es) [] pos) (tCall sp [] E0 t) := by
  obtain ⟨f, fd, ps, F, b, m, kp⟩ := G
  exact pe_call F (hr.mono hj) hg m kp b .nil pass0 ha hdb he hpl
theorem pe_cf0 (G : CalF X.prog X.w X.K X.mg X.base k x sp) (hr : Room j X.A) (hj : k ≤ j) (hg : Gl X x) (hdb : (x == ("__debug__" : Str)) = false := by decide) : PE X (.Call (.Name x p) [] [] pos) (tCall sp [] E0 tNil) := by
  obtain ⟨f, fd, ps, F, b, m, kp⟩ := G
  exact pe_call0 F (hr.mono hj) hg m kp b .nil pass0 hdb
theorem pe_cm {pl : Sem Bool} (G : CalM X.prog X.w X.K X.mg X.base k C m sp) (c : Cls X.K C) (hr : Room j X.A) (hj : k ≤ j) (he : PE X o ta) (ha : PA X (e :: es) t)
    (hst : starEach (e :: es) X.env = (false, eval e X.env) :: starEach es X.env := by rfl) (hpl : (backTo pos (starEach es X.env)).any (·.1) = false := by rfl)
    (ht : eval (.Call (.Attribute o m apos) (e :: es) [] pos) X.env = (do
      let ov ← eval o X.env
      standAt apos.atName
      let (f, first) ← holding [ov] (getMethod ov m pl)
      callWith pos f first (backTo pos (starEach (e :: es) X.env)) (backToKw pos (keywordEach [] X.env))) := by rfl) :
    PE X (.Call (.Attribute o m apos) (e :: es) [] pos) (tMeth C m sp [] E0 ta t) := by
  obtain ⟨f, fd, ps, F, b, hm⟩ := G
  exact pe_meth he c hm F (hr.mono hj) b .nil pass0 ha hst hpl ht
theorem pe_cm0 {pl : Sem Bool} (G : CalM X.prog X.w X.K X.mg X.base k C m sp) (c : Cls X.K C) (hr : Room j X.A) (hj : k ≤ j) (he : PE X o ta)
    (ht : eval (.Call (.Attribute o m apos) [] [] pos) X.env = (do
      let ov ← eval o X.env
      standAt apos.atName
      let (f, first) ← holding [ov] (getMethod ov m pl)
      callWith pos f first (backTo pos (starEach [] X.env)) (backToKw pos (keywordEach [] X.env))) := by rfl) :
    PE X (.Call (.Attribute o m apos) [] [] pos) (tMeth C m sp [] E0 ta tNil) := by
  obtain ⟨f, fd, ps, F, b, hm⟩ := G
  exact pe_meth0 he c hm F (hr.mono hj) b .nil pass0 ht
theorem pe_cc (G : CalC X.prog X.w X.K X.mg X.base k C x sp) (hr : Room j X.A) (hj : k + 1 ≤ j) (hg : Gl X x) (ha : PA X (e :: es) t) (hdb : (x == ("__debug__" : Str)) = false := by decide) (he : starEach (e :: es) X.env = (false, eval e X.env) :: starEach es X.env := by rfl) (hpl : (backTo pos (starEach es X.env)).any (·.1) = false := by rfl) :
    PE X (.Call (.Name x p) (e :: es) [] pos) (tMake C sp [] E0 t) := by
  obtain ⟨f, fd, ps, F, b, m, M⟩ := G
  exact pe_make M F (hr.mono hj) hg m b .nil pass0 ha hdb he hpl
theorem pe_cc0 (G : CalC X.prog X.w X.K X.mg X.base k C x sp) (hr : Room j X.A) (hj : k + 1 ≤ j) (hg : Gl X x) (hdb : (x == ("__debug__" : Str)) = false := by decide) : PE X (.Call (.Name x p) [] [] pos) (tMake C sp [] E0 tNil) := by
  obtain ⟨f, fd, ps, F, b, m, M⟩ := G
  exact pe_make0 M F (hr.mono hj) hg m b .nil pass0 hdb
end

/-! ### comprehensions that change nothing -/
section
open Evl
variable {K : PySem.W.Frag} {a : Addr} {j : Nat} {vs : List Nat} {σ : L2.St} {H1 : Hp} {t : TT} {te : TE} {Qd : Addr → Hp → Prop} {α : Type}
theorem lcp_turn {l : List α} {p : α → Bool} {u : α → V} {i : Nat} {c : α} {H' : Hp} {D : Addr} {σ2 : L2.St} (hc : l[i]? = some c) (hz : l.length ≤ 1000) (pv : H1 D = none ∧ Ex H1 H' ∧ H' D = some (.lst (((l.take i).filter p).map u)))
    (ht : ∀ Q : Bool → Hp → Prop, (∀ H2, Ex H' H2 → Q (p c) H2) → t σ2 H' Q) (he : p c = true → ∀ H2, Ex H' H2 → ∀ Q : VK, (∀ H3, Ex H2 H3 → Q (u c) H3) → te σ2 H2 Q) :
    t σ2 H' fun b H3 => if b = true then te σ2 H3 fun y H4 => ∃ acc, H4 D = some (.lst acc) ∧ acc.length < sizeLine ∧ (H1 D = none ∧ Ex H1 (upd H4 D (.lst (acc ++ [y]))) ∧ (upd H4 D (.lst (acc ++ [y]))) D = some (.lst (((l.take (i + 1)).filter p).map u)))
      else (H1 D = none ∧ Ex H1 H3 ∧ H3 D = some (.lst (((l.take (i + 1)).filter p).map u))) := by
  obtain ⟨p1, p2, p3⟩ := pv
  have hlt := (List.getElem?_eq_some_iff.mp hc).1
  have tk : l.take (i + 1) = l.take i ++ [c] := by
    obtain ⟨hl, e⟩ := List.getElem?_eq_some_iff.mp hc
    rw [List.take_add_one, List.getElem?_eq_getElem hl, e] <;> rfl
  refine ht _ fun H3 e3 => ?_
  cases hp : p c with
  | true =>
    show te σ2 H3 _
    refine he hp H3 e3 _ fun H4 e4 => ⟨_, e4 D _ (e3 D _ p3), sz_lt ?_, p1, Ex.mut ((p2.trans e3).trans e4) p1, ?_⟩
    · have h1 := List.length_filter_le p (l.take i)
      rw [List.length_map]
      rw [List.length_take] at h1
      omega
    · rw [upd_same, tk, List.filter_append, List.map_append, List.filter_cons, if_pos hp]
      rfl
  | false =>
    show H1 D = none ∧ Ex H1 H3 ∧ _
    refine ⟨p1, p2.trans e3, ?_⟩
    rw [e3 D _ p3, tk, List.filter_append, List.map_append, List.filter_cons, if_neg (by rw [hp]; decide)]
    show _ = some (HO.lst (_ ++ []))
    rw [List.append_nil]
theorem lcp_tup (l : List α) (val : α → V) (p : α → Bool) (u : α → V) (hx : SqT K H1 a (l.map val)) (hz : l.length ≤ 1000) (hw : ∀ x, wipe ((wipe σ vs).set j (some x)) vs = wipe σ vs)
    (ht : ∀ (i : Nat) (c : α) (H' : Hp), l[i]? = some c → Ex H1 H' → ∀ Q : Bool → Hp → Prop, (∀ H2, Ex H' H2 → Q (p c) H2) → t ((wipe σ vs).set j (some (val c))) H' Q)
    (he : ∀ (i : Nat) (c : α) (H' : Hp), l[i]? = some c → p c = true → Ex H1 H' → ∀ Q : VK, (∀ H2, Ex H' H2 → Q (u c) H2) → te ((wipe σ vs).set j (some (val c))) H' Q)
    (hd : ∀ D H', H1 D = none → Ex H1 H' → H' D = some (.lst ((l.filter p).map u)) → Qd D H') :
    ∀ D, H1 D = none → ∃ W : Nat → Nat → Hp → Prop, (∃ m, W 0 m (upd H1 D (.lst []))) ∧ ∀ i m H, W i m H →
      ((Itt K a).stop i H ∧ Qd D H) ∨ ((Itt K a).go i H ∧ ∃ Nx : Hp → Prop, (∀ H', Nx H' → ∃ m', m' < m ∧ W (i + 1) m' H') ∧ ∀ x H', (Itt K a).yld i H x H' → gName j x (wipe σ vs) H' fun σ2 H2 => wipe σ2 vs = wipe σ vs ∧ t σ2 H2 fun b H3 =>
        if b = true then te σ2 H3 fun y H4 => ∃ acc, H4 D = some (.lst acc) ∧ acc.length < sizeLine ∧ Nx (upd H4 D (.lst (acc ++ [y]))) else Nx H3) := fun D hD =>
  lc_tup (xs := l.map val) (Qd := fun H' => Qd D H') (fun i H' => H1 D = none ∧ Ex H1 H' ∧ H' D = some (.lst (((l.take i).filter p).map u))) ⟨hD, Ex.new hD, upd_same⟩ (fun i H' _ pv => ex_t pv.2.1 hx)
    (fun i x H' hi pv => by
      rw [List.getElem?_map] at hi
      obtain ⟨c, hc, rfl⟩ := Option.map_eq_some_iff.mp hi
      exact ⟨hw _, lcp_turn hc hz pv (ht i c H' hc pv.2.1) fun hp H2 e2 => he i c H2 hc hp (pv.2.1.trans e2)⟩)
    (fun H' pv => by
      obtain ⟨p1, p2, p3⟩ := pv
      rw [List.length_map, List.take_length] at p3
      exact hd D H' p1 p2 p3)
theorem lcp_list (l : List α) (val : α → V) (p : α → Bool) (u : α → V) (hx : SqL K H1 a (l.map val)) (hz : l.length ≤ 1000) (hw : ∀ x, wipe ((wipe σ vs).set j (some x)) vs = wipe σ vs)
    (ht : ∀ (i : Nat) (c : α) (H' : Hp), l[i]? = some c → Ex H1 H' → ∀ Q : Bool → Hp → Prop, (∀ H2, Ex H' H2 → Q (p c) H2) → t ((wipe σ vs).set j (some (val c))) H' Q)
    (he : ∀ (i : Nat) (c : α) (H' : Hp), l[i]? = some c → p c = true → Ex H1 H' → ∀ Q : VK, (∀ H2, Ex H' H2 → Q (u c) H2) → te ((wipe σ vs).set j (some (val c))) H' Q)
    (hd : ∀ D H', H1 D = none → Ex H1 H' → H' D = some (.lst ((l.filter p).map u)) → Qd D H') :
    ∀ D, H1 D = none → ∃ W : Nat → Nat → Hp → Prop, (∃ m, W 0 m (upd H1 D (.lst []))) ∧ ∀ i m H, W i m H →
      ((Itl K a).stop i H ∧ Qd D H) ∨ ((Itl K a).go i H ∧ ∃ Nx : Hp → Prop, (∀ H', Nx H' → ∃ m', m' < m ∧ W (i + 1) m' H') ∧ ∀ x H', (Itl K a).yld i H x H' → gName j x (wipe σ vs) H' fun σ2 H2 => wipe σ2 vs = wipe σ vs ∧ t σ2 H2 fun b H3 =>
        if b = true then te σ2 H3 fun y H4 => ∃ acc, H4 D = some (.lst acc) ∧ acc.length < sizeLine ∧ Nx (upd H4 D (.lst (acc ++ [y]))) else Nx H3) := fun D hD =>
  lc_list (xs := l.map val) (Qd := fun H' => Qd D H') (fun i H' => H1 D = none ∧ Ex H1 H' ∧ H' D = some (.lst (((l.take i).filter p).map u))) ⟨hD, Ex.new hD, upd_same⟩ (fun i H' _ pv => ex_l pv.2.1 hx)
    (fun i x H' hi pv => by
      rw [List.getElem?_map] at hi
      obtain ⟨c, hc, rfl⟩ := Option.map_eq_some_iff.mp hi
      exact ⟨hw _, lcp_turn hc hz pv (ht i c H' hc pv.2.1) fun hp H2 e2 => he i c H2 hc hp (pv.2.1.trans e2)⟩)
    (fun H' pv => by
      obtain ⟨p1, p2, p3⟩ := pv
      rw [List.length_map, List.take_length] at p3
      exact hd D H' p1 p2 p3)
end

/-! ### tests -/
theorem iteB {b : Bool} {A B : Prop} (h1 : b = true → A) (h2 : b = false → B) : if b = true then A else B := by
  cases b with
  | true => exact h1 rfl
  | false => exact h2 rfl
theorem iv_inj {a b : Nat} (h : iv a = iv b) : a = b := by
  unfold iv at h
  injection h with h
  exact Int.ofNat.inj h
theorem dec_iv (a b : Nat) : decide (iv a = iv b) = decide (a = b) := by
  by_cases h : a = b
  · subst h; simp
  · rw [decide_eq_false h, decide_eq_false (fun e => h (iv_inj e))]
theorem dec_iv' (a b : Nat) : decide (V.int (a : Int) = V.int (b : Int)) = decide (a = b) := dec_iv a b
theorem ivs_get {l : List Nat} {i : Nat} {x : V} (h : (ivs l)[i]? = some x) : ∃ c, l[i]? = some c ∧ x = iv c := by
  unfold ivs at h
  rw [List.getElem?_map] at h
  obtain ⟨c, hc, e⟩ := Option.map_eq_some_iff.mp h
  exact ⟨c, hc, e.symm⟩
theorem take_more {α : Type} {l : List α} {i : Nat} {x : α} (h : l[i]? = some x) : l.take (i + 1) = l.take i ++ [x] := by
  obtain ⟨hl, e⟩ := List.getElem?_eq_some_iff.mp h
  rw [List.take_add_one, List.getElem?_eq_getElem hl, e] <;> rfl
theorem line16 {n : Nat} (h : n ≤ 1000) : n ≤ sizeLine := Nat.le_trans h (by decide)
/-- «len(xs) == 0» -/
theorem len0_t {n : Nat} (h : decide (V.int (n : Int) = V.int 0) = true) : n = 0 := by
  have e := of_decide_eq_true h
  injection e with e
  omega
theorem len0_f {n : Nat} (h : decide (V.int (n : Int) = V.int 0) = false) : n ≠ 0 := by
  intro e
  subst e
  exact absurd (show decide (V.int ((0 : Nat) : Int) = V.int 0) = true from decide_eq_true rfl) (by rw [h]; decide)
/-! ### built-ins within a comprehension: the written part is named -/
def rLenK (K : PySem.W.Frag) : List V → Hp → VK → Prop := fun xs H Q => ∃ x n, xs = [x] ∧ LenV K x H n ∧ Q (.int n) H
theorem call_lenK {X : Cx} (K : PySem.W.Frag) (h : X.K = K := by rfl) : CallR X (.builtin "len") (rLenK K) := by
  subst h
  exact call_len
theorem cr_sortedK {X : Cx} (K : PySem.W.Frag) (h : X.K = K := by rfl) : CallR X (.builtin "sorted") (rSorted K) := by
  subst h
  exact cr_sorted
def rTupleK (K : PySem.W.Frag) : List V → Hp → VK → Prop := fun xs H Q => ∃ p ys, xs = [.ref p] ∧ ((SqL K H p ys ∧ ∀ l, H l = none → Q (.ref l) (upd H l (.tup ys))) ∨ (SqT K H p ys ∧ Q (.ref p) H))
theorem call_tupleK {X : Cx} (K : PySem.W.Frag) (h : X.K = K := by rfl) : CallR X (.type "tuple") (rTupleK K) := by
  subst h
  exact call_tuple_of
/-! ### t + u, u not empty and new -/
def rCatN (K : PySem.W.Frag) : R2 := fun x y H Q => ∃ a b xs ys, x = .ref a ∧ y = .ref b ∧ SqT K H a xs ∧ H b = some (.tup ys) ∧ ys ≠ [] ∧ xs.length + ys.length ≤ sizeLine ∧ ∀ p H', Evl.Ex H H' → H' p = some (.tup (xs ++ ys)) → Q (.ref p) H'
theorem op_catN {X : Cx} : OpR X (binaryOp .Add) (rCatN X.K) := by
  intro pins s σ H x y v u Q I rx ry h
  obtain ⟨a, b, xs, ys, rfl, rfl, ha, hb, hn, hz, q⟩ := h
  refine op_catA pins s σ H _ _ v u Q I rx ry ⟨a, b, xs, ys, rfl, rfl, ha, SqT.of hb, hz, fun e => ?_, fun _ e => absurd e hn, fun _ _ p hp => q p _ (Evl.Ex.new hp) upd_same⟩
  subst e
  exact q b H (Evl.Ex.refl _) hb
theorem ex_made {H : Hp} {x dx : Addr} {o1 o2 o3 : HO} (hx : H x = none) (hd : H dx = none) : Evl.Ex H (upd (upd (upd H dx o1) x o2) x o3) := fun a o e => by
  rw [upd_ne (ne_of_none e hx), upd_ne (ne_of_none e hx), upd_ne (ne_of_none e hd)]
  exact e
theorem Paired.setP {α β : Type} {F : α → β → Prop} {a : α} {b : β} (h : F a b) : ∀ {l : List α} {m : List β} (i : Nat), Paired F l m → Paired F (l.set i a) (m.set i b)
  | _, _, _, .nil => .nil
  | _, _, 0, .cons _ r => .cons h r
  | _, _, i + 1, .cons p r => .cons p (Paired.setP h i r)
end Lx

/-! The text: where each def stands. -/
namespace Lx
open PySem PySem.Spec PyProof.Rows L2
def top (i : Nat) : Stmt := PySem.Challenge.pw_lasttricksdesk_s01_answers.main.body.getD i (.Pass ⟨0, 0, 0, 0⟩)
abbrev s_suit_of : Stmt := top 1
abbrev s_top_of : Stmt := top 2
abbrev s_side_of : Stmt := top 3
abbrev s_seat_behind : Stmt := top 4
abbrev s_playable : Stmt := top 5
abbrev s_beats : Stmt := top 6
abbrev s_winning_place : Stmt := top 7
abbrev s_trick_of_side_0 : Stmt := top 9
abbrev c_Search : Stmt := top 10
abbrev s_may_be_played : Stmt := top 12
abbrev s_account_of : Stmt := top 13
abbrev s_parted : Stmt := top 15
abbrev s_alike_in : Stmt := top 16
abbrev s_squeezed_card : Stmt := top 17
abbrev s_squeezed_row : Stmt := top 18
abbrev c_Position : Stmt := top 20
abbrev s_out_of_range : Stmt := top 22
abbrev s_hands_not_right : Stmt := top 23
abbrev s_no_cards : Stmt := top 24
abbrev s_card_not_there : Stmt := top 25
abbrev s_must_follow : Stmt := top 26
abbrev s_may_not_be_played : Stmt := top 27
abbrev s_not_for_a_table : Stmt := top 28
abbrev s_in_range : Stmt := top 30
abbrev s_row_in_range : Stmt := top 31
abbrev s_hands_are_right : Stmt := top 32
abbrev s_counted : Stmt := top 33
abbrev s_all_counted : Stmt := top 34
abbrev c_Ending : Stmt := top 35
abbrev c_Reader : Stmt := top 51
abbrev s_deal : Stmt := top 52
abbrev s_can : Stmt := top 53
abbrev s_answer_next : Stmt := top 54
abbrev s_answers : Stmt := top 55
/-- the built-ins' names are free -/
structure Bl (mg : Str → Option Value) : Prop where
  len : mg "len" = none
  list : mg "list" = none
  tuple : mg "tuple" = none
  range : mg "range" = none
  any : mg "any" = none
  all : mg "all" = none
  max : mg "max" = none
  min : mg "min" = none
  set : mg "set" = none
  sorted : mg "sorted" = none
  sum : mg "sum" = none
end Lx

/-! tricks.py -/
namespace Lx
open PySem PySem.Spec PyProof.Rows L2
section
variable {P : Program} {w : World} {K : PySem.W.Frag} {mg : Str → Option Value} {base : Heap}
def sp_suit_of : Sp := fun vs H Q _ => ∃ c, vs = [iv c] ∧ Q (iv (Vbbraf.suitOf c)) H
def sp_side_of : Sp := fun vs H Q _ => ∃ c, vs = [iv c] ∧ Q (iv (c % 2)) H
def sp_seat_behind : Sp := fun vs H Q _ => ∃ a b, vs = [iv a, iv b] ∧ Q (iv ((a + b) % 4)) H
theorem ok_suit_of (D : DefF K mg "suit_of" s_suit_of ["card"]) : CalF P w K mg base 1 "suit_of" sp_suit_of :=
  D.cal (N := ["card"]) ⟨rfl, rfl, rfl, by decide +kernel, rfl, by decide +kernel, by decide +kernel⟩ (by rintro _ _ _ _ ⟨_, rfl, _⟩; rfl) fun f cdv A outer s H vs Q E hr h => by
    obtain ⟨c, rfl, q⟩ := h
    refine ⟨_, pss_one (ps_ret (pe_op op_fdiv (pv 0) pe_int)), ?_⟩
    refine ⟨_, rfl, _, _, rfl, rfl, ⟨by decide, by decide⟩, ?_⟩
    show Q (.int ((c : Int) / 13)) H
    have e : ((c : Int) / 13) = ((c / 13 : Nat) : Int) := by omega
    rw [e]
    exact q
def sp_top_of : Sp := fun vs H Q _ => ∃ c, vs = [iv c] ∧ Q (iv (13 * c + 12)) H
theorem ok_top_of (D : DefF K mg "top_of" s_top_of ["suit"]) : CalF P w K mg base 1 "top_of" sp_top_of :=
  D.cal (N := ["suit"]) ⟨rfl, rfl, rfl, by decide +kernel, rfl, by decide +kernel, by decide +kernel⟩ (by rintro _ _ _ _ ⟨_, rfl, _⟩; rfl) fun f cdv A outer s H vs Q E hr h => by
    obtain ⟨c, rfl, q⟩ := h
    refine ⟨_, pss_one (ps_ret (pe_op op_add (pe_op op_mul pe_int (pv 0)) pe_int)), ?_⟩
    refine ⟨_, rfl, _, _, rfl, rfl, .inl ⟨by decide, by decide⟩, _, _, rfl, rfl, ?_⟩
    have e : V.int (13 * (c : Int) + 12) = iv (13 * c + 12) := by unfold iv; congr 1
    show Q (.int (13 * (c : Int) + 12)) H
    rw [e]
    exact q
theorem ok_side_of (D : DefF K mg "side_of" s_side_of ["seat"]) : CalF P w K mg base 1 "side_of" sp_side_of :=
  D.cal (N := ["seat"]) ⟨rfl, rfl, rfl, by decide +kernel, rfl, by decide +kernel, by decide +kernel⟩ (by rintro _ _ _ _ ⟨_, rfl, _⟩; rfl) fun f cdv A outer s H vs Q E hr h => by
    obtain ⟨c, rfl, q⟩ := h
    refine ⟨_, pss_one (ps_ret (pe_op op_mod (pv 0) pe_int)), ?_⟩
    refine ⟨_, rfl, _, _, rfl, rfl, (by show (0 : Int) < 2; decide), ?_⟩
    show Q (.int ((c : Int) % 2)) H
    have e : ((c : Int) % 2) = ((c % 2 : Nat) : Int) := by omega
    rw [e]
    exact q
theorem ok_seat_behind (D : DefF K mg "seat_behind" s_seat_behind ["seat", "steps"]) : CalF P w K mg base 1 "seat_behind" sp_seat_behind :=
  D.cal (N := ["seat", "steps"]) ⟨rfl, rfl, rfl, by decide +kernel, rfl, by decide +kernel, by decide +kernel⟩ (by rintro _ _ _ _ ⟨_, _, rfl, _⟩; rfl) fun f cdv A outer s H vs Q E hr h => by
    obtain ⟨a, b, rfl, q⟩ := h
    refine ⟨_, pss_one (ps_ret (pe_op op_mod (pe_op op_add (pv 0) (pv 1)) pe_int)), ?_⟩
    refine ⟨_, rfl, _, rfl, _, _, rfl, rfl, _, _, rfl, rfl, (by show (0 : Int) < 4; decide), ?_⟩
    show Q (.int (((a : Int) + (b : Int)) % 4)) H
    have e : (((a : Int) + (b : Int)) % 4) = (((a + b) % 4 : Nat) : Int) := by omega
    rw [e]
    exact q
def legalOf (h : List Nat) : List Nat → List Nat
  | [] => h
  | c :: _ => let f := h.filter fun d => Vbbraf.suitOf d == Vbbraf.suitOf c; if f.isEmpty = true then h else f
def sp_playable : Sp := fun vs H Q _ => ∃ a b h t, vs = [.ref a, .ref b] ∧ H a = some (.tup (ivs h)) ∧ H b = some (.tup (ivs t)) ∧ h.length ≤ 16 ∧ t.length ≤ 16 ∧
  ∀ p H', H p = none → Evl.Ex H H' → H' p = some (.lst (ivs (legalOf h t))) → Q (.ref p) H'
theorem ok_playable (B : Bl mg) (D : DefF K mg "playable" s_playable ["hand", "trick"]) (D1 : DefF K mg "suit_of" s_suit_of ["card"]) : CalF P w K mg base 2 "playable" sp_playable := by
  have S := ok_suit_of (P := P) (w := w) (base := base) D1
  have sc : FnScope ["hand", "trick", "led", "following", "card"] ["hand", "trick"] (defScope s_playable) := ⟨rfl, rfl, rfl, by decide +kernel, rfl, by decide +kernel, by decide +kernel⟩
  refine D.cal sc (by rintro _ _ _ _ ⟨_, _, _, _, rfl, _⟩; rfl) fun f cdv A outer s H vs Q E hr h => ?_
  obtain ⟨a, b, h, t, rfl, ha, hb, lh, lt, k⟩ := h
  refine ⟨_, pss_cons (ps_if (pt_cmpR op_eq (pe_callB call_len (by rfl) B.len PySem.boot_len (pa_cons (pv 1) pa_nil)) pe_int (nomark _)) (pss_one (ps_ret (pe_callTy call_list_of (by rfl) B.list (by decide +kernel) (pa_cons (pv 0) pa_nil)))) pss_nil)
    (pss_cons (ps_set (i := 2) sc.nd rfl (.inr rfl) (pe_cf S hr (Nat.le_refl _) (by rfl) (pa_cons (pe_ix ix_tup (pv 1) pe_int (fun _ _ => rfl)) pa_nil)))
    (pss_cons (ps_setLc (i := 3) (own := [("card", 4)]) (g := gName 4) (by rfl) sc.nd rfl rfl (sw_true rfl rfl rfl (by decide +kernel)) (pi_tup (pv 0)) (blkOk_by (N := ["hand", "trick", "led", "following", "card"]) (sc := defScope s_playable) (by decide +kernel))
        (fun _ _ _ _ _ => pg_name (i := 4) sc.nd rfl (.inl rfl)) (fun _ _ _ _ _ => pts_one (pt_cmpR op_eq (pe_cf S hr (Nat.le_refl _) (by rfl) (pa_cons (pv 4) pa_nil)) (pv 2) (nomark _))) (fun _ _ _ _ _ => pv 4))
    (pss_cons (ps_if (pt_cmpR op_eq (pe_callB call_len (by rfl) B.len PySem.boot_len (pa_cons (pv 3) pa_nil)) pe_int (nomark _)) (pss_one (ps_ret (pe_callTy call_list_of (by rfl) B.list (by decide +kernel) (pa_cons (pv 0) pa_nil)))) pss_nil)
    (pss_one (ps_ret (pv 3)))))), ?_⟩
  refine ⟨_, rfl, _, _, rfl, .inr ⟨_, SqT.of hb, rfl⟩, rfl, _, rfl, iteB (fun c => ?_) fun c => ?_⟩
  · -- nothing led
    have e := len0_t c
    rw [ivs_len] at e
    have e2 : t = [] := List.eq_nil_of_length_eq_zero e
    subst e2
    exact ⟨_, rfl, _, _, rfl, .inr (SqT.of ha), fun l hl => k l _ hl (Evl.Ex.new hl) upd_same⟩
  · have e := len0_f c
    rw [ivs_len] at e
    match t, e, hb, k with
    | d :: r, _, hb, k =>
      -- led = suit_of(trick[0])
      refine ⟨_, rfl, _, _, _, _, rfl, rfl, SqT.of hb, atI_nat (j := 0) (v := iv d) rfl, d, rfl, ?_⟩
      -- following
      refine ⟨_, rfl, _, rfl, ⟨_, SqT.of ha⟩, lcp_tup h iv (fun c => Vbbraf.suitOf c == Vbbraf.suitOf d) iv (SqT.of ha) (by omega) (fun _ => rfl) ?_ ?_ ?_⟩
      · intro i c H' hc e Q q
        refine ⟨_, rfl, c, rfl, _, rfl, rfl, _, rfl, ?_⟩
        rw [dec_iv]
        exact q H' (Evl.Ex.refl _)
      · intro i c H' hc hp e Q q
        exact ⟨_, rfl, q H' (Evl.Ex.refl _)⟩
      · intro D H' hD e hl
        refine ⟨_, rfl, _, _, rfl, .inl ⟨_, SqL.of hl, rfl⟩, rfl, _, rfl, iteB (fun c => ?_) fun c => ?_⟩
        · have e2 := len0_t c
          rw [List.length_map] at e2
          have e3 := List.eq_nil_of_length_eq_zero e2
          refine ⟨_, rfl, _, _, rfl, .inr (SqT.of (e a _ ha)), fun l hn => k l _ (Evl.fresh_back e hn) (e.trans (Evl.Ex.new hn)) ?_⟩
          rw [upd_same]
          show _ = some (HO.lst (ivs (if (h.filter fun x => Vbbraf.suitOf x == Vbbraf.suitOf d).isEmpty = true then h else h.filter fun x => Vbbraf.suitOf x == Vbbraf.suitOf d)))
          rw [e3]
          rfl
        · have e2 := len0_f c
          rw [List.length_map] at e2
          refine ⟨_, rfl, k D H' hD e ?_⟩
          rw [hl]
          show _ = some (HO.lst (ivs (if (h.filter fun x => Vbbraf.suitOf x == Vbbraf.suitOf d).isEmpty = true then h else h.filter fun x => Vbbraf.suitOf x == Vbbraf.suitOf d)))
          rw [if_neg]
          · rfl
          · intro z
            rw [List.isEmpty_iff] at z
            rw [z] at e2
            exact e2 rfl
def sp_beats : Sp := fun vs H Q _ => ∃ c b t, vs = [iv c, iv b, iv t] ∧ Q (.bl (Vbbraf.over t b c)) H
theorem ok_beats (D : DefF K mg "beats" s_beats ["card", "best", "trump"]) (D1 : DefF K mg "suit_of" s_suit_of ["card"]) : CalF P w K mg base 2 "beats" sp_beats := by
  have S := ok_suit_of (P := P) (w := w) (base := base) D1
  have sc : FnScope ["card", "best", "trump"] ["card", "best", "trump"] (defScope s_beats) := ⟨rfl, rfl, rfl, by decide +kernel, rfl, by decide +kernel, by decide +kernel⟩
  refine D.cal sc (by rintro _ _ _ _ ⟨_, _, _, rfl, _⟩; rfl) fun f cdv A outer s H vs Q E hr h => ?_
  obtain ⟨c, b, t, rfl, k⟩ := h
  refine ⟨_, pss_cons (ps_if (pt_cmpR op_eq (pe_cf S hr (Nat.le_refl _) (by rfl) (pa_cons (pv 0) pa_nil)) (pe_cf S hr (Nat.le_refl _) (by rfl) (pa_cons (pv 1) pa_nil)) (nomark _)) (pss_one (ps_ret (pe_cmpR op_gt (pv 0) (pv 1) (nomark _)))) pss_nil)
    (pss_one (ps_ret (pe_cmpR op_eq (pe_cf S hr (Nat.le_refl _) (by rfl) (pa_cons (pv 0) pa_nil)) (pv 2) (nomark _)))), ?_⟩
  refine ⟨_, rfl, c, rfl, _, rfl, b, rfl, rfl, _, rfl, iteB (fun e => ?_) fun e => ?_⟩
  · rw [dec_iv] at e
    have e := of_decide_eq_true e
    refine ⟨_, rfl, _, rfl, _, _, rfl, rfl, ?_⟩
    unfold Vbbraf.over at k
    rw [if_pos e.symm] at k
    have e2 : decide ((b : Int) < (c : Int)) = decide (b < c) := by
      by_cases z : b < c
      · rw [decide_eq_true z, decide_eq_true (by omega)]
      · rw [decide_eq_false z, decide_eq_false (by omega)]
    show Q (.bl (decide ((b : Int) < (c : Int)))) H
    rw [e2]
    exact k
  · rw [dec_iv] at e
    have e := of_decide_eq_false e
    refine ⟨_, rfl, c, rfl, _, rfl, rfl, ?_⟩
    unfold Vbbraf.over at k
    rw [if_neg (Ne.symm e)] at k
    rw [dec_iv]
    exact k
def sp_winning_place : Sp := fun vs H Q _ => ∃ a c r t, vs = [.ref a, iv t] ∧ H a = some (.tup (ivs (c :: r))) ∧ r.length ≤ 16 ∧ Q (iv (Vbbraf.winsAt t r 1 c 0)) H
theorem wins_split (t : Nat) : ∀ (m r : List Nat) (i best k : Nat), Vbbraf.winsAt t (m ++ r) i best k = Vbbraf.winsAt t r (i + m.length) (m.foldl (fun b c => if Vbbraf.over t b c = true then c else b) best) (Vbbraf.winsAt t m i best k)
  | [], r, i, best, k => rfl
  | c :: m, r, i, best, k => by
    have e : i + (c :: m).length = (i + 1) + m.length := by rw [List.length_cons]; omega
    rw [e]
    show (if Vbbraf.over t best c = true then Vbbraf.winsAt t (m ++ r) (i + 1) c i else Vbbraf.winsAt t (m ++ r) (i + 1) best k) = Vbbraf.winsAt t r (i + 1 + m.length) (m.foldl (fun b c => if Vbbraf.over t b c = true then c else b) (if Vbbraf.over t best c = true then c else best)) (if Vbbraf.over t best c = true then Vbbraf.winsAt t m (i + 1) c i else Vbbraf.winsAt t m (i + 1) best k)
    split
    · exact wins_split t m r (i + 1) c i
    · exact wins_split t m r (i + 1) best k
/-- one card more: the best so far stands at its place -/
theorem wins_at (t : Nat) (c : Nat) : ∀ (m : List Nat), (c :: m)[Vbbraf.winsAt t m 1 c 0]? = some (m.foldl (fun b c => if Vbbraf.over t b c = true then c else b) c) := by
  have gen : ∀ (m pre : List Nat) (best k : Nat), pre[k]? = some best → (pre ++ m)[Vbbraf.winsAt t m pre.length best k]? = some (m.foldl (fun b c => if Vbbraf.over t b c = true then c else b) best) := by
    intro m
    induction m with
    | nil =>
      intro pre best k h
      rw [List.append_nil]
      exact h
    | cons d m ih =>
      intro pre best k h
      have hk := (List.getElem?_eq_some_iff.mp h).1
      have e : pre ++ d :: m = (pre ++ [d]) ++ m := by rw [List.append_assoc]; rfl
      have e2 : (pre ++ [d]).length = pre.length + 1 := by rw [List.length_append]; rfl
      rw [e]
      show ((pre ++ [d]) ++ m)[if Vbbraf.over t best d = true then Vbbraf.winsAt t m (pre.length + 1) d pre.length else Vbbraf.winsAt t m (pre.length + 1) best k]? = some (m.foldl _ (if Vbbraf.over t best d = true then d else best))
      rw [← e2]
      split
      · exact ih (pre ++ [d]) d pre.length (by simp)
      · exact ih (pre ++ [d]) best k (by rw [List.getElem?_append_left hk]; exact h)
  intro m
  exact gen m [c] c 0 rfl
theorem wins_more (t c d : Nat) (m : List Nat) : Vbbraf.winsAt t (m ++ [d]) 1 c 0 = if Vbbraf.over t (m.foldl (fun b c => if Vbbraf.over t b c = true then c else b) c) d = true then 1 + m.length else Vbbraf.winsAt t m 1 c 0 := by
  rw [wins_split]
  rfl
theorem ok_winning_place (B : Bl mg) (D : DefF K mg "winning_place" s_winning_place ["trick", "trump"]) (D1 : DefF K mg "suit_of" s_suit_of ["card"]) (D2 : DefF K mg "beats" s_beats ["card", "best", "trump"]) : CalF P w K mg base 3 "winning_place" sp_winning_place := by
  have G := ok_beats (P := P) (w := w) (base := base) D2 D1
  have sc : FnScope ["trick", "trump", "winning", "place"] ["trick", "trump"] (defScope s_winning_place) := ⟨rfl, rfl, rfl, by decide +kernel, rfl, by decide +kernel, by decide +kernel⟩
  refine D.cal sc (by rintro _ _ _ _ ⟨_, _, _, _, rfl, _⟩; rfl) fun f cdv A outer s H vs Q E hr h => ?_
  obtain ⟨a, c, r, t, rfl, ha, hl, k⟩ := h
  refine ⟨_, pss_cons (ps_set (i := 2) sc.nd rfl (.inl rfl) pe_int)
    (pss_cons (ps_for PassesOwn.never rfl (pi_range2 (by rfl) B.range (pa_cons pe_int (pa_cons (pe_callB call_len (by rfl) B.len PySem.boot_len (pa_cons (pv 0) pa_nil)) pa_nil))) (pg_name (i := 3) sc.nd rfl (.inl rfl))
      (pss_one (ps_if ((pt_val (pe_cf G hr (Nat.le_refl _) (by rfl) (pa_cons (pe_ix ix_tup (pv 0) (pv 3) (fun _ _ => rfl)) (pa_cons (pe_ix ix_tup (pv 0) (pv 2) (fun _ _ => rfl)) (pa_cons (pv 1) pa_nil)))))) (pss_one (ps_set (i := 2) sc.nd rfl (.inl rfl) (pv 3))) pss_nil)))
    (pss_one (ps_ret (pv 2)))), ?_⟩
  have hlen : ((ivs (c :: r)).length : Int) = (r.length : Int) + 1 := by rw [ivs_len]; simp
  have hn : (((ivs (c :: r)).length : Int) - 1).toNat = r.length := by omega
  refine ⟨_, rfl, _, _, rfl, .inr ⟨_, SqT.of ha, rfl⟩, _, _, rfl, ⟨by decide, by decide, by omega, by omega⟩, ?_⟩
  refine for_range (lo := 1) (fun i σ H' => H' = H ∧ ∃ v, σ = [some (.ref a), some (iv t), some (iv (Vbbraf.winsAt t (r.take i) 1 c 0)), v]) ⟨rfl, none, rfl⟩ ?_ ?_
  · rintro i σ H' hi ⟨rfl, v, rfl⟩
    rw [hn] at hi
    have hd : r[i]? = some r[i] := List.getElem?_eq_getElem hi
    have h1 : (ivs (c :: r))[i + 1]? = some (iv r[i]) := by unfold ivs; rw [List.getElem?_map]; show ((c :: r)[i + 1]?).map iv = _; rw [List.getElem?_cons_succ, hd]; rfl
    have hw := wins_at t c (r.take i)
    have h2 : (ivs (c :: r))[Vbbraf.winsAt t (r.take i) 1 c 0]? = some (iv ((r.take i).foldl (fun b c => if Vbbraf.over t b c = true then c else b) c)) := by
      have e : c :: r = (c :: r.take i) ++ r.drop i := by rw [List.cons_append, List.take_append_drop]
      unfold ivs
      rw [List.getElem?_map, e, List.getElem?_append_left (List.getElem?_eq_some_iff.mp hw).1, hw]
      rfl
    refine ⟨_, rfl, _, rfl, _, _, _, _, rfl, rfl, SqT.of ha, at_of (j := i + 1) (by show (1 : Int) + (i : Int) = _; omega) h1, _, rfl, _, rfl, _, _, _, _, rfl, rfl, SqT.of ha, atI_nat h2, _, rfl, _, _, _, rfl, _, rfl, iteB (fun e => ?_) fun e => ?_⟩
    · refine ⟨_, rfl, rfl, some (.int (1 + (i : Int))), ?_⟩
      rw [take_more hd, wins_more, if_pos e]
      have e2 : (r.take i).length = i := by rw [List.length_take]; omega
      rw [e2]
      have e3 : iv (1 + i) = V.int (1 + (i : Int)) := by unfold iv; congr 1
      rw [e3]
      rfl
    · refine ⟨rfl, some (.int (1 + (i : Int))), ?_⟩
      rw [take_more hd, wins_more, if_neg (by rw [e]; decide)]
      rfl
  · rintro σ H' ⟨rfl, v, rfl⟩
    rw [hn, List.take_length]
    exact ⟨_, rfl, k⟩
end
end Lx

/-! position.py -/
namespace Lx
open PySem PySem.Spec PyProof.Rows L2
theorem lk_here {k : Str} {v : V} {r : List (Str × V)} : List.lookup k ((k, v) :: r) = some v := by
  have e : (k == k) = true := beq_self_eq_true k
  simp only [List.lookup, e]
theorem lk_past {k g : Str} {v : V} {r : List (Str × V)} (h : (k == g) = false) : List.lookup k ((g, v) :: r) = List.lookup k r := by
  simp only [List.lookup, h]
theorem put_here {f : Str} {v x : V} {r : List (Str × V)} : putF f v ((f, x) :: r) = (f, v) :: r := if_pos rfl
theorem put_past {f g : Str} {v x : V} {r : List (Str × V)} (h : ¬ g = f) : putF f v ((g, x) :: r) = (g, x) :: putF f v r := if_neg h

/-- the object of a position -/
def posF (h : Addr) (t l : Nat) (tr : Addr) : List (Str × V) := [("hands", .ref h), ("trump", iv t), ("leader", iv l), ("trick", .ref tr)]
section
variable (h : Addr) (t l : Nat) (tr : Addr)
theorem pf_hands : (posF h t l tr).lookup ("hands" : Str) = some (.ref h) := lk_here
theorem pf_trump : (posF h t l tr).lookup ("trump" : Str) = some (iv t) := (lk_past (by decide +kernel)).trans lk_here
theorem pf_leader : (posF h t l tr).lookup ("leader" : Str) = some (iv l) := (lk_past (by decide +kernel)).trans ((lk_past (by decide +kernel)).trans lk_here)
theorem pf_trick : (posF h t l tr).lookup ("trick" : Str) = some (.ref tr) := (lk_past (by decide +kernel)).trans ((lk_past (by decide +kernel)).trans ((lk_past (by decide +kernel)).trans lk_here))
theorem pf_none {m : Str} (h1 : (m == "hands") = false) (h2 : (m == "trump") = false) (h3 : (m == "leader") = false) (h4 : (m == "trick") = false) : (posF h t l tr).lookup m = none := by
  unfold posF
  rw [lk_past h1, lk_past h2, lk_past h3, lk_past h4]
  rfl
theorem pf_new : putF "trick" (.ref tr) (putF "leader" (iv l) (putF "trump" (iv t) (putF "hands" (.ref h) []))) = posF h t l tr := by
  have n1 : ¬ ("hands" : Str) = "trump" := by decide +kernel
  have n2 : ¬ ("hands" : Str) = "leader" := by decide +kernel
  have n3 : ¬ ("trump" : Str) = "leader" := by decide +kernel
  have n4 : ¬ ("hands" : Str) = "trick" := by decide +kernel
  have n5 : ¬ ("trump" : Str) = "trick" := by decide +kernel
  have n6 : ¬ ("leader" : Str) = "trick" := by decide +kernel
  have e0 : ∀ (f : Str) (v : V), putF f v [] = [(f, v)] := fun _ _ => rfl
  rw [e0, put_past n1, e0, put_past n2, put_past n3, e0, put_past n4, put_past n5, put_past n6, e0]
  rfl
end
def PosAt (C : Addr) (H : Hp) (p : Addr) (q : Vbbraf.Pos) : Prop := ∃ dx h tr, H p = some (.ins C dx (posF h q.trump q.leader tr)) ∧ HandsAt H h q.hands ∧ H tr = some (.tup (ivs q.trick))
theorem PosAt.ex {C : Addr} {H H' : Hp} {p : Addr} {q : Vbbraf.Pos} (e : Evl.Ex H H') (x : PosAt C H p q) : PosAt C H' p q := by
  obtain ⟨dx, h, tr, h1, h2, h3⟩ := x
  exact ⟨dx, h, tr, e _ _ h1, h2.mono fun a xs h => e _ _ h, e _ _ h3⟩
/-- a position as the program has them: good, of at most sixteen cards -/
structure Gd (q : Vbbraf.Pos) : Prop where
  g : Lm.Good q
  le : Vbbraf.held q ≤ 16
theorem Gd.hand {q : Vbbraf.Pos} (g : Gd q) {s : Nat} (hs : s < 4) : (Vbbraf.handOf q s).length ≤ 16 := by
  have h1 := Lm.held_eq g.g.len
  have h2 := g.le
  match s, hs with
  | 0, _ => omega
  | 1, _ => omega
  | 2, _ => omega
  | 3, _ => omega
theorem Gd.behind {q : Vbbraf.Pos} (g : Gd q) {c : Nat} (hc : c ∈ Vbbraf.legal q) : Gd (Vbbraf.behind q c).1 := by
  have h := Lm.held_behind g.g hc
  have := g.le
  exact ⟨Lm.good_behind g.g hc, by omega⟩
theorem paired_at {F : Addr → List Nat → Prop} : ∀ {rs : List Addr} {hs : List (List Nat)} {i : Nat} {l : List Nat}, Paired F rs hs → hs[i]? = some l → ∃ a, rs[i]? = some a ∧ F a l
  | _, _, 0, _, .cons p _, e => by cases e; exact ⟨_, rfl, p⟩
  | _, _, i + 1, _, .cons _ r, e => by
    obtain ⟨a, h1, h2⟩ := paired_at (i := i) r e
    exact ⟨a, h1, h2⟩
theorem paired_len {F : Addr → List Nat → Prop} : ∀ {rs : List Addr} {hs : List (List Nat)}, Paired F rs hs → rs.length = hs.length
  | _, _, .nil => rfl
  | _, _, .cons _ r => congrArg (· + 1) (paired_len r)
theorem hands_at {q : Vbbraf.Pos} (g : Gd q) {s : Nat} (hs : s < 4) : q.hands[s]? = some (Vbbraf.handOf q s) := by
  have hl := g.g.len
  unfold Vbbraf.handOf
  rw [Lm.getD_getElem?, List.getElem?_eq_getElem (by omega)]
  rfl
/-- what the top says of the class -/
structure PosT (K : PySem.W.Frag) (C : Addr) : Prop where
  cl : Cls K C
  nH : NoAttr K C "hands"
  nT : NoAttr K C "trump"
  nL : NoAttr K C "leader"
  nK : NoAttr K C "trick"
section
variable {P : Program} {w : World} {K : PySem.W.Frag} {mg : Str → Option Value} {base : Heap} {C : Addr}
def sp_pos_init (C : Addr) : Sp := fun vs H Q _ => ∃ p dx h t l tr, vs = [.ref p, .ref h, iv t, iv l, .ref tr] ∧ H p = some (.ins C dx []) ∧ Q .non (upd H p (.ins C dx (posF h t l tr)))
theorem ok_pos_init (T : PosT K C) (D : DefI K mg C "Position" "Position.__init__" (inClass c_Position 0) ["self", "hands", "trump", "leader", "trick"]) : CalC P w K mg base 1 C "Position" (sp_pos_init C) := by
  have sc : FnScope ["self", "hands", "trump", "leader", "trick"] ["self", "hands", "trump", "leader", "trick"] (defScope (inClass c_Position 0)) := ⟨rfl, rfl, rfl, by decide +kernel, rfl, by decide +kernel, by decide +kernel⟩
  refine D.cal sc (by rintro _ _ _ _ ⟨_, _, _, _, _, _, rfl, _⟩; rfl) fun f cdv A outer s H vs Q E hr h => ?_
  obtain ⟨p, dx, h, t, l, tr, rfl, hp, k⟩ := h
  refine ⟨_, pss_cons (ps_fld (pv 0) (pv 1) rfl) (pss_cons (ps_fld (pv 0) (pv 2) rfl) (pss_cons (ps_fld (pv 0) (pv 3) rfl) (pss_one (ps_fld (pv 0) (pv 4) rfl)))), ?_⟩
  refine ⟨_, rfl, _, rfl, p, C, dx, _, rfl, hp, T.cl, T.nH, (by show 0 < 1000; decide), ?_⟩
  refine ⟨_, rfl, _, rfl, p, C, dx, _, rfl, upd_same, T.cl, T.nT, (by show 1 < 1000; decide), ?_⟩
  refine ⟨_, rfl, _, rfl, p, C, dx, _, rfl, upd_same, T.cl, T.nL, (by show 2 < 1000; decide), ?_⟩
  refine ⟨_, rfl, _, rfl, p, C, dx, _, rfl, upd_same, T.cl, T.nK, (by show 3 < 1000; decide), ?_⟩
  show Q .non _
  rw [upd_upd, upd_upd, upd_upd, pf_new]
  exact k

def sp_on_turn (C : Addr) : Sp := fun vs H Q _ => ∃ p q, vs = [.ref p] ∧ PosAt C H p q ∧ Q (iv (Vbbraf.turnOf q)) H
theorem ok_on_turn (B : Bl mg) (T : PosT K C) (D : DefM K C "on_turn" "Position.on_turn" (inClass c_Position 1) ["self"]) (G : CalF P w K mg base 1 "seat_behind" sp_seat_behind) : CalM P w K mg base 2 C "on_turn" (sp_on_turn C) := by
  have sc : FnScope ["self"] ["self"] (defScope (inClass c_Position 1)) := ⟨rfl, rfl, rfl, by decide +kernel, rfl, by decide +kernel, by decide +kernel⟩
  refine D.cal sc (by rintro _ _ _ _ ⟨_, _, rfl, _⟩; rfl) fun f cdv A outer s H vs Q E hr h => ?_
  obtain ⟨p, q, rfl, ⟨dx, h, tr, h1, h2, h3⟩, k⟩ := h
  refine ⟨_, pss_one (ps_ret (pe_cf G hr (Nat.le_refl _) (by rfl) (pa_cons (pe_fld (pv 0) rfl) (pa_cons (pe_callB call_len (by rfl) B.len PySem.boot_len (pa_cons (pe_fld (pv 0) rfl) pa_nil)) pa_nil)))), ?_⟩
  refine ⟨_, rfl, p, C, dx, _, _, rfl, h1, T.cl, T.nL, pf_leader _ _ _ _, ?_⟩
  refine ⟨_, rfl, p, C, dx, _, _, rfl, h1, T.cl, T.nK, pf_trick _ _ _ _, ?_⟩
  refine ⟨_, _, rfl, .inr ⟨_, SqT.of h3, rfl⟩, _, _, rfl, ?_⟩
  rw [ivs_len]
  exact k
def sp_hand_on_turn (C : Addr) : Sp := fun vs H Q _ => ∃ p q, vs = [.ref p] ∧ PosAt C H p q ∧ Gd q ∧ ∀ a, H a = some (.tup (ivs (Vbbraf.handOf q (Vbbraf.turnOf q)))) → Q (.ref a) H
theorem ok_hand_on_turn (T : PosT K C) (D : DefM K C "hand_on_turn" "Position.hand_on_turn" (inClass c_Position 2) ["self"]) (G : CalM P w K mg base 2 C "on_turn" (sp_on_turn C)) : CalM P w K mg base 3 C "hand_on_turn" (sp_hand_on_turn C) := by
  have sc : FnScope ["self"] ["self"] (defScope (inClass c_Position 2)) := ⟨rfl, rfl, rfl, by decide +kernel, rfl, by decide +kernel, by decide +kernel⟩
  refine D.cal sc (by rintro _ _ _ _ ⟨_, _, rfl, _⟩; rfl) fun f cdv A outer s H vs Q E hr h => ?_
  obtain ⟨p, q, rfl, hp, g, k⟩ := h
  obtain ⟨dx, h, tr, h1, ⟨rs, h2, h4⟩, h3⟩ := id hp
  refine ⟨_, pss_one (ps_ret (pe_ix ix_tup (pe_fld (pv 0) rfl) (pe_cm0 G T.cl hr (Nat.le_refl _) (pv 0)) (fun _ _ => rfl))), ?_⟩
  refine ⟨_, rfl, p, C, dx, _, _, rfl, h1, T.cl, T.nH, pf_hands _ _ _ _, ?_⟩
  obtain ⟨a, ha, hl⟩ := paired_at h4 (hands_at g (Lm.turn_lt q))
  refine ⟨_, rfl, p, dx, _, rfl, h1, pf_none _ _ _ _ (by decide +kernel) (by decide +kernel) (by decide +kernel) (by decide +kernel), p, q, rfl, hp, h, _, _, _, rfl, rfl, SqT.of h2, atI_nat (by rw [List.getElem?_map, ha]; rfl), k a hl⟩
def sp_choices (C : Addr) : Sp := fun vs H Q _ => ∃ p q, vs = [.ref p] ∧ PosAt C H p q ∧ Gd q ∧ ∀ a H', H a = none → Evl.Ex H H' → H' a = some (.lst (ivs (Vbbraf.legal q))) → Q (.ref a) H'
theorem legal_is (q : Vbbraf.Pos) : legalOf (Vbbraf.handOf q (Vbbraf.turnOf q)) q.trick = Vbbraf.legal q := by
  unfold legalOf Vbbraf.legal
  cases q.trick <;> rfl
theorem ok_choices (T : PosT K C) (D : DefM K C "choices" "Position.choices" (inClass c_Position 3) ["self"]) (G : CalM P w K mg base 3 C "hand_on_turn" (sp_hand_on_turn C)) (G2 : CalF P w K mg base 2 "playable" sp_playable) : CalM P w K mg base 4 C "choices" (sp_choices C) := by
  have sc : FnScope ["self"] ["self"] (defScope (inClass c_Position 3)) := ⟨rfl, rfl, rfl, by decide +kernel, rfl, by decide +kernel, by decide +kernel⟩
  refine D.cal sc (by rintro _ _ _ _ ⟨_, _, rfl, _⟩; rfl) fun f cdv A outer s H vs Q E hr h => ?_
  obtain ⟨p, q, rfl, hp, g, k⟩ := h
  obtain ⟨dx, h, tr, h1, h2, h3⟩ := id hp
  refine ⟨_, pss_one (ps_ret (pe_cf G2 hr (by decide) (by rfl) (pa_cons (pe_cm0 G T.cl hr (Nat.le_refl _) (pv 0)) (pa_cons (pe_fld (pv 0) rfl) pa_nil)))), ?_⟩
  refine ⟨_, rfl, p, dx, _, rfl, h1, pf_none _ _ _ _ (by decide +kernel) (by decide +kernel) (by decide +kernel) (by decide +kernel), p, q, rfl, hp, g, fun a ha => ?_⟩
  refine ⟨_, rfl, p, C, dx, _, _, rfl, h1, T.cl, T.nK, pf_trick _ _ _ _, ?_⟩
  refine ⟨a, tr, _, _, rfl, ha, h3, g.hand (Lm.turn_lt q), by have := g.g.tr; omega, fun b H' hb e hl => ?_⟩
  rw [legal_is] at hl
  exact k b H' hb e hl
def sp_has_cards (C : Addr) : Sp := fun vs H Q _ => ∃ p q, vs = [.ref p] ∧ PosAt C H p q ∧ Gd q ∧ ∀ H', Evl.Ex H H' → Q (.bl (decide (Vbbraf.held q ≠ 0))) H'
theorem zip_get {F : Addr → List Nat → Prop} : ∀ {rs : List Addr} {hs : List (List Nat)}, Paired F rs hs → ∃ z : List (Addr × List Nat), z.map (fun x => V.ref x.1) = rs.map V.ref ∧ z.map (·.2) = hs ∧ ∀ x ∈ z, F x.1 x.2
  | _, _, .nil => ⟨[], rfl, rfl, fun _ h => by cases h⟩
  | _, _, .cons (a := a) (b := b) p r => by
    obtain ⟨z, h1, h2, h3⟩ := zip_get r
    refine ⟨(a, b) :: z, by rw [List.map_cons, h1]; rfl, by rw [List.map_cons, h2], fun x hx => ?_⟩
    rcases List.mem_cons.mp hx with e | hx
    · subst e; exact p
    · exact h3 x hx
/-- is the card among the numbers -/
theorem in_ivs (c : Nat) (l : List Nat) : inV (iv c) (ivs l) = l.contains c := by
  unfold inV ivs
  rw [List.any_map]
  induction l with
  | nil => rfl
  | cons a r ih =>
    rw [List.any_cons, ih, List.contains_cons]
    have e : ((fun y => eqV y (iv c)) ∘ iv) a = (c == a) := by
      show ((a : Int) == (c : Int)) = (c == a)
      by_cases h : c = a
      · subst h; rw [beq_self_eq_true, beq_self_eq_true]
      · rw [beq_eq_false_iff_ne.mpr h]
        exact beq_eq_false_iff_ne.mpr fun z => h (Int.ofNat.inj z).symm
    rw [e]
theorem flat_ivs (l : List Nat) : (ivs l).all flatV = true := by
  rw [List.all_eq_true]
  intro x hx
  obtain ⟨y, _, rfl⟩ := List.mem_map.mp hx
  rfl
def sp_cards_left (C : Addr) : Sp := fun vs H Q _ => ∃ p q, vs = [.ref p] ∧ PosAt C H p q ∧ Gd q ∧ ∀ H', Evl.Ex H H' → Q (iv (Vbbraf.held q)) H'
theorem sum_held (q : Vbbraf.Pos) : (q.hands.map fun l => (l.length : Int)).sum = (Vbbraf.held q : Int) := by
  unfold Vbbraf.held
  rw [Lm.total_eq]
  induction q.hands with
  | nil => rfl
  | cons a r ih => rw [List.map_cons, List.map_cons, List.sum_cons, List.sum_cons, ih]; omega
theorem ok_cards_left (B : Bl mg) (T : PosT K C) (D : DefM K C "cards_left" "Position.cards_left" (inClass c_Position 5) ["self"]) : CalM P w K mg base 1 C "cards_left" (sp_cards_left C) := by
  have sc : FnScope ["self", "hand"] ["self"] (defScope (inClass c_Position 5)) := ⟨rfl, rfl, rfl, by decide +kernel, rfl, by decide +kernel, by decide +kernel⟩
  refine D.cal sc (by rintro _ _ _ _ ⟨_, _, rfl, _⟩; rfl) fun f cdv A outer s H vs Q E hr h => ?_
  obtain ⟨p, q, rfl, hp, g, k⟩ := h
  obtain ⟨dx, h, tr, h1, ⟨rs, h2, h4⟩, h3⟩ := id hp
  refine ⟨_, pss_one (ps_ret (pe_callB (cr_sum rfl) (by rfl) B.sum (by decide +kernel) (pa_cons (pe_lc (own := [("hand", 1)]) (g := gName 1) (tt := tYes) rfl sc.nd (pi_tup (pe_fld (pv 0) rfl)) (blkOk_by (N := ["self", "hand"]) (sc := defScope (inClass c_Position 5)) (by decide +kernel))
    (fun _ _ _ _ _ => pg_name (i := 1) sc.nd rfl (.inl rfl)) (fun _ _ _ _ _ => pts_nil) (fun _ _ _ _ _ => pe_callB (call_lenK K) (by rfl) B.len PySem.boot_len (pa_cons (pv 1) pa_nil))) pa_nil))), ?_⟩
  obtain ⟨z, z1, z2, z3⟩ := zip_get h4
  have zl : z.length = 4 := by
    have := congrArg List.length z2
    rw [List.length_map, g.g.len] at this
    exact this
  refine ⟨_, rfl, p, C, dx, _, _, rfl, h1, T.cl, T.nH, pf_hands _ _ _ _, h, rfl, ⟨_, SqT.of h2⟩, ?_⟩
  refine lcp_tup z (fun x => V.ref x.1) (fun _ => true) (fun x => V.int (x.2.length : Int)) (by rw [z1]; exact SqT.of h2) (by omega) (fun _ => rfl) ?_ ?_ ?_
  · intro i c H' hc e Q q
    exact q H' (Evl.Ex.refl _)
  · intro i c H' hc _ e Q q
    have hm := z3 c (List.mem_of_getElem? hc)
    refine ⟨_, rfl, _, _, rfl, .inr ⟨_, SqT.of (e _ _ hm), rfl⟩, ?_⟩
    rw [ivs_len]
    exact q H' (Evl.Ex.refl _)
  · intro Dl H' hD e hl
    refine ⟨Dl, q.hands.map (fun l => (l.length : Int)), rfl, SqL.of ?_, ?_⟩
    · rw [hl, List.filter_eq_self.mpr (fun _ _ => rfl), ← z2, List.map_map, List.map_map]
      rfl
    · rw [sum_held]
      exact k H' e
theorem ok_has_cards (T : PosT K C) (D : DefM K C "has_cards" "Position.has_cards" (inClass c_Position 4) ["self"]) (G : CalM P w K mg base 1 C "cards_left" (sp_cards_left C)) : CalM P w K mg base 2 C "has_cards" (sp_has_cards C) := by
  have sc : FnScope ["self"] ["self"] (defScope (inClass c_Position 4)) := ⟨rfl, rfl, rfl, by decide +kernel, rfl, by decide +kernel, by decide +kernel⟩
  refine D.cal sc (by rintro _ _ _ _ ⟨_, _, rfl, _⟩; rfl) fun f cdv A outer s H vs Q E hr h => ?_
  obtain ⟨p, q, rfl, hp, g, k⟩ := h
  obtain ⟨dx, h, tr, h1, h2, h3⟩ := id hp
  refine ⟨_, pss_one (ps_ret (pe_cmpR op_gt (pe_cm0 G T.cl hr (Nat.le_refl _) (pv 0)) pe_int (nomark _))), ?_⟩
  refine ⟨_, rfl, p, dx, _, rfl, h1, pf_none _ _ _ _ (by decide +kernel) (by decide +kernel) (by decide +kernel) (by decide +kernel), p, q, rfl, hp, g, fun H1 e1 => ⟨_, _, rfl, rfl, ?_⟩⟩
  have e2 : decide ((0 : Int) < (Vbbraf.held q : Int)) = decide (Vbbraf.held q ≠ 0) := by
    by_cases n : Vbbraf.held q ≠ 0
    · rw [decide_eq_true n, decide_eq_true (by omega)]
    · rw [decide_eq_false n, decide_eq_false (by omega)]
  show Q (.bl (decide ((0 : Int) < (Vbbraf.held q : Int)))) H1
  rw [e2]
  exact k H1 e1
def sp_tricks_left (C : Addr) : Sp := fun vs H Q _ => ∃ p q, vs = [.ref p] ∧ PosAt C H p q ∧ Gd q ∧ ∀ H', Evl.Ex H H' → Q (iv (Vbbraf.toCome q)) H'
theorem ok_tricks_left (B : Bl mg) (T : PosT K C) (D : DefM K C "tricks_left" "Position.tricks_left" (inClass c_Position 6) ["self"]) (G : CalM P w K mg base 1 C "cards_left" (sp_cards_left C)) : CalM P w K mg base 2 C "tricks_left" (sp_tricks_left C) := by
  have sc : FnScope ["self"] ["self"] (defScope (inClass c_Position 6)) := ⟨rfl, rfl, rfl, by decide +kernel, rfl, by decide +kernel, by decide +kernel⟩
  refine D.cal sc (by rintro _ _ _ _ ⟨_, _, rfl, _⟩; rfl) fun f cdv A outer s H vs Q E hr h => ?_
  obtain ⟨p, q, rfl, hp, g, k⟩ := h
  obtain ⟨dx, h, tr, h1, h2, h3⟩ := id hp
  refine ⟨_, pss_one (ps_ret (pe_op op_fdiv (pe_op op_add (pe_cm0 G T.cl hr (Nat.le_refl _) (pv 0)) (pe_callB call_len (by rfl) B.len PySem.boot_len (pa_cons (pe_fld (pv 0) rfl) pa_nil))) pe_int)), ?_⟩
  refine ⟨_, rfl, p, dx, _, rfl, h1, pf_none _ _ _ _ (by decide +kernel) (by decide +kernel) (by decide +kernel) (by decide +kernel), p, q, rfl, hp, g, fun H1 e1 => ?_⟩
  refine ⟨_, rfl, p, C, dx, _, _, rfl, e1 _ _ h1, T.cl, T.nK, pf_trick _ _ _ _, _, _, rfl, .inr ⟨_, SqT.of (e1 _ _ h3), rfl⟩, _, _, rfl, rfl, _, _, rfl, rfl, ⟨by decide, by decide⟩, ?_⟩
  rw [ivs_len]
  show Q (.int (((Vbbraf.held q : Int) + (q.trick.length : Int)) / 4)) H1
  have e : (((Vbbraf.held q : Int) + (q.trick.length : Int)) / 4) = (Vbbraf.toCome q : Int) := by unfold Vbbraf.toCome; omega
  rw [e]
  exact k H1 e1
def sp_seen (C : Addr) : Sp := fun vs H Q _ => ∃ p q, vs = [.ref p] ∧ PosAt C H p q ∧ Gd q ∧ ∀ a H', H a = none → Evl.Ex H H' → H' a = some (.lst (ivs (Lm.seenOf q))) → Q (.ref a) H'
theorem flat_take {q : Vbbraf.Pos} (g : Gd q) (i : Nat) : (q.hands.take i).flatten.length ≤ 16 := by
  have h1 : (q.hands.take i).flatten.length ≤ q.hands.flatten.length := by
    conv => rhs; rw [← List.take_append_drop i q.hands]
    rw [List.flatten_append, List.length_append]
    omega
  have h2 := Lm.seen_len g.g.len
  unfold Lm.seenOf at h2
  rw [List.length_append] at h2
  have := g.le
  omega
theorem ok_seen (B : Bl mg) (T : PosT K C) (D : DefM K C "seen" "Position.seen" (inClass c_Position 7) ["self"]) : CalM P w K mg base 1 C "seen" (sp_seen C) := by
  have sc : FnScope ["self", "cards", "hand"] ["self"] (defScope (inClass c_Position 7)) := ⟨rfl, rfl, rfl, by decide +kernel, rfl, by decide +kernel, by decide +kernel⟩
  refine D.cal sc (by rintro _ _ _ _ ⟨_, _, rfl, _⟩; rfl) fun f cdv A outer s H vs Q E hr h => ?_
  obtain ⟨p, q, rfl, hp, g, k⟩ := h
  obtain ⟨dx, h, tr, h1, ⟨rs, h2, h4⟩, h3⟩ := id hp
  refine ⟨_, pss_cons (ps_set (i := 1) sc.nd rfl (.inl rfl) (pe_callTy call_list_of (by rfl) B.list (by decide +kernel) (pa_cons (pe_fld (pv 0) rfl) pa_nil)))
    (pss_cons (ps_for PassesOwn.never rfl (pi_tup (pe_fld (pv 0) rfl)) (pg_name (i := 2) sc.nd rfl (.inl rfl)) (pss_one (ps_expr (pe_bm PySem.F.plainAttrs_list PySem.F.slot_list_extend PySem.F.type_list_extend mt_extendT (pv 1) (pa_cons (pv 2) pa_nil)))))
    (pss_one (ps_ret (pv 1)))), ?_⟩
  refine ⟨_, rfl, p, C, dx, _, _, rfl, h1, T.cl, T.nK, pf_trick _ _ _ _, tr, _, rfl, .inr (SqT.of h3), fun c hc => ?_⟩
  have e1 : Evl.Ex H (upd H c (.lst (ivs q.trick))) := Evl.Ex.new hc
  have rl : rs.length = 4 := (paired_len h4).trans g.g.len
  refine ⟨_, rfl, p, C, dx, _, _, rfl, e1 _ _ h1, T.cl, T.nH, pf_hands _ _ _ _, h, rfl, ⟨_, SqT.of (e1 _ _ h2)⟩, for_tup (xs := rs.map V.ref) (fun i σ H' => ∃ v, σ = [some (.ref p), some (.ref c), v] ∧ Evl.Ex H H' ∧ H' c = some (.lst (ivs (q.trick ++ (q.hands.take i).flatten))))
    ⟨none, rfl, e1, by rw [upd_same]; simp⟩ (fun i σ H' _ ⟨_, _, e, _⟩ => SqT.of (e _ _ h2)) ?_ ?_⟩
  · rintro i x σ H' hi ⟨v, rfl, e, hcl⟩
    rw [List.getElem?_map] at hi
    obtain ⟨r, hri, rfl⟩ := Option.map_eq_some_iff.mp hi
    have hil : i < q.hands.length := by rw [g.g.len, ← rl]; exact (List.getElem?_eq_some_iff.mp hri).1
    obtain ⟨a, ha, hl⟩ := paired_at h4 (List.getElem?_eq_getElem hil)
    rw [hri] at ha
    cases ha
    have f1 := flat_take g i
    have f2 := g.g.tr
    have f3 : (q.hands[i]).length ≤ 16 := by
      have z := flat_take g (i + 1)
      rw [take_more (List.getElem?_eq_getElem hil), List.flatten_append, List.length_append] at z
      simp at z
      omega
    refine ⟨_, rfl, .inl ⟨rfl, _, SqL.of hcl⟩, _, rfl, c, r, _, _, rfl, rfl, hcl, e _ _ hl, line16 (by rw [ivs_len, ivs_len, List.length_append]; omega), ?_⟩
    refine ⟨some (.ref r), rfl, Evl.Ex.mut e hc, ?_⟩
    rw [upd_same, take_more (List.getElem?_eq_getElem hil), List.flatten_append]
    unfold ivs
    rw [← List.map_append]
    simp
  · rintro σ H' ⟨v, rfl, e, hcl⟩
    rw [List.length_map, rl, ← g.g.len, List.take_length] at hcl
    exact ⟨_, rfl, k c H' hc e hcl⟩
def sp_hand_with (C : Addr) : Sp := fun vs H Q _ => ∃ p q c, vs = [.ref p, iv c] ∧ PosAt C H p q ∧ Gd q ∧ (Vbbraf.ownerOf q c = none → Q .non H) ∧ ∀ t a, Vbbraf.ownerOf q c = some t → t < 4 → H a = some (.tup (ivs (Vbbraf.handOf q t))) → Q (.ref a) H
theorem ok_hand_with (T : PosT K C) (D : DefM K C "hand_with" "Position.hand_with" (inClass c_Position 8) ["self", "card"]) : CalM P w K mg base 1 C "hand_with" (sp_hand_with C) := by
  have sc : FnScope ["self", "card", "hand"] ["self", "card"] (defScope (inClass c_Position 8)) := ⟨rfl, rfl, rfl, by decide +kernel, rfl, by decide +kernel, by decide +kernel⟩
  refine D.cal sc (by rintro _ _ _ _ ⟨_, _, _, rfl, _⟩; rfl) fun f cdv A outer s H vs Q E hr h => ?_
  obtain ⟨p, q, c, rfl, hp, g, k0, k1⟩ := h
  obtain ⟨dx, h, tr, h1, ⟨rs, h2, h4⟩, h3⟩ := id hp
  refine ⟨_, pss_cons (ps_for PassesOwn.never rfl (pi_tup (pe_fld (pv 0) rfl)) (pg_name (i := 2) sc.nd rfl (.inl rfl)) (pss_one (ps_if (pt_cmpR op_in_seq (pv 1) (pv 2) (by rfl)) (pss_one (ps_ret (pv 2))) pss_nil)))
    (pss_one (ps_ret pe_non)), ?_⟩
  have rl : rs.length = 4 := (paired_len h4).trans g.g.len
  refine ⟨_, rfl, p, C, dx, _, _, rfl, h1, T.cl, T.nH, pf_hands _ _ _ _, h, rfl, ⟨_, SqT.of h2⟩, for_tup (xs := rs.map V.ref) (fun i σ H' => H' = H ∧ ∃ v, σ = [some (.ref p), some (iv c), v] ∧ ∀ j, j < i → (Vbbraf.handOf q j).contains c = false)
    ⟨rfl, none, rfl, fun j hj => absurd hj (Nat.not_lt_zero _)⟩ (fun i σ H' _ ⟨e, _⟩ => by subst e; exact SqT.of h2) ?_ ?_⟩
  · rintro i x σ H' hi ⟨rfl, v, rfl, hj⟩
    rw [List.getElem?_map] at hi
    obtain ⟨r, hri, rfl⟩ := Option.map_eq_some_iff.mp hi
    have hil : i < 4 := by rw [← rl]; exact (List.getElem?_eq_some_iff.mp hri).1
    obtain ⟨a, ha, hl⟩ := paired_at h4 (hands_at g hil)
    rw [hri] at ha
    cases ha
    refine ⟨_, rfl, _, rfl, r, _, rfl, .inr (SqT.of hl), rfl, flat_ivs _, _, rfl, ?_⟩
    rw [in_ivs]
    refine iteB (fun cc => ?_) fun cc => ?_
    · exact ⟨_, rfl, k1 i r (Lm.owner_some hil cc hj) hil hl⟩
    · refine ⟨rfl, some (.ref r), rfl, fun j hj2 => ?_⟩
      by_cases e : j = i
      · subst e; exact cc
      · exact hj j (by omega)
  · rintro σ H' ⟨rfl, v, rfl, hj⟩
    rw [List.length_map, rl] at hj
    exact k0 (Lm.owner_none hj)
def sp_between (C : Addr) : Sp := fun vs H Q _ => ∃ p q, vs = [.ref p] ∧ PosAt C H p q ∧ Q (.bl (decide (q.trick.length = 0))) H
theorem ok_between (B : Bl mg) (T : PosT K C) (D : DefM K C "between_tricks" "Position.between_tricks" (inClass c_Position 10) ["self"]) : CalM P w K mg base 1 C "between_tricks" (sp_between C) := by
  have sc : FnScope ["self"] ["self"] (defScope (inClass c_Position 10)) := ⟨rfl, rfl, rfl, by decide +kernel, rfl, by decide +kernel, by decide +kernel⟩
  refine D.cal sc (by rintro _ _ _ _ ⟨_, _, rfl, _⟩; rfl) fun f cdv A outer s H vs Q E hr h => ?_
  obtain ⟨p, q, rfl, ⟨dx, h, tr, h1, h2, h3⟩, k⟩ := h
  refine ⟨_, pss_one (ps_ret (pe_cmpR op_eq (pe_callB call_len (by rfl) B.len PySem.boot_len (pa_cons (pe_fld (pv 0) rfl) pa_nil)) pe_int (nomark _))), ?_⟩
  refine ⟨_, rfl, p, C, dx, _, _, rfl, h1, T.cl, T.nK, pf_trick _ _ _ _, _, _, rfl, .inr ⟨_, SqT.of h3, rfl⟩, rfl, ?_⟩
  rw [ivs_len]
  have e : decide (V.int (q.trick.length : Int) = V.int 0) = decide (q.trick.length = 0) := dec_iv' _ 0
  rw [e]
  exact k
def sp_winner_behind (C : Addr) : Sp := fun vs H Q _ => ∃ p q, vs = [.ref p] ∧ PosAt C H p q ∧ Q (if q.trick.length = 0 then iv q.leader else .non) H
theorem ok_winner_behind (T : PosT K C) (D : DefM K C "winner_behind" "Position.winner_behind" (inClass c_Position 11) ["self"]) (G : CalM P w K mg base 1 C "between_tricks" (sp_between C)) : CalM P w K mg base 2 C "winner_behind" (sp_winner_behind C) := by
  have sc : FnScope ["self"] ["self"] (defScope (inClass c_Position 11)) := ⟨rfl, rfl, rfl, by decide +kernel, rfl, by decide +kernel, by decide +kernel⟩
  refine D.cal sc (by rintro _ _ _ _ ⟨_, _, rfl, _⟩; rfl) fun f cdv A outer s H vs Q E hr h => ?_
  obtain ⟨p, q, rfl, hp, k⟩ := h
  obtain ⟨dx, h, tr, h1, h2, h3⟩ := id hp
  refine ⟨_, pss_cons (ps_if (pt_val (pe_cm0 G T.cl hr (Nat.le_refl _) (pv 0))) (pss_one (ps_ret (pe_fld (pv 0) rfl))) pss_nil) (pss_one (ps_ret pe_non)), ?_⟩
  refine ⟨_, rfl, p, dx, _, rfl, h1, pf_none _ _ _ _ (by decide +kernel) (by decide +kernel) (by decide +kernel) (by decide +kernel), p, q, rfl, hp, _, rfl, iteB (fun c => ?_) fun c => ?_⟩
  · refine ⟨_, rfl, p, C, dx, _, _, rfl, h1, T.cl, T.nL, pf_leader _ _ _ _, ?_⟩
    rw [if_pos (of_decide_eq_true c)] at k
    exact k
  · rw [if_neg (of_decide_eq_false c)] at k
    exact k
def sp_behind (C : Addr) : Sp := fun vs H Q _ => ∃ p q c, vs = [.ref p, iv c] ∧ PosAt C H p q ∧ Gd q ∧ ∀ a H', Evl.Ex H H' → PosAt C H' a (Vbbraf.behind q c).1 → Q (.ref a) H'
theorem ok_behind (B : Bl mg) (T : PosT K C) (D : DefM K C "behind" "Position.behind" (inClass c_Position 9) ["self", "card"]) (GI : CalC P w K mg base 1 C "Position" (sp_pos_init C)) (G1 : CalM P w K mg base 2 C "on_turn" (sp_on_turn C))
    (G2 : CalM P w K mg base 3 C "hand_on_turn" (sp_hand_on_turn C)) (G3 : CalF P w K mg base 1 "seat_behind" sp_seat_behind) (G4 : CalF P w K mg base 3 "winning_place" sp_winning_place) : CalM P w K mg base 4 C "behind" (sp_behind C) := by
  have sc : FnScope ["self", "card", "hands", "trick", "winner", "other"] ["self", "card"] (defScope (inClass c_Position 9)) := ⟨rfl, rfl, rfl, by decide +kernel, rfl, by decide +kernel, by decide +kernel⟩
  refine D.cal sc (by rintro _ _ _ _ ⟨_, _, _, rfl, _⟩; rfl) fun f cdv A outer s H vs Q E hr h => ?_
  obtain ⟨p, q, c, rfl, hp, g, k⟩ := h
  obtain ⟨dx, h, tr, h1, ⟨rs, h2, h4⟩, h3⟩ := id hp
  refine ⟨_, pss_cons (ps_set (i := 2) sc.nd rfl (.inl rfl) (pe_callTy call_list_of (by rfl) B.list (by decide +kernel) (pa_cons (pe_fld (pv 0) rfl) pa_nil)))
    (pss_cons (ps_asg (pe_callTy call_tuple_of (by rfl) B.tuple (by decide +kernel) (pa_cons (pe_lc (own := [("other", 5)]) (g := gName 5) rfl sc.nd (pi_tup (pe_cm0 G2 T.cl hr (Nat.le_refl _) (pv 0))) (blkOk_by (N := ["self", "card", "hands", "trick", "winner", "other"]) (sc := defScope (inClass c_Position 9)) (by decide +kernel))
        (fun _ _ _ _ _ => pg_name (i := 5) sc.nd rfl (.inl rfl)) (fun _ _ _ _ _ => pts_one (pt_cmpR op_ne (pv 5) (pv 1) (nomark _))) (fun _ _ _ _ _ => pv 5)) pa_nil)) (pg_sub (pv 2) (pe_cm0 G1 T.cl hr (by decide) (pv 0)) set_list))
    (pss_cons (ps_set (i := 3) sc.nd rfl (.inl rfl) (pe_op op_catN (pe_fld (pv 0) rfl) (pe_tup (pa_cons (pv 1) pa_nil))))
    (pss_cons (ps_if (pt_cmpR op_lt (pe_callB call_len (by rfl) B.len PySem.boot_len (pa_cons (pv 3) pa_nil)) pe_int (nomark _))
        (pss_one (ps_ret (pe_cc GI hr (by decide) (by rfl) (pa_cons (pe_callTy call_tuple_of (by rfl) B.tuple (by decide +kernel) (pa_cons (pv 2) pa_nil)) (pa_cons (pe_fld (pv 0) rfl) (pa_cons (pe_fld (pv 0) rfl) (pa_cons (pv 3) pa_nil))))))) pss_nil)
    (pss_cons (ps_set (i := 4) sc.nd rfl (.inl rfl) (pe_cf G3 hr (by decide) (by rfl) (pa_cons (pe_fld (pv 0) rfl) (pa_cons (pe_cf G4 hr (Nat.le_refl _) (by rfl) (pa_cons (pv 3) (pa_cons (pe_fld (pv 0) rfl) pa_nil))) pa_nil))))
    (pss_one (ps_ret (pe_cc GI hr (by decide) (by rfl) (pa_cons (pe_callTy call_tuple_of (by rfl) B.tuple (by decide +kernel) (pa_cons (pv 2) pa_nil)) (pa_cons (pe_fld (pv 0) rfl) (pa_cons (pv 4) (pa_cons (pe_tup pa_nil) pa_nil))))))))))), ?_⟩
  have pfn : ∀ {m : Str}, (m == "hands") = false → (m == "trump") = false → (m == "leader") = false → (m == "trick") = false → (posF h q.trump q.leader tr).lookup m = none := pf_none _ _ _ _
  have ht := Lm.turn_lt q
  refine ⟨_, rfl, p, C, dx, _, _, rfl, h1, T.cl, T.nH, pf_hands _ _ _ _, h, _, rfl, .inr (SqT.of h2), fun l hl => ?_⟩
  have ea : Evl.Ex H (upd H l (.lst (rs.map V.ref))) := Evl.Ex.new hl
  refine ⟨_, rfl, p, dx, _, rfl, ea _ _ h1, pfn (by decide +kernel) (by decide +kernel) (by decide +kernel) (by decide +kernel), p, q, rfl, hp.ex ea, g, fun a ha => ?_⟩
  refine ⟨a, rfl, ⟨_, SqT.of ha⟩, lcp_tup (Vbbraf.handOf q (Vbbraf.turnOf q)) iv (fun d => d != c) iv (SqT.of ha) (by have := g.hand ht; omega) (fun _ => rfl) ?_ ?_ ?_⟩
  · intro i d H' hd e Q q
    refine ⟨_, rfl, _, rfl, rfl, _, rfl, ?_⟩
    rw [dec_iv]
    exact q H' (Evl.Ex.refl _)
  · intro i d H' hd _ e Q q
    exact ⟨_, rfl, q H' (Evl.Ex.refl _)⟩
  intro Dl Hb hD eb hDl
  refine ⟨Dl, _, rfl, .inl ⟨SqL.of hDl, fun tn htn => ?_⟩⟩
  have ec : Evl.Ex H (upd Hb tn (.tup (((Vbbraf.handOf q (Vbbraf.turnOf q)).filter fun d => d != c).map iv))) := (ea.trans eb).trans (Evl.Ex.new htn)
  have ec2 : Evl.Ex (upd H l (.lst (rs.map V.ref))) (upd Hb tn (.tup (((Vbbraf.handOf q (Vbbraf.turnOf q)).filter fun d => d != c).map iv))) := eb.trans (Evl.Ex.new htn)
  have hcl := ec2 l _ upd_same
  have hct : (upd Hb tn (.tup (((Vbbraf.handOf q (Vbbraf.turnOf q)).filter fun d => d != c).map iv))) tn = some (.tup (ivs (Vbbraf.without c (Vbbraf.handOf q (Vbbraf.turnOf q))))) := upd_same
  generalize upd Hb tn (.tup (((Vbbraf.handOf q (Vbbraf.turnOf q)).filter fun d => d != c).map iv)) = Hc at *
  have rl : rs.length = 4 := (paired_len h4).trans g.g.len
  refine ⟨_, rfl, _, rfl, p, dx, _, rfl, ec _ _ h1, pfn (by decide +kernel) (by decide +kernel) (by decide +kernel) (by decide +kernel), p, q, rfl, hp.ex ec, l, _, _, Vbbraf.turnOf q, rfl, rfl, hcl, Evl.ixN_nat (by rw [List.length_map]; omega), ?_⟩
  have ed : Evl.Ex H (upd Hc l (.lst ((rs.map V.ref).set (Vbbraf.turnOf q) (.ref tn)))) := Evl.Ex.mut ec hl
  have hdl : (upd Hc l (.lst ((rs.map V.ref).set (Vbbraf.turnOf q) (.ref tn)))) l = some (.lst ((rs.set (Vbbraf.turnOf q) tn).map V.ref)) := by rw [upd_same, List.map_set]
  have hdt : (upd Hc l (.lst ((rs.map V.ref).set (Vbbraf.turnOf q) (.ref tn)))) tn = some (.tup (ivs (Vbbraf.without c (Vbbraf.handOf q (Vbbraf.turnOf q))))) := by
    rw [upd_ne (ne_of hct hcl (fun z => nomatch z))]
    exact hct
  generalize upd Hc l (.lst ((rs.map V.ref).set (Vbbraf.turnOf q) (.ref tn))) = Hd at *
  -- trick
  refine ⟨_, rfl, p, C, dx, _, _, rfl, ed _ _ h1, T.cl, T.nK, pf_trick _ _ _ _, _, rfl, (by show 1 ≤ sizeLine; decide), fun u hu => ?_⟩
  refine ⟨tr, u, _, _, rfl, rfl, SqT.of ((Evl.Ex.new hu) _ _ (ed _ _ h3)), upd_same, fun e => (by cases e), line16 (by rw [ivs_len]; have := g.g.tr; show q.trick.length + 1 ≤ 1000; omega), fun tk He ee htk => ?_⟩
  have ef : Evl.Ex Hd He := (Evl.Ex.new hu).trans ee
  have htk' : He tk = some (.tup (ivs (q.trick ++ [c]))) := by
    rw [htk]
    unfold ivs
    rw [List.map_append]
    rfl
  have hhands : ∀ H' t, Evl.Ex He H' → H' t = some (.tup ((rs.set (Vbbraf.turnOf q) tn).map V.ref)) → HandsAt H' t (Vbbraf.setAt q.hands (Vbbraf.turnOf q) (Vbbraf.without c (Vbbraf.handOf q (Vbbraf.turnOf q)))) := fun H' t e ht => by
    refine ⟨_, ht, ?_⟩
    rw [Lm.setAt_set]
    have hp2 : Paired (fun (a : Addr) (l : List Nat) => H' a = some (.tup (ivs l))) rs q.hands := Paired.mapP h4 fun a l hh => e _ _ (ef _ _ (ed _ _ hh))
    exact Paired.setP (F := fun (a : Addr) (l : List Nat) => H' a = some (.tup (ivs l))) (e _ _ (ef _ _ hdt)) _ hp2
  refine ⟨_, rfl, _, _, rfl, .inr ⟨_, SqT.of htk', rfl⟩, _, _, rfl, rfl, _, rfl, iteB (fun cc => ?_) fun cc => ?_⟩
  · have cc2 := of_decide_eq_true cc
    rw [ivs_len, List.length_append] at cc2
    have cc3 : q.trick.length + 1 ≠ 4 := by
      simp only [List.length_cons, List.length_nil] at cc2
      omega
    refine ⟨_, rfl, l, _, rfl, .inl ⟨SqL.of (ef _ _ hdl), fun t htt => ?_⟩⟩
    have eg : Evl.Ex He (upd He t (.tup ((rs.set (Vbbraf.turnOf q) tn).map V.ref))) := Evl.Ex.new htt
    refine ⟨_, rfl, p, C, dx, _, _, rfl, eg _ _ (ef _ _ (ed _ _ h1)), T.cl, T.nT, pf_trump _ _ _ _, ?_⟩
    refine ⟨_, rfl, p, C, dx, _, _, rfl, eg _ _ (ef _ _ (ed _ _ h1)), T.cl, T.nL, pf_leader _ _ _ _, ?_⟩
    refine ⟨_, rfl, fun x dx' hx hdx hne => ?_⟩
    refine ⟨x, dx', t, _, _, tk, rfl, upd_same, rfl, ?_⟩
    have eh := ex_made (o1 := .own x) (o2 := .ins C dx' []) (o3 := .ins C dx' (posF t q.trump q.leader tk)) hx hdx
    refine k x _ (((ed.trans ef).trans eg).trans eh) ?_
    rw [Lm.behind_part cc3]
    exact ⟨dx', t, tk, upd_same, hhands _ t (eg.trans eh) (eh _ _ upd_same), eh _ _ (eg _ _ htk')⟩
  · have cc2 := of_decide_eq_false cc
    rw [ivs_len, List.length_append] at cc2
    have cc3 : q.trick.length + 1 = 4 := by
      have := g.g.tr
      simp only [List.length_cons, List.length_nil] at cc2
      omega
    -- winner
    obtain ⟨c0, r0, er⟩ : ∃ c0 r0, q.trick ++ [c] = c0 :: r0 := by
      cases q.trick with
      | nil => exact ⟨c, [], rfl⟩
      | cons a b => exact ⟨a, b ++ [c], rfl⟩
    have ew : Vbbraf.winner q (q.trick ++ [c]) = (q.leader + Vbbraf.winsAt q.trump r0 1 c0 0) % 4 := by rw [er]; rfl
    have r0l : r0.length ≤ 16 := by
      have := congrArg List.length er
      rw [List.length_append] at this
      simp only [List.length_cons, List.length_nil] at this
      omega
    refine ⟨_, rfl, p, C, dx, _, _, rfl, ef _ _ (ed _ _ h1), T.cl, T.nL, pf_leader _ _ _ _, ?_⟩
    refine ⟨_, rfl, _, rfl, p, C, dx, _, _, rfl, ef _ _ (ed _ _ h1), T.cl, T.nT, pf_trump _ _ _ _, tk, c0, r0, _, rfl, by rw [← er]; exact htk', r0l, ?_⟩
    refine ⟨_, _, rfl, ?_⟩
    refine ⟨_, rfl, l, _, rfl, .inl ⟨SqL.of (ef _ _ hdl), fun t htt => ?_⟩⟩
    have eg : Evl.Ex He (upd He t (.tup ((rs.set (Vbbraf.turnOf q) tn).map V.ref))) := Evl.Ex.new htt
    refine ⟨_, rfl, p, C, dx, _, _, rfl, eg _ _ (ef _ _ (ed _ _ h1)), T.cl, T.nT, pf_trump _ _ _ _, ?_⟩
    refine ⟨_, rfl, Nat.zero_le _, fun e0 he0 => ?_⟩
    intro x dx' hx hdx hne
    refine ⟨x, dx', t, _, _, e0, rfl, upd_same, rfl, ?_⟩
    have ei := Evl.Ex.new (o := .tup []) he0
    have eh := ex_made (o1 := .own x) (o2 := .ins C dx' []) (o3 := .ins C dx' (posF t q.trump ((q.leader + Vbbraf.winsAt q.trump r0 1 c0 0) % 4) e0)) hx hdx
    refine k x _ ((((ed.trans ef).trans eg).trans ei).trans eh) ?_
    rw [Lm.behind_whole cc3, ew]
    exact ⟨dx', t, e0, upd_same, hhands _ t ((eg.trans ei).trans eh) (eh _ _ (ei _ _ upd_same)), eh _ _ upd_same⟩
end
end Lx

/-! search.py -/
namespace Lx
open PySem PySem.Spec PyProof.Rows L2
/-! ### all but the dict stands -/
section
variable {P : Program} {w : World} {H H' : Hp} {d a : Addr} {U : List PK3}
theorem FoundOk.dx (f : FoundOk P w H d U) : ∃ φ, H d = some (.ext φ) := by
  obtain ⟨_, xs, h, _⟩ := f
  exact ⟨_, h⟩
theorem Gx.keep {o : HO} (g : Gx d H H') (f : FoundOk P w H d U) (h : H a = some o) (ho : ∀ φ, o ≠ .ext φ) : H' a = some o := by
  obtain ⟨φ, e⟩ := f.dx
  exact g a o (ne_of h e (ho φ)) h
theorem Gx.lst {xs : List V} (g : Gx d H H') (f : FoundOk P w H d U) (h : H a = some (.lst xs)) : H' a = some (.lst xs) := g.keep f h fun _ => by intro e; cases e
theorem Gx.tup {xs : List V} (g : Gx d H H') (f : FoundOk P w H d U) (h : H a = some (.tup xs)) : H' a = some (.tup xs) := g.keep f h fun _ => by intro e; cases e
theorem Gx.ins {C dx : Addr} {fs : List (Str × V)} (g : Gx d H H') (f : FoundOk P w H d U) (h : H a = some (.ins C dx fs)) : H' a = some (.ins C dx fs) := g.keep f h fun _ => by intro e; cases e
theorem PosAt.gx {C : Addr} {p : Addr} {q : Vbbraf.Pos} (x : PosAt C H p q) (g : Gx d H H') (f : FoundOk P w H d U) : PosAt C H' p q := by
  obtain ⟨dx, h, tr, h1, h2, h3⟩ := x
  exact ⟨dx, h, tr, g.ins f h1, h2.mono fun a xs h => g.tup f h, g.tup f h3⟩
theorem Gx.free (g : Gx d H H') (f' : FoundOk P w H' d U) (h : H' a = none) : H a = none := by
  cases q : H a with
  | none => rfl
  | some o =>
    by_cases e : a = d
    · subst e
      obtain ⟨φ, z⟩ := f'.dx
      rw [h] at z
      cases z
    · rw [g a o e q] at h
      cases h
end
/-- a list is written: positions stand -/
theorem PosAt.updL {C : Addr} {H : Hp} {p l : Addr} {q : Vbbraf.Pos} {xs : List V} {o : HO} (x : PosAt C H p q) (hl : H l = some (.lst xs)) : PosAt C (upd H l o) p q := by
  obtain ⟨dx, h, tr, h1, h2, h3⟩ := x
  have kt : ∀ a ys, H a = some (.tup ys) → upd H l o a = some (.tup ys) := fun a ys e => by
    rw [upd_ne (ne_of e hl (fun z => nomatch z))]
    exact e
  refine ⟨dx, h, tr, ?_, h2.mono kt, kt _ _ h3⟩
  rw [upd_ne (ne_of h1 hl (fun z => nomatch z))]
  exact h1
/-! ### the search -/
def seF (d : Addr) : List (Str × V) := [("found", .ref d)]
def SeAt (C : Addr) (H : Hp) (s d : Addr) : Prop := ∃ dx, H s = some (.ins C dx (seF d))
structure SeT (K : PySem.W.Frag) (C : Addr) : Prop where
  cl : Cls K C
  nF : NoAttr K C "found"
theorem sf_found (d : Addr) : (seF d).lookup ("found" : Str) = some (.ref d) := lk_here
theorem sf_none (d : Addr) {m : Str} (h : (m == "found") = false) : (seF d).lookup m = none := (lk_past h).trans rfl
theorem SeAt.ex {C : Addr} {H H' : Hp} {s d : Addr} (e : Evl.Ex H H') (x : SeAt C H s d) : SeAt C H' s d := by
  obtain ⟨dx, h⟩ := x
  exact ⟨dx, e _ _ h⟩
theorem SeAt.gx {C : Addr} {P : Program} {w : World} {H H' : Hp} {s d : Addr} {U : List PK3} (x : SeAt C H s d) (g : Gx d H H') (f : FoundOk P w H d U) : SeAt C H' s d := by
  obtain ⟨dx, h⟩ := x
  exact ⟨dx, g.ins f h⟩
theorem SeAt.updL {C : Addr} {H : Hp} {s d l : Addr} {xs : List V} {o : HO} (x : SeAt C H s d) (hl : H l = some (.lst xs)) : SeAt C (upd H l o) s d := by
  obtain ⟨dx, h⟩ := x
  refine ⟨dx, ?_⟩
  rw [upd_ne (ne_of h hl (fun z => nomatch z))]
  exact h
/-- the keys that can be met from a position on -/
def Sub4 : List (List Nat) → List (List Nat) → Prop := Paired fun (a b : List Nat) => List.Sublist a b
def Cov (U : List PK3) (q : Vbbraf.Pos) : Prop := ∀ hs l, Sub4 hs q.hands → l < 4 → (hs, q.trump, l) ∈ U
theorem Sub4.refl : ∀ hs : List (List Nat), Sub4 hs hs
  | [] => .nil
  | h :: r => .cons (List.Sublist.refl h) (Sub4.refl r)
theorem Sub4.trans : ∀ {a b c : List (List Nat)}, Sub4 a b → Sub4 b c → Sub4 a c
  | _, _, _, .nil, .nil => .nil
  | _, _, _, .cons p r, .cons p' r' => .cons (p.trans p') (Sub4.trans r r')
theorem sub4_set : ∀ {hs : List (List Nat)} {i : Nat} {h h' : List Nat}, hs[i]? = some h → List.Sublist h' h → Sub4 (hs.set i h') hs
  | [], _, _, _, e, _ => by simp at e
  | x :: r, 0, h, h', e, s => by
    have : x = h := Option.some.inj e
    subst this
    exact .cons s (Sub4.refl r)
  | x :: r, i + 1, h, h', e, s => .cons (List.Sublist.refl x) (sub4_set (i := i) e s)
theorem Cov.behind {U : List PK3} {q : Vbbraf.Pos} (g : Gd q) (c : Cov U q) (x : Nat) : Cov U (Vbbraf.behind q x).1 := by
  intro hs l h hl
  rw [Lm.behind_trump]
  refine c hs l (h.trans ?_) hl
  rw [Lm.behind_hands, Lm.setAt_set]
  exact sub4_set (hands_at g (Lm.turn_lt q)) List.filter_sublist
theorem Cov.self {U : List PK3} {q : Vbbraf.Pos} (g : Gd q) (c : Cov U q) : (q.hands, q.trump, q.leader) ∈ U := c _ _ (Sub4.refl _) g.g.tl
theorem pos_eta {q : Vbbraf.Pos} (h : q.trick.length = 0) : (⟨q.hands, q.trump, q.leader, []⟩ : Vbbraf.Pos) = q := by
  obtain ⟨hands, tru, lead, tri⟩ := q
  have : tri = [] := List.eq_nil_of_length_eq_zero h
  subst this
  rfl
theorem gained_is (q : Vbbraf.Pos) (c : Nat) : Vbbraf.gained (Vbbraf.behind q c).2 = if (Vbbraf.behind q c).1.trick.length = 0 ∧ (Vbbraf.behind q c).1.leader % 2 = 0 then 1 else 0 := by
  by_cases h : q.trick.length + 1 = 4
  · rw [Lm.behind_whole h]
    show (if Vbbraf.winner q (q.trick ++ [c]) % 2 = 0 then 1 else 0) = if ([] : List Nat).length = 0 ∧ Vbbraf.winner q (q.trick ++ [c]) % 2 = 0 then 1 else 0
    by_cases z : Vbbraf.winner q (q.trick ++ [c]) % 2 = 0
    · rw [if_pos z, if_pos ⟨rfl, z⟩]
    · rw [if_neg z, if_neg fun y => z y.2]
  · rw [Lm.behind_part h]
    show 0 = if (q.trick ++ [c]).length = 0 ∧ _ then 1 else 0
    rw [if_neg fun y => by have := y.1; rw [List.length_append] at this; simp at this]
section
variable (P : Program) (w : World) (CP CS : Addr)
/-- what is asked ahead of a search from q, by the search at s with the dict at d -/
structure Se (H : Hp) (s p d : Addr) (q : Vbbraf.Pos) (U : List PK3) : Prop where
  se : SeAt CS H s d
  po : PosAt CP H p q
  gd : Gd q
  fo : FoundOk P w H d U
  ul : U.length ≤ sizeLine
  co : Cov U q
def sp_se_init : Sp := fun vs H Q _ => ∃ s dx, vs = [.ref s] ∧ H s = some (.ins CS dx []) ∧ ∀ d H', H d = none → (∀ a o, a ≠ s → H a = some o → H' a = some o) → SeAt CS H' s d → FoundOk P w H' d [] → Q .non H'
def sp_value (n : Nat) : Sp := fun vs H Q _ => ∃ s p d q U, vs = [.ref s, .ref p] ∧ Se P w CP CS H s p d q U ∧ Vbbraf.held q < n ∧ ∀ H', Gx d H H' → FoundOk P w H' d U → Q (iv (Vbbraf.value q)) H'
def sp_value_by (n : Nat) : Sp := fun vs H Q _ => ∃ s p c d q U, vs = [.ref s, .ref p, iv c] ∧ Se P w CP CS H s p d q U ∧ c ∈ Vbbraf.legal q ∧ Vbbraf.held q < n + 1 ∧ ∀ H', Gx d H H' → FoundOk P w H' d U → Q (iv (Vbbraf.valueBy q c)) H'
def sp_least : Sp := fun vs H Q _ => ∃ s p d q U, vs = [.ref s, .ref p] ∧ Se P w CP CS H s p d q U ∧ Vbbraf.held q ≠ 0 ∧ ∀ c H', Gx d H H' → FoundOk P w H' d U → c ∈ Vbbraf.legal q → Vbbraf.line q = c :: Vbbraf.line (Vbbraf.behind q c).1 → Q (iv c) H'
def sp_line : Sp := fun vs H Q _ => ∃ s p d q U, vs = [.ref s, .ref p] ∧ Se P w CP CS H s p d q U ∧ ∀ a H', H a = none → Gx d H H' → FoundOk P w H' d U → H' a = some (.lst (ivs (Vbbraf.line q))) → Q (.ref a) H'
end
section
variable {P : Program} {w : World} {K : PySem.W.Frag} {mg : Str → Option Value} {base : Heap} {CP CS : Addr}
theorem Se.gx {H H' : Hp} {s p d : Addr} {q : Vbbraf.Pos} {U : List PK3} (x : Se P w CP CS H s p d q U) (g : Gx d H H') (f : FoundOk P w H' d U) : Se P w CP CS H' s p d q U :=
  ⟨x.se.gx g x.fo, x.po.gx g x.fo, x.gd, f, x.ul, x.co⟩
theorem Se.ex {H H' : Hp} {s p d : Addr} {q : Vbbraf.Pos} {U : List PK3} (x : Se P w CP CS H s p d q U) (e : Evl.Ex H H') : Se P w CP CS H' s p d q U := x.gx (Gx.of e) (x.fo.ex e)
theorem ok_se_init (T : SeT K CS) (D : DefI K mg CS "Search" "Search.__init__" (inClass c_Search 0) ["self"]) : CalC P w K mg base 1 CS "Search" (sp_se_init P w CS) := by
  have sc : FnScope ["self"] ["self"] (defScope (inClass c_Search 0)) := ⟨rfl, rfl, rfl, by decide +kernel, rfl, by decide +kernel, by decide +kernel⟩
  refine D.cal sc (by rintro _ _ _ _ ⟨_, _, rfl, _⟩; rfl) fun f cdv A outer s H vs Q E hr h => ?_
  obtain ⟨s', dx, rfl, h1, k⟩ := h
  refine ⟨_, pss_one (ps_fld (pv 0) pe_xnew rfl), ?_⟩
  intro d hd hm
  have e := Evl.Ex.new (o := DX P w d []) hd
  refine ⟨_, rfl, s', CS, dx, _, rfl, e _ _ h1, T.cl, T.nF, (by show 0 < 1000; decide), ?_⟩
  have hsd : s' ≠ d := ne_of_none h1 hd
  refine k d _ hd (fun a o n ha => by rw [upd_ne n]; exact e a o ha) ⟨dx, by rw [upd_same]; rfl⟩ ⟨hm, [], ?_, List.nodup_nil, fun x hx => by cases hx⟩
  rw [upd_ne (Ne.symm hsd)]
  exact upd_same

def sp_trick0 (CP : Addr) : Sp := fun vs H Q _ => ∃ b q, vs = [.ref b] ∧ PosAt CP H b q ∧ Q (iv (if q.trick.length = 0 ∧ q.leader % 2 = 0 then 1 else 0)) H
theorem ok_trick0 (T : PosT K CP) (D : DefF K mg "trick_of_side_0" s_trick_of_side_0 ["behind"]) (GW : CalM P w K mg base 2 CP "winner_behind" (sp_winner_behind CP)) (GS : CalF P w K mg base 1 "side_of" sp_side_of) : CalF P w K mg base 3 "trick_of_side_0" (sp_trick0 CP) := by
  have sc : FnScope ["behind", "winner"] ["behind"] (defScope s_trick_of_side_0) := ⟨rfl, rfl, rfl, by decide +kernel, rfl, by decide +kernel, by decide +kernel⟩
  refine D.cal sc (by rintro _ _ _ _ ⟨_, _, rfl, _⟩; rfl) fun f cdv A outer s H vs Q E hr h => ?_
  obtain ⟨b, q, rfl, hb, k⟩ := h
  refine ⟨_, pss_cons (ps_set (i := 1) sc.nd rfl (.inl rfl) (pe_cm0 GW T.cl hr (Nat.le_refl _) (pv 0)))
    (pss_cons (ps_if (PW.pt (pw_and (pt_cmpR op_notN (pv 1) pe_non (nomark _)) (pw_and1 (pt_cmpR op_eq (pe_cf GS hr (by omega) (by rfl) (pa_cons (pv 1) pa_nil)) pe_int (nomark _)))))
      (pss_one (ps_ret pe_int)) pss_nil)
    (pss_one (ps_ret pe_int))), ?_⟩
  obtain ⟨dx, h, tr, g1, g2, g3⟩ := id hb
  refine ⟨_, rfl, b, dx, _, rfl, g1, pf_none _ _ _ _ (by decide +kernel) (by decide +kernel) (by decide +kernel) (by decide +kernel), b, q, rfl, hb, ?_⟩
  by_cases hw : q.trick.length = 0
  · rw [if_pos hw]
    refine ⟨_, rfl, rfl, _, rfl, iteB (fun _ => ?_) fun cc => (by cases cc)⟩
    refine ⟨_, rfl, _, rfl, rfl, _, rfl, iteB (fun cc => ?_) fun cc => ?_⟩
    · have cc2 : q.leader % 2 = 0 := of_decide_eq_true (by rw [← dec_iv' _ 0]; exact cc)
      rw [if_pos ⟨hw, cc2⟩] at k
      exact k
    · have cc2 : ¬ q.leader % 2 = 0 := of_decide_eq_false (by rw [← dec_iv' _ 0]; exact cc)
      rw [if_neg fun z => cc2 z.2] at k
      exact k
  · rw [if_neg hw]
    rw [if_neg fun z => hw z.1] at k
    refine ⟨_, rfl, rfl, _, rfl, iteB (fun cc => (by cases cc)) fun _ => ?_⟩
    exact iteB (fun cc => (by cases cc)) fun _ => k
/-- a search's class and its methods' callees: what a body of it may call -/
structure SeCal (P : Program) (w : World) (K : PySem.W.Frag) (mg : Str → Option Value) (base : Heap) (CP CS : Addr) : Prop where
  bl : Bl mg
  tp : PosT K CP
  ts : SeT K CS
  betw : CalM P w K mg base 1 CP "between_tricks" (sp_between CP)
  wb : CalM P w K mg base 2 CP "winner_behind" (sp_winner_behind CP)
  turn : CalM P w K mg base 2 CP "on_turn" (sp_on_turn CP)
  chs : CalM P w K mg base 4 CP "choices" (sp_choices CP)
  has : CalM P w K mg base 2 CP "has_cards" (sp_has_cards CP)
  beh : CalM P w K mg base 4 CP "behind" (sp_behind CP)
  side : CalF P w K mg base 1 "side_of" sp_side_of
  t0 : CalF P w K mg base 3 "trick_of_side_0" (sp_trick0 CP)
theorem ok_value_by {n k : Nat} (G : SeCal P w K mg base CP CS) (hk : 4 ≤ k) (D : DefM K CS "value_by" "Search.value_by" (inClass c_Search 3) ["self", "position", "card"]) (GV : CalM P w K mg base k CS "value" (sp_value P w CP CS n)) :
    CalM P w K mg base (k + 1) CS "value_by" (sp_value_by P w CP CS n) := by
  have sc : FnScope ["self", "position", "card", "behind"] ["self", "position", "card"] (defScope (inClass c_Search 3)) := ⟨rfl, rfl, rfl, by decide +kernel, rfl, by decide +kernel, by decide +kernel⟩
  refine D.cal sc (by rintro _ _ _ _ ⟨_, _, _, _, _, _, rfl, _⟩; rfl) fun f cdv A outer s H vs Q E hr h => ?_
  obtain ⟨a, p, c, d, q, U, rfl, se, hc, hn, k'⟩ := h
  refine ⟨_, pss_cons (ps_set (i := 3) sc.nd rfl (.inl rfl) (pe_cm G.beh G.tp.cl hr hk (pv 1) (pa_cons (pv 2) pa_nil)))
    (pss_one (ps_ret (pe_op op_add (pe_cf G.t0 hr (by omega) (by rfl) (pa_cons (pv 3) pa_nil)) (pe_cm GV G.ts.cl hr (Nat.le_refl _) (pv 0) (pa_cons (pv 3) pa_nil))))), ?_⟩
  obtain ⟨dx, h, tr, h1, h2, h3⟩ := id se.po
  refine ⟨_, rfl, p, dx, _, rfl, h1, pf_none _ _ _ _ (by decide +kernel) (by decide +kernel) (by decide +kernel) (by decide +kernel), _, rfl, p, q, c, rfl, se.po, se.gd, fun b H1 e1 hb => ?_⟩
  have se1 := se.ex e1
  have gb := se.gd.behind hc
  have seb : Se P w CP CS H1 a b d (Vbbraf.behind q c).1 U := ⟨se1.se, hb, gb, se1.fo, se.ul, se.co.behind se.gd c⟩
  have hh := Lm.held_behind se.gd.g hc
  obtain ⟨sx, hsx⟩ := id se1.se
  have hg := gained_is q c
  refine ⟨_, rfl, b, _, rfl, hb, _, rfl, a, sx, _, rfl, hsx, sf_none _ (by decide +kernel), _, rfl, a, b, d, _, U, rfl, seb, by omega, fun H' g f => ⟨_, _, rfl, rfl, ?_⟩⟩
  have := k' H' ((Gx.of e1).trans g) f
  have e : Vbbraf.valueBy q c = Vbbraf.gained (Vbbraf.behind q c).2 + Vbbraf.value (Vbbraf.behind q c).1 := rfl
  rw [e, hg] at this
  generalize (if (Vbbraf.behind q c).1.trick.length = 0 ∧ (Vbbraf.behind q c).1.leader % 2 = 0 then 1 else 0) = y at *
  have e2 : iv (y + Vbbraf.value (Vbbraf.behind q c).1) = V.int ((y : Int) + (Vbbraf.value (Vbbraf.behind q c).1 : Int)) := by unfold iv; congr 1
  rw [e2] at this
  exact this

theorem map_take_more {l : List Nat} {i c : Nat} {f : Nat → Nat} (h : l[i]? = some c) : (l.take (i + 1)).map f = (l.take i).map f ++ [f c] := by
  rw [take_more h, List.map_append]
  rfl
theorem FoundOk.upd_new {H H0 : Hp} {d D : Addr} {xs : List V} {U : List PK3} {o : HO} (f : FoundOk P w H d U) (h : H D = some (.lst xs)) : FoundOk P w (upd H D o) d U := by
  obtain ⟨φ, e⟩ := f.dx
  exact f.other (fun ys z => by rw [h] at z; cases z) (ne_of h e (by intro z; cases z))
theorem Gx.upd_new {H H' : Hp} {d D : Addr} {o : HO} (g : Gx d H H') (h : H D = none) : Gx d H (upd H' D o) := fun a u n e => by
  rw [upd_ne (ne_of_none e h)]
  exact g a u n e
theorem int_mem {l : List Nat} {m : Int} (h : m ∈ l.map fun (n : Nat) => (n : Int)) : ∃ n : Nat, m = n ∧ n ∈ l := by
  obtain ⟨n, hn, e⟩ := List.mem_map.mp h
  exact ⟨n, e.symm, hn⟩
theorem ivs_ints (l : List Nat) : ivs l = (l.map fun (n : Nat) => (n : Int)).map V.int := by
  unfold ivs
  rw [List.map_map]
  rfl
theorem legal_len {q : Vbbraf.Pos} (g : Gd q) : (Vbbraf.legal q).length ≤ 16 := by
  have h := g.hand (Lm.turn_lt q)
  unfold Vbbraf.legal
  simp only
  split
  · exact h
  · split
    · exact h
    · exact Nat.le_trans (List.length_filter_le _ _) h
def sp_best (P : Program) (w : World) (CP CS : Addr) (n : Nat) : Sp := fun vs H Q _ => ∃ s p d q U, vs = [.ref s, .ref p] ∧ Se P w CP CS H s p d q U ∧ Vbbraf.held q < n + 1 ∧ ∀ H', Gx d H H' → FoundOk P w H' d U → Q (iv (Vbbraf.value q)) H'
theorem ok_best {n k : Nat} (G : SeCal P w K mg base CP CS) (hk : 5 ≤ k) (D : DefM K CS "best_of_choices" "Search.best_of_choices" (inClass c_Search 2) ["self", "position"]) (GV : CalM P w K mg base k CS "value_by" (sp_value_by P w CP CS n)) :
    CalM P w K mg base (k + 1) CS "best_of_choices" (sp_best P w CP CS n) := by
  have sc : FnScope ["self", "position", "values", "card"] ["self", "position"] (defScope (inClass c_Search 2)) := ⟨rfl, rfl, rfl, by decide +kernel, rfl, by decide +kernel, by decide +kernel⟩
  refine D.cal sc (by rintro _ _ _ _ ⟨_, _, _, _, _, rfl, _⟩; rfl) fun f cdv A outer s H vs Q E hr h => ?_
  obtain ⟨a, p, d, q, U, rfl, se, hn, k'⟩ := h
  refine ⟨_, pss_cons (ps_setLc (i := 2) (own := [("card", 3)]) (g := gName 3) (by rfl) sc.nd rfl rfl (sw_true rfl rfl rfl (by decide +kernel)) (pi_list (pe_cm0 G.chs G.tp.cl hr (by omega) (pv 1))) (blkOk_by (N := ["self", "position", "values", "card"]) (sc := defScope (inClass c_Search 2)) (by decide +kernel))
        (fun _ _ _ _ _ => pg_name (i := 3) sc.nd rfl (.inl rfl)) (fun _ _ _ _ _ => pts_nil) (fun _ _ _ _ _ => pe_cm GV G.ts.cl hr (Nat.le_refl _) (pv 0) (pa_cons (pv 1) (pa_cons (pv 3) pa_nil))))
    (pss_cons (ps_if (pt_cmpR op_eq (pe_callB call_len (by rfl) G.bl.len PySem.boot_len (pa_cons (pv 2) pa_nil)) pe_int (nomark _)) (pss_one (ps_ret pe_int)) pss_nil)
    (pss_cons (ps_if (pt_cmpR op_eq (pe_cf G.side hr (by omega) (by rfl) (pa_cons (pe_cm0 G.turn G.tp.cl hr (by omega) (pv 1)) pa_nil)) pe_int (nomark _)) (pss_one (ps_ret (pe_callB (cr_max rfl) (by rfl) G.bl.max (by decide +kernel) (pa_cons (pv 2) pa_nil)))) pss_nil)
    (pss_one (ps_ret (pe_callB (cr_min rfl) (by rfl) G.bl.min (by decide +kernel) (pa_cons (pv 2) pa_nil)))))), ?_⟩
  obtain ⟨dx, h, tr, h1, h2, h3⟩ := id se.po
  refine ⟨_, rfl, p, dx, _, rfl, h1, pf_none _ _ _ _ (by decide +kernel) (by decide +kernel) (by decide +kernel) (by decide +kernel), p, q, rfl, se.po, se.gd, fun b H1 hb e1 hl => ?_⟩
  have se1 := se.ex e1
  have lle := legal_len se.gd
  refine ⟨b, rfl, ⟨_, SqL.of hl⟩, fun Dl hD => lc_list (xs := ivs (Vbbraf.legal q)) (fun i H' => Gx d H1 H' ∧ FoundOk P w H' d U ∧ H' Dl = some (.lst (ivs (((Vbbraf.legal q).take i).map (Vbbraf.valueBy q))))) ?_ ?_ ?_ ?_⟩
  · refine ⟨(Gx.refl d H1).upd_new hD, se1.fo.ex (Evl.Ex.new hD), upd_same⟩
  · intro i H' _ ⟨g, f, _⟩
    exact SqL.of (g.lst se1.fo hl)
  · intro i x H' hi ⟨g, f, hDl⟩
    obtain ⟨c, hc, rfl⟩ := ivs_get hi
    have hlt := (List.getElem?_eq_some_iff.mp hi).1
    rw [ivs_len] at hlt
    have sx := se1.gx g f
    obtain ⟨sdx, hsx⟩ := id sx.se
    refine ⟨rfl, ?_⟩
    refine ⟨_, rfl, a, sdx, _, rfl, hsx, sf_none _ (by decide +kernel), _, rfl, _, rfl, a, p, c, d, q, U, rfl, sx, List.mem_of_getElem? hc, hn, fun H2 g2 f2 => ?_⟩
    have hD2 := g2.lst f hDl
    refine ⟨_, hD2, Evl.sz_lt (by rw [ivs_len, List.length_map, List.length_take]; omega), (g.trans g2).upd_new hD, f2.upd_new (H0 := H2) hD2, ?_⟩
    rw [upd_same, map_take_more hc]
    unfold ivs
    rw [List.map_append]
    rfl
  · intro H2 ⟨g, f, hDl⟩
    rw [ivs_len, List.take_length] at hDl
    have sx := se1.gx g f
    have g0 : Gx d H H2 := (Gx.of e1).trans g
    refine ⟨_, rfl, _, _, rfl, .inl ⟨_, SqL.of hDl, rfl⟩, rfl, _, rfl, iteB (fun cc => ?_) fun cc => ?_⟩
    · have e := len0_t cc
      rw [ivs_len, List.length_map] at e
      have := k' H2 g0 f
      rw [Lm.value_nil (List.eq_nil_of_length_eq_zero e)] at this
      exact this
    · have e := len0_f cc
      rw [ivs_len, List.length_map] at e
      obtain ⟨dx2, _, _, p1, _, _⟩ := id sx.po
      refine ⟨_, rfl, p, dx2, _, rfl, p1, pf_none _ _ _ _ (by decide +kernel) (by decide +kernel) (by decide +kernel) (by decide +kernel), p, q, rfl, sx.po, _, rfl, rfl, _, rfl, iteB (fun cc => ?_) fun cc => ?_⟩
      · have cc2 : Vbbraf.turnOf q % 2 = 0 := of_decide_eq_true (by rw [← dec_iv' _ 0]; exact cc)
        refine ⟨_, rfl, Dl, _, rfl, SqL.of (by rw [hDl, ivs_ints]), by rw [List.length_map, List.length_map]; omega, fun m hm hle => ?_⟩
        obtain ⟨m', rfl, hm'⟩ := int_mem hm
        have := k' H2 g0 f
        rw [Lm.value_max se.gd.g cc2 hm' fun y hy => Int.ofNat_le.mp (hle y (List.mem_map_of_mem hy))] at this
        exact this
      · have cc2 : ¬ Vbbraf.turnOf q % 2 = 0 := of_decide_eq_false (by rw [← dec_iv' _ 0]; exact cc)
        refine ⟨_, rfl, Dl, _, rfl, SqL.of (by rw [hDl, ivs_ints]), by rw [List.length_map, List.length_map]; omega, fun m hm hle => ?_⟩
        obtain ⟨m', rfl, hm'⟩ := int_mem hm
        have := k' H2 g0 f
        rw [Lm.value_min se.gd.g cc2 hm' fun y hy => Int.ofNat_le.mp (hle y (List.mem_map_of_mem hy))] at this
        exact this
theorem ok_value {n k : Nat} (G : SeCal P w K mg base CP CS) (hk : 6 ≤ k) (D : DefM K CS "value" "Search.value" (inClass c_Search 1) ["self", "position"]) (GB : CalM P w K mg base k CS "best_of_choices" (sp_best P w CP CS n)) :
    CalM P w K mg base (k + 1) CS "value" (sp_value P w CP CS (n + 1)) := by
  have sc : FnScope ["self", "position", "key"] ["self", "position"] (defScope (inClass c_Search 1)) := ⟨rfl, rfl, rfl, by decide +kernel, rfl, by decide +kernel, by decide +kernel⟩
  refine D.cal sc (by rintro _ _ _ _ ⟨_, _, _, _, _, rfl, _⟩; rfl) fun f cdv A outer s H vs Q E hr h => ?_
  obtain ⟨a, p, d, q, U, rfl, se, hn, k'⟩ := h
  refine ⟨_, pss_cons (ps_if (pt_not (pt_val (pe_cm0 G.betw G.tp.cl hr (by omega) (pv 1)))) (pss_one (ps_ret (pe_cm GB G.ts.cl hr (Nat.le_refl _) (pv 0) (pa_cons (pv 1) pa_nil)))) pss_nil)
    (pss_cons (ps_set (i := 2) sc.nd rfl (.inl rfl) (pe_tup (pa_cons (pe_fld (pv 1) rfl) (pa_cons (pe_fld (pv 1) rfl) (pa_cons (pe_fld (pv 1) rfl) pa_nil)))))
    (pss_cons (ps_if (pt_cmp (pc_xnotin hr.units (pv 2) (pe_fld (pv 0) rfl))) (pss_one (ps_xput hr.units (pe_fld (pv 0) rfl) (pv 2) (pe_cm GB G.ts.cl hr (Nat.le_refl _) (pv 0) (pa_cons (pv 1) pa_nil)) rfl)) pss_nil)
    (pss_one (ps_ret (pe_xget hr.units (pe_fld (pv 0) rfl) (pv 2) (fun _ _ => rfl)))))), ?_⟩
  obtain ⟨dx, h, tr, h1, h2, h3⟩ := id se.po
  obtain ⟨sx, hsx⟩ := id se.se
  refine ⟨_, rfl, p, dx, _, rfl, h1, pf_none _ _ _ _ (by decide +kernel) (by decide +kernel) (by decide +kernel) (by decide +kernel), p, q, rfl, se.po, _, rfl, iteB (fun cc => ?_) fun cc => ?_⟩
  · exact ⟨_, rfl, a, sx, _, rfl, hsx, sf_none _ (by decide +kernel), _, rfl, a, p, d, q, U, rfl, se, hn, k'⟩
  · have ht : q.trick.length = 0 := of_decide_eq_true (by
      cases z : decide (q.trick.length = 0) with
      | true => rfl
      | false => rw [z] at cc; cases cc)
    refine ⟨_, rfl, p, CP, dx, _, _, rfl, h1, G.tp.cl, G.tp.nH, pf_hands _ _ _ _, _, rfl, p, CP, dx, _, _, rfl, h1, G.tp.cl, G.tp.nT, pf_trump _ _ _ _, _, rfl, p, CP, dx, _, _, rfl, h1, G.tp.cl, G.tp.nL, pf_leader _ _ _ _, (by show 3 ≤ sizeLine; decide), fun kx hk => ?_⟩
    have e1 : Evl.Ex H (upd H kx (.tup [.ref h, iv q.trump, iv q.leader])) := Evl.Ex.new hk
    have kp : KeyP (upd H kx (.tup [.ref h, iv q.trump, iv q.leader])) kx q.hands q.trump q.leader := ⟨h, upd_same, h2.mono fun a xs h => e1 _ _ h⟩
    generalize upd H kx (.tup [.ref h, iv q.trump, iv q.leader]) = H1 at *
    have se1 := se.ex e1
    have ev : Vbbraf.value ⟨q.hands, q.trump, q.leader, []⟩ = Vbbraf.value q := by rw [pos_eta ht]
    refine ⟨_, rfl, _, rfl, a, CS, sx, _, _, rfl, e1 _ _ hsx, G.ts.cl, G.ts.nF, sf_found _, d, kx, q.hands, q.trump, q.leader, U, rfl, rfl, se1.fo, kp, fun c hc => ⟨_, rfl, iteB (fun cc => ?_) fun cc => ?_⟩⟩
    · refine ⟨_, rfl, a, sx, _, rfl, e1 _ _ hsx, sf_none _ (by decide +kernel), _, rfl, a, p, d, q, U, rfl, se1, hn, fun H2 g2 f2 => ?_⟩
      have hs2 := g2.ins se1.fo (e1 _ _ hsx)
      have kp2 := kp.mono fun a xs h => g2.tup se1.fo h
      refine ⟨_, rfl, a, CS, sx, _, _, rfl, hs2, G.ts.cl, G.ts.nF, sf_found _, _, rfl, d, kx, q.hands, q.trump, q.leader, U, rfl, rfl, by rw [ev], f2, se.ul, se.co.self se.gd, kp2, fun H4 g4 f4 => ?_⟩
      have hs4 := g4.ins f2 hs2
      refine ⟨_, rfl, a, CS, sx, _, _, rfl, hs4, G.ts.cl, G.ts.nF, sf_found _, _, rfl, d, kx, q.hands, q.trump, q.leader, U, rfl, rfl, f4, kp2.mono fun a xs h => g4.tup f2 h, ?_⟩
      rw [ev]
      exact k' H4 (((Gx.of e1).trans g2).trans g4) f4.ok
    · refine ⟨_, rfl, a, CS, sx, _, _, rfl, e1 _ _ hsx, G.ts.cl, G.ts.nF, sf_found _, _, rfl, d, kx, q.hands, q.trump, q.leader, U, rfl, rfl, hc cc, kp, ?_⟩
      rw [ev]
      exact k' H1 (Gx.of e1) se1.fo
/-- the three, one within another, by the cards that are left -/
theorem ok_search (G : SeCal P w K mg base CP CS) (D1 : DefM K CS "value" "Search.value" (inClass c_Search 1) ["self", "position"]) (D2 : DefM K CS "best_of_choices" "Search.best_of_choices" (inClass c_Search 2) ["self", "position"])
    (D3 : DefM K CS "value_by" "Search.value_by" (inClass c_Search 3) ["self", "position", "card"]) : ∀ n, CalM P w K mg base (3 * n + 4) CS "value" (sp_value P w CP CS n)
  | 0 => by
    refine (D1.never (P := P) (w := w) (mg := mg) (base := base) (k := 4)).imp fun vs H Q E h => ?_
    obtain ⟨_, _, _, _, _, _, _, hn, _⟩ := h
    omega
  | n + 1 => by
    have ih := ok_search G D1 D2 D3 n
    have v1 := ok_value_by G (by omega) D3 ih
    have v2 := ok_best G (by omega) D2 v1
    have v3 := ok_value G (by omega) D1 v2
    exact v3.mono (by omega)
theorem ok_least {k : Nat} (G : SeCal P w K mg base CP CS) (hk : 4 ≤ k) (D : DefM K CS "least_that_keeps" "Search.least_that_keeps" (inClass c_Search 5) ["self", "position"]) (GV : CalM P w K mg base k CS "value" (sp_value P w CP CS 17))
    (GB : CalM P w K mg base k CS "value_by" (sp_value_by P w CP CS 16)) : CalM P w K mg base (k + 1) CS "least_that_keeps" (sp_least P w CP CS) := by
  have sc : FnScope ["self", "position", "cards", "values", "card"] ["self", "position"] (defScope (inClass c_Search 5)) := ⟨rfl, rfl, rfl, by decide +kernel, rfl, by decide +kernel, by decide +kernel⟩
  refine D.cal sc (by rintro _ _ _ _ ⟨_, _, _, _, _, rfl, _⟩; rfl) fun f cdv A outer s H vs Q E hr h => ?_
  obtain ⟨a, p, d, q, U, rfl, se, hn, k'⟩ := h
  refine ⟨_, pss_cons (ps_set (i := 2) sc.nd rfl (.inl rfl) (pe_cm0 G.chs G.tp.cl hr (by omega) (pv 1)))
    (pss_cons (ps_setLc (i := 3) (own := [("card", 4)]) (g := gName 4) (by rfl) sc.nd rfl rfl (sw_true rfl rfl rfl (by decide +kernel)) (pi_list (pv 2)) (blkOk_by (N := ["self", "position", "cards", "values", "card"]) (sc := defScope (inClass c_Search 5)) (by decide +kernel))
        (fun _ _ _ _ _ => pg_name (i := 4) sc.nd rfl (.inl rfl)) (fun _ _ _ _ _ => pts_nil) (fun _ _ _ _ _ => pe_cm GB G.ts.cl hr (Nat.le_refl _) (pv 0) (pa_cons (pv 1) (pa_cons (pv 4) pa_nil))))
    (pss_one (ps_ret (pe_ix ix_list (pv 2) (pe_bm PySem.F.plainAttrs_list PySem.F.slot_list_index PySem.F.type_list_index mt_index (pv 3) (pa_cons (pe_cm GV G.ts.cl hr (Nat.le_refl _) (pv 0) (pa_cons (pv 1) pa_nil)) pa_nil)) (fun _ _ => rfl))))), ?_⟩
  obtain ⟨dx, h, tr, h1, h2, h3⟩ := id se.po
  refine ⟨_, rfl, p, dx, _, rfl, h1, pf_none _ _ _ _ (by decide +kernel) (by decide +kernel) (by decide +kernel) (by decide +kernel), p, q, rfl, se.po, se.gd, fun b H1 hb e1 hl => ?_⟩
  have se1 := se.ex e1
  have lle := legal_len se.gd
  have hle := se.gd.le
  refine ⟨_, rfl, b, rfl, ⟨_, SqL.of hl⟩, fun Dl hD => lc_list (xs := ivs (Vbbraf.legal q)) (fun i H' => Gx d H1 H' ∧ FoundOk P w H' d U ∧ H' Dl = some (.lst (ivs (((Vbbraf.legal q).take i).map (Vbbraf.valueBy q))))) ?_ ?_ ?_ ?_⟩
  · refine ⟨(Gx.refl d H1).upd_new hD, se1.fo.ex (Evl.Ex.new hD), upd_same⟩
  · intro i H' _ ⟨g, f, _⟩
    exact SqL.of (g.lst se1.fo hl)
  · intro i x H' hi ⟨g, f, hDl⟩
    obtain ⟨c, hc, rfl⟩ := ivs_get hi
    have hlt := (List.getElem?_eq_some_iff.mp hi).1
    rw [ivs_len] at hlt
    have sx := se1.gx g f
    obtain ⟨sdx, hsx⟩ := id sx.se
    refine ⟨rfl, ?_⟩
    refine ⟨_, rfl, a, sdx, _, rfl, hsx, sf_none _ (by decide +kernel), _, rfl, _, rfl, a, p, c, d, q, U, rfl, sx, List.mem_of_getElem? hc, by omega, fun H2 g2 f2 => ?_⟩
    have hD2 := g2.lst f hDl
    refine ⟨_, hD2, Evl.sz_lt (by rw [ivs_len, List.length_map, List.length_take]; omega), (g.trans g2).upd_new hD, f2.upd_new (H0 := H2) hD2, ?_⟩
    rw [upd_same, map_take_more hc]
    unfold ivs
    rw [List.map_append]
    rfl
  · intro H2 ⟨g, f, hDl⟩
    rw [ivs_len, List.take_length] at hDl
    have sx := se1.gx g f
    have g0 : Gx d H H2 := (Gx.of e1).trans g
    obtain ⟨sdx, hsx⟩ := id sx.se
    obtain ⟨j, c, l1, l2, l3, l4⟩ := Lm.line_cons se.gd.g hn
    refine ⟨_, rfl, _, rfl, .inl ⟨rfl, _, SqL.of hDl⟩, _, rfl, a, sdx, _, rfl, hsx, sf_none _ (by decide +kernel), _, rfl, a, p, d, q, U, rfl, sx, by omega, fun H3 g3 f3 => ?_⟩
    refine ⟨Dl, _, _, j, iv (Vbbraf.value q), rfl, rfl, SqL.of (g3.lst f hDl), rfl, ?_, ?_, ?_, ?_, ?_⟩
    · rw [List.all_eq_true]
      intro x hx
      obtain ⟨y, _, rfl⟩ := List.mem_map.mp hx
      rfl
    · unfold ivs
      rw [List.getElem?_map, List.getElem?_map, l1]
      show some (iv (Vbbraf.valueBy q c)) = _
      rw [l2]
    · exact beq_self_eq_true (Vbbraf.value q : Int)
    · intro m z' hm hz
      unfold ivs at hz
      rw [List.getElem?_map, List.getElem?_map] at hz
      cases z : (Vbbraf.legal q)[m]? with
      | none => rw [z] at hz; cases hz
      | some e =>
        rw [z] at hz
        have ez : z' = iv (Vbbraf.valueBy q e) := (Option.some.inj hz).symm
        subst ez
        have ne := l3 m e hm z
        show (((Vbbraf.valueBy q e : Int)) == (Vbbraf.value q : Int)) = false
        exact beq_eq_false_iff_ne.mpr fun e2 => ne (Int.ofNat.inj e2)
    · refine ⟨b, _, _, _, rfl, rfl, SqL.of (g3.lst f (g.lst se1.fo hl)), atI_nat (v := iv c) (by unfold ivs; rw [List.getElem?_map, l1]; rfl), ?_⟩
      exact k' c H3 (g0.trans g3) f3 (List.mem_of_getElem? l1) l4
theorem ok_line {k : Nat} (G : SeCal P w K mg base CP CS) (hk : 4 ≤ k) (D : DefM K CS "line" "Search.line" (inClass c_Search 6) ["self", "position"]) (GL : CalM P w K mg base k CS "least_that_keeps" (sp_least P w CP CS)) : CalM P w K mg base (k + 1) CS "line" (sp_line P w CP CS) := by
  have sc : FnScope ["self", "position", "cards", "card"] ["self", "position"] (defScope (inClass c_Search 6)) := ⟨rfl, rfl, rfl, by decide +kernel, rfl, by decide +kernel, by decide +kernel⟩
  refine D.cal sc (by rintro _ _ _ _ ⟨_, _, _, _, _, rfl, _⟩; rfl) fun f cdv A outer s H vs Q E hr h => ?_
  obtain ⟨a, p, d, q, U, rfl, se, k'⟩ := h
  refine ⟨_, pss_cons (ps_set (i := 2) sc.nd rfl (.inl rfl) (pe_lst pa_nil))
    (pss_cons (ps_while PassesOwn.never (pt_val (pe_cm0 G.has G.tp.cl hr (by omega) (pv 1)))
      (pss_cons (ps_set (i := 3) sc.nd rfl (.inl rfl) (pe_cm GL G.ts.cl hr (Nat.le_refl _) (pv 0) (pa_cons (pv 1) pa_nil)))
      (pss_cons (ps_expr (pe_bm PySem.F.plainAttrs_list PySem.F.slot_list_append PySem.F.type_list_append mt_append (pv 2) (pa_cons (pv 3) pa_nil)))
      (pss_one (ps_set (i := 1) sc.nd rfl (.inl rfl) (pe_cm G.beh G.tp.cl hr hk (pv 1) (pa_cons (pv 3) pa_nil)))))))
    (pss_one (ps_ret (pv 2)))), ?_⟩
  refine ⟨Nat.zero_le _, fun l hl => ?_⟩
  have e1 : Evl.Ex H (upd H l (.lst [])) := Evl.Ex.new hl
  refine ⟨fun m σ H' => ∃ p' q' done v, m = Vbbraf.held q' ∧ σ = [some (.ref a), some (.ref p'), some (.ref l), v] ∧ Gx d H H' ∧ Se P w CP CS H' a p' d q' U ∧ H' l = some (.lst (ivs done)) ∧ done ++ Vbbraf.line q' = Vbbraf.line q ∧ done.length + Vbbraf.held q' ≤ 16,
    ⟨_, p, q, [], none, rfl, rfl, (Gx.of e1), se.ex e1, upd_same, rfl, by have := se.gd.le; show 0 + _ ≤ 16; omega⟩, ?_⟩
  rintro m σ H' ⟨p', q', done, v, rfl, rfl, g, sx, hl', hd, hlen⟩
  obtain ⟨dx, h, tr, h1, h2, h3⟩ := id sx.po
  refine ⟨_, rfl, p', dx, _, rfl, h1, pf_none _ _ _ _ (by decide +kernel) (by decide +kernel) (by decide +kernel) (by decide +kernel), p', q', rfl, sx.po, sx.gd, fun H2 e2 => ⟨_, rfl, iteB (fun cc => ?_) fun cc => ?_⟩⟩
  · have hn := of_decide_eq_true cc
    refine ⟨fun σ2 H3 => ∃ m', m' < Vbbraf.held q' ∧ ∃ p'' q'' done' v', m' = Vbbraf.held q'' ∧ σ2 = [some (.ref a), some (.ref p''), some (.ref l), v'] ∧ Gx d H H3 ∧ Se P w CP CS H3 a p'' d q'' U ∧ H3 l = some (.lst (ivs done')) ∧ done' ++ Vbbraf.line q'' = Vbbraf.line q ∧ done'.length + Vbbraf.held q'' ≤ 16, fun _ _ z => z, ?_⟩
    have s2 := sx.ex e2
    obtain ⟨sdx, hsx⟩ := id s2.se
    refine ⟨_, rfl, a, sdx, _, rfl, hsx, sf_none _ (by decide +kernel), _, rfl, a, p', d, q', U, rfl, s2, hn, fun c H3 g3 f3 hc hline => ?_⟩
    have s3 := s2.gx g3 f3
    have hl3 := g3.lst s2.fo (e2 _ _ hl')
    have gl := g.trans ((Gx.of e2).trans g3)
    refine ⟨_, rfl, .inl ⟨rfl, _, SqL.of hl3⟩, _, rfl, l, _, iv c, rfl, rfl, hl3, Evl.sz_lt (by rw [ivs_len]; omega), ?_⟩
    have po4 : PosAt CP (upd H3 l (.lst (ivs done ++ [iv c]))) p' q' := s3.po.updL hl3
    have f4 : FoundOk P w (upd H3 l (.lst (ivs done ++ [iv c]))) d U := f3.upd_new (H0 := H3) hl3
    have se4 : SeAt CS (upd H3 l (.lst (ivs done ++ [iv c]))) a d := s3.se.updL hl3
    have g4 := gl.upd_new (o := .lst (ivs done ++ [iv c])) hl
    have hl4 : upd H3 l (.lst (ivs done ++ [iv c])) l = some (.lst (ivs (done ++ [c]))) := by
      rw [upd_same]
      unfold ivs
      rw [List.map_append]
      rfl
    generalize upd H3 l (.lst (ivs done ++ [iv c])) = H4 at *
    obtain ⟨dx4, h4, tr4, p1, p2, p3⟩ := id po4
    refine ⟨_, rfl, p', dx4, _, rfl, p1, pf_none _ _ _ _ (by decide +kernel) (by decide +kernel) (by decide +kernel) (by decide +kernel), _, rfl, p', q', c, rfl, po4, sx.gd, fun b H5 e5 hb => ?_⟩
    have hh := Lm.held_behind sx.gd.g hc
    refine ⟨_, by omega, b, _, done ++ [c], some (iv c), rfl, rfl, g4.trans (Gx.of e5), ⟨se4.ex e5, hb, sx.gd.behind hc, f4.ex e5, se.ul, sx.co.behind sx.gd c⟩, e5 _ _ hl4, ?_, ?_⟩
    · rw [List.append_assoc]
      show done ++ (c :: Vbbraf.line (Vbbraf.behind q' c).1) = _
      rw [← hline, hd]
    · rw [List.length_append]
      show done.length + 1 + _ ≤ 16
      omega
  · have hz : Vbbraf.held q' = 0 := Nat.eq_zero_of_not_pos fun z => of_decide_eq_false cc (by omega)
    rw [Lm.line_nil hz, List.append_nil] at hd
    refine ⟨_, rfl, k' l H2 hl (g.trans (Gx.of e2)) (sx.fo.ex e2) ?_⟩
    rw [← hd]
    exact e2 _ _ hl'
def sp_gift (P : Program) (w : World) (CP CS : Addr) : Sp := fun vs H Q _ => ∃ s p c d q U, vs = [.ref s, .ref p, iv c] ∧ Se P w CP CS H s p d q U ∧ c ∈ Vbbraf.legal q ∧ ∀ H', Gx d H H' → FoundOk P w H' d U → Q (iv (Vbbraf.gift q c)) H'
theorem ok_gift {k : Nat} (G : SeCal P w K mg base CP CS) (hk : 4 ≤ k) (D : DefM K CS "gift" "Search.gift" (inClass c_Search 4) ["self", "position", "card"]) (GV : CalM P w K mg base k CS "value" (sp_value P w CP CS 17))
    (GB : CalM P w K mg base k CS "value_by" (sp_value_by P w CP CS 16)) : CalM P w K mg base (k + 1) CS "gift" (sp_gift P w CP CS) := by
  have sc : FnScope ["self", "position", "card", "lost"] ["self", "position", "card"] (defScope (inClass c_Search 4)) := ⟨rfl, rfl, rfl, by decide +kernel, rfl, by decide +kernel, by decide +kernel⟩
  refine D.cal sc (by rintro _ _ _ _ ⟨_, _, _, _, _, _, rfl, _⟩; rfl) fun f cdv A outer s H vs Q E hr h => ?_
  obtain ⟨a, p, c, d, q, U, rfl, se, hc, k'⟩ := h
  refine ⟨_, pss_cons (ps_set (i := 3) sc.nd rfl (.inl rfl) (pe_op op_sub (pe_cm GV G.ts.cl hr (Nat.le_refl _) (pv 0) (pa_cons (pv 1) pa_nil)) (pe_cm GB G.ts.cl hr (Nat.le_refl _) (pv 0) (pa_cons (pv 1) (pa_cons (pv 2) pa_nil)))))
    (pss_cons (ps_if (pt_cmpR op_eq (pe_cf G.side hr (by omega) (by rfl) (pa_cons (pe_cm0 G.turn G.tp.cl hr (by omega) (pv 1)) pa_nil)) pe_int (nomark _)) (pss_one (ps_ret (pv 3))) pss_nil)
    (pss_one (ps_ret (pe_un un_neg (pv 3))))), ?_⟩
  have hle := se.gd.le
  obtain ⟨sx, hsx⟩ := id se.se
  refine ⟨_, rfl, a, sx, _, rfl, hsx, sf_none _ (by decide +kernel), _, rfl, a, p, d, q, U, rfl, se, by omega, fun H1 g1 f1 => ?_⟩
  have se1 := se.gx g1 f1
  obtain ⟨sx1, hsx1⟩ := id se1.se
  refine ⟨_, rfl, a, sx1, _, rfl, hsx1, sf_none _ (by decide +kernel), _, rfl, _, rfl, a, p, c, d, q, U, rfl, se1, hc, by omega, fun H2 g2 f2 => ⟨_, _, rfl, rfl, ?_⟩⟩
  have se2 := se1.gx g2 f2
  have hq := k' H2 (g1.trans g2) f2
  obtain ⟨dx, h, tr, p1, p2, p3⟩ := id se2.po
  refine ⟨_, rfl, p, dx, _, rfl, p1, pf_none _ _ _ _ (by decide +kernel) (by decide +kernel) (by decide +kernel) (by decide +kernel), p, q, rfl, se2.po, _, rfl, rfl, _, rfl, iteB (fun cc => ?_) fun cc => ?_⟩
  · have cc2 : Vbbraf.turnOf q % 2 = 0 := of_decide_eq_true (by rw [← dec_iv' _ 0]; exact cc)
    obtain ⟨y1, y2⟩ := Lm.gift_even se.gd.g hc cc2
    have e : V.int ((Vbbraf.value q : Int) - (Vbbraf.valueBy q c : Int)) = iv (Vbbraf.gift q c) := by rw [y2]; unfold iv; congr 1; omega
    rw [← e] at hq
    exact ⟨_, rfl, hq⟩
  · have cc2 : ¬ Vbbraf.turnOf q % 2 = 0 := of_decide_eq_false (by rw [← dec_iv' _ 0]; exact cc)
    obtain ⟨y1, y2⟩ := Lm.gift_odd se.gd.g hc cc2
    have e : V.int (-((Vbbraf.value q : Int) - (Vbbraf.valueBy q c : Int))) = iv (Vbbraf.gift q c) := by rw [y2]; unfold iv; congr 1; omega
    rw [← e] at hq
    exact ⟨_, rfl, _, rfl, hq⟩
end
end Lx

/-! refusals.py; held.py's defs -/
namespace Lx
open PySem PySem.Spec PyProof.Rows L2
section
variable {P : Program} {w : World} {K : PySem.W.Frag} {mg : Str → Option Value} {base : Heap}
def zs (l : List Int) : List V := l.map V.int
theorem zs_len (l : List Int) : (zs l).length = l.length := by unfold zs; rw [List.length_map]
theorem zs_get {l : List Int} {i : Nat} {x : V} (h : (zs l)[i]? = some x) : ∃ c, l[i]? = some c ∧ x = .int c := by
  unfold zs at h
  rw [List.getElem?_map] at h
  obtain ⟨c, hc, e⟩ := Option.map_eq_some_iff.mp h
  exact ⟨c, hc, e.symm⟩
/-- a def that makes the list of one refusal -/
def sp_no (k : Nat) : Sp := fun vs H Q _ => vs = [] ∧ ∀ p H', H p = none → Evl.Ex H H' → H' p = some (.lst (zs [-(k : Int)])) → Q (.ref p) H'
theorem ok_no {x : Str} {st : Stmt} {k : Nat} (D : DefF K mg x st []) (sc : FnScope [] [] (defScope st)) {p1 p2 p3 p4 : Pos} (hb : defBody st = [.Return (some (.List [.UnaryOp .USub (.Constant (.int (k : Int)) 0 p1) p2] p3)) p4]) : CalF P w K mg base 1 x (sp_no k) := by
  refine D.cal sc (by rintro _ _ _ _ ⟨rfl, _⟩; rfl) fun f cdv A outer s H vs Q E hr h => ?_
  obtain ⟨rfl, q⟩ := h
  rw [hb]
  refine ⟨_, pss_one (ps_ret (pe_lst (pa_cons (pe_un un_neg pe_int) pa_nil))), ?_⟩
  exact ⟨_, rfl, (by show 1 ≤ sizeLine; decide), fun p hp => q p _ hp (Evl.Ex.new hp) upd_same⟩
def sp_in_range : Sp := fun vs H Q _ => ∃ n lo hi : Int, vs = [.int n, .int lo, .int hi] ∧ Q (.bl (Vbbraf.within n lo hi)) H
theorem ok_in_range (D : DefF K mg "in_range" s_in_range ["number", "least", "greatest"]) : CalF P w K mg base 1 "in_range" sp_in_range := by
  have sc : FnScope ["number", "least", "greatest"] ["number", "least", "greatest"] (defScope s_in_range) := ⟨rfl, rfl, rfl, by decide +kernel, rfl, by decide +kernel, by decide +kernel⟩
  refine D.cal sc (by rintro _ _ _ _ ⟨_, _, _, rfl, _⟩; rfl) fun f cdv A outer s H vs Q E hr h => ?_
  obtain ⟨n, lo, hi, rfl, q⟩ := h
  refine ⟨_, pss_one (ps_ret (pe_and (pe_cmpR op_le (pv 1) (pv 0) (nomark _)) (pe_one (pe_cmpR op_le (pv 0) (pv 2) (nomark _))))), ?_⟩
  refine ⟨_, rfl, _, rfl, _, _, rfl, rfl, _, rfl, iteB (fun c => ?_) fun c => ?_⟩
  · refine ⟨_, rfl, _, rfl, _, _, rfl, rfl, ?_⟩
    unfold Vbbraf.within at q
    rw [show decide (lo ≤ n) = true from c] at q
    exact q
  · unfold Vbbraf.within at q
    rw [show decide (lo ≤ n) = false from c] at q
    exact q
def sp_row_in_range : Sp := fun vs H Q _ => ∃ a ns L, vs = [.ref a, iv L] ∧ H a = some (.lst (zs ns)) ∧ ns.length ≤ 20 ∧ ∀ H', Evl.Ex H H' → Q (.bl (decide (ns.length ≤ L) && ns.all Vbbraf.isCard)) H'
theorem ok_row_in_range (B : Bl mg) (D : DefF K mg "row_in_range" s_row_in_range ["cards", "longest"]) (G : CalF P w K mg base 1 "in_range" sp_in_range) : CalF P w K mg base 2 "row_in_range" sp_row_in_range := by
  have sc : FnScope ["cards", "longest", "card"] ["cards", "longest"] (defScope s_row_in_range) := ⟨rfl, rfl, rfl, by decide +kernel, rfl, by decide +kernel, by decide +kernel⟩
  refine D.cal sc (by rintro _ _ _ _ ⟨_, _, _, rfl, _⟩; rfl) fun f cdv A outer s H vs Q E hr h => ?_
  obtain ⟨a, ns, L, rfl, ha, hl, q⟩ := h
  refine ⟨_, pss_cons (ps_if (pt_cmpR op_gt (pe_callB call_len (by rfl) B.len PySem.boot_len (pa_cons (pv 0) pa_nil)) (pv 1) (nomark _)) (pss_one (ps_ret pe_bl)) pss_nil)
    (pss_one (ps_ret (pe_callB (cr_all rfl) (by rfl) B.all (by decide +kernel) (pa_cons (pe_lc (own := [("card", 2)]) (g := gName 2) (tt := tYes) rfl sc.nd (pi_list (pv 0)) (blkOk_by (N := ["cards", "longest", "card"]) (sc := defScope s_row_in_range) (by decide +kernel))
    (fun _ _ _ _ _ => pg_name (i := 2) sc.nd rfl (.inl rfl)) (fun _ _ _ _ _ => pts_nil) (fun _ _ _ _ _ => pe_cf G hr (Nat.le_refl _) (by rfl) (pa_cons (pv 2) (pa_cons pe_int (pa_cons pe_int pa_nil))))) pa_nil)))), ?_⟩
  refine ⟨_, rfl, _, _, rfl, .inl ⟨_, SqL.of ha, rfl⟩, _, rfl, _, _, rfl, rfl, _, rfl, iteB (fun c => ?_) fun c => ?_⟩
  · have c2 := of_decide_eq_true c
    rw [zs_len] at c2
    have := q H (Evl.Ex.refl _)
    rw [decide_eq_false (by omega)] at this
    exact this
  · have c2 := of_decide_eq_false c
    rw [zs_len] at c2
    refine ⟨_, rfl, a, rfl, ⟨_, SqL.of ha⟩, lcp_list ns V.int (fun _ => true) (fun z => V.bl (Vbbraf.isCard z)) (SqL.of ha) (by omega) (fun _ => rfl) ?_ ?_ ?_⟩
    · intro i c H' hc e Q q
      exact q H' (Evl.Ex.refl _)
    · intro i c H' hc _ e Q q
      exact ⟨_, rfl, _, _, _, rfl, q H' (Evl.Ex.refl _)⟩
    · intro Dl H' hD e hl2
      refine ⟨Dl, ns.map Vbbraf.isCard, rfl, SqL.of ?_, ?_⟩
      · rw [hl2, List.filter_eq_self.mpr (fun _ _ => rfl), List.map_map]
        rfl
      · have := q H' e
        rw [decide_eq_true (by omega : ns.length ≤ L)] at this
        have e2 : (ns.map Vbbraf.isCard).all id = ns.all Vbbraf.isCard := by rw [List.all_map]; rfl
        rw [e2]
        exact this

def HandsL (H : Hp) (a : Addr) (nss : List (List Int)) : Prop := ∃ rs : List Addr, H a = some (.lst (rs.map V.ref)) ∧ Paired (fun (r : Addr) (ns : List Int) => H r = some (.lst (zs ns))) rs nss
theorem HandsL.ex {H H' : Hp} {a : Addr} {nss : List (List Int)} (e : Evl.Ex H H') (h : HandsL H a nss) : HandsL H' a nss := by
  obtain ⟨rs, h1, h2⟩ := h
  exact ⟨rs, e _ _ h1, Paired.mapP h2 fun a l h => e _ _ h⟩
theorem pairedL_at {F : Addr → List Int → Prop} : ∀ {rs : List Addr} {hs : List (List Int)} {i : Nat} {r : Addr}, Paired F rs hs → rs[i]? = some r → ∃ ns, hs[i]? = some ns ∧ F r ns
  | _, _, 0, _, .cons p _, e => by cases e; exact ⟨_, rfl, p⟩
  | _, _, i + 1, _, .cons _ r, e => by
    obtain ⟨a, h1, h2⟩ := pairedL_at (i := i) r e
    exact ⟨a, h1, h2⟩
theorem pairedL_len {F : Addr → List Int → Prop} : ∀ {rs : List Addr} {hs : List (List Int)}, Paired F rs hs → rs.length = hs.length
  | _, _, .nil => rfl
  | _, _, .cons _ r => congrArg (· + 1) (pairedL_len r)
def okHands (nss : List (List Int)) : Bool := (nss.all fun n => decide (n.length = (nss.headD []).length)) && decide (nss.flatten.Nodup)
def sp_hands_right : Sp := fun vs H Q _ => ∃ a nss, vs = [.ref a] ∧ HandsL H a nss ∧ nss.length = 4 ∧ (∀ n ∈ nss, n.length ≤ 20) ∧ ∀ H', Evl.Ex H H' → Q (.bl (okHands nss)) H'
theorem flat_le {nss : List (List Int)} (h : ∀ n ∈ nss, n.length ≤ 20) : nss.flatten.length ≤ 20 * nss.length := by
  induction nss with
  | nil => simp
  | cons a r ih =>
    have h1 := h a List.mem_cons_self
    have h2 := ih fun n hn => h n (List.mem_cons_of_mem _ hn)
    rw [List.flatten_cons, List.length_append, List.length_cons]
    omega
theorem ok_hands_right (B : Bl mg) (D : DefF K mg "hands_are_right" s_hands_are_right ["hands"]) : CalF P w K mg base 1 "hands_are_right" sp_hands_right := by
  have sc : FnScope ["hands", "cards", "hand"] ["hands"] (defScope s_hands_are_right) := ⟨rfl, rfl, rfl, by decide +kernel, rfl, by decide +kernel, by decide +kernel⟩
  refine D.cal sc (by rintro _ _ _ _ ⟨_, _, rfl, _⟩; rfl) fun f cdv A outer s H vs Q E hr h => ?_
  obtain ⟨a, nss, rfl, ⟨rs, ha, hp⟩, h4, h20, q⟩ := h
  refine ⟨_, pss_cons (ps_set (i := 1) sc.nd rfl (.inl rfl) (pe_lst pa_nil))
    (pss_cons (ps_for PassesOwn.never rfl (pi_list (pv 0)) (pg_name (i := 2) sc.nd rfl (.inl rfl))
      (pss_cons (ps_if (pt_cmpR op_ne (pe_callB call_len (by rfl) B.len PySem.boot_len (pa_cons (pv 2) pa_nil)) (pe_callB call_len (by rfl) B.len PySem.boot_len (pa_cons (pe_ix ix_list (pv 0) pe_int (fun _ _ => rfl)) pa_nil)) (nomark _)) (pss_one (ps_ret pe_bl)) pss_nil)
      (pss_one (ps_expr (pe_bm PySem.F.plainAttrs_list PySem.F.slot_list_extend PySem.F.type_list_extend mt_extend (pv 1) (pa_cons (pv 2) pa_nil))))))
    (pss_one (ps_ret (pe_cmpR op_eq (pe_lenSetA (by rfl) B.len (by rfl) B.set (pv 1)) (pe_callB call_len (by rfl) B.len PySem.boot_len (pa_cons (pv 1) pa_nil)) (nomark _))))), ?_⟩
  refine ⟨Nat.zero_le _, fun c hc => ?_⟩
  have e1 : Evl.Ex H (upd H c (.lst [])) := Evl.Ex.new hc
  have rl : rs.length = 4 := (pairedL_len hp).trans h4
  obtain ⟨n0, nr, e0⟩ : ∃ n0 nr, nss = n0 :: nr := by
    cases nss with
    | nil => cases h4
    | cons x y => exact ⟨x, y, rfl⟩
  obtain ⟨r0, rr, er⟩ : ∃ r0 rr, rs = r0 :: rr := by
    cases rs with
    | nil => cases rl
    | cons x y => exact ⟨x, y, rfl⟩
  have hr0 : H r0 = some (.lst (zs n0)) := by
    rw [er, e0] at hp
    cases hp with
    | cons p _ => exact p
  refine ⟨_, rfl, a, rfl, ⟨_, SqL.of (e1 _ _ ha)⟩, for_list (xs := rs.map V.ref) (fun i σ H' => ∃ v, σ = [some (.ref a), some (.ref c), v] ∧ Evl.Ex H H' ∧ H' c = some (.lst (zs (nss.take i).flatten)) ∧ ∀ n ∈ nss.take i, n.length = n0.length)
    ⟨none, rfl, e1, by rw [upd_same]; rfl, fun n hn => by simp at hn⟩ (fun i σ H' _ ⟨_, _, e, _⟩ => SqL.of (e _ _ ha)) ?_ ?_⟩
  · rintro i x σ H' hi ⟨v, rfl, e, hcl, hall⟩
    rw [List.getElem?_map] at hi
    obtain ⟨r, hri, rfl⟩ := Option.map_eq_some_iff.mp hi
    obtain ⟨ns, hns, hrl⟩ := pairedL_at hp hri
    have htk := take_more hns
    refine ⟨_, rfl, _, _, rfl, .inl ⟨_, SqL.of (e _ _ hrl), rfl⟩, _, rfl, a, _, _, V.ref r0, rfl, rfl, SqL.of (e _ _ ha), atI_nat (j := 0) (v := V.ref r0) (by rw [er]; rfl), V.ref r0, _, rfl, .inl ⟨_, SqL.of (e _ _ hr0), rfl⟩, rfl, _, rfl, iteB (fun cc => ?_) fun cc => ?_⟩
    · rw [zs_len, zs_len, dec_iv'] at cc
      have cc2 : ¬ ns.length = n0.length := fun z => by rw [decide_eq_true z] at cc; cases cc
      have := q H' e
      have e3 : okHands nss = false := by
        unfold okHands
        have : (nss.all fun n => decide (n.length = (nss.headD []).length)) = false := by
          cases z : (nss.all fun n => decide (n.length = (nss.headD []).length)) with
          | false => rfl
          | true =>
            have := List.all_eq_true.mp z ns (List.mem_of_getElem? hns)
            rw [e0] at this
            exact absurd (of_decide_eq_true this) cc2
        rw [this, Bool.false_and]
      rw [e3] at this
      exact this
    · rw [zs_len, zs_len, dec_iv'] at cc
      have cc2 : ns.length = n0.length := of_decide_eq_true (by
        cases z : decide (ns.length = n0.length) with
        | true => rfl
        | false => rw [z] at cc; cases cc)
      have hfl : (nss.take i).flatten.length ≤ 20 * (nss.take i).length := flat_le fun n hn => h20 n (List.mem_of_mem_take hn)
      have htl : (nss.take i).length ≤ 4 := by rw [List.length_take]; omega
      have hnl := h20 ns (List.mem_of_getElem? hns)
      refine ⟨_, rfl, .inl ⟨rfl, _, SqL.of hcl⟩, _, rfl, c, r, _, _, rfl, rfl, hcl, e _ _ hrl, line16 (by rw [zs_len, zs_len]; omega), ?_⟩
      refine ⟨some (.ref r), rfl, Evl.Ex.mut e hc, ?_, ?_⟩
      · rw [upd_same, htk, List.flatten_append]
        unfold zs
        rw [List.map_append]
        simp
      · rw [htk]
        intro n hn
        rcases List.mem_append.mp hn with hn | hn
        · exact hall n hn
        · rcases List.mem_cons.mp hn with z | hn
          · rw [z]; exact cc2
          · cases hn
  · rintro σ H' ⟨v, rfl, e, hcl, hall⟩
    rw [List.length_map, rl, ← h4, List.take_length] at hcl hall
    have hfl := flat_le h20
    refine ⟨_, rfl, c, nss.flatten, rfl, SqL.of hcl, by omega, fun k hk => ?_⟩
    refine ⟨_, rfl, _, _, rfl, .inl ⟨_, SqL.of hcl, rfl⟩, rfl, ?_⟩
    rw [zs_len, dec_iv']
    have e3 : okHands nss = decide (k = nss.flatten.length) := by
      unfold okHands
      have h1 : (nss.all fun n => decide (n.length = (nss.headD []).length)) = true := by
        rw [List.all_eq_true]
        intro n hn
        rw [e0] at hn ⊢
        exact decide_eq_true (hall n (by rw [e0]; exact hn))
      rw [h1, Bool.true_and]
      by_cases z : nss.flatten.Nodup
      · rw [decide_eq_true z, decide_eq_true (hk.mpr z)]
      · rw [decide_eq_false z, decide_eq_false fun y => z (hk.mp y)]
    rw [← e3]
    exact q H' e
end
end Lx

/-! held.py: counted, all_counted; heights.py -/
namespace Lx
open PySem PySem.Spec PyProof.Rows L2
section
variable {P : Program} {w : World} {K : PySem.W.Frag} {mg : Str → Option Value} {base : Heap}
/-- a list or a tuple of numbers -/
def RowAt (H : Hp) (a : Addr) (l : List Nat) : Prop := H a = some (.lst (ivs l)) ∨ H a = some (.tup (ivs l))
theorem RowAt.ex {H H' : Hp} {a : Addr} {l : List Nat} (e : Evl.Ex H H') (h : RowAt H a l) : RowAt H' a l := by
  rcases h with h | h
  · exact .inl (e _ _ h)
  · exact .inr (e _ _ h)
theorem RowAt.len {K : PySem.W.Frag} {H : Hp} {a : Addr} {l : List Nat} (h : RowAt H a l) : LenV K (.ref a) H (ivs l).length := by
  rcases h with h | h
  · exact .inl ⟨_, SqL.of h, rfl⟩
  · exact .inr ⟨_, SqT.of h, rfl⟩
theorem RowAt.seq {K : PySem.W.Frag} {H : Hp} {a : Addr} {l : List Nat} (h : RowAt H a l) : SqL K H a (ivs l) ∨ SqT K H a (ivs l) := by
  rcases h with h | h
  · exact .inl (SqL.of h)
  · exact .inr (SqT.of h)
def sp_counted : Sp := fun vs H Q _ => ∃ a l, vs = [.ref a] ∧ RowAt H a l ∧ l.length ≤ 900 ∧ ∀ p H', H p = none → Evl.Ex H H' → H' p = some (.lst (ivs (Vbbraf.counted l))) → Q (.ref p) H'
theorem ok_counted (B : Bl mg) (D : DefF K mg "counted" s_counted ["cards"]) : CalF P w K mg base 1 "counted" sp_counted := by
  have sc : FnScope ["cards"] ["cards"] (defScope s_counted) := ⟨rfl, rfl, rfl, by decide +kernel, rfl, by decide +kernel, by decide +kernel⟩
  refine D.cal sc (by rintro _ _ _ _ ⟨_, _, rfl, _⟩; rfl) fun f cdv A outer s H vs Q E hr h => ?_
  obtain ⟨a, l, rfl, ha, hl, k⟩ := h
  refine ⟨_, pss_one (ps_ret (pe_op op_cat (pe_lst (pa_cons (pe_callB call_len (by rfl) B.len PySem.boot_len (pa_cons (pv 0) pa_nil)) pa_nil)) (pe_callTy call_list_of (by rfl) B.list (by decide +kernel) (pa_cons (pv 0) pa_nil)))), ?_⟩
  refine ⟨_, rfl, _, _, rfl, ha.len, (by show 1 ≤ sizeLine; decide), fun b hb => ?_⟩
  have e1 : Evl.Ex H (upd H b (.lst [V.int ((ivs l).length : Int)])) := Evl.Ex.new hb
  have h1 := upd_same (H := H) (a := b) (o := .lst [V.int ((ivs l).length : Int)])
  have ha1 := ha.ex e1
  generalize upd H b (.lst [V.int ((ivs l).length : Int)]) = H1 at *
  refine ⟨_, rfl, a, _, rfl, ha1.seq, fun c hc => ?_⟩
  have e2 : Evl.Ex H1 (upd H1 c (.lst (ivs l))) := Evl.Ex.new hc
  refine ⟨b, c, _, _, rfl, rfl, e2 _ _ h1, upd_same, line16 (by rw [ivs_len]; show 1 + _ ≤ 1000; omega), fun p hp => ?_⟩
  have e3 := Evl.Ex.new (o := .lst ([V.int ((ivs l).length : Int)] ++ ivs l)) hp
  refine k p _ (Evl.fresh_back (e1.trans e2) hp) ((e1.trans e2).trans e3) ?_
  rw [upd_same, ivs_len]
  rfl
def RowsAt (H : Hp) (a : Addr) (ls : List (List Nat)) : Prop := ∃ rs : List Addr, H a = some (.lst (rs.map V.ref)) ∧ Paired (fun (r : Addr) (l : List Nat) => RowAt H r l) rs ls
theorem cnt_len (ls : List (List Nat)) : (ls.flatMap Vbbraf.counted).length = ls.length + ls.flatten.length := by
  induction ls with
  | nil => rfl
  | cons a r ih =>
    rw [List.flatMap_cons, List.length_append, ih, List.flatten_cons, List.length_append, List.length_cons]
    show a.length + 1 + _ = _
    omega
theorem cnt_take (ls : List (List Nat)) (i : Nat) : ((ls.take i).flatMap Vbbraf.counted).length ≤ (ls.flatMap Vbbraf.counted).length := by
  conv => rhs; rw [← List.take_append_drop i ls]
  rw [List.flatMap_append, List.length_append]
  omega
def sp_all_counted : Sp := fun vs H Q _ => ∃ a ls, vs = [.ref a] ∧ RowsAt H a ls ∧ ls.length + ls.flatten.length ≤ 900 ∧ ∀ p H', H p = none → Evl.Ex H H' → H' p = some (.lst (ivs (ls.flatMap Vbbraf.counted))) → Q (.ref p) H'
theorem ok_all_counted (D : DefF K mg "all_counted" s_all_counted ["rows"]) (G : CalF P w K mg base 1 "counted" sp_counted) : CalF P w K mg base 2 "all_counted" sp_all_counted := by
  have sc : FnScope ["rows", "told", "row"] ["rows"] (defScope s_all_counted) := ⟨rfl, rfl, rfl, by decide +kernel, rfl, by decide +kernel, by decide +kernel⟩
  refine D.cal sc (by rintro _ _ _ _ ⟨_, _, rfl, _⟩; rfl) fun f cdv A outer s H vs Q E hr h => ?_
  obtain ⟨a, ls, rfl, ⟨rs, ha, hp⟩, hl, k⟩ := h
  refine ⟨_, pss_cons (ps_set (i := 1) sc.nd rfl (.inl rfl) (pe_lst pa_nil))
    (pss_cons (ps_for PassesOwn.never rfl (pi_list (pv 0)) (pg_name (i := 2) sc.nd rfl (.inl rfl))
      (pss_one (ps_expr (pe_bm PySem.F.plainAttrs_list PySem.F.slot_list_extend PySem.F.type_list_extend mt_extend (pv 1) (pa_cons (pe_cf G hr (Nat.le_refl _) (by rfl) (pa_cons (pv 2) pa_nil)) pa_nil)))))
    (pss_one (ps_ret (pv 1)))), ?_⟩
  refine ⟨Nat.zero_le _, fun t ht => ?_⟩
  have e1 : Evl.Ex H (upd H t (.lst [])) := Evl.Ex.new ht
  have rl : rs.length = ls.length := paired_len hp
  refine ⟨_, rfl, a, rfl, ⟨_, SqL.of (e1 _ _ ha)⟩, for_list (xs := rs.map V.ref) (fun i σ H' => ∃ v, σ = [some (.ref a), some (.ref t), v] ∧ Evl.Ex H H' ∧ H' t = some (.lst (ivs ((ls.take i).flatMap Vbbraf.counted))))
    ⟨none, rfl, e1, by rw [upd_same]; rfl⟩ (fun i σ H' _ ⟨_, _, e, _⟩ => SqL.of (e _ _ ha)) ?_ ?_⟩
  · rintro i x σ H' hi ⟨v, rfl, e, htl⟩
    rw [List.getElem?_map] at hi
    obtain ⟨r, hri, rfl⟩ := Option.map_eq_some_iff.mp hi
    have hil : i < ls.length := by rw [← rl]; exact (List.getElem?_eq_some_iff.mp hri).1
    obtain ⟨b, hb, hrl⟩ := paired_at hp (List.getElem?_eq_getElem hil)
    rw [hri] at hb
    cases hb
    have f1 := cnt_take ls i
    have f2 := cnt_take ls (i + 1)
    have f3 := cnt_len ls
    have tm := take_more (List.getElem?_eq_getElem hil)
    rw [tm, List.flatMap_append, List.length_append] at f2
    have f4 : ([ls[i]].flatMap Vbbraf.counted).length = (ls[i]).length + 1 := by
      rw [List.flatMap_cons, List.flatMap_nil, List.append_nil]
      rfl
    refine ⟨_, rfl, .inl ⟨rfl, _, SqL.of htl⟩, _, rfl, r, _, rfl, hrl.ex e, by omega, fun p H2 hp2 e2 hl2 => ?_⟩
    refine ⟨t, p, _, _, rfl, rfl, e2 _ _ htl, hl2, line16 (by rw [ivs_len, ivs_len]; show _ + ((ls[i]).length + 1) ≤ 1000; omega), ?_⟩
    refine ⟨some (.ref r), rfl, Evl.Ex.mut (e.trans e2) ht, ?_⟩
    rw [upd_same, tm, List.flatMap_append, List.flatMap_cons, List.flatMap_nil, List.append_nil]
    unfold ivs
    rw [← List.map_append]
  · rintro σ H' ⟨v, rfl, e, htl⟩
    rw [List.length_map, rl, List.take_length] at htl
    exact ⟨_, rfl, k t H' ht e htl⟩

/-! ### heights.py -/
def sp_parted : Sp := fun vs H Q _ => ∃ a b o l, vs = [iv a, iv b, .ref o] ∧ H o = some (.lst (ivs l)) ∧ l.length ≤ 100 ∧ ∀ H', Evl.Ex H H' → Q (.bl (Lm.partedBy a b l)) H'
theorem min_iv (a b : Nat) : V.int (if (b : Int) < (a : Int) then (b : Int) else (a : Int)) = iv (min a b) := by
  unfold iv
  congr 1
  split <;> omega
theorem max_iv (a b : Nat) : V.int (if (b : Int) > (a : Int) then (b : Int) else (a : Int)) = iv (max a b) := by
  unfold iv
  congr 1
  split <;> omega
theorem dec_lt (a b : Nat) : decide ((a : Int) < (b : Int)) = decide (a < b) := by
  by_cases h : a < b
  · rw [decide_eq_true h, decide_eq_true (by omega)]
  · rw [decide_eq_false h, decide_eq_false (by omega)]
theorem ok_parted (B : Bl mg) (D : DefF K mg "parted" s_parted ["first", "second", "others"]) : CalF P w K mg base 1 "parted" sp_parted := by
  have sc : FnScope ["first", "second", "others", "low", "high", "other"] ["first", "second", "others"] (defScope s_parted) := ⟨rfl, rfl, rfl, by decide +kernel, rfl, by decide +kernel, by decide +kernel⟩
  refine D.cal sc (by rintro _ _ _ _ ⟨_, _, _, _, rfl, _⟩; rfl) fun f cdv A outer s H vs Q E hr h => ?_
  obtain ⟨a, b, o, l, rfl, ho, hl, k⟩ := h
  refine ⟨_, pss_cons (ps_set (i := 3) sc.nd rfl (.inr rfl) (pe_callB (call_min2 rfl) (by rfl) B.min (by decide +kernel) (pa_cons (pv 0) (pa_cons (pv 1) pa_nil))))
    (pss_cons (ps_set (i := 4) sc.nd rfl (.inr rfl) (pe_callB (call_max2 rfl) (by rfl) B.max (by decide +kernel) (pa_cons (pv 0) (pa_cons (pv 1) pa_nil))))
    (pss_one (ps_ret (pe_callB (cr_any rfl) (by rfl) B.any (by decide +kernel) (pa_cons (pe_lc (own := [("other", 5)]) (g := gName 5) (tt := tYes) rfl sc.nd (pi_list (pv 2)) (blkOk_by (N := ["first", "second", "others", "low", "high", "other"]) (sc := defScope s_parted) (by decide +kernel))
      (fun _ _ _ _ _ => pg_name (i := 5) sc.nd rfl (.inl rfl)) (fun _ _ _ _ _ => pts_nil) (fun _ _ _ _ _ => pe_and (pe_cmpR op_lt (pv 3) (pv 5) (nomark _)) (pe_one (pe_cmpR op_lt (pv 5) (pv 4) (nomark _))))) pa_nil))))), ?_⟩
  refine ⟨_, rfl, _, rfl, _, _, rfl, ?_⟩
  rw [min_iv]
  refine ⟨_, rfl, _, rfl, _, _, rfl, ?_⟩
  rw [max_iv]
  refine ⟨_, rfl, o, rfl, ⟨_, SqL.of ho⟩, lcp_list l iv (fun _ => true) (fun y => V.bl (decide (min a b < y) && decide (y < max a b))) (SqL.of ho) (by omega) (fun _ => rfl) ?_ ?_ ?_⟩
  · intro i c H' hc e Q q
    exact q H' (Evl.Ex.refl _)
  · intro i c H' hc _ e Q q
    have q2 := q H' (Evl.Ex.refl _)
    refine ⟨_, rfl, _, rfl, _, _, rfl, rfl, _, rfl, iteB (fun cc => ?_) fun cc => ?_⟩
    · have cc2 : decide (min a b < c) = true := (dec_lt _ _).symm.trans cc
      rw [cc2, Bool.true_and, ← dec_lt] at q2
      exact ⟨_, rfl, _, rfl, _, _, rfl, rfl, q2⟩
    · have cc2 : decide (min a b < c) = false := (dec_lt _ _).symm.trans cc
      rw [cc2, Bool.false_and] at q2
      exact q2
  · intro Dl H' hD e hl2
    refine ⟨Dl, l.map (fun y => decide (min a b < y) && decide (y < max a b)), rfl, SqL.of ?_, ?_⟩
    · rw [hl2, List.filter_eq_self.mpr (fun _ _ => rfl), List.map_map]
      rfl
    · have := k H' e
      unfold Lm.partedBy at this
      rw [List.any_map]
      exact this
def sp_alike_in : Sp := fun vs H Q _ => ∃ h c s hl sl, vs = [.ref h, iv c, .ref s] ∧ H h = some (.tup (ivs hl)) ∧ H s = some (.lst (ivs sl)) ∧ hl.length ≤ 16 ∧ sl.length ≤ 100 ∧ ∀ a H', H a = none → Evl.Ex H H' → H' a = some (.lst (ivs (Lm.aliked hl c sl))) → Q (.ref a) H'
theorem ok_alike_in (D : DefF K mg "alike_in" s_alike_in ["hand", "card", "seen"]) (S : CalF P w K mg base 1 "suit_of" sp_suit_of) (GP : CalF P w K mg base 1 "parted" sp_parted) : CalF P w K mg base 2 "alike_in" sp_alike_in := by
  have sc : FnScope ["hand", "card", "seen", "others", "of_suit", "other", "held"] ["hand", "card", "seen"] (defScope s_alike_in) := ⟨rfl, rfl, rfl, by decide +kernel, rfl, by decide +kernel, by decide +kernel⟩
  refine D.cal sc (by rintro _ _ _ _ ⟨_, _, _, _, _, rfl, _⟩; rfl) fun f cdv A outer s H vs Q E hr h => ?_
  obtain ⟨h, c, sn, hl, sl, rfl, hh, hs, lh, ls, k⟩ := h
  refine ⟨_, pss_cons (ps_set (i := 3) sc.nd rfl (.inr rfl) (pe_lc (own := [("other", 5)]) (g := gName 5) rfl sc.nd (pi_list (pv 2)) (blkOk_by (N := ["hand", "card", "seen", "others", "of_suit", "other", "held"]) (sc := defScope s_alike_in) (by decide +kernel))
        (fun _ _ _ _ _ => pg_name (i := 5) sc.nd rfl (.inl rfl)) (fun _ _ _ _ _ => pts_one (pt_cmpR (op_notInK K) (pv 5) (pv 0) (by rfl))) (fun _ _ _ _ _ => pv 5)))
    (pss_cons (ps_setLc (i := 4) (own := [("held", 6)]) (g := gName 6) (by rfl) sc.nd rfl rfl (sw_true rfl rfl rfl (by decide +kernel)) (pi_tup (pv 0)) (blkOk_by (N := ["hand", "card", "seen", "others", "of_suit", "other", "held"]) (sc := defScope s_alike_in) (by decide +kernel))
        (fun _ _ _ _ _ => pg_name (i := 6) sc.nd rfl (.inl rfl)) (fun _ _ _ _ _ => pts_one (pt_cmpR op_eq (pe_cf S hr (Nat.le_refl _) (by rfl) (pa_cons (pv 6) pa_nil)) (pe_cf S hr (Nat.le_refl _) (by rfl) (pa_cons (pv 1) pa_nil)) (nomark _))) (fun _ _ _ _ _ => pv 6))
    (pss_one (ps_ret (pe_lc (own := [("held", 6)]) (g := gName 6) rfl sc.nd (pi_list (pv 4)) (blkOk_by (N := ["hand", "card", "seen", "others", "of_suit", "other", "held"]) (sc := defScope s_alike_in) (by decide +kernel))
        (fun _ _ _ _ _ => pg_name (i := 6) sc.nd rfl (.inl rfl)) (fun _ _ _ _ _ => pts_one (pt_not (pt_val (pe_cf GP hr (Nat.le_refl _) (by rfl) (pa_cons (pv 6) (pa_cons (pv 1) (pa_cons (pv 3) pa_nil))))))) (fun _ _ _ _ _ => pv 6))))), ?_⟩
  refine ⟨_, rfl, sn, rfl, ⟨_, SqL.of hs⟩, lcp_list sl iv (fun y => !hl.contains y) iv (SqL.of hs) (by omega) (fun _ => rfl) ?_ ?_ ?_⟩
  · intro i y H' hc e Q q
    refine ⟨_, rfl, _, rfl, h, _, rfl, .inr (SqT.of (e _ _ hh)), rfl, flat_ivs _, _, rfl, ?_⟩
    have q2 := q H' (Evl.Ex.refl _)
    rw [← in_ivs] at q2
    exact q2
  · intro i y H' hc _ e Q q
    exact ⟨_, rfl, q H' (Evl.Ex.refl _)⟩
  intro o H1 ho e1 hol
  refine ⟨_, rfl, h, rfl, ⟨_, SqT.of (e1 _ _ hh)⟩, lcp_tup hl iv (fun x => Vbbraf.suitOf x == Vbbraf.suitOf c) iv (SqT.of (e1 _ _ hh)) (by omega) (fun _ => rfl) ?_ ?_ ?_⟩
  · intro i y H' hc e Q q
    refine ⟨_, rfl, y, rfl, _, rfl, c, rfl, rfl, _, rfl, ?_⟩
    rw [dec_iv]
    exact q H' (Evl.Ex.refl _)
  · intro i y H' hc _ e Q q
    exact ⟨_, rfl, q H' (Evl.Ex.refl _)⟩
  intro o2 H2 ho2 e2 hol2
  have f1 : (sl.filter fun y => !hl.contains y).length ≤ 100 := Nat.le_trans (List.length_filter_le _ _) ls
  have f2 : (hl.filter fun x => Vbbraf.suitOf x == Vbbraf.suitOf c).length ≤ 16 := Nat.le_trans (List.length_filter_le _ _) lh
  refine ⟨_, rfl, o2, rfl, ⟨_, SqL.of hol2⟩, lcp_list (hl.filter fun x => Vbbraf.suitOf x == Vbbraf.suitOf c) iv (fun x => !Lm.partedBy x c (sl.filter fun y => !hl.contains y)) iv (SqL.of hol2) (by omega) (fun _ => rfl) ?_ ?_ ?_⟩
  · intro i y H' hc e Q q
    exact ⟨_, rfl, _, rfl, _, rfl, y, c, o, _, rfl, e _ _ (e2 _ _ hol), f1, fun H3 e3 => ⟨_, rfl, q H3 e3⟩⟩
  · intro i y H' hc _ e Q q
    exact ⟨_, rfl, q H' (Evl.Ex.refl _)⟩
  intro o3 H3 ho3 e3 hol3
  exact k o3 H3 (Evl.fresh_back (e1.trans e2) ho3) ((e1.trans e2).trans e3) hol3
def sp_squeezed_card : Sp := fun vs H Q _ => ∃ c s sl, vs = [iv c, .ref s] ∧ H s = some (.lst (ivs sl)) ∧ sl.length ≤ 100 ∧ ∀ H', Evl.Ex H H' → Q (.int ((13 * (Vbbraf.suitOf c : Int) + 12) - (Lm.highers c sl : Int))) H'
theorem ok_squeezed_card (B : Bl mg) (D : DefF K mg "squeezed_card" s_squeezed_card ["card", "seen"]) (S : CalF P w K mg base 1 "suit_of" sp_suit_of) (GT : CalF P w K mg base 1 "top_of" sp_top_of) : CalF P w K mg base 2 "squeezed_card" sp_squeezed_card := by
  have sc : FnScope ["card", "seen", "higher", "other"] ["card", "seen"] (defScope s_squeezed_card) := ⟨rfl, rfl, rfl, by decide +kernel, rfl, by decide +kernel, by decide +kernel⟩
  refine D.cal sc (by rintro _ _ _ _ ⟨_, _, _, rfl, _⟩; rfl) fun f cdv A outer s H vs Q E hr h => ?_
  obtain ⟨c, sn, sl, rfl, hs, ls, k⟩ := h
  refine ⟨_, pss_cons (ps_setLc (i := 2) (own := [("other", 3)]) (g := gName 3) (by rfl) sc.nd rfl rfl (sw_true rfl rfl rfl (by decide +kernel)) (pi_list (pv 1)) (blkOk_by (N := ["card", "seen", "higher", "other"]) (sc := defScope s_squeezed_card) (by decide +kernel))
        (fun _ _ _ _ _ => pg_name (i := 3) sc.nd rfl (.inl rfl)) (fun _ _ _ _ _ => pts_one (PW.pt (pw_and (pt_cmpR op_eq (pe_cf S hr (Nat.le_refl _) (by rfl) (pa_cons (pv 3) pa_nil)) (pe_cf S hr (Nat.le_refl _) (by rfl) (pa_cons (pv 0) pa_nil)) (nomark _)) (pw_and1 (pt_cmpR op_gt (pv 3) (pv 0) (nomark _)))))) (fun _ _ _ _ _ => pv 3))
    (pss_one (ps_ret (pe_op op_sub (pe_cf GT hr (Nat.le_refl _) (by rfl) (pa_cons (pe_cf S hr (Nat.le_refl _) (by rfl) (pa_cons (pv 0) pa_nil)) pa_nil)) (pe_callB call_len (by rfl) B.len PySem.boot_len (pa_cons (pv 2) pa_nil))))), ?_⟩
  refine ⟨_, rfl, sn, rfl, ⟨_, SqL.of hs⟩, lcp_list sl iv (fun y => Vbbraf.suitOf y == Vbbraf.suitOf c && decide (c < y)) iv (SqL.of hs) (by omega) (fun _ => rfl) ?_ ?_ ?_⟩
  · intro i y H' hc e Q q
    have q2 := q H' (Evl.Ex.refl _)
    refine ⟨_, rfl, y, rfl, _, rfl, c, rfl, rfl, _, rfl, iteB (fun cc => ?_) fun cc => ?_⟩
    · rw [dec_iv] at cc
      have cc2 : (Vbbraf.suitOf y == Vbbraf.suitOf c) = true := beq_iff_eq.mpr (of_decide_eq_true cc)
      rw [cc2, Bool.true_and, ← dec_lt] at q2
      exact ⟨_, rfl, _, rfl, _, _, rfl, rfl, _, rfl, q2⟩
    · rw [dec_iv] at cc
      have cc2 : (Vbbraf.suitOf y == Vbbraf.suitOf c) = false := beq_eq_false_iff_ne.mpr (of_decide_eq_false cc)
      rw [cc2, Bool.false_and] at q2
      exact q2
  · intro i y H' hc _ e Q q
    exact ⟨_, rfl, q H' (Evl.Ex.refl _)⟩
  intro o H1 ho e1 hol
  have := k H1 e1
  refine ⟨_, rfl, c, rfl, _, rfl, _, rfl, _, _, rfl, .inl ⟨_, SqL.of hol, rfl⟩, _, _, rfl, rfl, ?_⟩
  rw [List.length_map]
  have e : ((13 * Vbbraf.suitOf c + 12 : Nat) : Int) = 13 * (Vbbraf.suitOf c : Int) + 12 := by omega
  rw [← e] at this
  exact this
def sp_squeezed_row : Sp := fun vs H Q _ => ∃ r s l sl fn, vs = [.ref r, .ref s] ∧ H r = some (.tup (ivs l)) ∧ H s = some (.lst (ivs sl)) ∧ l.length ≤ 100 ∧ sl.length ≤ 100 ∧ (∀ c ∈ l, (13 * (Vbbraf.suitOf c : Int) + 12) - (Lm.highers c sl : Int) = ((fn c : Nat) : Int)) ∧
  ∀ p H', H p = none → Evl.Ex H H' → H' p = some (.lst (ivs (l.map fn))) → Q (.ref p) H'
theorem ok_squeezed_row (D : DefF K mg "squeezed_row" s_squeezed_row ["cards", "seen"]) (G : CalF P w K mg base 2 "squeezed_card" sp_squeezed_card) : CalF P w K mg base 3 "squeezed_row" sp_squeezed_row := by
  have sc : FnScope ["cards", "seen", "card"] ["cards", "seen"] (defScope s_squeezed_row) := ⟨rfl, rfl, rfl, by decide +kernel, rfl, by decide +kernel, by decide +kernel⟩
  refine D.cal sc (by rintro _ _ _ _ ⟨_, _, _, _, _, rfl, _⟩; rfl) fun f cdv A outer s H vs Q E hr h => ?_
  obtain ⟨r, sn, l, sl, fn, rfl, hr', hs, ll, ls, hf, k⟩ := h
  refine ⟨_, pss_one (ps_ret (pe_lc (own := [("card", 2)]) (g := gName 2) (tt := tYes) rfl sc.nd (pi_tup (pv 0)) (blkOk_by (N := ["cards", "seen", "card"]) (sc := defScope s_squeezed_row) (by decide +kernel))
      (fun _ _ _ _ _ => pg_name (i := 2) sc.nd rfl (.inl rfl)) (fun _ _ _ _ _ => pts_nil) (fun _ _ _ _ _ => pe_cf G hr (Nat.le_refl _) (by rfl) (pa_cons (pv 2) (pa_cons (pv 1) pa_nil))))), ?_⟩
  refine ⟨_, rfl, r, rfl, ⟨_, SqT.of hr'⟩, lcp_tup l iv (fun _ => true) (fun c => iv (fn c)) (SqT.of hr') (by omega) (fun _ => rfl) ?_ ?_ ?_⟩
  · intro i c H' hc e Q q
    exact q H' (Evl.Ex.refl _)
  · intro i c H' hc _ e Q q
    refine ⟨_, rfl, _, rfl, c, sn, sl, rfl, e _ _ hs, ls, fun H2 e2 => ?_⟩
    rw [hf c (List.mem_of_getElem? hc)]
    exact q H2 e2
  · intro Dl H' hD e hl2
    refine k Dl H' hD e ?_
    rw [hl2, List.filter_eq_self.mpr (fun _ _ => rfl)]
    unfold ivs
    rw [List.map_map]
    rfl
end
end Lx

/-! account.py -/
namespace Lx
open PySem PySem.Spec PyProof.Rows L2
section
variable {P : Program} {w : World} {K : PySem.W.Frag} {mg : Str → Option Value} {base : Heap} {CP CS : Addr}
theorem Se.updL {H : Hp} {s p d l : Addr} {q : Vbbraf.Pos} {U : List PK3} {xs : List V} {o : HO} (x : Se P w CP CS H s p d q U) (hl : H l = some (.lst xs)) : Se P w CP CS (upd H l o) s p d q U :=
  ⟨x.se.updL hl, x.po.updL hl, x.gd, x.fo.upd_new (H0 := H) hl, x.ul, x.co⟩
def sp_may (CP : Addr) : Sp := fun vs H Q _ => ∃ p a q l, vs = [.ref p, .ref a] ∧ PosAt CP H p q ∧ Gd q ∧ H a = some (.lst (ivs l)) ∧ ∀ H', Evl.Ex H H' → Q (.bl (Vbbraf.account q l).isSome) H'
theorem ok_may (T : PosT K CP) (D : DefF K mg "may_be_played" s_may_be_played ["position", "cards"]) (GC : CalM P w K mg base 4 CP "choices" (sp_choices CP)) (GB : CalM P w K mg base 4 CP "behind" (sp_behind CP)) : CalF P w K mg base 5 "may_be_played" (sp_may CP) := by
  have sc : FnScope ["position", "cards", "card"] ["position", "cards"] (defScope s_may_be_played) := ⟨rfl, rfl, rfl, by decide +kernel, rfl, by decide +kernel, by decide +kernel⟩
  refine D.cal sc (by rintro _ _ _ _ ⟨_, _, _, _, rfl, _⟩; rfl) fun f cdv A outer s H vs Q E hr h => ?_
  obtain ⟨p, a, q, l, rfl, hp, g, ha, k⟩ := h
  refine ⟨_, pss_cons (ps_for PassesOwn.never rfl (pi_list (pv 1)) (pg_name (i := 2) sc.nd rfl (.inl rfl))
      (pss_cons (ps_if (pt_cmpR op_notIn_seq (pv 2) (pe_cm0 GC T.cl hr (Nat.le_refl _) (pv 0)) (by rfl)) (pss_one (ps_ret pe_bl)) pss_nil)
      (pss_one (ps_set (i := 0) sc.nd rfl (.inl rfl) (pe_cm GB T.cl hr (Nat.le_refl _) (pv 0) (pa_cons (pv 2) pa_nil))))))
    (pss_one (ps_ret pe_bl)), ?_⟩
  refine ⟨_, rfl, a, rfl, ⟨_, SqL.of ha⟩, for_list (xs := ivs l) (fun i σ H' => ∃ p' q' es v, σ = [some (.ref p'), some (.ref a), v] ∧ Vbbraf.account q (l.take i) = some (es, q') ∧ Evl.Ex H H' ∧ PosAt CP H' p' q' ∧ Gd q')
    ⟨p, q, [], none, rfl, rfl, Evl.Ex.refl _, hp, g⟩ (fun i σ H' _ ⟨_, _, _, _, _, _, e, _⟩ => SqL.of (e _ _ ha)) ?_ ?_⟩
  · rintro i x σ H' hi ⟨p', q', es, v, rfl, hacc, e, hp', g'⟩
    obtain ⟨c, hc, rfl⟩ := ivs_get hi
    obtain ⟨dx, h, tr, h1, h2, h3⟩ := id hp'
    have tm := take_more hc
    have sn := Lm.account_snoc (l.take i) q c
    rw [hacc, ← tm] at sn
    refine ⟨_, rfl, _, rfl, p', dx, _, rfl, h1, pf_none _ _ _ _ (by decide +kernel) (by decide +kernel) (by decide +kernel) (by decide +kernel), p', q', rfl, hp', g', fun b H1 hb e1 hl => ?_⟩
    refine ⟨b, _, rfl, .inl (SqL.of hl), rfl, flat_ivs _, _, rfl, ?_⟩
    rw [in_ivs]
    refine iteB (fun cc => ?_) fun cc => ?_
    · have c1 : (Vbbraf.legal q').contains c = false := by
        cases y : (Vbbraf.legal q').contains c with
        | false => rfl
        | true => rw [y] at cc; cases cc
      have sn2 : Vbbraf.account q (l.take (i + 1)) = none := sn.trans (if_pos c1)
      have no := Lm.account_none sn2 (l.drop (i + 1))
      rw [List.take_append_drop] at no
      have := k H1 (e.trans e1)
      rw [no] at this
      exact this
    · have c1 : ¬ (Vbbraf.legal q').contains c = false := fun y => by rw [y] at cc; cases cc
      have sn2 := sn.trans (if_neg c1)
      have hm := Lm.mem_of_contains c1
      obtain ⟨dx1, h', tr', y1, y2, y3⟩ := id (hp'.ex e1)
      refine ⟨_, rfl, p', dx1, _, rfl, y1, pf_none _ _ _ _ (by decide +kernel) (by decide +kernel) (by decide +kernel) (by decide +kernel), _, rfl, p', q', c, rfl, hp'.ex e1, g', fun b2 H2 e2 hb2 => ?_⟩
      exact ⟨b2, _, _, some (iv c), rfl, sn2, (e.trans e1).trans e2, hb2, g'.behind hm⟩
  · rintro σ H' ⟨p', q', es, v, rfl, hacc, e, hp', g'⟩
    rw [ivs_len, List.take_length] at hacc
    have := k H' e
    rw [hacc] at this
    exact this
def sp_acc (P : Program) (w : World) (CP CS : Addr) : Sp := fun vs H Q _ => ∃ s p a d q l es q' U, vs = [.ref s, .ref p, .ref a] ∧ Se P w CP CS H s p d q U ∧ H a = some (.lst (ivs l)) ∧ Vbbraf.account q l = some (es, q') ∧
  ∀ r H', H r = none → Gx d H H' → FoundOk P w H' d U → H' r = some (.lst (ivs (Vbbraf.told q es q'))) → Q (.ref r) H'
theorem account_take {q q' : Vbbraf.Pos} {es : List Vbbraf.Entry} {l : List Nat} (h : Vbbraf.account q l = some (es, q')) {i c : Nat} (hc : l[i]? = some c) {es1 : List Vbbraf.Entry} {q1 : Vbbraf.Pos} (h1 : Vbbraf.account q (l.take i) = some (es1, q1)) :
    c ∈ Vbbraf.legal q1 ∧ Vbbraf.account q (l.take (i + 1)) = some (es1 ++ [⟨Vbbraf.turnOf q1, Vbbraf.gift q1 c, Vbbraf.gained (Vbbraf.behind q1 c).2⟩], (Vbbraf.behind q1 c).1) := by
  have tm := take_more hc
  have sn := Lm.account_snoc (l.take i) q c
  rw [h1, ← tm] at sn
  by_cases hz : (Vbbraf.legal q1).contains c = false
  · have sn2 : Vbbraf.account q (l.take (i + 1)) = none := sn.trans (if_pos hz)
    have no := Lm.account_none sn2 (l.drop (i + 1))
    rw [List.take_append_drop, h] at no
    cases no
  · exact ⟨Lm.mem_of_contains hz, sn.trans (if_neg hz)⟩
theorem given_at (es : List Vbbraf.Entry) (t g w : Nat) : (ivs [Vbbraf.givenBy 0 es, Vbbraf.givenBy 1 es])[t % 2]? = some (iv (Vbbraf.givenBy (t % 2) es)) ∧
    (ivs [Vbbraf.givenBy 0 es, Vbbraf.givenBy 1 es]).set (t % 2) (V.int ((Vbbraf.givenBy (t % 2) es : Int) + (g : Int))) = ivs [Vbbraf.givenBy 0 (es ++ [⟨t, g, w⟩]), Vbbraf.givenBy 1 (es ++ [⟨t, g, w⟩])] := by
  rw [Lm.givenBy_snoc, Lm.givenBy_snoc]
  have e2 : ∀ x : Nat, V.int ((x : Int) + (g : Int)) = iv (x + g) := fun x => by unfold iv; congr 1
  rw [e2]
  have h : t % 2 = 0 ∨ t % 2 = 1 := by omega
  rcases h with h | h
  · have n : ¬ t % 2 = 1 := by omega
    rw [if_pos h, if_neg n, h]
    exact ⟨rfl, rfl⟩
  · have n : ¬ t % 2 = 0 := by omega
    rw [if_pos h, if_neg n, h]
    exact ⟨rfl, rfl⟩
theorem ok_acc {k : Nat} (G : SeCal P w K mg base CP CS) (hk : 5 ≤ k) (D : DefF K mg "account_of" s_account_of ["search", "position", "cards"]) (GV : CalM P w K mg base k CS "value" (sp_value P w CP CS 17))
    (GG : CalM P w K mg base k CS "gift" (sp_gift P w CP CS)) : CalF P w K mg base (k + 1) "account_of" (sp_acc P w CP CS) := by
  have sc : FnScope ["search", "position", "cards", "value", "won", "given", "gifts", "card", "gift"] ["search", "position", "cards"] (defScope s_account_of) := ⟨rfl, rfl, rfl, by decide +kernel, rfl, by decide +kernel, by decide +kernel⟩
  refine D.cal sc (by rintro _ _ _ _ ⟨_, _, _, _, _, _, _, _, _, rfl, _⟩; rfl) fun f cdv A outer s H vs Q E hr h => ?_
  obtain ⟨sa, p, a, d, q, l, es, q', U, rfl, se, ha, hacc, kk⟩ := h
  refine ⟨_, pss_cons (ps_set (i := 3) sc.nd rfl (.inl rfl) (pe_cm GV G.ts.cl hr (Nat.le_refl _) (pv 0) (pa_cons (pv 1) pa_nil)))
    (pss_cons (ps_set (i := 4) sc.nd rfl (.inl rfl) pe_int)
    (pss_cons (ps_set (i := 5) sc.nd rfl (.inl rfl) (pe_lst (pa_cons pe_int (pa_cons pe_int pa_nil))))
    (pss_cons (ps_set (i := 6) sc.nd rfl (.inl rfl) (pe_lst pa_nil))
    (pss_cons (ps_for PassesOwn.never rfl (pi_list (pv 2)) (pg_name (i := 7) sc.nd rfl (.inl rfl))
      (pss_cons (ps_set (i := 8) sc.nd rfl (.inl rfl) (pe_cm GG G.ts.cl hr (Nat.le_refl _) (pv 0) (pa_cons (pv 1) (pa_cons (pv 7) pa_nil))))
      (pss_cons (ps_augS (pv 5) (pe_cf G.side hr (by omega) (by rfl) (pa_cons (pe_cm0 G.turn G.tp.cl hr (by omega) (pv 1)) pa_nil)) get_list (pv 8) ip_add set_list)
      (pss_cons (ps_expr (pe_bm PySem.F.plainAttrs_list PySem.F.slot_list_append PySem.F.type_list_append mt_append (pv 6) (pa_cons (pv 8) pa_nil)))
      (pss_cons (ps_set (i := 1) sc.nd rfl (.inl rfl) (pe_cm G.beh G.tp.cl hr (by omega) (pv 1) (pa_cons (pv 7) pa_nil)))
      (pss_one (ps_aug (i := 4) sc.nd rfl (.inl rfl) (pe_cf G.t0 hr (by omega) (by rfl) (pa_cons (pv 1) pa_nil)) ip_add)))))))
    (pss_one (ps_ret (pe_op op_cat (pe_lst (pa_cons (pv 3) (pa_cons (pe_ix ix_list (pv 5) pe_int (fun _ _ => rfl)) (pa_cons (pe_ix ix_list (pv 5) pe_int (fun _ _ => rfl)) (pa_cons (pv 4) (pa_cons (pe_cm GV G.ts.cl hr (Nat.le_refl _) (pv 0) (pa_cons (pv 1) pa_nil)) pa_nil))))))
      (pv 6)))))))), ?_⟩
  have hle := se.gd.le
  obtain ⟨gq, hlen, hel, _⟩ := Lm.account_good se.gd.g hacc
  obtain ⟨sx, hsx⟩ := id se.se
  refine ⟨_, rfl, sa, sx, _, rfl, hsx, sf_none _ (by decide +kernel), _, rfl, sa, p, d, q, U, rfl, se, by omega, fun H1 g1 f1 => ?_⟩
  have se1 := se.gx g1 f1
  have ha1 := g1.lst se.fo ha
  refine ⟨(by show 2 ≤ sizeLine; decide), fun gv hgv => ?_⟩
  have e2 : Evl.Ex H1 (upd H1 gv (.lst [V.int 0, V.int 0])) := Evl.Ex.new hgv
  have hgv2 : upd H1 gv (.lst [V.int 0, V.int 0]) gv = some (.lst (ivs [0, 0])) := upd_same
  have hgv0 : H gv = none := g1.free f1 hgv
  generalize upd H1 gv (.lst [V.int 0, V.int 0]) = H2 at *
  refine ⟨Nat.zero_le _, fun gs hgs => ?_⟩
  have e3 : Evl.Ex H2 (upd H2 gs (.lst [])) := Evl.Ex.new hgs
  have hgs3 : upd H2 gs (.lst []) gs = some (.lst (ivs [])) := upd_same
  have hgs0 : H gs = none := g1.free f1 (Evl.fresh_back e2 hgs)
  have ngs : gv ≠ gs := fun z => by rw [z, hgs] at hgv2; cases hgv2
  have hgv3 := e3 _ _ hgv2
  generalize upd H2 gs (.lst []) = H3 at *
  have g3 : Gx d H H3 := g1.trans (Gx.of (e2.trans e3))
  have se3 := se1.ex (e2.trans e3)
  have ha3 := (e2.trans e3) _ _ ha1
  refine ⟨_, rfl, a, rfl, ⟨_, SqL.of ha3⟩, for_list (xs := ivs l) (fun i σ H' => ∃ p1 q1 es1 v w', σ = [some (.ref sa), some (.ref p1), some (.ref a), some (iv (Vbbraf.value q)), some (iv (Vbbraf.wonIn es1)), some (.ref gv), some (.ref gs), v, w'] ∧
      Vbbraf.account q (l.take i) = some (es1, q1) ∧ Gx d H H' ∧ Se P w CP CS H' sa p1 d q1 U ∧ H' a = some (.lst (ivs l)) ∧ H' gv = some (.lst (ivs [Vbbraf.givenBy 0 es1, Vbbraf.givenBy 1 es1])) ∧ H' gs = some (.lst (ivs (es1.map fun e => e.gift))))
    ⟨p, q, [], none, none, rfl, rfl, g3, se3, ha3, hgv3, hgs3⟩ (fun i σ H' _ ⟨_, _, _, _, _, _, _, _, _, h, _⟩ => SqL.of h) ?_ ?_⟩
  · rintro i x σ H' hi ⟨p1, q1, es1, v, w', rfl, hac, g, sx1, ha', hgv', hgs'⟩
    obtain ⟨c, hc, rfl⟩ := ivs_get hi
    have hil := (List.getElem?_eq_some_iff.mp hc).1
    obtain ⟨hm, hac2⟩ := account_take hacc hc hac
    obtain ⟨_, _, hel1, _⟩ := Lm.account_good se.gd.g hac
    have hel2 : es1.length ≤ 16 := by rw [hel1, List.length_take]; omega
    obtain ⟨sdx, hs1⟩ := id sx1.se
    refine ⟨_, rfl, sa, sdx, _, rfl, hs1, sf_none _ (by decide +kernel), _, rfl, _, rfl, sa, p1, c, d, q1, U, rfl, sx1, hm, fun H4 g4 f4 => ?_⟩
    have se4 := sx1.gx g4 f4
    have ha4 := g4.lst sx1.fo ha'
    have hgv4 := g4.lst sx1.fo hgv'
    have hgs4 := g4.lst sx1.fo hgs'
    have g04 := g.trans g4
    obtain ⟨dx, h, tr, y1, y2, y3⟩ := id se4.po
    -- given[..] += gift
    have nga : gv ≠ a := fun z => by rw [z] at hgv0; rw [hgv0] at ha; cases ha
    have nsa : gs ≠ a := fun z => by rw [z] at hgs0; rw [hgs0] at ha; cases ha
    have hT : Vbbraf.turnOf q1 % 2 < 2 := Nat.mod_lt _ (by decide)
    obtain ⟨hget, hset⟩ := given_at es1 (Vbbraf.turnOf q1) (Vbbraf.gift q1 c) (Vbbraf.gained (Vbbraf.behind q1 c).2)
    refine ⟨_, rfl, _, rfl, p1, dx, _, rfl, y1, pf_none _ _ _ _ (by decide +kernel) (by decide +kernel) (by decide +kernel) (by decide +kernel), p1, q1, rfl, se4.po, _, rfl, ?_⟩
    refine ⟨gv, _, Vbbraf.turnOf q1 % 2, iv (Vbbraf.givenBy (Vbbraf.turnOf q1 % 2) es1), rfl, rfl, SqL.of hgv4, hget, _, rfl, _, _, rfl, rfl, gv, _, _, Vbbraf.turnOf q1 % 2, rfl, rfl, hgv4, Evl.ixN_nat (by rw [ivs_len]; exact hT), ?_⟩
    have se5 := se4.updL (o := .lst ((ivs [Vbbraf.givenBy 0 es1, Vbbraf.givenBy 1 es1]).set (Vbbraf.turnOf q1 % 2) (V.int ((Vbbraf.givenBy (Vbbraf.turnOf q1 % 2) es1 : Int) + (Vbbraf.gift q1 c : Int))))) hgv4
    have g05 := g04.upd_new (o := .lst ((ivs [Vbbraf.givenBy 0 es1, Vbbraf.givenBy 1 es1]).set (Vbbraf.turnOf q1 % 2) (V.int ((Vbbraf.givenBy (Vbbraf.turnOf q1 % 2) es1 : Int) + (Vbbraf.gift q1 c : Int))))) hgv0
    have ha5 : upd H4 gv (.lst ((ivs [Vbbraf.givenBy 0 es1, Vbbraf.givenBy 1 es1]).set (Vbbraf.turnOf q1 % 2) (V.int ((Vbbraf.givenBy (Vbbraf.turnOf q1 % 2) es1 : Int) + (Vbbraf.gift q1 c : Int))))) a = some (.lst (ivs l)) := by rw [upd_ne (Ne.symm nga)]; exact ha4
    have hgs5 : upd H4 gv (.lst ((ivs [Vbbraf.givenBy 0 es1, Vbbraf.givenBy 1 es1]).set (Vbbraf.turnOf q1 % 2) (V.int ((Vbbraf.givenBy (Vbbraf.turnOf q1 % 2) es1 : Int) + (Vbbraf.gift q1 c : Int))))) gs = some (.lst (ivs (es1.map fun e => e.gift))) := by rw [upd_ne (Ne.symm ngs)]; exact hgs4
    have hgv5 : upd H4 gv (.lst ((ivs [Vbbraf.givenBy 0 es1, Vbbraf.givenBy 1 es1]).set (Vbbraf.turnOf q1 % 2) (V.int ((Vbbraf.givenBy (Vbbraf.turnOf q1 % 2) es1 : Int) + (Vbbraf.gift q1 c : Int))))) gv = some (.lst (ivs [Vbbraf.givenBy 0 (es1 ++ [⟨Vbbraf.turnOf q1, Vbbraf.gift q1 c, Vbbraf.gained (Vbbraf.behind q1 c).2⟩]), Vbbraf.givenBy 1 (es1 ++ [⟨Vbbraf.turnOf q1, Vbbraf.gift q1 c, Vbbraf.gained (Vbbraf.behind q1 c).2⟩])])) := by rw [upd_same, hset]
    generalize upd H4 gv (.lst ((ivs [Vbbraf.givenBy 0 es1, Vbbraf.givenBy 1 es1]).set (Vbbraf.turnOf q1 % 2) (V.int ((Vbbraf.givenBy (Vbbraf.turnOf q1 % 2) es1 : Int) + (Vbbraf.gift q1 c : Int))))) = H5 at *
    -- gifts.append(gift)
    refine ⟨_, rfl, .inl ⟨rfl, _, SqL.of hgs5⟩, _, rfl, gs, _, iv (Vbbraf.gift q1 c), rfl, rfl, hgs5, Evl.sz_lt (by rw [ivs_len, List.length_map]; omega), ?_⟩
    have se6 := se5.updL (o := .lst (ivs (es1.map fun e => e.gift) ++ [iv (Vbbraf.gift q1 c)])) hgs5
    have g06 := g05.upd_new (o := .lst (ivs (es1.map fun e => e.gift) ++ [iv (Vbbraf.gift q1 c)])) hgs0
    have ha6 : upd H5 gs (.lst (ivs (es1.map fun e => e.gift) ++ [iv (Vbbraf.gift q1 c)])) a = some (.lst (ivs l)) := by rw [upd_ne (Ne.symm nsa)]; exact ha5
    have hgv6 := (upd_ne (o := .lst (ivs (es1.map fun e => e.gift) ++ [iv (Vbbraf.gift q1 c)])) (H := H5) ngs).trans hgv5
    have hgs6 : upd H5 gs (.lst (ivs (es1.map fun e => e.gift) ++ [iv (Vbbraf.gift q1 c)])) gs = some (.lst (ivs ((es1 ++ [(⟨Vbbraf.turnOf q1, Vbbraf.gift q1 c, Vbbraf.gained (Vbbraf.behind q1 c).2⟩ : Vbbraf.Entry)]).map fun e => e.gift))) := by
      rw [upd_same, List.map_append]
      unfold ivs
      rw [List.map_append]
      rfl
    generalize upd H5 gs (.lst (ivs (es1.map fun e => e.gift) ++ [iv (Vbbraf.gift q1 c)])) = H6 at *
    -- position = position.behind(card)
    obtain ⟨dx6, h6, tr6, u1, u2, u3⟩ := id se6.po
    refine ⟨_, rfl, p1, dx6, _, rfl, u1, pf_none _ _ _ _ (by decide +kernel) (by decide +kernel) (by decide +kernel) (by decide +kernel), _, rfl, p1, q1, c, rfl, se6.po, se6.gd, fun b H7 e7 hb => ?_⟩
    have ew : V.int ((Vbbraf.wonIn es1 : Int) + ((if (Vbbraf.behind q1 c).1.trick.length = 0 ∧ (Vbbraf.behind q1 c).1.leader % 2 = 0 then 1 else 0 : Nat) : Int)) = iv (Vbbraf.wonIn (es1 ++ [⟨Vbbraf.turnOf q1, Vbbraf.gift q1 c, Vbbraf.gained (Vbbraf.behind q1 c).2⟩])) := by
      rw [Lm.wonIn_snoc, gained_is]
      unfold iv
      congr 1
    refine ⟨_, rfl, _, rfl, b, _, rfl, hb, _, _, rfl, rfl, ?_⟩
    refine ⟨b, _, _, some (iv c), some (iv (Vbbraf.gift q1 c)), ?_, hac2, g06.trans (Gx.of e7), ⟨se6.se.ex e7, hb, se6.gd.behind hm, se6.fo.ex e7, se6.ul, se6.co.behind se6.gd c⟩, e7 _ _ ha6, e7 _ _ hgv6, e7 _ _ hgs6⟩
    rw [← ew]
    rfl
  · rintro σ H' ⟨p1, q1, es1, v, w', rfl, hac, g, sx1, ha', hgv', hgs'⟩
    rw [ivs_len, List.take_length, hacc] at hac
    obtain ⟨rfl, rfl⟩ := Prod.mk.inj (Option.some.inj hac)
    obtain ⟨sdx, hs1⟩ := id sx1.se
    have hl1 := sx1.gd.le
    refine ⟨_, rfl, _, rfl, gv, _, _, iv (Vbbraf.givenBy 0 es), rfl, rfl, SqL.of hgv', atI_nat (j := 0) (v := iv (Vbbraf.givenBy 0 es)) rfl, ?_⟩
    refine ⟨_, rfl, gv, _, _, iv (Vbbraf.givenBy 1 es), rfl, rfl, SqL.of hgv', atI_nat (j := 1) (v := iv (Vbbraf.givenBy 1 es)) rfl, ?_⟩
    refine ⟨_, rfl, _, rfl, sa, sdx, _, rfl, hs1, sf_none _ (by decide +kernel), _, rfl, sa, p1, d, q', U, rfl, sx1, by omega, fun H8 g8 f8 => ?_⟩
    have hgs8 := g8.lst sx1.fo hgs'
    refine ⟨(by show 5 ≤ sizeLine; decide), fun r0 hr0 => ?_⟩
    have e9 := Evl.Ex.new (o := .lst [iv (Vbbraf.value q), iv (Vbbraf.givenBy 0 es), iv (Vbbraf.givenBy 1 es), iv (Vbbraf.wonIn es), iv (Vbbraf.value q')]) hr0
    refine ⟨_, rfl, r0, gs, _, _, rfl, rfl, upd_same, e9 _ _ hgs8, line16 (by rw [ivs_len, List.length_map]; show 5 + _ ≤ 1000; omega), fun r hr2 => ?_⟩
    have e10 := Evl.Ex.new (o := .lst ([iv (Vbbraf.value q), iv (Vbbraf.givenBy 0 es), iv (Vbbraf.givenBy 1 es), iv (Vbbraf.wonIn es), iv (Vbbraf.value q')] ++ ivs (es.map fun e => e.gift))) hr2
    have gall := g.trans g8
    have hrH : H r = none := gall.free f8 (Evl.fresh_back e9 hr2)
    refine kk r _ hrH (gall.trans (Gx.of (e9.trans e10))) (f8.ex (e9.trans e10)) ?_
    rw [upd_same]
    rfl
end
end Lx

/-! held.py: the ending -/
namespace Lx
open PySem PySem.Spec PyProof.Rows L2
/-- the object of an ending -/
def enF (se de po pl wn : Addr) : List (Str × V) := [("search", .ref se), ("dealt", .ref de), ("position", .ref po), ("played", .ref pl), ("won", .ref wn)]
section
variable (se de po pl wn : Addr)
theorem ef_search : (enF se de po pl wn).lookup ("search" : Str) = some (.ref se) := lk_here
theorem ef_dealt : (enF se de po pl wn).lookup ("dealt" : Str) = some (.ref de) := (lk_past (by decide +kernel)).trans lk_here
theorem ef_position : (enF se de po pl wn).lookup ("position" : Str) = some (.ref po) := (lk_past (by decide +kernel)).trans ((lk_past (by decide +kernel)).trans lk_here)
theorem ef_played : (enF se de po pl wn).lookup ("played" : Str) = some (.ref pl) := (lk_past (by decide +kernel)).trans ((lk_past (by decide +kernel)).trans ((lk_past (by decide +kernel)).trans lk_here))
theorem ef_won : (enF se de po pl wn).lookup ("won" : Str) = some (.ref wn) := (lk_past (by decide +kernel)).trans ((lk_past (by decide +kernel)).trans ((lk_past (by decide +kernel)).trans ((lk_past (by decide +kernel)).trans lk_here)))
theorem ef_none {m : Str} (h1 : (m == "search") = false) (h2 : (m == "dealt") = false) (h3 : (m == "position") = false) (h4 : (m == "played") = false) (h5 : (m == "won") = false) : (enF se de po pl wn).lookup m = none := by
  unfold enF
  rw [lk_past h1, lk_past h2, lk_past h3, lk_past h4, lk_past h5]
  rfl
theorem ne_sd : ¬ ("search" : Str) = "dealt" := by decide +kernel
theorem ne_sp : ¬ ("search" : Str) = "position" := by decide +kernel
theorem ne_sl : ¬ ("search" : Str) = "played" := by decide +kernel
theorem ne_sw : ¬ ("search" : Str) = "won" := by decide +kernel
theorem ne_dp : ¬ ("dealt" : Str) = "position" := by decide +kernel
theorem ne_dl : ¬ ("dealt" : Str) = "played" := by decide +kernel
theorem ne_dw : ¬ ("dealt" : Str) = "won" := by decide +kernel
theorem ne_pl : ¬ ("position" : Str) = "played" := by decide +kernel
theorem ne_pw : ¬ ("position" : Str) = "won" := by decide +kernel
theorem ne_lw : ¬ ("played" : Str) = "won" := by decide +kernel
theorem ef_put_po (x : Addr) : putF "position" (.ref x) (enF se de po pl wn) = enF se de x pl wn := by
  unfold enF
  rw [put_past ne_sp, put_past ne_dp, put_here]
/-- begin over an ending -/
theorem ef_begin (q l n : Addr) : putF "won" (.ref n) (putF "played" (.ref l) (putF "position" (.ref q) (putF "dealt" (.ref q) (enF se de po pl wn)))) = enF se q q l n := by
  unfold enF
  rw [put_past ne_sd, put_here, put_past ne_sp, put_past ne_dp, put_here, put_past ne_sl, put_past ne_dl, put_past ne_pl, put_here, put_past ne_sw, put_past ne_dw, put_past ne_pw, put_past ne_lw, put_here]
/-- begin over one that has a search alone -/
theorem ef_begin0 (q l n : Addr) : putF "won" (.ref n) (putF "played" (.ref l) (putF "position" (.ref q) (putF "dealt" (.ref q) [("search", V.ref se)]))) = enF se q q l n := by
  have e0 : ∀ (f : Str) (v : V), putF f v [] = [(f, v)] := fun _ _ => rfl
  rw [put_past ne_sd, e0, put_past ne_sp, put_past ne_dp, e0, put_past ne_sl, put_past ne_dl, put_past ne_pl, e0, put_past ne_sw, put_past ne_dw, put_past ne_pw, put_past ne_lw, e0]
  rfl
end
structure EnT (K : PySem.W.Frag) (C : Addr) : Prop where
  cl : Cls K C
  nS : NoAttr K C "search"
  nD : NoAttr K C "dealt"
  nP : NoAttr K C "position"
  nL : NoAttr K C "played"
  nW : NoAttr K C "won"
section
variable (P : Program) (w : World) (CP CS CE : Addr)
/-- where an ending's parts stand -/
structure EnO (S : Addr → Prop) (H : Hp) (e dx se d de po pl wn : Addr) (st : Vbbraf.State) (U : List PK3) : Prop where
  ob : H e = some (.ins CE dx (enF se de po pl wn))
  hse : SeAt CS H se d
  hde : PosAt CP H de st.first
  hpo : PosAt CP H po st.now
  hpl : H pl = some (.lst (ivs st.played))
  hwn : H wn = some (.lst (ivs [st.won, st.lost]))
  fo : FoundOk P w H d U
  lw : pl ≠ wn
  out : ∀ a, S a → H a ≠ none ∧ a ≠ e ∧ a ≠ d ∧ a ≠ pl ∧ a ≠ wn
/-- the ending at e is st, it knows the values of some of U, and the objects of S are none of its own -/
def EnAt (S : Addr → Prop) (H : Hp) (e : Addr) (st : Vbbraf.State) (U : List PK3) : Prop := Lm.Reach st ∧ ∃ dx se d de po pl wn, EnO P w CP CS CE S H e dx se d de po pl wn st U
/-- the objects of S stand -/
def Kp (S : Addr → Prop) (H H' : Hp) : Prop := ∀ a, S a → H' a = H a
end
theorem Kp.refl (S : Addr → Prop) (H : Hp) : Kp S H H := fun _ _ => rfl
theorem Kp.trans {S : Addr → Prop} {H H1 H2 : Hp} (a : Kp S H H1) (b : Kp S H1 H2) : Kp S H H2 := fun x h => (b x h).trans (a x h)
theorem Kp.sub {S S' : Addr → Prop} {H H' : Hp} (a : Kp S H H') (h : ∀ x, S' x → S x) : Kp S' H H' := fun x hx => a x (h x hx)
theorem Kp.ex {S : Addr → Prop} {H H' : Hp} (hs : ∀ a, S a → H a ≠ none) (e : Evl.Ex H H') : Kp S H H' := fun a ha => by
  cases q : H a with
  | none => exact absurd q (hs a ha)
  | some o => exact e a o q
section
variable {P : Program} {w : World} {K : PySem.W.Frag} {mg : Str → Option Value} {base : Heap} {CP CS CE : Addr} {S S' : Addr → Prop} {H H' : Hp} {e dx se d de po pl wn : Addr} {st : Vbbraf.State} {U U' : List PK3}
theorem EnO.ex (x : EnO P w CP CS CE S H e dx se d de po pl wn st U) (k : Evl.Ex H H') : EnO P w CP CS CE S H' e dx se d de po pl wn st U :=
  ⟨k _ _ x.ob, x.hse.ex k, x.hde.ex k, x.hpo.ex k, k _ _ x.hpl, k _ _ x.hwn, x.fo.ex k, x.lw, fun a ha => by
    obtain ⟨h1, h2⟩ := x.out a ha
    refine ⟨fun z => h1 (Evl.fresh_back k z), h2⟩⟩
theorem EnO.gx (x : EnO P w CP CS CE S H e dx se d de po pl wn st U) (k : Gx d H H') (f : FoundOk P w H' d U') : EnO P w CP CS CE S H' e dx se d de po pl wn st U' :=
  ⟨k.ins x.fo x.ob, x.hse.gx k x.fo, x.hde.gx k x.fo, x.hpo.gx k x.fo, k.lst x.fo x.hpl, k.lst x.fo x.hwn, f, x.lw, fun a ha => by
    obtain ⟨h1, h2⟩ := x.out a ha
    refine ⟨fun z => ?_, h2⟩
    have := k.free f z
    exact h1 this⟩
theorem EnO.kp_ex (x : EnO P w CP CS CE S H e dx se d de po pl wn st U) (k : Evl.Ex H H') : Kp S H H' := Kp.ex (fun a ha => (x.out a ha).1) k
theorem EnO.kp_gx (x : EnO P w CP CS CE S H e dx se d de po pl wn st U) (k : Gx d H H') : Kp S H H' := fun a ha => by
  obtain ⟨h1, _, h2, _⟩ := x.out a ha
  cases q : H a with
  | none => exact absurd q h1
  | some o => exact k a o h2 q
theorem EnO.sub (x : EnO P w CP CS CE S H e dx se d de po pl wn st U) (h : ∀ a, S' a → S a) : EnO P w CP CS CE S' H e dx se d de po pl wn st U :=
  ⟨x.ob, x.hse, x.hde, x.hpo, x.hpl, x.hwn, x.fo, x.lw, fun a ha => x.out a (h a ha)⟩
/-- one new object more is none of its own -/
theorem EnO.more {n : Addr} {o : HO} (x : EnO P w CP CS CE S H e dx se d de po pl wn st U) (hn : H n = none) (k : Evl.Ex H H') (ho : H' n = some o) : EnO P w CP CS CE (fun a => S a ∨ a = n) H' e dx se d de po pl wn st U := by
  have y := x.ex k
  obtain ⟨φ, z⟩ := x.fo.dx
  refine ⟨y.ob, y.hse, y.hde, y.hpo, y.hpl, y.hwn, y.fo, y.lw, fun a ha => ?_⟩
  rcases ha with ha | ha
  · exact y.out a ha
  · subst ha
    exact ⟨(by rw [ho]; intro z; cases z), Ne.symm (ne_of_none x.ob hn), Ne.symm (ne_of_none z hn), Ne.symm (ne_of_none x.hpl hn), Ne.symm (ne_of_none x.hwn hn)⟩
/-- a list that is none of its own is written -/
theorem EnO.other {t : Addr} {xs ys : List V} (x : EnO P w CP CS CE S H e dx se d de po pl wn st U) (ht : S t) (hl : H t = some (.lst xs)) : EnO P w CP CS CE S (upd H t (.lst ys)) e dx se d de po pl wn st U := by
  obtain ⟨h1, h2, h3, h4, h5⟩ := x.out t ht
  refine ⟨by rw [upd_ne (Ne.symm h2)]; exact x.ob, x.hse.updL hl, x.hde.updL hl, x.hpo.updL hl, by rw [upd_ne (Ne.symm h4)]; exact x.hpl, by rw [upd_ne (Ne.symm h5)]; exact x.hwn, x.fo.upd_new (H0 := H) hl, x.lw, fun a ha => ?_⟩
  obtain ⟨k1, k2⟩ := x.out a ha
  refine ⟨?_, k2⟩
  by_cases z : a = t
  · subst z; rw [upd_same]; intro z; cases z
  · rw [upd_ne z]; exact k1

theorem behind_snd (q : Vbbraf.Pos) (c : Nat) : (Vbbraf.behind q c).2 = if (Vbbraf.behind q c).1.trick.length = 0 then some (Vbbraf.behind q c).1.leader else none := by
  by_cases h : q.trick.length + 1 = 4
  · rw [Lm.behind_whole h]
    rfl
  · rw [Lm.behind_part h]
    show none = if (q.trick ++ [c]).length = 0 then some q.leader else none
    rw [if_neg (by rw [List.length_append]; simp)]
theorem played_eq (st : Vbbraf.State) (c : Nat) : Vbbraf.playedBy st c = if (Vbbraf.behind st.now c).1.trick.length = 0
    then ⟨st.first, st.played ++ [c], (Vbbraf.behind st.now c).1, st.won + (if (Vbbraf.behind st.now c).1.leader % 2 = 0 then 1 else 0), st.lost + (Vbbraf.behind st.now c).1.leader % 2⟩
    else ⟨st.first, st.played ++ [c], (Vbbraf.behind st.now c).1, st.won, st.lost⟩ := by
  unfold Vbbraf.playedBy
  simp only [behind_snd]
  split <;> rfl
/-- the ending's own lists and itself may change -/
theorem EnO.next {de' po' pl' wn' : Addr} {st' : Vbbraf.State} (x : EnO P w CP CS CE S H e dx se d de po pl wn st U) (k : ∀ a o, a ≠ e → a ≠ pl → a ≠ wn → H a = some o → H' a = some o)
    (he : H' e = some (.ins CE dx (enF se de' po' pl' wn'))) (h1 : PosAt CP H' de' st'.first) (h2 : PosAt CP H' po' st'.now) (h3 : H' pl' = some (.lst (ivs st'.played))) (h4 : H' wn' = some (.lst (ivs [st'.won, st'.lost])))
    (n1 : pl' = pl ∨ H pl' = none) (n2 : wn' = wn ∨ H wn' = none) (lw : pl' ≠ wn') : EnO P w CP CS CE S H' e dx se d de' po' pl' wn' st' U ∧ Kp S H H' := by
  obtain ⟨φ, hd⟩ := x.fo.dx
  have kt : ∀ a xs, H a = some (.tup xs) → H' a = some (.tup xs) := fun a xs h => k a _ (ne_of h x.ob (fun z => nomatch z)) (ne_of h x.hpl (fun z => nomatch z)) (ne_of h x.hwn (fun z => nomatch z)) h
  have kp : Kp S H H' := fun a ha => by
    obtain ⟨q1, q2, q3, q4, q5⟩ := x.out a ha
    cases q : H a with
    | none => exact absurd q q1
    | some o => exact k a o q2 q4 q5 q
  refine ⟨⟨he, ?_, h1, h2, h3, h4, ?_, lw, fun a ha => ?_⟩, kp⟩
  · obtain ⟨sx, hs⟩ := x.hse
    refine ⟨sx, k _ _ (ne_of hs x.ob ?_) (ne_of hs x.hpl (fun z => nomatch z)) (ne_of hs x.hwn (fun z => nomatch z)) hs⟩
    intro z
    injection z with _ _ z
    unfold seF enF at z
    injection z with _ z
    cases z
  · obtain ⟨f1, xs, f2, f3, f4⟩ := x.fo
    exact ⟨f1, xs, k _ _ (ne_of f2 x.ob (fun z => nomatch z)) (ne_of f2 x.hpl (fun z => nomatch z)) (ne_of f2 x.hwn (fun z => nomatch z)) f2, f3, fun y hy => (f4 y hy).mono kt fun _ h => h⟩
  · obtain ⟨q1, q2, q3, q4, q5⟩ := x.out a ha
    refine ⟨by rw [kp a ha]; exact q1, q2, q3, ?_, ?_⟩
    · rcases n1 with n1 | n1
      · rw [n1]; exact q4
      · intro z; rw [z] at q1; exact q1 n1
    · rcases n2 with n2 | n2
      · rw [n2]; exact q5
      · intro z; rw [z] at q1; exact q1 n2
/-- what an answer is: a new list, behind it the ending is the state told -/
def Ans (P : Program) (w : World) (CP CS CE : Addr) (S : Addr → Prop) (H : Hp) (e : Addr) (Q : VK) (r : Vbbraf.State × List Int) (U : List PK3) : Prop :=
  ∀ p H', ¬ S p → EnAt P w CP CS CE S H' e r.1 U → Kp S H H' → H' p = some (.lst (zs r.2)) → Q (.ref p) H'
theorem EnAt.ex (x : EnAt P w CP CS CE S H e st U) (k : Evl.Ex H H') : EnAt P w CP CS CE S H' e st U ∧ Kp S H H' := by
  obtain ⟨r, dx, se, d, de, po, pl, wn, x⟩ := x
  exact ⟨⟨r, dx, se, d, de, po, pl, wn, x.ex k⟩, x.kp_ex k⟩
theorem EnAt.sub (x : EnAt P w CP CS CE S H e st U) (h : ∀ a, S' a → S a) : EnAt P w CP CS CE S' H e st U := by
  obtain ⟨r, dx, se, d, de, po, pl, wn, x⟩ := x
  exact ⟨r, dx, se, d, de, po, pl, wn, x.sub h⟩
theorem EnAt.more {n : Addr} {o : HO} (x : EnAt P w CP CS CE S H e st U) (hn : H n = none) (k : Evl.Ex H H') (ho : H' n = some o) : EnAt P w CP CS CE (fun a => S a ∨ a = n) H' e st U := by
  obtain ⟨r, dx, se, d, de, po, pl, wn, x⟩ := x
  exact ⟨r, dx, se, d, de, po, pl, wn, x.more hn k ho⟩
theorem EnAt.other {t : Addr} {xs ys : List V} (x : EnAt P w CP CS CE S H e st U) (ht : S t) (hl : H t = some (.lst xs)) : EnAt P w CP CS CE S (upd H t (.lst ys)) e st U := by
  obtain ⟨r, dx, se, d, de, po, pl, wn, x⟩ := x
  exact ⟨r, dx, se, d, de, po, pl, wn, x.other ht hl⟩
theorem EnAt.there (x : EnAt P w CP CS CE S H e st U) {a : Addr} (ha : S a) : H a ≠ none := by
  obtain ⟨r, dx, se, d, de, po, pl, wn, x⟩ := x
  exact (x.out a ha).1
/-- an answer that leaves the ending as it was -/
theorem Ans.same {Q : VK} {l : List Int} (x : EnAt P w CP CS CE S H e st U) (k : Ans P w CP CS CE S H e Q (st, l) U) : ∀ p H', H p = none → Evl.Ex H H' → H' p = some (.lst (zs l)) → Q (.ref p) H' := fun p H' hp hx hl => by
  obtain ⟨x', kp⟩ := x.ex hx
  exact k p H' (fun z => x.there z hp) x' kp hl
theorem ivs_zs (l : List Nat) : ivs l = zs (l.map fun (n : Nat) => (n : Int)) := ivs_ints l
theorem yes_zs (st : Vbbraf.State) (l : List Nat) : zs (Vbbraf.yes st l).2 = ivs (0 :: l) := by
  show zs ((0 : Int) :: l.map fun (n : Nat) => (n : Int)) = _
  rw [ivs_zs]
  rfl

theorem zs_yes (l : List Nat) : zs ((0 : Int) :: l.map fun (n : Nat) => (n : Int)) = ivs (0 :: l) := by
  rw [ivs_zs]
  rfl
def sp_begin (CE : Addr) : Sp := fun vs H Q _ => ∃ e q dx se fs, vs = [.ref e, .ref q] ∧ H e = some (.ins CE dx fs) ∧ (fs = ([("search", V.ref se)] : List (Str × V)) ∨ ∃ de po pl wn, fs = enF se de po pl wn) ∧
  ∀ l n H', H l = none → H n = none → l ≠ n → H' e = some (.ins CE dx (enF se q q l n)) → H' l = some (.lst []) → H' n = some (.lst (ivs [0, 0])) → (∀ a o, a ≠ e → H a = some o → H' a = some o) → Q .non H'
theorem ok_begin (T : EnT K CE) (D : DefM K CE "begin" "Ending.begin" (inClass c_Ending 1) ["self", "position"]) : CalM P w K mg base 1 CE "begin" (sp_begin CE) := by
  have sc : FnScope ["self", "position"] ["self", "position"] (defScope (inClass c_Ending 1)) := ⟨rfl, rfl, rfl, by decide +kernel, rfl, by decide +kernel, by decide +kernel⟩
  refine D.cal sc (by rintro _ _ _ _ ⟨_, _, _, _, _, rfl, _⟩; rfl) fun f cdv A outer s H vs Q E hr h => ?_
  obtain ⟨e, q, dx, se, fs, rfl, he, hfs, k⟩ := h
  refine ⟨_, pss_cons (ps_fld (pv 0) (pv 1) rfl) (pss_cons (ps_fld (pv 0) (pv 1) rfl) (pss_cons (ps_fld (pv 0) (pe_lst pa_nil) rfl) (pss_one (ps_fld (pv 0) (pe_lst (pa_cons pe_int (pa_cons pe_int pa_nil))) rfl)))), ?_⟩
  have small : fs.length ≤ 10 := by
    rcases hfs with e | ⟨de, po, pl, wn, e⟩
    · rw [e]; show 1 ≤ 10; decide
    · rw [e]; show 5 ≤ 10; decide
  have pl1 : ∀ (f : Str) (v : V) (l : List (Str × V)), (putF f v l).length ≤ l.length + 1 := by
    intro f v l
    induction l with
    | nil => exact Nat.le_refl _
    | cons a r ih =>
      obtain ⟨g, x⟩ := a
      by_cases z : g = f
      · rw [show putF f v ((g, x) :: r) = (g, v) :: r from if_pos z, List.length_cons, List.length_cons]
        omega
      · rw [show putF f v ((g, x) :: r) = (g, x) :: putF f v r from if_neg z, List.length_cons, List.length_cons]
        omega
  have b1 := pl1 "dealt" (.ref q) fs
  have b2 := pl1 "position" (.ref q) (putF "dealt" (.ref q) fs)
  refine ⟨_, rfl, _, rfl, e, CE, dx, _, rfl, he, T.cl, T.nD, (by omega), ?_⟩
  refine ⟨_, rfl, _, rfl, e, CE, dx, _, rfl, upd_same, T.cl, T.nP, (by omega), ?_⟩
  refine ⟨Nat.zero_le _, fun l hl => ?_⟩
  rw [upd_upd] at hl ⊢
  have hl0 : H l = none := by
    cases z : H l with
    | none => rfl
    | some o =>
      by_cases y : l = e
      · subst y; rw [upd_same] at hl; cases hl
      · rw [upd_ne y, z] at hl; cases hl
  have nle : e ≠ l := ne_of_none he hl0
  have b3 := pl1 "played" (.ref l) (putF "position" (.ref q) (putF "dealt" (.ref q) fs))
  refine ⟨_, rfl, e, CE, dx, _, rfl, by rw [upd_ne nle]; exact upd_same, T.cl, T.nL, (by omega), ?_⟩
  refine ⟨(by show 2 ≤ sizeLine; decide), fun n hn => ?_⟩
  have hn0 : H n = none ∧ n ≠ l ∧ n ≠ e := by
    by_cases y : n = e
    · subst y; rw [upd_same] at hn; cases hn
    · rw [upd_ne y] at hn
      by_cases y2 : n = l
      · subst y2; rw [upd_same] at hn; cases hn
      · rw [upd_ne y2, upd_ne y] at hn
        exact ⟨hn, y2, y⟩
  refine ⟨_, rfl, e, CE, dx, _, rfl, by rw [upd_ne (Ne.symm hn0.2.2)]; exact upd_same, T.cl, T.nW, (by omega), ?_⟩
  refine k l n _ hl0 hn0.1 (Ne.symm hn0.2.1) ?_ ?_ ?_ ?_
  · rw [upd_same]
    rcases hfs with z | ⟨de, po, pl, wn, z⟩
    · rw [z, ef_begin0]
    · rw [z, ef_begin]
  · rw [upd_ne (Ne.symm nle), upd_ne (Ne.symm hn0.2.1), upd_ne (Ne.symm nle)]
    exact upd_same
  · rw [upd_ne hn0.2.2]
    exact upd_same
  · intro a o ha ho
    rw [upd_ne ha, upd_ne (ne_of_none ho hn0.1), upd_ne ha, upd_ne (ne_of_none ho hl0), upd_ne ha]
    exact ho
end
end Lx

/-! held.py: the ending's methods -/
namespace Lx
open PySem PySem.Spec PyProof.Rows L2
/-- what the ending's methods may call -/
structure EnCal (P : Program) (w : World) (K : PySem.W.Frag) (mg : Str → Option Value) (base : Heap) (CP CS CE : Addr) : Prop where
  sc : SeCal P w K mg base CP CS
  te : EnT K CE
  hand : CalM P w K mg base 3 CP "hand_on_turn" (sp_hand_on_turn CP)
  pos : CalC P w K mg base 1 CP "Position" (sp_pos_init CP)
  sea : CalC P w K mg base 1 CS "Search" (sp_se_init P w CS)
  val : CalM P w K mg base 60 CS "value" (sp_value P w CP CS 17)
  vby : CalM P w K mg base 60 CS "value_by" (sp_value_by P w CP CS 16)
  lin : CalM P w K mg base 60 CS "line" (sp_line P w CP CS)
  beg : CalM P w K mg base 1 CE "begin" (sp_begin CE)
  oor : CalF P w K mg base 1 "out_of_range" (sp_no 1)
  hnr : CalF P w K mg base 1 "hands_not_right" (sp_no 2)
  noc : CalF P w K mg base 1 "no_cards" (sp_no 3)
  cnt : CalF P w K mg base 1 "card_not_there" (sp_no 4)
  muf : CalF P w K mg base 1 "must_follow" (sp_no 5)
  inr : CalF P w K mg base 1 "in_range" sp_in_range
  rir : CalF P w K mg base 2 "row_in_range" sp_row_in_range
  har : CalF P w K mg base 1 "hands_are_right" sp_hands_right
  cnd : CalF P w K mg base 1 "counted" sp_counted
  acd : CalF P w K mg base 2 "all_counted" sp_all_counted
  lft : CalM P w K mg base 1 CP "cards_left" (sp_cards_left CP)
  tlf : CalM P w K mg base 2 CP "tricks_left" (sp_tricks_left CP)
  sen : CalM P w K mg base 1 CP "seen" (sp_seen CP)
  hwi : CalM P w K mg base 1 CP "hand_with" (sp_hand_with CP)
  may : CalF P w K mg base 5 "may_be_played" (sp_may CP)
  acc : CalF P w K mg base 60 "account_of" (sp_acc P w CP CS)
  ali : CalF P w K mg base 2 "alike_in" sp_alike_in
  sqr : CalF P w K mg base 3 "squeezed_row" sp_squeezed_row
  mnp : CalF P w K mg base 1 "may_not_be_played" (sp_no 6)
  nft : CalF P w K mg base 1 "not_for_a_table" (sp_no 7)
theorem en_ne_pos {CE CP dx dx' se de po pl wn h tr : Addr} {t l : Nat} : HO.ins CE dx (enF se de po pl wn) ≠ HO.ins CP dx' (posF h t l tr) := fun z => by
  injection z with _ _ z
  have e := congrArg List.length z
  exact absurd e (by show ¬ (5 = 4); decide)
theorem PosAt.updE {C CE : Addr} {H : Hp} {p e dx se de po pl wn : Addr} {q : Vbbraf.Pos} {o : HO} (x : PosAt C H p q) (he : H e = some (.ins CE dx (enF se de po pl wn))) : PosAt C (upd H e o) p q := by
  obtain ⟨pdx, h, tr, h1, h2, h3⟩ := x
  have kt : ∀ a ys, H a = some (.tup ys) → upd H e o a = some (.tup ys) := fun a ys z => by
    rw [upd_ne (ne_of z he (fun z => nomatch z))]
    exact z
  refine ⟨pdx, h, tr, ?_, h2.mono kt, kt _ _ h3⟩
  rw [upd_ne (Ne.symm (ne_of he h1 en_ne_pos))]
  exact h1
section
variable {P : Program} {w : World} {K : PySem.W.Frag} {mg : Str → Option Value} {base : Heap} {CP CS CE : Addr}
def sp_step (P : Program) (w : World) (CP CS CE : Addr) : Sp := fun vs H Q _ => ∃ S e c st U, vs = [.ref e, iv c] ∧ EnAt P w CP CS CE S H e st U ∧ c ∈ Vbbraf.legal st.now ∧ ∀ H', EnAt P w CP CS CE S H' e (Vbbraf.playedBy st c) U → Kp S H H' → Q .non H'
theorem ok_step (G : EnCal P w K mg base CP CS CE) (D : DefM K CE "step" "Ending.step" (inClass c_Ending 2) ["self", "card"]) : CalM P w K mg base 5 CE "step" (sp_step P w CP CS CE) := by
  have sc : FnScope ["self", "card", "winner"] ["self", "card"] (defScope (inClass c_Ending 2)) := ⟨rfl, rfl, rfl, by decide +kernel, rfl, by decide +kernel, by decide +kernel⟩
  refine D.cal sc (by rintro _ _ _ _ ⟨_, _, _, _, _, rfl, _⟩; rfl) fun f cdv A outer s H vs Q E hr h => ?_
  obtain ⟨S, e, c, st, U, rfl, ⟨rch, dx, se, d, de, po, pl, wn, x⟩, hc, k⟩ := h
  refine ⟨_, pss_cons (ps_fld (pv 0) (pe_cm G.sc.beh G.sc.tp.cl hr (Nat.le_refl _) (pe_fld (pv 0) rfl) (pa_cons (pv 1) pa_nil)) rfl)
    (pss_cons (ps_expr (pe_bm PySem.F.plainAttrs_list PySem.F.slot_list_append PySem.F.type_list_append mt_append (pe_fld (pv 0) rfl) (pa_cons (pv 1) pa_nil)))
    (pss_cons (ps_set (i := 2) sc.nd rfl (.inl rfl) (pe_cm0 G.sc.wb G.sc.tp.cl hr (by decide) (pe_fld (pv 0) rfl)))
    (pss_one (ps_if (pt_cmpR op_notN (pv 2) pe_non (nomark _)) (pss_one (ps_augS (pe_fld (pv 0) rfl) (pe_cf G.sc.side hr (by decide) (by rfl) (pa_cons (pv 2) pa_nil)) get_list pe_int ip_add set_list)) pss_nil)))), ?_⟩
  obtain ⟨gd1, gd2, gd3, gd4, gd5⟩ := rch.good
  have gd : Gd st.now := ⟨gd1, rch.le⟩
  have rch' := Lm.Reach.play rch hc
  obtain ⟨pdx, h, tr, p1, p2, p3⟩ := id x.hpo
  refine ⟨_, rfl, e, CE, dx, _, _, rfl, x.ob, G.te.cl, G.te.nP, ef_position _ _ _ _ _, po, pdx, _, rfl, p1, pf_none _ _ _ _ (by decide +kernel) (by decide +kernel) (by decide +kernel) (by decide +kernel), _, rfl, po, _, c, rfl, x.hpo, gd, fun b H1 e1 hb => ?_⟩
  have x1 := x.ex e1
  refine ⟨_, rfl, e, CE, dx, _, rfl, x1.ob, G.te.cl, G.te.nP, (by show 5 < 1000; decide), ?_⟩
  rw [ef_put_po]
  have hb2 : PosAt CP (upd H1 e (.ins CE dx (enF se de b pl wn))) b (Vbbraf.behind st.now c).1 := hb.updE x1.ob
  have hd2 : PosAt CP (upd H1 e (.ins CE dx (enF se de b pl wn))) de st.first := x1.hde.updE x1.ob
  have nep : pl ≠ e := ne_of x1.hpl x1.ob (fun z => nomatch z)
  have new : wn ≠ e := ne_of x1.hwn x1.ob (fun z => nomatch z)
  have hpl2 : (upd H1 e (.ins CE dx (enF se de b pl wn))) pl = some (.lst (ivs st.played)) := by rw [upd_ne nep]; exact x1.hpl
  have hwn2 : (upd H1 e (.ins CE dx (enF se de b pl wn))) wn = some (.lst (ivs [st.won, st.lost])) := by rw [upd_ne new]; exact x1.hwn
  have he2 : (upd H1 e (.ins CE dx (enF se de b pl wn))) e = some (.ins CE dx (enF se de b pl wn)) := upd_same
  have k2 : ∀ a o, a ≠ e → H a = some o → (upd H1 e (.ins CE dx (enF se de b pl wn))) a = some o := fun a o n z => by rw [upd_ne n]; exact e1 _ _ z
  generalize upd H1 e (.ins CE dx (enF se de b pl wn)) = H2 at *
  refine ⟨_, rfl, e, CE, dx, _, _, rfl, he2, G.te.cl, G.te.nL, ef_played _ _ _ _ _, .inl ⟨rfl, _, SqL.of hpl2⟩, _, rfl, pl, _, iv c, rfl, rfl, hpl2, Evl.sz_lt (by rw [ivs_len]; omega), ?_⟩
  have hb3 : PosAt CP (upd H2 pl (.lst (ivs st.played ++ [iv c]))) b (Vbbraf.behind st.now c).1 := hb2.updL hpl2
  have hd3 : PosAt CP (upd H2 pl (.lst (ivs st.played ++ [iv c]))) de st.first := hd2.updL hpl2
  have he3 : (upd H2 pl (.lst (ivs st.played ++ [iv c]))) e = some (.ins CE dx (enF se de b pl wn)) := by rw [upd_ne (Ne.symm nep)]; exact he2
  have hwn3 : (upd H2 pl (.lst (ivs st.played ++ [iv c]))) wn = some (.lst (ivs [st.won, st.lost])) := by rw [upd_ne (Ne.symm x.lw)]; exact hwn2
  have hpl3 : (upd H2 pl (.lst (ivs st.played ++ [iv c]))) pl = some (.lst (ivs (st.played ++ [c]))) := by
    rw [upd_same]
    unfold ivs
    rw [List.map_append]
    rfl
  have k3 : ∀ a o, a ≠ e → a ≠ pl → H a = some o → (upd H2 pl (.lst (ivs st.played ++ [iv c]))) a = some o := fun a o n n2 z => by rw [upd_ne n2]; exact k2 _ _ n z
  generalize upd H2 pl (.lst (ivs st.played ++ [iv c])) = H3 at *
  obtain ⟨bdx, bh, btr, q1, q2, q3⟩ := id hb3
  refine ⟨_, rfl, e, CE, dx, _, _, rfl, he3, G.te.cl, G.te.nP, ef_position _ _ _ _ _, b, bdx, _, rfl, q1, pf_none _ _ _ _ (by decide +kernel) (by decide +kernel) (by decide +kernel) (by decide +kernel), b, _, rfl, hb3, ?_⟩
  have fin : ∀ H4 wn0 ls0, (∀ a o, a ≠ e → a ≠ pl → a ≠ wn → H a = some o → H4 a = some o) → H4 e = some (.ins CE dx (enF se de b pl wn)) → PosAt CP H4 de st.first → PosAt CP H4 b (Vbbraf.behind st.now c).1 → H4 pl = some (.lst (ivs (st.played ++ [c]))) →
      H4 wn = some (.lst (ivs [wn0, ls0])) → Vbbraf.playedBy st c = ⟨st.first, st.played ++ [c], (Vbbraf.behind st.now c).1, wn0, ls0⟩ → Q .non H4 := fun H4 wn0 ls0 k4 a1 a2 a3 a4 a5 a6 => by
    rw [a6] at k rch'
    obtain ⟨y, kp⟩ := x.next (st' := ⟨st.first, st.played ++ [c], (Vbbraf.behind st.now c).1, wn0, ls0⟩) k4 a1 a2 a3 a4 a5 (.inl rfl) (.inl rfl) x.lw
    exact k H4 ⟨rch', _, _, _, _, _, _, _, y⟩ kp
  have pe := played_eq st c
  by_cases hw : (Vbbraf.behind st.now c).1.trick.length = 0
  · rw [if_pos hw]
    rw [if_pos hw] at pe
    refine ⟨_, rfl, rfl, _, rfl, iteB (fun _ => ?_) fun cc => (by cases cc)⟩
    refine ⟨_, rfl, e, CE, dx, _, _, rfl, he3, G.te.cl, G.te.nW, ef_won _ _ _ _ _, _, rfl, _, rfl, ?_⟩
    generalize (Vbbraf.behind st.now c).1.leader = L at *
    have h2 : L % 2 = 0 ∨ L % 2 = 1 := by omega
    rcases h2 with h2 | h2
    · rw [h2]
      rw [h2] at pe
      refine ⟨wn, _, 0, iv st.won, rfl, rfl, SqL.of hwn3, rfl, _, _, rfl, rfl, wn, _, _, 0, rfl, rfl, hwn3, Evl.ixN_nat (by show 0 < 2; decide), ?_⟩
      refine fin _ (st.won + 1) st.lost (fun a o n1 n2 n3 z => by rw [upd_ne n3]; exact k3 _ _ n1 n2 z) (by rw [upd_ne (Ne.symm new)]; exact he3) (hd3.updL hwn3) (hb3.updL hwn3) (by rw [upd_ne x.lw]; exact hpl3) ?_ pe
      rw [upd_same]
      have e2 : iv (st.won + 1) = V.int ((st.won : Int) + 1) := by unfold iv; congr 1
      show some (HO.lst [V.int ((st.won : Int) + 1), iv st.lost]) = some (HO.lst [iv (st.won + 1), iv st.lost])
      rw [e2]
    · rw [h2]
      rw [h2] at pe
      refine ⟨wn, _, 1, iv st.lost, rfl, rfl, SqL.of hwn3, rfl, _, _, rfl, rfl, wn, _, _, 1, rfl, rfl, hwn3, Evl.ixN_nat (by show 1 < 2; decide), ?_⟩
      refine fin _ st.won (st.lost + 1) (fun a o n1 n2 n3 z => by rw [upd_ne n3]; exact k3 _ _ n1 n2 z) (by rw [upd_ne (Ne.symm new)]; exact he3) (hd3.updL hwn3) (hb3.updL hwn3) (by rw [upd_ne x.lw]; exact hpl3) ?_ pe
      rw [upd_same]
      have e2 : iv (st.lost + 1) = V.int ((st.lost : Int) + 1) := by unfold iv; congr 1
      show some (HO.lst [iv st.won, V.int ((st.lost : Int) + 1)]) = some (HO.lst [iv st.won, iv (st.lost + 1)])
      rw [e2]
  · rw [if_neg hw]
    rw [if_neg hw] at pe
    refine ⟨_, rfl, rfl, _, rfl, iteB (fun cc => (by cases cc)) fun _ => ?_⟩
    exact fin H3 _ _ (fun a o n1 n2 _ z => k3 _ _ n1 n2 z) he3 hd3 hb3 hpl3 hwn3 pe
end
end Lx

/-! held.py: the calls -/
namespace Lx
open PySem PySem.Spec PyProof.Rows L2
section
variable {P : Program} {w : World} {K : PySem.W.Frag} {mg : Str → Option Value} {base : Heap} {CP CS CE : Addr}
def sp_standing (P : Program) (w : World) (CP CS CE : Addr) : Sp := fun vs H Q _ => ∃ S e st U, vs = [.ref e] ∧ EnAt P w CP CS CE S H e st U ∧ ∀ p H', H p = none → Evl.Ex H H' → H' p = some (.lst (ivs [0, Vbbraf.turnOf st.now, st.won, st.lost])) → Q (.ref p) H'
theorem ok_standing (G : EnCal P w K mg base CP CS CE) (D : DefM K CE "standing" "Ending.standing" (inClass c_Ending 3) ["self"]) : CalM P w K mg base 3 CE "standing" (sp_standing P w CP CS CE) := by
  have sc : FnScope ["self"] ["self"] (defScope (inClass c_Ending 3)) := ⟨rfl, rfl, rfl, by decide +kernel, rfl, by decide +kernel, by decide +kernel⟩
  refine D.cal sc (by rintro _ _ _ _ ⟨_, _, _, _, rfl, _⟩; rfl) fun f cdv A outer s H vs Q E hr h => ?_
  obtain ⟨S, e, st, U, rfl, ⟨rch, dx, se, d, de, po, pl, wn, x⟩, k⟩ := h
  refine ⟨_, pss_one (ps_ret (pe_lst (pa_cons pe_int (pa_cons (pe_cm0 G.sc.turn G.sc.tp.cl hr (by decide) (pe_fld (pv 0) rfl)) (pa_cons (pe_ix ix_list (pe_fld (pv 0) rfl) pe_int (fun _ _ => rfl)) (pa_cons (pe_ix ix_list (pe_fld (pv 0) rfl) pe_int (fun _ _ => rfl)) pa_nil)))))), ?_⟩
  obtain ⟨pdx, h, tr, p1, p2, p3⟩ := id x.hpo
  refine ⟨_, rfl, e, CE, dx, _, _, rfl, x.ob, G.te.cl, G.te.nP, ef_position _ _ _ _ _, po, pdx, _, rfl, p1, pf_none _ _ _ _ (by decide +kernel) (by decide +kernel) (by decide +kernel) (by decide +kernel), po, _, rfl, x.hpo, ?_⟩
  refine ⟨_, rfl, e, CE, dx, _, _, rfl, x.ob, G.te.cl, G.te.nW, ef_won _ _ _ _ _, wn, _, _, iv st.won, rfl, rfl, SqL.of x.hwn, atI_nat (j := 0) (v := iv st.won) rfl, ?_⟩
  refine ⟨_, rfl, e, CE, dx, _, _, rfl, x.ob, G.te.cl, G.te.nW, ef_won _ _ _ _ _, wn, _, _, iv st.lost, rfl, rfl, SqL.of x.hwn, atI_nat (j := 1) (v := iv st.lost) rfl, ?_⟩
  exact ⟨(by show 4 ≤ sizeLine; decide), fun p hp => k p _ hp (Evl.Ex.new hp) upd_same⟩
/-- a refusal, told by its def -/
theorem no_ans {S : Addr → Prop} {H : Hp} {e : Addr} {st : Vbbraf.State} {U : List PK3} {Q : VK} {k : Nat} (x : EnAt P w CP CS CE S H e st U) (a : Ans P w CP CS CE S H e Q (Vbbraf.no st k) U) : ∀ E, sp_no k [] H Q E := fun E => ⟨rfl, fun p H' hp hx hl => Ans.same x a p H' hp hx hl⟩
theorem no_ans_ex {S : Addr → Prop} {H H1 : Hp} {e : Addr} {st : Vbbraf.State} {U : List PK3} {Q : VK} {k : Nat} (x : EnAt P w CP CS CE S H e st U) (e1 : Evl.Ex H H1) (a : Ans P w CP CS CE S H e Q (Vbbraf.no st k) U) : ∀ E, sp_no k [] H1 Q E := fun E => ⟨rfl, fun p H' hp hx hl => Ans.same x a p H' (Evl.fresh_back e1 hp) (e1.trans hx) hl⟩
theorem card_nat {z : Int} (h : Vbbraf.isCard z = true) : (V.int z) = iv z.toNat := by
  have := (Lm.card_range h).1
  unfold iv
  congr 1
  omega
def sp_play (P : Program) (w : World) (CP CS CE : Addr) : Sp := fun vs H Q _ => ∃ S e z st U, vs = [.ref e, .int z] ∧ EnAt P w CP CS CE S H e st U ∧ Ans P w CP CS CE S H e Q (Vbbraf.step st (.play z)) U
theorem ok_play (G : EnCal P w K mg base CP CS CE) (D : DefM K CE "play" "Ending.play" (inClass c_Ending 6) ["self", "card"]) (G1 : CalM P w K mg base 5 CE "step" (sp_step P w CP CS CE)) (G2 : CalM P w K mg base 3 CE "standing" (sp_standing P w CP CS CE)) :
    CalM P w K mg base 6 CE "play" (sp_play P w CP CS CE) := by
  have sc : FnScope ["self", "card"] ["self", "card"] (defScope (inClass c_Ending 6)) := ⟨rfl, rfl, rfl, by decide +kernel, rfl, by decide +kernel, by decide +kernel⟩
  refine D.cal sc (by rintro _ _ _ _ ⟨_, _, _, _, _, rfl, _⟩; rfl) fun f cdv A outer s H vs Q E hr h => ?_
  obtain ⟨S, e, z, st, U, rfl, ea, k⟩ := h
  obtain ⟨rch, dx, se, d, de, po, pl, wn, x⟩ := id ea
  refine ⟨_, pss_cons (ps_if (pt_not (pt_val (pe_cf G.inr hr (by decide) (by rfl) (pa_cons (pv 1) (pa_cons pe_int (pa_cons pe_int pa_nil)))))) (pss_one (ps_ret (pe_cf0 G.oor hr (by decide) (by rfl)))) pss_nil)
    (pss_cons (ps_if (pt_not (pt_val (pe_cm0 G.sc.has G.sc.tp.cl hr (by decide) (pe_fld (pv 0) rfl)))) (pss_one (ps_ret (pe_cf0 G.noc hr (by decide) (by rfl)))) pss_nil)
    (pss_cons (ps_if (pt_cmpR op_notIn_seq (pv 1) (pe_cm0 G.hand G.sc.tp.cl hr (by decide) (pe_fld (pv 0) rfl)) (by rfl)) (pss_one (ps_ret (pe_cf0 G.cnt hr (by decide) (by rfl)))) pss_nil)
    (pss_cons (ps_if (pt_cmpR op_notIn_seq (pv 1) (pe_cm0 G.sc.chs G.sc.tp.cl hr (by decide) (pe_fld (pv 0) rfl)) (by rfl)) (pss_one (ps_ret (pe_cf0 G.muf hr (by decide) (by rfl)))) pss_nil)
    (pss_cons (ps_expr (pe_cm G1 G.te.cl hr (by decide) (pv 0) (pa_cons (pv 1) pa_nil)))
    (pss_one (ps_ret (pe_cm0 G2 G.te.cl hr (by decide) (pv 0)))))))), ?_⟩
  have hs : Vbbraf.step st (.play z) = if Vbbraf.isCard z = false then Vbbraf.no st 1 else if Vbbraf.held st.now = 0 then Vbbraf.no st 3 else if (Vbbraf.handOf st.now (Vbbraf.turnOf st.now)).contains z.toNat = false then Vbbraf.no st 4
    else if (Vbbraf.legal st.now).contains z.toNat = false then Vbbraf.no st 5 else Vbbraf.yes (Vbbraf.playedBy st z.toNat) [Vbbraf.turnOf (Vbbraf.playedBy st z.toNat).now, (Vbbraf.playedBy st z.toNat).won, (Vbbraf.playedBy st z.toNat).lost] := rfl
  rw [hs] at k
  obtain ⟨gd1, gd2, gd3, gd4, gd5⟩ := rch.good
  have gd : Gd st.now := ⟨gd1, rch.le⟩
  refine ⟨_, rfl, z, 0, 51, rfl, _, rfl, iteB (fun cc => ?_) fun cc => ?_⟩
  · have c1 : Vbbraf.isCard z = false := by
      cases y : Vbbraf.within z 0 51 with
      | false => exact y
      | true => rw [y] at cc; cases cc
    rw [if_pos c1] at k
    exact no_ans ea k E0
  have c1 : Vbbraf.isCard z = true := by
    cases y : Vbbraf.within z 0 51 with
    | true => exact y
    | false => rw [y] at cc; cases cc
  rw [if_neg (by rw [c1]; decide)] at k
  obtain ⟨pdx, h, tr, p1, p2, p3⟩ := id x.hpo
  refine ⟨_, rfl, e, CE, dx, _, _, rfl, x.ob, G.te.cl, G.te.nP, ef_position _ _ _ _ _, po, pdx, _, rfl, p1, pf_none _ _ _ _ (by decide +kernel) (by decide +kernel) (by decide +kernel) (by decide +kernel), po, _, rfl, x.hpo, gd, fun H1 e1 => ⟨_, rfl, iteB (fun cc => ?_) fun cc => ?_⟩⟩
  · have c2 : Vbbraf.held st.now = 0 := by
      by_cases y : Vbbraf.held st.now = 0
      · exact y
      · rw [decide_eq_true (p := Vbbraf.held st.now ≠ 0) y] at cc; cases cc
    rw [if_pos c2] at k
    exact no_ans_ex ea e1 k E0
  have c2 : Vbbraf.held st.now ≠ 0 := by
    by_cases y : Vbbraf.held st.now = 0
    · rw [decide_eq_false (p := Vbbraf.held st.now ≠ 0) (fun n => n y)] at cc; cases cc
    · exact y
  rw [if_neg c2] at k
  have x1 := x.ex e1
  refine ⟨_, rfl, _, rfl, e, CE, dx, _, _, rfl, x1.ob, G.te.cl, G.te.nP, ef_position _ _ _ _ _, po, pdx, _, rfl, e1 _ _ p1, pf_none _ _ _ _ (by decide +kernel) (by decide +kernel) (by decide +kernel) (by decide +kernel), po, _, rfl, x1.hpo, gd, fun a ha => ?_⟩
  refine ⟨a, _, rfl, .inr (SqT.of ha), rfl, flat_ivs _, _, rfl, ?_⟩
  rw [card_nat c1, in_ivs]
  refine iteB (fun cc => ?_) fun cc => ?_
  · have c3 : (Vbbraf.handOf st.now (Vbbraf.turnOf st.now)).contains z.toNat = false := by
      cases y : (Vbbraf.handOf st.now (Vbbraf.turnOf st.now)).contains z.toNat with
      | false => rfl
      | true => rw [y] at cc; cases cc
    rw [if_pos c3] at k
    exact no_ans_ex ea e1 k E0
  have c3 : (Vbbraf.handOf st.now (Vbbraf.turnOf st.now)).contains z.toNat = true := by
    cases y : (Vbbraf.handOf st.now (Vbbraf.turnOf st.now)).contains z.toNat with
    | true => rfl
    | false => rw [y] at cc; cases cc
  rw [if_neg (by rw [c3]; decide)] at k
  refine ⟨_, rfl, _, rfl, e, CE, dx, _, _, rfl, x1.ob, G.te.cl, G.te.nP, ef_position _ _ _ _ _, po, pdx, _, rfl, e1 _ _ p1, pf_none _ _ _ _ (by decide +kernel) (by decide +kernel) (by decide +kernel) (by decide +kernel), po, _, rfl, x1.hpo, gd, fun b H2 hb e2 hl => ?_⟩
  have e02 := e1.trans e2
  have x2 := x.ex e02
  refine ⟨b, _, rfl, .inl (SqL.of hl), rfl, flat_ivs _, _, rfl, ?_⟩
  rw [in_ivs]
  refine iteB (fun cc => ?_) fun cc => ?_
  · have c4 : (Vbbraf.legal st.now).contains z.toNat = false := by
      cases y : (Vbbraf.legal st.now).contains z.toNat with
      | false => rfl
      | true => rw [y] at cc; cases cc
    rw [if_pos c4] at k
    exact no_ans_ex ea e02 k E0
  have c4 : (Vbbraf.legal st.now).contains z.toNat = true := by
    cases y : (Vbbraf.legal st.now).contains z.toNat with
    | true => rfl
    | false => rw [y] at cc; cases cc
  rw [if_neg (by rw [c4]; decide)] at k
  obtain ⟨ea2, kp2⟩ := ea.ex e02
  refine ⟨_, rfl, e, dx, _, rfl, x2.ob, ef_none _ _ _ _ _ (by decide +kernel) (by decide +kernel) (by decide +kernel) (by decide +kernel) (by decide +kernel), _, rfl, S, e, z.toNat, st, U, rfl, ea2, List.contains_iff_mem.mp c4, fun H3 ea3 kp3 => ?_⟩
  obtain ⟨rch3, dx3, se3, d3, de3, po3, pl3, wn3, x3⟩ := id ea3
  refine ⟨_, rfl, e, dx3, _, rfl, x3.ob, ef_none _ _ _ _ _ (by decide +kernel) (by decide +kernel) (by decide +kernel) (by decide +kernel) (by decide +kernel), S, e, _, U, rfl, ea3, fun p H4 hp e4 hl4 => ?_⟩
  obtain ⟨ea4, kp4⟩ := ea3.ex e4
  exact k p H4 (fun y => ea3.there y hp) ea4 ((kp2.trans kp3).trans kp4) (by rw [yes_zs]; exact hl4)

def sp_back (P : Program) (w : World) (CP CS CE : Addr) : Sp := fun vs H Q _ => ∃ S e st U, vs = [.ref e] ∧ EnAt P w CP CS CE S H e st U ∧ Ans P w CP CS CE S H e Q (Vbbraf.step st .back) U
theorem cut_last (l : List Nat) (h : l ≠ []) : cutV (ivs l) none (some (-1)) = ivs l.dropLast := by
  have hl : l.length ≠ 0 := fun z => h (List.eq_nil_of_length_eq_zero z)
  have e1 : HT.sIx (ivs l).length (ivs l).length (some (-1)) = l.length - 1 := by
    show (if (-1 : Int) < 0 then ((-1 : Int) + ((ivs l).length : Int)).toNat else min (-1 : Int).toNat (ivs l).length) = _
    rw [if_pos (by decide), ivs_len]
    omega
  unfold cutV
  rw [e1]
  show ((ivs l).drop 0).take (l.length - 1 - 0) = _
  rw [List.drop_zero, Nat.sub_zero, List.dropLast_eq_take]
  unfold ivs
  rw [List.map_take]
theorem ok_back (G : EnCal P w K mg base CP CS CE) (D : DefM K CE "back" "Ending.back" (inClass c_Ending 7) ["self"]) (G1 : CalM P w K mg base 5 CE "step" (sp_step P w CP CS CE)) (G2 : CalM P w K mg base 3 CE "standing" (sp_standing P w CP CS CE)) :
    CalM P w K mg base 6 CE "back" (sp_back P w CP CS CE) := by
  have sc : FnScope ["self", "kept", "card"] ["self"] (defScope (inClass c_Ending 7)) := ⟨rfl, rfl, rfl, by decide +kernel, rfl, by decide +kernel, by decide +kernel⟩
  refine D.cal sc (by rintro _ _ _ _ ⟨_, _, _, _, rfl, _⟩; rfl) fun f cdv A outer s H vs Q E hr h => ?_
  obtain ⟨S, e, st, U, rfl, ea, k⟩ := h
  obtain ⟨rch, dx, se, d, de, po, pl, wn, x⟩ := id ea
  refine ⟨_, pss_cons (ps_if (pt_cmpR op_eq (pe_callB call_len (by rfl) G.sc.bl.len PySem.boot_len (pa_cons (pe_fld (pv 0) rfl) pa_nil)) pe_int (nomark _)) (pss_one (ps_ret (pe_cf0 G.noc hr (by decide) (by rfl)))) pss_nil)
    (pss_cons (ps_set (i := 1) sc.nd rfl (.inl rfl) (pe_slice sl_list (pe_fld (pv 0) rfl) po_none (po_some (pe_un un_neg pe_int))))
    (pss_cons (ps_expr (pe_cm G.beg G.te.cl hr (by decide) (pv 0) (pa_cons (pe_fld (pv 0) rfl) pa_nil)))
    (pss_cons (ps_for PassesOwn.never rfl (pi_list (pv 1)) (pg_name (i := 2) sc.nd rfl (.inl rfl)) (pss_one (ps_expr (pe_cm G1 G.te.cl hr (by decide) (pv 0) (pa_cons (pv 2) pa_nil)))))
    (pss_one (ps_ret (pe_cm0 G2 G.te.cl hr (by decide) (pv 0))))))), ?_⟩
  have hs : Vbbraf.step st .back = if st.played.isEmpty = true then Vbbraf.no st 3 else Vbbraf.yes (st.played.dropLast.foldl Vbbraf.playedBy (Vbbraf.dealt st.first)) [Vbbraf.turnOf (st.played.dropLast.foldl Vbbraf.playedBy (Vbbraf.dealt st.first)).now, (st.played.dropLast.foldl Vbbraf.playedBy (Vbbraf.dealt st.first)).won, (st.played.dropLast.foldl Vbbraf.playedBy (Vbbraf.dealt st.first)).lost] := rfl
  rw [hs] at k
  refine ⟨_, rfl, e, CE, dx, _, _, rfl, x.ob, G.te.cl, G.te.nL, ef_played _ _ _ _ _, _, _, rfl, .inl ⟨_, SqL.of x.hpl, rfl⟩, rfl, _, rfl, iteB (fun cc => ?_) fun cc => ?_⟩
  · have c1 := len0_t cc
    rw [ivs_len] at c1
    have c2 := List.eq_nil_of_length_eq_zero c1
    rw [if_pos (by rw [c2]; rfl)] at k
    exact no_ans ea k E0
  have c1 := len0_f cc
  rw [ivs_len] at c1
  have c2 : st.played ≠ [] := fun z => c1 (by rw [z]; rfl)
  rw [if_neg (by intro z; exact c2 (List.isEmpty_iff.mp z))] at k
  refine ⟨_, rfl, e, CE, dx, _, _, rfl, x.ob, G.te.cl, G.te.nL, ef_played _ _ _ _ _, _, rfl, _, rfl, pl, _, rfl, SqL.of x.hpl, fun kl hkl => ?_⟩
  have hcut : (upd H kl (.lst (cutV (ivs st.played) none (some (-1))))) kl = some (.lst (ivs st.played.dropLast)) := by rw [upd_same, cut_last _ c2]
  have e1 : Evl.Ex H (upd H kl (.lst (cutV (ivs st.played) none (some (-1))))) := Evl.Ex.new hkl
  have xm := x.more hkl e1 upd_same
  have kp1 := x.kp_ex e1
  generalize upd H kl (.lst (cutV (ivs st.played) none (some (-1)))) = H1 at *
  refine ⟨_, rfl, e, dx, _, rfl, xm.ob, ef_none _ _ _ _ _ (by decide +kernel) (by decide +kernel) (by decide +kernel) (by decide +kernel) (by decide +kernel), _, rfl, e, CE, dx, _, _, rfl, xm.ob, G.te.cl, G.te.nD, ef_dealt _ _ _ _ _, e, de, dx, se, _, rfl, xm.ob, .inr ⟨_, _, _, _, rfl⟩, fun l n H2 hl hn lne he hll hnn kk => ?_⟩
  have rd := rch.dealt
  obtain ⟨y, kp2⟩ := xm.next (H' := H2) (st' := Vbbraf.dealt st.first) (fun a o n1 _ _ z => kk a o n1 z) he (by
      obtain ⟨pdx, hh, tr, p1, p2, p3⟩ := xm.hde
      exact ⟨pdx, hh, tr, kk _ _ (Ne.symm (ne_of xm.ob p1 en_ne_pos)) p1, p2.mono fun a xs z => kk a _ (ne_of z xm.ob (fun z => nomatch z)) z, kk _ _ (ne_of p3 xm.ob (fun z => nomatch z)) p3⟩) (by
      obtain ⟨pdx, hh, tr, p1, p2, p3⟩ := xm.hde
      exact ⟨pdx, hh, tr, kk _ _ (Ne.symm (ne_of xm.ob p1 en_ne_pos)) p1, p2.mono fun a xs z => kk a _ (ne_of z xm.ob (fun z => nomatch z)) z, kk _ _ (ne_of p3 xm.ob (fun z => nomatch z)) p3⟩) hll hnn (.inr hl) (.inr hn) lne
  have hkl2 : H2 kl = some (.lst (ivs st.played.dropLast)) := (kp2 kl (.inr rfl)).trans hcut
  have ea2 : EnAt P w CP CS CE (fun a => S a ∨ a = kl) H2 e (Vbbraf.dealt st.first) U := ⟨rd, _, _, _, _, _, _, _, y⟩
  refine ⟨_, rfl, kl, rfl, ⟨_, SqL.of hkl2⟩, for_list (xs := ivs st.played.dropLast) (fun i σ H' => ∃ v, σ = [some (.ref e), some (.ref kl), v] ∧ EnAt P w CP CS CE (fun a => S a ∨ a = kl) H' e ((st.played.dropLast.take i).foldl Vbbraf.playedBy (Vbbraf.dealt st.first)) U ∧ Kp (fun a => S a ∨ a = kl) H2 H')
    ⟨none, rfl, ea2, Kp.refl _ _⟩ (fun i σ H' _ ⟨_, _, _, kp⟩ => SqL.of ((kp kl (.inr rfl)).trans hkl2)) ?_ ?_⟩
  · rintro i z σ H' hi ⟨v, rfl, ea3, kp3⟩
    obtain ⟨c, hc, rfl⟩ := ivs_get hi
    have hil := (List.getElem?_eq_some_iff.mp hc).1
    rw [List.length_dropLast] at hil
    have hc2 : st.played[i]? = some c := by
      rw [List.getElem?_dropLast, if_pos (by omega)] at hc
      exact hc
    have ht : st.played.dropLast.take i = st.played.take i := by
      rw [List.dropLast_eq_take, List.take_take, Nat.min_eq_left (by omega)]
    obtain ⟨ch1, ch2⟩ := rch.chain i c hc2
    rw [← ht] at ch1
    obtain ⟨_, dx3, se3, d3, de3, po3, pl3, wn3, x3⟩ := id ea3
    refine ⟨_, rfl, e, dx3, _, rfl, x3.ob, ef_none _ _ _ _ _ (by decide +kernel) (by decide +kernel) (by decide +kernel) (by decide +kernel) (by decide +kernel), _, rfl, _, e, c, _, U, rfl, ea3, ch1, fun H4 ea4 kp4 => ?_⟩
    refine ⟨some (iv c), rfl, ?_, kp3.trans kp4⟩
    rw [take_more hc, List.foldl_append]
    exact ea4
  · rintro σ H' ⟨v, rfl, ea3, kp3⟩
    rw [ivs_len, List.take_length] at ea3
    obtain ⟨_, dx3, se3, d3, de3, po3, pl3, wn3, x3⟩ := id ea3
    refine ⟨_, rfl, e, dx3, _, rfl, x3.ob, ef_none _ _ _ _ _ (by decide +kernel) (by decide +kernel) (by decide +kernel) (by decide +kernel) (by decide +kernel), _, e, _, U, rfl, ea3, fun p H4 hp e4 hl4 => ?_⟩
    obtain ⟨ea4, kp4⟩ := ea3.ex e4
    refine k p H4 (fun y => ea3.there (.inl y) hp) (ea4.sub fun _ h => .inl h) ?_ (by rw [yes_zs]; exact hl4)
    exact ((kp1.trans (kp2.sub fun _ h => .inl h)).trans (kp3.sub fun _ h => .inl h)).trans (kp4.sub fun _ h => .inl h)
end
end Lx

/-! held.py: the calls that tell -/
namespace Lx
open PySem PySem.Spec PyProof.Rows L2
section
variable {P : Program} {w : World} {K : PySem.W.Frag} {mg : Str → Option Value} {base : Heap} {CP CS CE : Addr}
/-- the promise of a call without numbers -/
def sp_call0 (P : Program) (w : World) (CP CS CE : Addr) (c : Vbbraf.Call) : Sp := fun vs H Q _ => ∃ S e st U, vs = [.ref e] ∧ EnAt P w CP CS CE S H e st U ∧ Ans P w CP CS CE S H e Q (Vbbraf.step st c) U
theorem ok_turn (G : EnCal P w K mg base CP CS CE) (D : DefM K CE "turn" "Ending.turn" (inClass c_Ending 8) ["self"]) (G2 : CalM P w K mg base 3 CE "standing" (sp_standing P w CP CS CE)) :
    CalM P w K mg base 6 CE "turn" (sp_call0 P w CP CS CE .turn) := by
  have sc : FnScope ["self"] ["self"] (defScope (inClass c_Ending 8)) := ⟨rfl, rfl, rfl, by decide +kernel, rfl, by decide +kernel, by decide +kernel⟩
  refine D.cal sc (by rintro _ _ _ _ ⟨_, _, _, _, rfl, _⟩; rfl) fun f cdv A outer s H vs Q E hr h => ?_
  obtain ⟨S, e, st, U, rfl, ea, k⟩ := h
  obtain ⟨rch, dx, se, d, de, po, pl, wn, x⟩ := id ea
  refine ⟨_, pss_one (ps_ret (pe_op op_cat (pe_cm0 G2 G.te.cl hr (by decide) (pv 0)) (pe_cf G.cnd hr (by decide) (by rfl) (pa_cons (pe_cm0 G.sc.chs G.sc.tp.cl hr (by decide) (pe_fld (pv 0) rfl)) pa_nil)))), ?_⟩
  have hs : Vbbraf.step st .turn = Vbbraf.yes st (Vbbraf.turnOf st.now :: st.won :: st.lost :: Vbbraf.counted (Vbbraf.legal st.now)) := rfl
  rw [hs] at k
  obtain ⟨gd1, gd2, gd3, gd4, gd5⟩ := rch.good
  have gd : Gd st.now := ⟨gd1, rch.le⟩
  have lle := legal_len gd
  refine ⟨_, rfl, e, dx, _, rfl, x.ob, ef_none _ _ _ _ _ (by decide +kernel) (by decide +kernel) (by decide +kernel) (by decide +kernel) (by decide +kernel), _, e, _, U, rfl, ea, fun b H1 hb e1 hl1 => ?_⟩
  have x1 := x.ex e1
  obtain ⟨pdx, h, tr, p1, p2, p3⟩ := id x1.hpo
  refine ⟨_, rfl, e, CE, dx, _, _, rfl, x1.ob, G.te.cl, G.te.nP, ef_position _ _ _ _ _, po, pdx, _, rfl, p1, pf_none _ _ _ _ (by decide +kernel) (by decide +kernel) (by decide +kernel) (by decide +kernel), po, _, rfl, x1.hpo, gd, fun a H2 ha e2 hl2 => ?_⟩
  refine ⟨a, _, rfl, .inl hl2, by omega, fun c H3 hc e3 hl3 => ?_⟩
  refine ⟨b, c, _, _, rfl, rfl, (e2.trans e3) _ _ hl1, hl3, line16 (by rw [ivs_len, ivs_len]; show 4 + ((Vbbraf.legal st.now).length + 1) ≤ 1000; omega), fun r hr' => ?_⟩
  have e4 := Evl.Ex.new (o := .lst (ivs [0, Vbbraf.turnOf st.now, st.won, st.lost] ++ ivs (Vbbraf.counted (Vbbraf.legal st.now)))) hr'
  have e0 := (e1.trans e2).trans e3
  refine Ans.same ea k r _ (Evl.fresh_back e0 hr') (e0.trans e4) ?_
  rw [upd_same, zs_yes]
  rfl
/-- keys of U cover all that can be met from the position -/
def Covers (U : List PK3) (hands : List (List Nat)) : Prop := ∀ hs t l, Sub4 hs hands → t < 5 → l < 4 → (hs, t, l) ∈ U
theorem Covers.cov {U : List PK3} {q : Vbbraf.Pos} (c : Covers U q.hands) (h : q.trump < 5) : Cov U q := fun hs l h1 h2 => c hs q.trump l h1 h h2
/-- the promise of a call that searches: it may come to know values of U' -/
def sp_heavy0 (P : Program) (w : World) (CP CS CE : Addr) (c : Vbbraf.Call) : Sp := fun vs H Q _ => ∃ S e st U U', vs = [.ref e] ∧ EnAt P w CP CS CE S H e st U ∧ (∀ y ∈ U, y ∈ U') ∧ U'.length ≤ sizeLine ∧ Cov U' st.now ∧ Ans P w CP CS CE S H e Q (Vbbraf.step st c) U'
theorem EnO.se_of {S : Addr → Prop} {H : Hp} {e dx se d de po pl wn : Addr} {st : Vbbraf.State} {U U' : List PK3} (x : EnO P w CP CS CE S H e dx se d de po pl wn st U) (gd : Gd st.now) (hU : ∀ y ∈ U, y ∈ U') (hl : U'.length ≤ sizeLine) (hc : Cov U' st.now) :
    Se P w CP CS H se po d st.now U' := ⟨x.hse, x.hpo, gd, x.fo.mono (Evl.Ex.refl _) hU, hl, hc⟩
theorem ok_evalue (G : EnCal P w K mg base CP CS CE) (D : DefM K CE "value" "Ending.value" (inClass c_Ending 9) ["self"]) : CalM P w K mg base 61 CE "value" (sp_heavy0 P w CP CS CE .value) := by
  have sc : FnScope ["self"] ["self"] (defScope (inClass c_Ending 9)) := ⟨rfl, rfl, rfl, by decide +kernel, rfl, by decide +kernel, by decide +kernel⟩
  refine D.cal sc (by rintro _ _ _ _ ⟨_, _, _, _, _, rfl, _⟩; rfl) fun f cdv A outer s H vs Q E hr h => ?_
  obtain ⟨S, e, st, U, U', rfl, ea, hU, hl, hc, k⟩ := h
  obtain ⟨rch, dx, se, d, de, po, pl, wn, x⟩ := id ea
  refine ⟨_, pss_one (ps_ret (pe_lst (pa_cons pe_int (pa_cons (pe_cm G.val G.sc.ts.cl hr (Nat.le_refl _) (pe_fld (pv 0) rfl) (pa_cons (pe_fld (pv 0) rfl) pa_nil)) pa_nil)))), ?_⟩
  obtain ⟨gd1, gd2, gd3, gd4, gd5⟩ := rch.good
  have gd : Gd st.now := ⟨gd1, rch.le⟩
  have hle := gd.le
  have ss := x.se_of gd hU hl hc
  obtain ⟨sdx, hsx⟩ := id x.hse
  refine ⟨_, rfl, e, CE, dx, _, _, rfl, x.ob, G.te.cl, G.te.nS, ef_search _ _ _ _ _, se, sdx, _, rfl, hsx, sf_none _ (by decide +kernel), _, rfl, e, CE, dx, _, _, rfl, x.ob, G.te.cl, G.te.nP, ef_position _ _ _ _ _, se, po, d, _, U', rfl, ss, by omega, fun H1 g1 f1 => ?_⟩
  have x1 := x.gx g1 f1
  refine ⟨(by show 2 ≤ sizeLine; decide), fun p hp => ?_⟩
  have e2 := Evl.Ex.new (o := .lst [V.int 0, iv (Vbbraf.value st.now)]) hp
  refine k p _ (fun y => (x1.out p y).1 hp) ⟨rch, _, _, _, _, _, _, _, x1.ex e2⟩ ((x.kp_gx g1).trans (x1.kp_ex e2)) ?_
  exact upd_same
theorem ok_ecards (G : EnCal P w K mg base CP CS CE) (D : DefM K CE "cards" "Ending.cards" (inClass c_Ending 10) ["self"]) : CalM P w K mg base 61 CE "cards" (sp_heavy0 P w CP CS CE .cards) := by
  have sc : FnScope ["self", "cards", "answer", "card"] ["self"] (defScope (inClass c_Ending 10)) := ⟨rfl, rfl, rfl, by decide +kernel, rfl, by decide +kernel, by decide +kernel⟩
  refine D.cal sc (by rintro _ _ _ _ ⟨_, _, _, _, _, rfl, _⟩; rfl) fun f cdv A outer s H vs Q E hr h => ?_
  obtain ⟨S, e, st, U, U', rfl, ea, hU, hl, hc, k⟩ := h
  obtain ⟨rch, dx, se, d, de, po, pl, wn, x⟩ := id ea
  refine ⟨_, pss_cons (ps_set (i := 1) sc.nd rfl (.inl rfl) (pe_cm0 G.sc.chs G.sc.tp.cl hr (by decide) (pe_fld (pv 0) rfl)))
    (pss_cons (ps_set (i := 2) sc.nd rfl (.inl rfl) (pe_lst (pa_cons pe_int (pa_cons (pe_callB call_len (by rfl) G.sc.bl.len PySem.boot_len (pa_cons (pv 1) pa_nil)) pa_nil))))
    (pss_cons (ps_for PassesOwn.never rfl (pi_list (pv 1)) (pg_name (i := 3) sc.nd rfl (.inl rfl))
      (pss_cons (ps_expr (pe_bm PySem.F.plainAttrs_list PySem.F.slot_list_append PySem.F.type_list_append mt_append (pv 2) (pa_cons (pv 3) pa_nil)))
      (pss_one (ps_expr (pe_bm PySem.F.plainAttrs_list PySem.F.slot_list_append PySem.F.type_list_append mt_append (pv 2) (pa_cons (pe_cm G.vby G.sc.ts.cl hr (Nat.le_refl _) (pe_fld (pv 0) rfl) (pa_cons (pe_fld (pv 0) rfl) (pa_cons (pv 3) pa_nil))) pa_nil))))))
    (pss_one (ps_ret (pv 2))))), ?_⟩
  have hs : Vbbraf.step st .cards = Vbbraf.yes st ((Vbbraf.legal st.now).length :: (Vbbraf.legal st.now).flatMap fun c => [c, Vbbraf.valueBy st.now c]) := rfl
  rw [hs] at k
  obtain ⟨gd1, gd2, gd3, gd4, gd5⟩ := rch.good
  have gd : Gd st.now := ⟨gd1, rch.le⟩
  have hle := gd.le
  have lle := legal_len gd
  obtain ⟨pdx, h, tr, p1, p2, p3⟩ := id x.hpo
  refine ⟨_, rfl, e, CE, dx, _, _, rfl, x.ob, G.te.cl, G.te.nP, ef_position _ _ _ _ _, po, pdx, _, rfl, p1, pf_none _ _ _ _ (by decide +kernel) (by decide +kernel) (by decide +kernel) (by decide +kernel), po, _, rfl, x.hpo, gd, fun a H1 ha e1 hal => ?_⟩
  refine ⟨_, rfl, _, _, rfl, .inl ⟨_, SqL.of hal, rfl⟩, (by show 2 ≤ sizeLine; decide), fun b hb => ?_⟩
  have e2 : Evl.Ex H1 (upd H1 b (.lst [V.int 0, V.int ((ivs (Vbbraf.legal st.now)).length : Int)])) := Evl.Ex.new hb
  have hb2 : (upd H1 b (.lst [V.int 0, V.int ((ivs (Vbbraf.legal st.now)).length : Int)])) b = some (.lst (ivs [0, (Vbbraf.legal st.now).length])) := by rw [upd_same, ivs_len]; rfl
  generalize upd H1 b (.lst [V.int 0, V.int ((ivs (Vbbraf.legal st.now)).length : Int)]) = H2 at *
  have hbH : H b = none := Evl.fresh_back e1 hb
  have x2 := ((x.ex e1).more hb e2 hb2).gx (Gx.refl d H2) ((x.fo.ex (e1.trans e2)).mono (Evl.Ex.refl _) hU)
  have gb : Gx d H H2 := Gx.of (e1.trans e2)
  refine ⟨_, rfl, a, rfl, ⟨_, SqL.of (e2 _ _ hal)⟩, for_list (xs := ivs (Vbbraf.legal st.now)) (fun i σ H' => ∃ v, σ = [some (.ref e), some (.ref a), some (.ref b), v] ∧ Gx d H H' ∧ EnO P w CP CS CE (fun z => S z ∨ z = b) H' e dx se d de po pl wn st U' ∧ H' a = some (.lst (ivs (Vbbraf.legal st.now))) ∧
      H' b = some (.lst (ivs (0 :: (Vbbraf.legal st.now).length :: ((Vbbraf.legal st.now).take i).flatMap fun c => [c, Vbbraf.valueBy st.now c]))))
    ⟨none, rfl, gb, x2, e2 _ _ hal, hb2⟩ (fun i σ H' _ ⟨_, _, _, _, h, _⟩ => SqL.of h) ?_ ?_⟩
  · rintro i y σ H' hi ⟨v, rfl, g, x3, ha3, hb3⟩
    obtain ⟨c, hc', rfl⟩ := ivs_get hi
    have hil := (List.getElem?_eq_some_iff.mp hc').1
    have nab : a ≠ b := fun z => by rw [z, hb] at hal; cases hal
    have lf : ∀ l : List Nat, (l.flatMap fun c => [c, Vbbraf.valueBy st.now c]).length = 2 * l.length := fun l => by
      induction l with
      | nil => rfl
      | cons z r ih => rw [List.flatMap_cons, List.length_append, ih]; show 2 + 2 * r.length = 2 * (r.length + 1); omega
    have sz : (0 :: (Vbbraf.legal st.now).length :: ((Vbbraf.legal st.now).take i).flatMap fun c => [c, Vbbraf.valueBy st.now c]).length ≤ 40 := by
      rw [List.length_cons, List.length_cons, lf, List.length_take]
      omega
    refine ⟨_, rfl, .inl ⟨rfl, _, SqL.of hb3⟩, _, rfl, b, _, iv c, rfl, rfl, hb3, Evl.sz_lt (by rw [ivs_len]; omega), ?_⟩
    have x4 := x3.other (ys := ivs (0 :: (Vbbraf.legal st.now).length :: ((Vbbraf.legal st.now).take i).flatMap fun c => [c, Vbbraf.valueBy st.now c]) ++ [iv c]) (.inr rfl) hb3
    have g4 := g.upd_new (o := .lst (ivs (0 :: (Vbbraf.legal st.now).length :: ((Vbbraf.legal st.now).take i).flatMap fun c => [c, Vbbraf.valueBy st.now c]) ++ [iv c])) hbH
    have hb4 : (upd H' b (.lst (ivs (0 :: (Vbbraf.legal st.now).length :: ((Vbbraf.legal st.now).take i).flatMap fun c => [c, Vbbraf.valueBy st.now c]) ++ [iv c]))) b = some (.lst (ivs ((0 :: (Vbbraf.legal st.now).length :: ((Vbbraf.legal st.now).take i).flatMap fun c => [c, Vbbraf.valueBy st.now c]) ++ [c]))) := by
      rw [upd_same]
      unfold ivs
      rw [List.map_append]
      rfl
    have ha4 : (upd H' b (.lst (ivs (0 :: (Vbbraf.legal st.now).length :: ((Vbbraf.legal st.now).take i).flatMap fun c => [c, Vbbraf.valueBy st.now c]) ++ [iv c]))) a = some (.lst (ivs (Vbbraf.legal st.now))) := by
      rw [upd_ne nab]
      exact ha3
    generalize upd H' b (.lst (ivs (0 :: (Vbbraf.legal st.now).length :: ((Vbbraf.legal st.now).take i).flatMap fun c => [c, Vbbraf.valueBy st.now c]) ++ [iv c])) = H4 at *
    have ss := x4.se_of gd (fun _ h => h) hl hc
    obtain ⟨sdx, hsx⟩ := id x4.hse
    refine ⟨_, rfl, .inl ⟨rfl, _, SqL.of hb4⟩, _, rfl, e, CE, dx, _, _, rfl, x4.ob, G.te.cl, G.te.nS, ef_search _ _ _ _ _, se, sdx, _, rfl, hsx, sf_none _ (by decide +kernel), _, rfl, e, CE, dx, _, _, rfl, x4.ob, G.te.cl, G.te.nP, ef_position _ _ _ _ _, _, rfl, se, po, c, d, _, U', rfl, ss, List.mem_of_getElem? hc', by omega, fun H5 g5 f5 => ?_⟩
    have hb5 := g5.lst x4.fo hb4
    have ha5 := g5.lst x4.fo ha4
    have x5 := x4.gx g5 f5
    refine ⟨b, _, iv (Vbbraf.valueBy st.now c), rfl, rfl, hb5, Evl.sz_lt (by rw [ivs_len, List.length_append]; show _ + 1 < _; omega), ?_⟩
    refine ⟨some (iv c), rfl, (g4.trans g5).upd_new hbH, x5.other (.inr rfl) hb5, by rw [upd_ne nab]; exact ha5, ?_⟩
    rw [upd_same, take_more hc', List.flatMap_append]
    unfold ivs
    rw [List.map_append]
    simp
  · rintro σ H' ⟨v, rfl, g, x3, ha3, hb3⟩
    rw [ivs_len, List.take_length] at hb3
    refine ⟨_, rfl, k b H' (fun y => (x.out b y).1 hbH) ⟨rch, _, _, _, _, _, _, _, x3.sub fun _ h => .inl h⟩ (x.kp_gx g) ?_⟩
    rw [yes_zs]
    exact hb3
/-- an answer behind a search -/
theorem done_ans {S : Addr → Prop} {H H1 H2 : Hp} {e dx se d de po pl wn p : Addr} {st : Vbbraf.State} {U U' : List PK3} {Q : VK} {l : List Int} (x : EnO P w CP CS CE S H e dx se d de po pl wn st U) (rch : Lm.Reach st) (k : Ans P w CP CS CE S H e Q (st, l) U') (g : Gx d H H1) (f : FoundOk P w H1 d U') (hp : H1 p = none) (e2 : Evl.Ex H1 H2) (hl : H2 p = some (.lst (zs l))) : Q (.ref p) H2 :=
  k p H2 (fun y => ((x.gx g f).out p y).1 hp) ⟨rch, _, _, _, _, _, _, _, (x.gx g f).ex e2⟩ ((x.kp_gx g).trans ((x.gx g f).kp_ex e2)) hl
theorem ok_eline (G : EnCal P w K mg base CP CS CE) (D : DefM K CE "line" "Ending.line" (inClass c_Ending 11) ["self"]) : CalM P w K mg base 61 CE "line" (sp_heavy0 P w CP CS CE .line) := by
  have sc : FnScope ["self"] ["self"] (defScope (inClass c_Ending 11)) := ⟨rfl, rfl, rfl, by decide +kernel, rfl, by decide +kernel, by decide +kernel⟩
  refine D.cal sc (by rintro _ _ _ _ ⟨_, _, _, _, _, rfl, _⟩; rfl) fun f cdv A outer s H vs Q E hr h => ?_
  obtain ⟨S, e, st, U, U', rfl, ea, hU, hl, hc, k⟩ := h
  obtain ⟨rch, dx, se, d, de, po, pl, wn, x⟩ := id ea
  refine ⟨_, pss_one (ps_ret (pe_op op_cat (pe_lst (pa_cons pe_int pa_nil)) (pe_cf G.cnd hr (by decide) (by rfl) (pa_cons (pe_cm G.lin G.sc.ts.cl hr (Nat.le_refl _) (pe_fld (pv 0) rfl) (pa_cons (pe_fld (pv 0) rfl) pa_nil)) pa_nil)))), ?_⟩
  have hs : Vbbraf.step st .line = Vbbraf.yes st (Vbbraf.counted (Vbbraf.line st.now)) := rfl
  rw [hs] at k
  obtain ⟨gd1, gd2, gd3, gd4, gd5⟩ := rch.good
  have gd : Gd st.now := ⟨gd1, rch.le⟩
  have ll := Lm.line_len gd1
  have hle := gd.le
  refine ⟨(by show 1 ≤ sizeLine; decide), fun p hp => ?_⟩
  have e1 : Evl.Ex H (upd H p (.lst [V.int 0])) := Evl.Ex.new hp
  have hp1 := upd_same (H := H) (a := p) (o := .lst [V.int 0])
  generalize upd H p (.lst [V.int 0]) = H1 at *
  have x1 := x.ex e1
  have ss := x1.se_of gd hU hl hc
  obtain ⟨sdx, hsx⟩ := id x1.hse
  refine ⟨_, rfl, e, CE, dx, _, _, rfl, x1.ob, G.te.cl, G.te.nS, ef_search _ _ _ _ _, se, sdx, _, rfl, hsx, sf_none _ (by decide +kernel), _, rfl, e, CE, dx, _, _, rfl, x1.ob, G.te.cl, G.te.nP, ef_position _ _ _ _ _, se, po, d, _, U', rfl, ss, fun a H2 ha g2 f2 hal => ?_⟩
  refine ⟨a, _, rfl, .inl hal, by omega, fun c H3 hc e3 hl3 => ?_⟩
  have hp3 := e3 _ _ (g2.lst x1.fo hp1)
  refine ⟨p, c, _, _, rfl, rfl, hp3, hl3, line16 (by rw [ivs_len]; show 1 + ((Vbbraf.line st.now).length + 1) ≤ 1000; omega), fun r hr' => ?_⟩
  have e4 := Evl.Ex.new (o := .lst ([V.int 0] ++ ivs (Vbbraf.counted (Vbbraf.line st.now)))) hr'
  refine done_ans x rch k ((Gx.of e1).trans g2) f2 (Evl.fresh_back e3 hr') (e3.trans e4) ?_
  rw [upd_same, zs_yes]
  rfl
end
end Lx

/-! held.py: a new ending, a deal -/
namespace Lx
open PySem PySem.Spec PyProof.Rows L2
section
variable {P : Program} {w : World} {K : PySem.W.Frag} {mg : Str → Option Value} {base : Heap} {CP CS CE : Addr}
def sp_en_init (P : Program) (w : World) (CP CS CE : Addr) : Sp := fun vs H Q _ => ∃ S e dx, vs = [.ref e] ∧ H e = some (.ins CE dx []) ∧ (∀ a, S a → H a ≠ none ∧ a ≠ e) ∧ ∀ H', EnAt P w CP CS CE S H' e Vbbraf.start [] → Kp S H H' → Q .non H'
theorem ok_en_init (G : EnCal P w K mg base CP CS CE) (D : DefI K mg CE "Ending" "Ending.__init__" (inClass c_Ending 0) ["self"]) : CalC P w K mg base 3 CE "Ending" (sp_en_init P w CP CS CE) := by
  have sc : FnScope ["self"] ["self"] (defScope (inClass c_Ending 0)) := ⟨rfl, rfl, rfl, by decide +kernel, rfl, by decide +kernel, by decide +kernel⟩
  refine D.cal sc (by rintro _ _ _ _ ⟨_, _, _, rfl, _⟩; rfl) fun f cdv A outer s H vs Q E hr h => ?_
  obtain ⟨S, e, dx, rfl, he, hS, k⟩ := h
  refine ⟨_, pss_cons (ps_fld (pv 0) (pe_cc0 G.sea hr (by decide) (by rfl)) rfl)
    (pss_one (ps_expr (pe_cm G.beg G.te.cl hr (by decide) (pv 0) (pa_cons (pe_cc G.pos hr (by decide) (by rfl) (pa_cons (pe_tup (pa_cons (pe_tup pa_nil) (pa_cons (pe_tup pa_nil) (pa_cons (pe_tup pa_nil) (pa_cons (pe_tup pa_nil) pa_nil))))) (pa_cons pe_int (pa_cons pe_int (pa_cons (pe_tup pa_nil) pa_nil))))) pa_nil)))), ?_⟩
  intro x dxs hx hdxs hne
  refine ⟨x, dxs, rfl, upd_same, fun d H2 hd kk hse fo => ⟨rfl, ?_⟩⟩
  have hd0 : H d = none := by
    have n1 : d ≠ x := fun z => by rw [z, upd_same] at hd; cases hd
    rw [upd_ne n1] at hd
    have n2 : d ≠ dxs := fun z => by rw [z, upd_same] at hd; cases hd
    rw [upd_ne n2] at hd
    exact hd
  have e2 : Evl.Ex H H2 := fun a o z => kk a o (ne_of_none z hx) (by rw [upd_ne (ne_of_none z hx), upd_ne (ne_of_none z hdxs)]; exact z)
  refine ⟨_, rfl, e, CE, dx, _, rfl, e2 _ _ he, G.te.cl, G.te.nS, (by show 0 < 1000; decide), ?_⟩
  have k3 : ∀ a o, a ≠ e → H2 a = some o → (upd H2 e (.ins CE dx (putF "search" (.ref x) []))) a = some o := fun a o n z => by rw [upd_ne n]; exact z
  have he3 : (upd H2 e (.ins CE dx (putF "search" (.ref x) []))) e = some (.ins CE dx ([("search", V.ref x)] : List (Str × V))) := upd_same
  have nxe : x ≠ e := Ne.symm (ne_of_none he hx)
  have nde : d ≠ e := Ne.symm (ne_of_none he hd0)
  have hse3 : SeAt CS (upd H2 e (.ins CE dx (putF "search" (.ref x) []))) x d := by
    obtain ⟨sx, z⟩ := hse
    exact ⟨sx, k3 _ _ nxe z⟩
  have fo3 : FoundOk P w (upd H2 e (.ins CE dx (putF "search" (.ref x) []))) d [] := fo.other (fun ys z => by rw [e2 _ _ he] at z; cases z) (Ne.symm nde)
  generalize upd H2 e (.ins CE dx (putF "search" (.ref x) [])) = H3 at *
  refine ⟨_, rfl, e, dx, _, rfl, he3, (lk_past (by decide +kernel)).trans rfl, ?_⟩
  refine ⟨Nat.zero_le _, fun t1 h1 => ?_⟩
  refine ⟨Nat.zero_le _, fun t2 h2 => ?_⟩
  refine ⟨Nat.zero_le _, fun t3 h3 => ?_⟩
  refine ⟨Nat.zero_le _, fun t4 h4 => ?_⟩
  refine ⟨(by show 4 ≤ sizeLine; decide), fun th h5 => ?_⟩
  refine ⟨Nat.zero_le _, fun tt h6 => ?_⟩
  have a1 := Evl.Ex.new (o := .tup []) h1
  have a2 := Evl.Ex.new (o := .tup []) h2
  have a3 := Evl.Ex.new (o := .tup []) h3
  have a4 := Evl.Ex.new (o := .tup []) h4
  have a5 := Evl.Ex.new (o := .tup [V.ref t1, V.ref t2, V.ref t3, V.ref t4]) h5
  have a6 := Evl.Ex.new (o := .tup []) h6
  have b1 := a6 _ _ (a5 _ _ (a4 _ _ (a3 _ _ (a2 _ _ (upd_same (H := H3) (a := t1) (o := .tup []))))))
  have b2 := a6 _ _ (a5 _ _ (a4 _ _ (a3 _ _ (upd_same (H := upd H3 t1 (.tup [])) (a := t2) (o := .tup [])))))
  have b3 := a6 _ _ (a5 _ _ (a4 _ _ (upd_same (H := upd (upd H3 t1 (.tup [])) t2 (.tup [])) (a := t3) (o := .tup []))))
  have b4 := a6 _ _ (a5 _ _ (upd_same (H := upd (upd (upd H3 t1 (.tup [])) t2 (.tup [])) t3 (.tup [])) (a := t4) (o := .tup [])))
  have b5 := a6 _ _ (upd_same (H := upd (upd (upd (upd H3 t1 (.tup [])) t2 (.tup [])) t3 (.tup [])) t4 (.tup [])) (a := th) (o := .tup [V.ref t1, V.ref t2, V.ref t3, V.ref t4]))
  have b6 := upd_same (H := upd (upd (upd (upd (upd H3 t1 (.tup [])) t2 (.tup [])) t3 (.tup [])) t4 (.tup [])) th (.tup [V.ref t1, V.ref t2, V.ref t3, V.ref t4])) (a := tt) (o := .tup [])
  have ea := (((((a1.trans a2).trans a3).trans a4).trans a5).trans a6)
  generalize upd (upd (upd (upd (upd (upd H3 t1 (.tup [])) t2 (.tup [])) t3 (.tup [])) t4 (.tup [])) th (.tup [V.ref t1, V.ref t2, V.ref t3, V.ref t4])) tt (.tup []) = H4 at *
  intro p pdx hp hpdx hpne
  refine ⟨p, pdx, th, 4, 0, tt, rfl, upd_same, rfl, ?_⟩
  have ep := ex_made (o1 := .own p) (o2 := .ins CP pdx []) (o3 := .ins CP pdx (posF th 4 0 tt)) hp hpdx
  have hpos : PosAt CP (upd (upd (upd H4 pdx (.own p)) p (.ins CP pdx [])) p (.ins CP pdx (posF th 4 0 tt))) p Vbbraf.empty :=
    ⟨pdx, th, tt, upd_same, ⟨[t1, t2, t3, t4], ep _ _ b5, .cons (ep _ _ b1) (.cons (ep _ _ b2) (.cons (ep _ _ b3) (.cons (ep _ _ b4) .nil)))⟩, ep _ _ b6⟩
  generalize upd (upd (upd H4 pdx (.own p)) p (.ins CP pdx [])) p (.ins CP pdx (posF th 4 0 tt)) = H5 at *
  have e35 : Evl.Ex H3 H5 := ea.trans ep
  refine ⟨e, p, dx, x, _, rfl, e35 _ _ he3, .inl rfl, fun l n H6 hl hn lne he6 hl6 hn6 k6 => ?_⟩
  have kx : ∀ a o, a ≠ e → H a = some o → H6 a = some o := fun a o n1 z => k6 a o n1 (e35 _ _ (k3 a o n1 (e2 _ _ z)))
  have nee : ∀ {a : Addr} {xs : List V}, H5 a = some (.tup xs) → a ≠ e := fun {a xs} z => ne_of z (e35 _ _ he3) (fun z => nomatch z)
  have hpos6 : PosAt CP H6 p Vbbraf.empty := by
    obtain ⟨px, ph, ptr, q1, q2, q3⟩ := hpos
    have npe : p ≠ e := fun z => by
      have z2 := e35 _ _ he3
      rw [← z, q1] at z2
      injection z2 with z2
      injection z2 with _ _ z2
      exact absurd (congrArg List.length z2) (by show ¬ (4 = 1); decide)
    exact ⟨px, ph, ptr, k6 _ _ npe q1, q2.mono fun a xs z => k6 a _ (nee z) z, k6 _ _ (nee q3) q3⟩
  refine k H6 ⟨Lm.reach_start, dx, x, d, p, p, l, n, ⟨he6, ?_, hpos6, hpos6, hl6, hn6, ?_, lne, fun a ha => ?_⟩⟩ fun a ha => ?_
  · obtain ⟨sx, z⟩ := hse3
    exact ⟨sx, k6 _ _ nxe (e35 _ _ z)⟩
  · obtain ⟨f1, xs, f2, f3, f4⟩ := fo3
    exact ⟨f1, xs, k6 _ _ nde (e35 _ _ f2), f3, fun y hy => (f4 y hy).mono (fun a xs z => k6 a _ (nee (e35 _ _ z)) (e35 _ _ z)) fun _ h => h⟩
  · obtain ⟨q1, q2⟩ := hS a ha
    have q3 : H6 a ≠ none := by
      cases q : H a with
      | none => exact absurd q q1
      | some o => rw [kx a o q2 q]; intro z; cases z
    have q4 : H5 a ≠ none := by
      cases q : H a with
      | none => exact absurd q q1
      | some o => rw [e35 _ _ (k3 a o q2 (e2 _ _ q))]; intro z; cases z
    refine ⟨q3, q2, fun z => q1 (by rw [z]; exact hd0), fun z => q4 (by rw [z]; exact hl), fun z => q4 (by rw [z]; exact hn)⟩
  · obtain ⟨q1, q2⟩ := hS a ha
    cases q : H a with
    | none => exact absurd q q1
    | some o => exact kx a o q2 q

def sp_edeal (P : Program) (w : World) (CP CS CE : Addr) : Sp := fun vs H Q _ => ∃ S e t l a r0 r1 r2 r3 st U, vs = [.ref e, .int t, .int l, .ref a] ∧ EnAt P w CP CS CE S H e st U ∧ HandsL H a [r0, r1, r2, r3] ∧ (∀ r ∈ [r0, r1, r2, r3], r.length ≤ 20) ∧ Ans P w CP CS CE S H e Q (Vbbraf.step st (.deal t l r0 r1 r2 r3)) U
theorem nb : ∀ {b : Bool}, (!b) = true → b = false
  | false, _ => rfl
  | true, h => by cases h
theorem nb2 : ∀ {b : Bool}, (!b) = false → b = true
  | true, _ => rfl
  | false, h => by cases h
theorem zipL_get {F : Addr → List Int → Prop} : ∀ {rs : List Addr} {hs : List (List Int)}, Paired F rs hs → ∃ z : List (Addr × List Int), z.map (fun x => V.ref x.1) = rs.map V.ref ∧ z.map (·.2) = hs ∧ ∀ x ∈ z, F x.1 x.2
  | _, _, .nil => ⟨[], rfl, rfl, fun _ h => by cases h⟩
  | _, _, .cons (a := a) (b := b) p r => by
    obtain ⟨z, h1, h2, h3⟩ := zipL_get r
    refine ⟨(a, b) :: z, by rw [List.map_cons, h1]; rfl, by rw [List.map_cons, h2], fun x hx => ?_⟩
    rcases List.mem_cons.mp hx with e | hx
    · subst e; exact p
    · exact h3 x hx
theorem ok_edeal (G : EnCal P w K mg base CP CS CE) (D : DefM K CE "deal" "Ending.deal" (inClass c_Ending 5) ["self", "trump", "leader", "hands"]) : CalM P w K mg base 6 CE "deal" (sp_edeal P w CP CS CE) := by
  have sc : FnScope ["self", "trump", "leader", "hands", "rising", "hand"] ["self", "trump", "leader", "hands"] (defScope (inClass c_Ending 5)) := ⟨rfl, rfl, rfl, by decide +kernel, rfl, by decide +kernel, by decide +kernel⟩
  refine D.cal sc (by rintro _ _ _ _ ⟨_, _, _, _, _, _, _, _, _, _, _, rfl, _⟩; rfl) fun f cdv A outer s H vs Q E hr h => ?_
  obtain ⟨S, e, t, l, a, r0, r1, r2, r3, st, U, rfl, en, hh, h20, k⟩ := h
  obtain ⟨rch, dx, se, d, de, po, pl, wn, x⟩ := id en
  refine ⟨_, pss_cons (ps_if (PW.pt (pw_or (pt_not (pt_val (pe_cf G.inr hr (by decide) (by rfl) (pa_cons (pv 1) (pa_cons pe_int (pa_cons pe_int pa_nil)))))) (pw_or1 (pt_not (pt_val (pe_cf G.inr hr (by decide) (by rfl) (pa_cons (pv 2) (pa_cons pe_int (pa_cons pe_int pa_nil))))))))) (pss_one (ps_ret (pe_cf0 G.oor hr (by decide) (by rfl)))) pss_nil)
    (pss_cons (ps_if (pt_not (pt_val (pe_callB (cr_all rfl) (by rfl) G.sc.bl.all (by decide +kernel) (pa_cons (pe_lc (own := [("hand", 5)]) (g := gName 5) (tt := tYes) rfl sc.nd (pi_list (pv 3)) (blkOk_by (N := ["self", "trump", "leader", "hands", "rising", "hand"]) (sc := defScope (inClass c_Ending 5)) (by decide +kernel))
        (fun _ _ _ _ _ => pg_name (i := 5) sc.nd rfl (.inl rfl)) (fun _ _ _ _ _ => pts_nil) (fun _ _ _ _ _ => pe_cf G.rir hr (by decide) (by rfl) (pa_cons (pv 5) (pa_cons pe_int pa_nil)))) pa_nil)))) (pss_one (ps_ret (pe_cf0 G.oor hr (by decide) (by rfl)))) pss_nil)
    (pss_cons (ps_if (pt_not (pt_val (pe_cf G.har hr (by decide) (by rfl) (pa_cons (pv 3) pa_nil)))) (pss_one (ps_ret (pe_cf0 G.hnr hr (by decide) (by rfl)))) pss_nil)
    (pss_cons (ps_set (i := 4) sc.nd rfl (.inl rfl) (pe_callTy call_tuple_of (by rfl) G.sc.bl.tuple (by decide +kernel) (pa_cons (pe_lc (own := [("hand", 5)]) (g := gName 5) (tt := tYes) rfl sc.nd (pi_list (pv 3)) (blkOk_by (N := ["self", "trump", "leader", "hands", "rising", "hand"]) (sc := defScope (inClass c_Ending 5)) (by decide +kernel))
        (fun _ _ _ _ _ => pg_name (i := 5) sc.nd rfl (.inl rfl)) (fun _ _ _ _ _ => pts_nil) (fun _ _ _ _ _ => pe_callTy (call_tupleK K) (by rfl) G.sc.bl.tuple (by decide +kernel) (pa_cons (pe_callB (cr_sortedK K) (by rfl) G.sc.bl.sorted (by decide +kernel) (pa_cons (pv 5) pa_nil)) pa_nil))) pa_nil)))
    (pss_cons (ps_expr (pe_cm G.beg G.te.cl hr (by decide) (pv 0) (pa_cons (pe_cc G.pos hr (by decide) (by rfl) (pa_cons (pv 4) (pa_cons (pv 1) (pa_cons (pv 2) (pa_cons (pe_tup pa_nil) pa_nil))))) pa_nil)))
    (pss_one (ps_ret (pe_lst (pa_cons pe_int pa_nil)))))))), ?_⟩
  have hs : Vbbraf.step st (.deal t l r0 r1 r2 r3) = if (Vbbraf.within t 0 4 && (Vbbraf.within l 0 3 && [r0, r1, r2, r3].all fun r => decide (r.length ≤ 4) && r.all Vbbraf.isCard)) = false then Vbbraf.no st 1
    else if ((([r0, r1, r2, r3].map fun r => Vbbraf.sorted (Vbbraf.nats r)).all fun h => h.length == r0.length) && Vbbraf.noneTwice (([r0, r1, r2, r3].map fun r => Vbbraf.sorted (Vbbraf.nats r)).flatMap fun h => h)) = false then Vbbraf.no st 2
    else Vbbraf.yes (Vbbraf.dealt ⟨[r0, r1, r2, r3].map fun r => Vbbraf.sorted (Vbbraf.nats r), t.toNat, l.toNat, []⟩) [] := rfl
  rw [hs] at k
  obtain ⟨rs, ha, hp⟩ := hh
  obtain ⟨z, z1, z2, z3⟩ := zipL_get hp
  have zl : z.length = 4 := by
    have := congrArg List.length z2
    rw [List.length_map] at this
    exact this
  have refuse1 : ∀ H1, Evl.Ex H H1 → (Vbbraf.within t 0 4 && (Vbbraf.within l 0 3 && [r0, r1, r2, r3].all fun r => decide (r.length ≤ 4) && r.all Vbbraf.isCard)) = false → sp_no 1 [] H1 Q E0 := fun H1 e1 c => by
    rw [if_pos c] at k
    exact no_ans_ex en e1 k E0
  refine ⟨_, rfl, t, 0, 4, rfl, _, rfl, iteB (fun cc => iteT ?_) fun cc => ⟨_, rfl, l, 0, 3, rfl, _, rfl, iteB (fun cc2 => ?_) fun cc2 => ?_⟩⟩
  · exact refuse1 H (Evl.Ex.refl _) (by rw [nb cc]; rfl)
  · exact refuse1 H (Evl.Ex.refl _) (by rw [nb2 cc, nb cc2]; rfl)
  have c1 := nb2 cc
  have c2 := nb2 cc2
  refine ⟨_, rfl, a, rfl, ⟨_, SqL.of ha⟩, lcp_list z (fun x => V.ref x.1) (fun _ => true) (fun x => V.bl (decide (x.2.length ≤ 4) && x.2.all Vbbraf.isCard)) (by rw [z1]; exact SqL.of ha) (by omega) (fun _ => rfl) ?_ ?_ ?_⟩
  · intro i c H' hc e Q q
    exact q H' (Evl.Ex.refl _)
  · intro i c H' hc _ e Q q
    have hm := z3 c (List.mem_of_getElem? hc)
    have h2 : c.2.length ≤ 20 := h20 _ (by rw [← z2]; exact List.mem_map_of_mem (List.mem_of_getElem? hc))
    exact ⟨_, rfl, c.1, c.2, 4, rfl, e _ _ hm, h2, fun H2 e2 => q H2 e2⟩
  intro Dl H1 hD e1 hDl
  refine ⟨Dl, z.map fun x => decide (x.2.length ≤ 4) && x.2.all Vbbraf.isCard, rfl, SqL.of (by rw [hDl, List.filter_eq_self.mpr (fun _ _ => rfl), List.map_map]; rfl), ?_⟩
  have eall : (z.map fun x => decide (x.2.length ≤ 4) && x.2.all Vbbraf.isCard).all id = [r0, r1, r2, r3].all fun r => decide (r.length ≤ 4) && r.all Vbbraf.isCard := by
    rw [← z2, List.all_map, List.all_map]
    rfl
  rw [eall]
  refine ⟨_, rfl, iteB (fun cc3 => ?_) fun cc3 => ?_⟩
  · exact refuse1 H1 e1 (by rw [c1, c2, nb cc3]; rfl)
  have c3 := nb2 cc3
  rw [if_neg (by rw [c1, c2, c3]; decide)] at k
  have c3' := List.all_eq_true.mp c3
  have h4 : ∀ r ∈ [r0, r1, r2, r3], r.length ≤ 4 := fun r hr => by
    have := c3' r hr
    rw [Bool.and_eq_true] at this
    exact of_decide_eq_true this.1
  have h0 : ∀ r ∈ [r0, r1, r2, r3], ∀ y ∈ r, 0 ≤ y := fun r hr y hy => by
    have := c3' r hr
    rw [Bool.and_eq_true] at this
    exact (Lm.card_range (List.all_eq_true.mp this.2 y hy)).1
  rw [Lm.deal_test h0] at k
  refine ⟨_, rfl, a, [r0, r1, r2, r3], rfl, ⟨rs, e1 _ _ ha, Paired.mapP hp fun a l h => e1 _ _ h⟩, rfl, h20, fun H2 e2 => ⟨_, rfl, iteB (fun cc4 => ?_) fun cc4 => ?_⟩⟩
  · have c4 : (([r0, r1, r2, r3].all fun n => decide (n.length = r0.length)) && decide [r0, r1, r2, r3].flatten.Nodup) = false := nb cc4
    rw [if_pos c4] at k
    exact no_ans_ex en (e1.trans e2) k E0
  have c4 : (([r0, r1, r2, r3].all fun n => decide (n.length = r0.length)) && decide [r0, r1, r2, r3].flatten.Nodup) = true := nb2 cc4
  rw [if_neg (by rw [c4]; decide)] at k
  have e02 := e1.trans e2
  have rl : rs.length = 4 := pairedL_len hp
  refine ⟨_, rfl, a, rfl, ⟨_, SqL.of (e02 _ _ ha)⟩, fun Dk hDk => lc_list (xs := rs.map V.ref) (fun i H' => Evl.Ex H2 H' ∧ ∃ ts : List Addr, ts.length = i ∧ H' Dk = some (.lst (ts.map V.ref)) ∧ Paired (fun (q : Addr) (m : List Nat) => H' q = some (.tup (ivs m))) ts (([r0, r1, r2, r3].take i).map fun r => Vbbraf.sorted (Vbbraf.nats r))) ?_ ?_ ?_ ?_⟩
  · exact ⟨Evl.Ex.new hDk, [], rfl, upd_same, .nil⟩
  · intro i H' _ ⟨e3, _⟩
    exact SqL.of (e3 _ _ (e02 _ _ ha))
  · intro i y H' hi ⟨e3, ts, htl, hts, hpt⟩
    rw [List.getElem?_map] at hi
    obtain ⟨r, hri, rfl⟩ := Option.map_eq_some_iff.mp hi
    have hil := (List.getElem?_eq_some_iff.mp hri).1
    obtain ⟨ns, hns, hrl⟩ := pairedL_at hp hri
    have hnm := List.mem_of_getElem? hns
    have hn4 := h4 ns hnm
    refine ⟨rfl, ?_⟩
    refine ⟨_, rfl, r, ns, rfl, SqL.of (e3 _ _ (e02 _ _ hrl)), by omega, fun ns' p perm pw hp' => ?_⟩
    have en' := Lm.sorted_ints (h0 ns hnm) perm pw
    refine ⟨p, _, rfl, .inl ⟨SqL.of upd_same, fun tq htq => ?_⟩⟩
    have e4 := Evl.Ex.new (o := .lst (ns'.map V.int)) hp'
    have e5 := Evl.Ex.new (o := .tup (ns'.map V.int)) htq
    have htq' : (upd (upd H' p (.lst (ns'.map V.int))) tq (.tup (ns'.map V.int))) tq = some (.tup (ivs (Vbbraf.sorted (Vbbraf.nats ns)))) := by
      rw [upd_same, ivs_ints, ← en']
    have hDk4 := (e4.trans e5) _ _ hts
    have nd := ne_of htq' hDk4 (fun z => nomatch z)
    refine ⟨_, hDk4, Evl.sz_lt (by rw [List.length_map, htl]; omega), Evl.Ex.mut ((e3.trans e4).trans e5) hDk, ts ++ [tq], by rw [List.length_append, htl]; rfl, by rw [upd_same, List.map_append]; rfl, ?_⟩
    rw [take_more hns, List.map_append]
    refine Paired.snoc (Paired.mapP hpt fun q m h => ?_) ?_
    · have := (e4.trans e5) _ _ h
      rw [upd_ne (ne_of this hDk4 (fun z => nomatch z))]
      exact this
    · rw [upd_ne nd]
      exact htq'
  intro H3 ⟨e3, ts, htl, hts, hpt⟩
  rw [List.length_map, rl] at hpt
  refine ⟨Dk, _, rfl, .inl ⟨SqL.of hts, fun th hth => ?_⟩⟩
  have e4 : Evl.Ex H3 (upd H3 th (.tup (ts.map V.ref))) := Evl.Ex.new hth
  have hh4 : HandsAt (upd H3 th (.tup (ts.map V.ref))) th ([r0, r1, r2, r3].map fun r => Vbbraf.sorted (Vbbraf.nats r)) := ⟨ts, upd_same, Paired.mapP hpt fun q m h => e4 _ _ h⟩
  have e04 := (e02.trans e3).trans e4
  generalize upd H3 th (.tup (ts.map V.ref)) = H4 at *
  have x4 := x.ex e04
  have tz : V.int t = iv t.toNat := by
    unfold Vbbraf.within at c1
    rw [Bool.and_eq_true] at c1
    have := of_decide_eq_true c1.1
    unfold iv
    congr 1
    omega
  have lz : V.int l = iv l.toNat := by
    unfold Vbbraf.within at c2
    rw [Bool.and_eq_true] at c2
    have := of_decide_eq_true c2.1
    unfold iv
    congr 1
    omega
  refine ⟨_, rfl, e, dx, _, rfl, x4.ob, ef_none _ _ _ _ _ (by decide +kernel) (by decide +kernel) (by decide +kernel) (by decide +kernel) (by decide +kernel), _, rfl, _, rfl, _, rfl, Nat.zero_le _, fun tt htt => ?_⟩
  intro p pdx hp' hpdx hpne
  have e5 := Evl.Ex.new (o := .tup []) htt
  have hht := hh4.mono fun a xs h => e5 a _ h
  have htt5 := upd_same (H := H4) (a := tt) (o := .tup [])
  have e05 := e04.trans e5
  generalize upd H4 tt (.tup []) = H5 at *
  refine ⟨p, pdx, th, t.toNat, l.toNat, tt, by rw [tz, lz]; rfl, upd_same, rfl, ?_⟩
  have ep := ex_made (o1 := .own p) (o2 := .ins CP pdx []) (o3 := .ins CP pdx (posF th t.toNat l.toNat tt)) hp' hpdx
  have hpos : PosAt CP (upd (upd (upd H5 pdx (.own p)) p (.ins CP pdx [])) p (.ins CP pdx (posF th t.toNat l.toNat tt))) p ⟨[r0, r1, r2, r3].map fun r => Vbbraf.sorted (Vbbraf.nats r), t.toNat, l.toNat, []⟩ :=
    ⟨pdx, th, tt, upd_same, hht.mono fun a xs h => ep a _ h, ep _ _ htt5⟩
  generalize upd (upd (upd H5 pdx (.own p)) p (.ins CP pdx [])) p (.ins CP pdx (posF th t.toNat l.toNat tt)) = H6 at *
  have x6 := x.ex (e05.trans ep)
  have kp6 := x.kp_ex (e05.trans ep)
  refine ⟨e, p, dx, se, _, rfl, x6.ob, .inr ⟨_, _, _, _, rfl⟩, fun q n H7 hq hn lne he hqq hnn kk => ?_⟩
  have hpos7 : PosAt CP H7 p ⟨[r0, r1, r2, r3].map fun r => Vbbraf.sorted (Vbbraf.nats r), t.toNat, l.toNat, []⟩ := by
    obtain ⟨px, hh, tr, p1, p2, p3⟩ := hpos
    exact ⟨px, hh, tr, kk _ _ (Ne.symm (ne_of x6.ob p1 en_ne_pos)) p1, p2.mono fun a xs z => kk a _ (ne_of z x6.ob (fun z => nomatch z)) z, kk _ _ (ne_of p3 x6.ob (fun z => nomatch z)) p3⟩
  obtain ⟨y, kp7⟩ := x6.next (H' := H7) (st' := Vbbraf.dealt ⟨[r0, r1, r2, r3].map fun r => Vbbraf.sorted (Vbbraf.nats r), t.toNat, l.toNat, []⟩) (fun a o n1 _ _ z => kk a o n1 z) he hpos7 hpos7 hqq hnn (.inr hq) (.inr hn) lne
  obtain ⟨g1, g2⟩ := Lm.good_deal (t := t) c2 h4 h0 c4
  have dk := Lm.deck_deal (t := t) (l := l) (fun r hr y hy => by
    have := c3' r hr
    rw [Bool.and_eq_true] at this
    exact List.all_eq_true.mp this.2 y hy) (by
    rw [Bool.and_eq_true] at c4
    exact of_decide_eq_true c4.2)
  have t5 : t.toNat < 5 := by
    unfold Vbbraf.within at c1
    rw [Bool.and_eq_true] at c1
    have := of_decide_eq_true c1.2
    omega
  refine ⟨(by show 1 ≤ sizeLine; decide), fun an han => ?_⟩
  have e8 := Evl.Ex.new (o := .lst [V.int 0]) han
  refine k an _ (fun hS => (y.out an hS).1 han) ⟨.deal _ g1 g2 rfl t5 dk, _, _, _, _, _, _, _, y.ex e8⟩ ((kp6.trans kp7).trans (y.kp_ex e8)) ?_
  rw [upd_same]
  rfl
end
end Lx

/-! held.py: account, past, table -/
namespace Lx
open PySem PySem.Spec PyProof.Rows L2
section
variable {P : Program} {w : World} {K : PySem.W.Frag} {mg : Str → Option Value} {base : Heap} {CP CS CE : Addr} {S : Addr → Prop} {H H' : Hp} {e : Addr} {st : Vbbraf.State} {U U' : List PK3}
theorem FoundOk.monoU {d : Addr} (f : FoundOk P w H d U) (h : ∀ y ∈ U, y ∈ U') : FoundOk P w H d U' := f.mono (Evl.Ex.refl _) h
theorem EnAt.monoU (x : EnAt P w CP CS CE S H e st U) (h : ∀ y ∈ U, y ∈ U') : EnAt P w CP CS CE S H e st U' := by
  obtain ⟨rch, dx, se, d, de, po, pl, wn, x⟩ := x
  exact ⟨rch, dx, se, d, de, po, pl, wn, x.ob, x.hse, x.hde, x.hpo, x.hpl, x.hwn, x.fo.monoU h, x.lw, x.out⟩
theorem Covers.sub {hs hs' : List (List Nat)} (c : Covers U hs) (h : Sub4 hs' hs) : Covers U hs' := fun x t l h1 h2 h3 => c x t l (h1.trans h) h2 h3
/-- what is held now is of what was dealt -/
theorem reach_sub (r : Lm.Reach st) : Sub4 st.now.hands st.first.hands := by
  induction r with
  | deal p g h t tr k => exact Sub4.refl _
  | @play st c r hc ih =>
    rw [Lm.by_now, Lm.by_first, Lm.behind_hands, Lm.setAt_set]
    exact (sub4_set (hands_at ⟨r.good.1, r.le⟩ (Lm.turn_lt _)) List.filter_sublist).trans ih
theorem zs_nats {ns : List Int} (h : ns.all Vbbraf.isCard = true) : zs ns = ivs (Vbbraf.nats ns) := by
  unfold zs ivs Vbbraf.nats
  rw [List.map_map]
  refine List.map_congr_left fun z hz => ?_
  exact card_nat (List.all_eq_true.mp h z hz)
/-- the promise of a call that searches with any trump: it may come to know values of U' -/
def sp_heavyC (P : Program) (w : World) (CP CS CE : Addr) (c : Vbbraf.Call) : Sp := fun vs H Q _ => ∃ S e st U U', vs = [.ref e] ∧ EnAt P w CP CS CE S H e st U ∧ (∀ y ∈ U, y ∈ U') ∧ U'.length ≤ sizeLine ∧ Covers U' st.first.hands ∧ Ans P w CP CS CE S H e Q (Vbbraf.step st c) U'
def sp_eaccount (P : Program) (w : World) (CP CS CE : Addr) : Sp := fun vs H Q _ => ∃ S e a ns st U U', vs = [.ref e, .ref a] ∧ EnAt P w CP CS CE S H e st U ∧ H a = some (.lst (zs ns)) ∧ ns.length ≤ 20 ∧ (∀ y ∈ U, y ∈ U') ∧ U'.length ≤ sizeLine ∧ Cov U' st.now ∧ Ans P w CP CS CE S H e Q (Vbbraf.step st (.account ns)) U'
theorem told_len (q q' : Vbbraf.Pos) (es : List Vbbraf.Entry) : (Vbbraf.told q es q').length = es.length + 5 := by
  show ((es.map fun e => e.gift).length + 1 + 1 + 1 + 1 + 1) = _
  rw [List.length_map]
theorem ok_eaccount (G : EnCal P w K mg base CP CS CE) (D : DefM K CE "account" "Ending.account" (inClass c_Ending 12) ["self", "cards"]) : CalM P w K mg base 61 CE "account" (sp_eaccount P w CP CS CE) := by
  have sc : FnScope ["self", "cards"] ["self", "cards"] (defScope (inClass c_Ending 12)) := ⟨rfl, rfl, rfl, by decide +kernel, rfl, by decide +kernel, by decide +kernel⟩
  refine D.cal sc (by rintro _ _ _ _ ⟨_, _, _, _, _, _, _, rfl, _⟩; rfl) fun f cdv A outer s H vs Q E hr h => ?_
  obtain ⟨S, e, a, ns, st, U0, U, rfl, ea0, ha, h20, hU, hl, hc, k⟩ := h
  have ea := ea0.monoU hU
  obtain ⟨rch, dx, se, d, de, po, pl, wn, x⟩ := id ea
  refine ⟨_, pss_cons (ps_if (pt_not (pt_val (pe_cf G.rir hr (by decide) (by rfl) (pa_cons (pv 1) (pa_cons pe_int pa_nil))))) (pss_one (ps_ret (pe_cf0 G.oor hr (by decide) (by rfl)))) pss_nil)
    (pss_cons (ps_if (pt_not (pt_val (pe_cf G.may hr (by decide) (by rfl) (pa_cons (pe_fld (pv 0) rfl) (pa_cons (pv 1) pa_nil))))) (pss_one (ps_ret (pe_cf0 G.mnp hr (by decide) (by rfl)))) pss_nil)
    (pss_one (ps_ret (pe_op op_cat (pe_lst (pa_cons pe_int pa_nil)) (pe_cf G.acc hr (Nat.le_refl _) (by rfl) (pa_cons (pe_fld (pv 0) rfl) (pa_cons (pe_fld (pv 0) rfl) (pa_cons (pv 1) pa_nil)))))))), ?_⟩
  have hs : Vbbraf.step st (.account ns) = if (decide (ns.length ≤ 16) && ns.all Vbbraf.isCard) = false then Vbbraf.no st 1 else match Vbbraf.account st.now (Vbbraf.nats ns) with
    | none => Vbbraf.no st 6
    | some (x, q) => Vbbraf.yes st (Vbbraf.told st.now x q) := rfl
  rw [hs] at k
  obtain ⟨gd1, gd2, gd3, gd4, gd5⟩ := rch.good
  have gd : Gd st.now := ⟨gd1, rch.le⟩
  refine ⟨_, rfl, a, ns, 16, rfl, ha, h20, fun H1 e1 => ⟨_, rfl, iteB (fun cc => ?_) fun cc => ?_⟩⟩
  · rw [if_pos (nb cc)] at k
    exact no_ans_ex ea e1 k E0
  have c1 := nb2 cc
  rw [if_neg (by rw [c1]; decide)] at k
  rw [Bool.and_eq_true] at c1
  have hz := zs_nats c1.2
  rw [hz] at ha
  have x1 := x.ex e1
  refine ⟨_, rfl, e, CE, dx, _, _, rfl, x1.ob, G.te.cl, G.te.nP, ef_position _ _ _ _ _, _, rfl, po, a, st.now, Vbbraf.nats ns, rfl, x1.hpo, gd, e1 _ _ ha, fun H2 e2 => ?_⟩
  cases hacc : Vbbraf.account st.now (Vbbraf.nats ns) with
  | none =>
    rw [hacc] at k
    exact ⟨_, rfl, iteB (fun _ => no_ans_ex ea (e1.trans e2) k E0) fun cc => absurd cc (by decide)⟩
  | some y =>
    obtain ⟨es, q'⟩ := y
    rw [hacc] at k
    refine ⟨_, rfl, iteB (fun cc => absurd cc (by show ¬ (!true) = true; decide)) fun _ => ?_⟩
    refine ⟨(by show 1 ≤ sizeLine; decide), fun p hp => ?_⟩
    have e3 : Evl.Ex H2 (upd H2 p (.lst [V.int 0])) := Evl.Ex.new hp
    have hp3 := upd_same (H := H2) (a := p) (o := .lst [V.int 0])
    generalize upd H2 p (.lst [V.int 0]) = H3 at *
    have e03 := (e1.trans e2).trans e3
    have x3 := x.ex e03
    have ss := x3.se_of gd (fun _ h => h) hl hc
    obtain ⟨_, hle, hel, _⟩ := Lm.account_good gd1 hacc
    have hgl := gd.le
    refine ⟨_, rfl, e, CE, dx, _, _, rfl, x3.ob, G.te.cl, G.te.nS, ef_search _ _ _ _ _, _, rfl, e, CE, dx, _, _, rfl, x3.ob, G.te.cl, G.te.nP, ef_position _ _ _ _ _, _, rfl, se, po, a, d, st.now, Vbbraf.nats ns, es, q', U, rfl, ss, e03 _ _ ha, hacc, fun r H4 hr4 g4 f4 hl4 => ?_⟩
    refine ⟨p, r, _, _, rfl, rfl, g4.lst x3.fo hp3, hl4, line16 (by rw [ivs_len, told_len]; show 1 + _ ≤ 1000; omega), fun t ht => ?_⟩
    have e5 := Evl.Ex.new (o := .lst ([V.int 0] ++ ivs (Vbbraf.told st.now es q'))) ht
    refine done_ans x rch k ((Gx.of e03).trans g4) f4 ht e5 ?_
    rw [upd_same, zs_yes]
    rfl
theorem EnO.se_first {dx se d de po pl wn : Addr} (x : EnO P w CP CS CE S H e dx se d de po pl wn st U) (gd : Gd st.first) (hl : U.length ≤ sizeLine) (hc : Cov U st.first) : Se P w CP CS H se de d st.first U := ⟨x.hse, x.hde, gd, x.fo, hl, hc⟩
theorem ok_epast (G : EnCal P w K mg base CP CS CE) (D : DefM K CE "past" "Ending.past" (inClass c_Ending 13) ["self"]) : CalM P w K mg base 61 CE "past" (sp_heavyC P w CP CS CE .past) := by
  have sc : FnScope ["self"] ["self"] (defScope (inClass c_Ending 13)) := ⟨rfl, rfl, rfl, by decide +kernel, rfl, by decide +kernel, by decide +kernel⟩
  refine D.cal sc (by rintro _ _ _ _ ⟨_, _, _, _, _, rfl, _⟩; rfl) fun f cdv A outer s H vs Q E hr h => ?_
  obtain ⟨S, e, st, U0, U, rfl, ea0, hU, hl, hc, k⟩ := h
  have ea := ea0.monoU hU
  obtain ⟨rch, dx, se, d, de, po, pl, wn, x⟩ := id ea
  refine ⟨_, pss_one (ps_ret (pe_op op_cat (pe_lst (pa_cons pe_int pa_nil)) (pe_cf G.acc hr (Nat.le_refl _) (by rfl) (pa_cons (pe_fld (pv 0) rfl) (pa_cons (pe_fld (pv 0) rfl) (pa_cons (pe_fld (pv 0) rfl) pa_nil)))))), ?_⟩
  obtain ⟨es, hacc⟩ := rch.past
  have hs : Vbbraf.step st .past = match Vbbraf.account st.first st.played with
    | none => Vbbraf.no st 6
    | some (x, q) => Vbbraf.yes st (Vbbraf.told st.first x q) := rfl
  rw [hs, hacc] at k
  obtain ⟨gd1, gd2, gd3, gd4, gd5⟩ := rch.good
  have gd : Gd st.first := ⟨gd2, gd3⟩
  refine ⟨(by show 1 ≤ sizeLine; decide), fun p hp => ?_⟩
  have e3 : Evl.Ex H (upd H p (.lst [V.int 0])) := Evl.Ex.new hp
  have hp3 := upd_same (H := H) (a := p) (o := .lst [V.int 0])
  generalize upd H p (.lst [V.int 0]) = H3 at *
  have x3 := x.ex e3
  have ss := x3.se_first gd hl (hc.cov rch.trump.2)
  obtain ⟨_, hle, hel, _⟩ := Lm.account_good gd2 hacc
  refine ⟨_, rfl, e, CE, dx, _, _, rfl, x3.ob, G.te.cl, G.te.nS, ef_search _ _ _ _ _, _, rfl, e, CE, dx, _, _, rfl, x3.ob, G.te.cl, G.te.nD, ef_dealt _ _ _ _ _, _, rfl, e, CE, dx, _, _, rfl, x3.ob, G.te.cl, G.te.nL, ef_played _ _ _ _ _, se, de, pl, d, st.first, st.played, es, st.now, U, rfl, ss, x3.hpl, hacc, fun r H4 hr4 g4 f4 hl4 => ?_⟩
  refine ⟨p, r, _, _, rfl, rfl, g4.lst x3.fo hp3, hl4, line16 (by rw [ivs_len, told_len]; show 1 + _ ≤ 1000; omega), fun t ht => ?_⟩
  have e5 := Evl.Ex.new (o := .lst ([V.int 0] ++ ivs (Vbbraf.told st.first es st.now))) ht
  refine done_ans x rch k ((Gx.of e3).trans g4) f4 ht e5 ?_
  rw [upd_same, zs_yes]
  rfl
def tv (hs : List (List Nat)) (t l : Nat) : Nat := Vbbraf.value ⟨hs, t, l, []⟩
def tvs (hs : List (List Nat)) (i : Nat) : List Nat := (List.range i).flatMap fun t => (List.range 4).map (tv hs t)
theorem tvs_succ (hs : List (List Nat)) (i : Nat) : tvs hs (i + 1) = tvs hs i ++ (List.range 4).map (tv hs i) := by
  unfold tvs
  rw [show List.range (i + 1) = List.range i ++ [i] from List.range_succ, List.flatMap_append, List.flatMap_cons, List.flatMap_nil, List.append_nil]
theorem tvs_len (hs : List (List Nat)) (i : Nat) : (tvs hs i).length = 4 * i := by
  induction i with
  | zero => rfl
  | succ i ih => rw [tvs_succ, List.length_append, ih, List.length_map, List.length_range]; omega
theorem ivs_row (a l : List Nat) (x : Nat) : ivs (0 :: (a ++ l)) ++ [iv x] = ivs (0 :: (a ++ (l ++ [x]))) := by
  unfold ivs
  simp
theorem ok_etable (G : EnCal P w K mg base CP CS CE) (D : DefM K CE "table" "Ending.table" (inClass c_Ending 14) ["self"]) : CalM P w K mg base 61 CE "table" (sp_heavyC P w CP CS CE .table) := by
  have sc : FnScope ["self", "answer", "trump", "leader"] ["self"] (defScope (inClass c_Ending 14)) := ⟨rfl, rfl, rfl, by decide +kernel, rfl, by decide +kernel, by decide +kernel⟩
  refine D.cal sc (by rintro _ _ _ _ ⟨_, _, _, _, _, rfl, _⟩; rfl) fun f cdv A outer s H vs Q E hr h => ?_
  obtain ⟨S, e, st, U0, U, rfl, ea0, hU, hl, hc, k⟩ := h
  have ea := ea0.monoU hU
  obtain ⟨rch, dx, se, d, de, po, pl, wn, x⟩ := id ea
  refine ⟨_, pss_cons (ps_if (PW.pt (pw_or (pt_not (pt_val (pe_cm0 G.sc.betw G.sc.tp.cl hr (by decide) (pe_fld (pv 0) rfl)))) (pw_or1 (pt_cmpR op_gt (pe_cm0 G.lft G.sc.tp.cl hr (by decide) (pe_fld (pv 0) rfl)) pe_int (nomark _))))) (pss_one (ps_ret (pe_cf0 G.nft hr (by decide) (by rfl)))) pss_nil)
    (pss_cons (ps_set (i := 1) sc.nd rfl (.inl rfl) (pe_lst (pa_cons pe_int pa_nil)))
    (pss_cons (ps_for PassesOwn.never rfl (pi_range1 (by rfl) G.sc.bl.range (pa_cons pe_int pa_nil)) (pg_name (i := 2) sc.nd rfl (.inl rfl))
      (pss_one (ps_for PassesOwn.never rfl (pi_range1 (by rfl) G.sc.bl.range (pa_cons pe_int pa_nil)) (pg_name (i := 3) sc.nd rfl (.inl rfl))
        (pss_one (ps_expr (pe_bm PySem.F.plainAttrs_list PySem.F.slot_list_append PySem.F.type_list_append mt_append (pv 1) (pa_cons (pe_cm G.val G.sc.ts.cl hr (by decide) (pe_fld (pv 0) rfl) (pa_cons (pe_cc G.pos hr (by decide) (by rfl) (pa_cons (pe_fld (pe_fld (pv 0) rfl) rfl) (pa_cons (pv 2) (pa_cons (pv 3) (pa_cons (pe_tup pa_nil) pa_nil))))) pa_nil)) pa_nil)))))))
    (pss_one (ps_ret (pv 1))))), ?_⟩
  have hs : Vbbraf.step st .table = if st.now.trick.isEmpty = false ∨ 12 < Vbbraf.held st.now then Vbbraf.no st 7 else Vbbraf.yes st (tvs st.now.hands 5) := rfl
  rw [hs] at k
  obtain ⟨gd1, gd2, gd3, gd4, gd5⟩ := rch.good
  have gd : Gd st.now := ⟨gd1, rch.le⟩
  have hle := gd.le
  obtain ⟨pdx, h, tr, p1, p2, p3⟩ := id x.hpo
  refine ⟨_, rfl, e, CE, dx, _, _, rfl, x.ob, G.te.cl, G.te.nP, ef_position _ _ _ _ _, po, pdx, _, rfl, p1, pf_none _ _ _ _ (by decide +kernel) (by decide +kernel) (by decide +kernel) (by decide +kernel), po, _, rfl, x.hpo, _, rfl, iteB (fun cc => iteT ?_) fun cc => ?_⟩
  · have c1 : ¬ st.now.trick.length = 0 := of_decide_eq_false (nb cc)
    rw [if_pos (.inl (by cases z : st.now.trick with
      | nil => rw [z] at c1; exact absurd rfl c1
      | cons a b => rfl))] at k
    exact no_ans ea k E0
  have c1 : st.now.trick.length = 0 := of_decide_eq_true (nb2 cc)
  have c2 : st.now.trick = [] := List.eq_nil_of_length_eq_zero c1
  refine ⟨_, rfl, e, CE, dx, _, _, rfl, x.ob, G.te.cl, G.te.nP, ef_position _ _ _ _ _, po, pdx, _, rfl, p1, pf_none _ _ _ _ (by decide +kernel) (by decide +kernel) (by decide +kernel) (by decide +kernel), po, _, rfl, x.hpo, gd, fun H1 e1 => ⟨_, _, rfl, rfl, _, rfl, iteB (fun cc => ?_) fun cc => ?_⟩⟩
  · have c3 : (12 : Int) < (Vbbraf.held st.now : Int) := of_decide_eq_true cc
    rw [if_pos (.inr (by omega))] at k
    exact no_ans_ex ea e1 k E0
  have c3 : ¬ (12 : Int) < (Vbbraf.held st.now : Int) := of_decide_eq_false cc
  rw [if_neg (by rintro (z | z); rw [c2] at z; cases z; omega)] at k
  refine ⟨(by show 1 ≤ sizeLine; decide), fun b hb => ?_⟩
  have e2 : Evl.Ex H1 (upd H1 b (.lst [V.int 0])) := Evl.Ex.new hb
  have hb2 : upd H1 b (.lst [V.int 0]) b = some (.lst (ivs [0])) := upd_same
  generalize upd H1 b (.lst [V.int 0]) = H2 at *
  have hbH : H b = none := Evl.fresh_back e1 hb
  have x2 := (x.ex e1).more hb e2 hb2
  have g2 : Gx d H H2 := Gx.of (e1.trans e2)
  have hcn : Covers U st.now.hands := hc.sub (reach_sub rch)
  refine ⟨5, rfl, by decide, by decide, for_range (lo := 0) (n := 5) (fun i σ H' => ∃ v v', σ = [some (.ref e), some (.ref b), v, v'] ∧ Gx d H H' ∧ EnO P w CP CS CE (fun z => S z ∨ z = b) H' e dx se d de po pl wn st U ∧ H' b = some (.lst (ivs (0 :: tvs st.now.hands i)))) ⟨none, none, rfl, g2, x2, hb2⟩ ?_ ?_⟩
  · rintro i σ H' hi ⟨v, v', rfl, g, x3, hb3⟩
    have zi : V.int (0 + (i : Int)) = iv i := by unfold iv; congr 1; omega
    refine ⟨4, rfl, by decide, by decide, for_range (lo := 0) (n := 4) (fun j σ H' => ∃ v', σ = [some (.ref e), some (.ref b), some (.int (0 + (i : Int))), v'] ∧ Gx d H H' ∧ EnO P w CP CS CE (fun z => S z ∨ z = b) H' e dx se d de po pl wn st U ∧ H' b = some (.lst (ivs (0 :: (tvs st.now.hands i ++ (List.range j).map (tv st.now.hands i)))))) ⟨v', rfl, g, x3, by rw [hb3]; show _ = some (HO.lst (ivs (0 :: (tvs st.now.hands i ++ [])))); rw [List.append_nil]⟩ ?_ ?_⟩
    · rintro j σ H4 hj ⟨v', rfl, g4, x4, hb4⟩
      have zj : V.int (0 + (j : Int)) = iv j := by unfold iv; congr 1; omega
      obtain ⟨sdx, hsx⟩ := id x4.hse
      obtain ⟨pdx4, h4, tr4, q1, q2, q3⟩ := id x4.hpo
      refine ⟨_, rfl, .inl ⟨rfl, _, SqL.of hb4⟩, _, rfl, e, CE, dx, _, _, rfl, x4.ob, G.te.cl, G.te.nS, ef_search _ _ _ _ _, se, sdx, _, rfl, hsx, sf_none _ (by decide +kernel), ?_⟩
      refine ⟨_, rfl, e, CE, dx, _, _, rfl, x4.ob, G.te.cl, G.te.nP, ef_position _ _ _ _ _, po, CP, pdx4, _, _, rfl, q1, G.sc.tp.cl, G.sc.tp.nH, pf_hands _ _ _ _, _, rfl, _, rfl, Nat.zero_le _, fun tt htt => ?_⟩
      intro p ndx hp hndx hpne
      have e5 := Evl.Ex.new (o := .tup []) htt
      have htt5 := upd_same (H := H4) (a := tt) (o := .tup [])
      have hh5 := q2.mono fun a xs h => e5 a _ h
      generalize upd H4 tt (.tup []) = H5 at *
      refine ⟨p, ndx, h4, i, j, tt, by rw [zi, zj] <;> rfl, upd_same, rfl, ?_⟩
      have ep := ex_made (o1 := .own p) (o2 := .ins CP ndx []) (o3 := .ins CP ndx (posF h4 i j tt)) hp hndx
      have hpos : PosAt CP (upd (upd (upd H5 ndx (.own p)) p (.ins CP ndx [])) p (.ins CP ndx (posF h4 i j tt))) p ⟨st.now.hands, i, j, []⟩ :=
        ⟨ndx, h4, tt, upd_same, hh5.mono fun a xs h => ep a _ h, ep _ _ htt5⟩
      generalize upd (upd (upd H5 ndx (.own p)) p (.ins CP ndx [])) p (.ins CP ndx (posF h4 i j tt)) = H6 at *
      have e46 := e5.trans ep
      have x6 := x4.ex e46
      have gt : Gd ⟨st.now.hands, i, j, []⟩ := ⟨Lm.good_table gd1 c2 hj, hle⟩
      refine ⟨se, p, d, ⟨st.now.hands, i, j, []⟩, U, rfl, ⟨x6.hse, hpos, gt, x6.fo, hl, hcn.cov (q := ⟨st.now.hands, i, j, []⟩) hi⟩, (by show Vbbraf.held st.now < 17; omega), fun H7 g7 f7 => ?_⟩
      have hb7 := g7.lst x6.fo (e46 _ _ hb4)
      have x7 := x6.gx g7 f7
      have tl := tvs_len st.now.hands i
      refine ⟨b, _, iv (tv st.now.hands i j), rfl, rfl, hb7, Evl.sz_lt (by rw [ivs_len, List.length_cons, List.length_append, List.length_map, List.length_range]; omega), ?_⟩
      refine ⟨some (.int (0 + (j : Int))), rfl, ((g4.trans (Gx.of e46)).trans g7).upd_new hbH, x7.other (.inr rfl) hb7, ?_⟩
      rw [upd_same, List.range_succ, List.map_append]
      exact congrArg (fun z => some (HO.lst z)) (ivs_row _ _ _)
    · rintro σ H4 ⟨v', rfl, g4, x4, hb4⟩
      refine ⟨_, v', rfl, g4, x4, ?_⟩
      rw [tvs_succ]
      exact hb4
  · rintro σ H' ⟨v, v', rfl, g, x3, hb3⟩
    refine ⟨_, rfl, k b H' (fun y => (x.out b y).1 hbH) ⟨rch, _, _, _, _, _, _, _, x3.sub fun _ h => .inl h⟩ (x.kp_gx g) ?_⟩
    rw [yes_zs]
    exact hb3
end
end Lx

/-! held.py: rows_now, alike, squeezed, can, told -/
namespace Lx
open PySem PySem.Spec PyProof.Rows L2
section
variable {P : Program} {w : World} {K : PySem.W.Frag} {mg : Str → Option Value} {base : Heap} {CP CS CE : Addr} {S : Addr → Prop} {H H' : Hp} {e : Addr} {st : Vbbraf.State} {U U' : List PK3}
def rowsOf (q : Vbbraf.Pos) : List (List Nat) := q.hands ++ [q.trick]
theorem rows_len {q : Vbbraf.Pos} (g : Gd q) : (rowsOf q).length = 5 := by
  unfold rowsOf
  rw [List.length_append, g.g.len]
  rfl
theorem rows_flat {q : Vbbraf.Pos} (g : Gd q) : (rowsOf q).flatten.length ≤ 19 := by
  unfold rowsOf
  have h2 := Lm.seen_len g.g.len
  unfold Lm.seenOf at h2
  rw [List.length_append] at h2
  rw [List.flatten_append, List.length_append]
  have := g.le
  have := g.g.tr
  simp only [List.flatten_cons, List.flatten_nil, List.append_nil]
  omega
theorem rows_seen {q : Vbbraf.Pos} (g : Gd q) {r : List Nat} (hr : r ∈ rowsOf q) {c : Nat} (hc : c ∈ r) : c ∈ Lm.seenOf q := by
  rcases List.mem_append.mp hr with h | h
  · exact Lm.seen_hand g.g.len h hc
  · rcases List.mem_cons.mp h with h | h
    · subst h
      exact List.mem_append_left _ hc
    · cases h
theorem row_le {ls : List (List Nat)} {r : List Nat} (h : r ∈ ls) : r.length ≤ ls.flatten.length := by
  induction ls with
  | nil => cases h
  | cons a b ih =>
    rw [List.flatten_cons, List.length_append]
    rcases List.mem_cons.mp h with h | h
    · subst h; omega
    · have := ih h; omega
def sp_rows_now (P : Program) (w : World) (CP CS CE : Addr) : Sp := fun vs H Q _ => ∃ S e st U, vs = [.ref e] ∧ EnAt P w CP CS CE S H e st U ∧ ∀ a H' rs, H a = none → Evl.Ex H H' → H' a = some (.lst (rs.map V.ref)) → Paired (fun (r : Addr) (l : List Nat) => H' r = some (.tup (ivs l))) rs (rowsOf st.now) → Q (.ref a) H'
theorem ok_rows_now (G : EnCal P w K mg base CP CS CE) (D : DefM K CE "rows_now" "Ending.rows_now" (inClass c_Ending 4) ["self"]) : CalM P w K mg base 1 CE "rows_now" (sp_rows_now P w CP CS CE) := by
  have sc : FnScope ["self"] ["self"] (defScope (inClass c_Ending 4)) := ⟨rfl, rfl, rfl, by decide +kernel, rfl, by decide +kernel, by decide +kernel⟩
  refine D.cal sc (by rintro _ _ _ _ ⟨_, _, _, _, rfl, _⟩; rfl) fun f cdv A outer s H vs Q E hr h => ?_
  obtain ⟨S, e, st, U, rfl, ⟨rch, dx, se, d, de, po, pl, wn, x⟩, k⟩ := h
  refine ⟨_, pss_one (ps_ret (pe_op op_cat (pe_callTy call_list_of (by rfl) G.sc.bl.list (by decide +kernel) (pa_cons (pe_fld (pe_fld (pv 0) rfl) rfl) pa_nil)) (pe_lst (pa_cons (pe_fld (pe_fld (pv 0) rfl) rfl) pa_nil)))), ?_⟩
  obtain ⟨gd1, gd2, gd3, gd4, gd5⟩ := rch.good
  obtain ⟨pdx, h, tr, p1, ⟨rs, p2, p4⟩, p3⟩ := id x.hpo
  refine ⟨_, rfl, e, CE, dx, _, _, rfl, x.ob, G.te.cl, G.te.nP, ef_position _ _ _ _ _, po, CP, pdx, _, _, rfl, p1, G.sc.tp.cl, G.sc.tp.nH, pf_hands _ _ _ _, h, _, rfl, .inr (SqT.of p2), fun l hl => ?_⟩
  have e1 : Evl.Ex H (upd H l (.lst (rs.map V.ref))) := Evl.Ex.new hl
  have hl1 := upd_same (H := H) (a := l) (o := .lst (rs.map V.ref))
  generalize upd H l (.lst (rs.map V.ref)) = H1 at *
  refine ⟨_, rfl, e, CE, dx, _, _, rfl, e1 _ _ x.ob, G.te.cl, G.te.nP, ef_position _ _ _ _ _, po, CP, pdx, _, _, rfl, e1 _ _ p1, G.sc.tp.cl, G.sc.tp.nK, pf_trick _ _ _ _, (by show 1 ≤ sizeLine; decide), fun m hm => ?_⟩
  have e2 : Evl.Ex H1 (upd H1 m (.lst [V.ref tr])) := Evl.Ex.new hm
  have hm2 := upd_same (H := H1) (a := m) (o := .lst [V.ref tr])
  generalize upd H1 m (.lst [V.ref tr]) = H2 at *
  have rl : rs.length = 4 := (paired_len p4).trans gd1.len
  refine ⟨l, m, _, _, rfl, rfl, e2 _ _ hl1, hm2, line16 (by rw [List.length_map]; show _ + 1 ≤ 1000; omega), fun a ha => ?_⟩
  have e3 : Evl.Ex H2 (upd H2 a (.lst (rs.map V.ref ++ [V.ref tr]))) := Evl.Ex.new ha
  have e12 := e1.trans e2
  have e03 := e12.trans e3
  refine k a _ (rs ++ [tr]) (Evl.fresh_back e12 ha) e03 ?_ ?_
  · rw [upd_same, List.map_append]
    rfl
  · exact Paired.snoc (Paired.mapP p4 fun a l z => e03 _ _ z) (e03 _ _ p3)
/-- the promise of a call with one number, that searches for nothing -/
def sp_ealike (P : Program) (w : World) (CP CS CE : Addr) : Sp := fun vs H Q _ => ∃ S e z st U, vs = [.ref e, .int z] ∧ EnAt P w CP CS CE S H e st U ∧ Ans P w CP CS CE S H e Q (Vbbraf.step st (.alike z)) U
theorem owner_has {q : Vbbraf.Pos} {c t : Nat} (h : Vbbraf.ownerOf q c = some t) : t < 4 := by
  unfold Vbbraf.ownerOf at h
  exact List.mem_range.mp (List.mem_of_find?_eq_some h)
theorem ok_ealike (G : EnCal P w K mg base CP CS CE) (D : DefM K CE "alike" "Ending.alike" (inClass c_Ending 15) ["self", "card"]) : CalM P w K mg base 6 CE "alike" (sp_ealike P w CP CS CE) := by
  have sc : FnScope ["self", "card", "hand"] ["self", "card"] (defScope (inClass c_Ending 15)) := ⟨rfl, rfl, rfl, by decide +kernel, rfl, by decide +kernel, by decide +kernel⟩
  refine D.cal sc (by rintro _ _ _ _ ⟨_, _, _, _, _, rfl, _⟩; rfl) fun f cdv A outer s H vs Q E hr h => ?_
  obtain ⟨S, e, z, st, U, rfl, ea, k⟩ := h
  obtain ⟨rch, dx, se, d, de, po, pl, wn, x⟩ := id ea
  refine ⟨_, pss_cons (ps_if (pt_not (pt_val (pe_cf G.inr hr (by decide) (by rfl) (pa_cons (pv 1) (pa_cons pe_int (pa_cons pe_int pa_nil)))))) (pss_one (ps_ret (pe_cf0 G.oor hr (by decide) (by rfl)))) pss_nil)
    (pss_cons (ps_set (i := 2) sc.nd rfl (.inl rfl) (pe_cm G.hwi G.sc.tp.cl hr (by decide) (pe_fld (pv 0) rfl) (pa_cons (pv 1) pa_nil)))
    (pss_cons (ps_if (pt_cmpR op_isN (pv 2) pe_non (nomark _)) (pss_one (ps_ret (pe_cf0 G.cnt hr (by decide) (by rfl)))) pss_nil)
    (pss_one (ps_ret (pe_op op_cat (pe_lst (pa_cons pe_int pa_nil)) (pe_cf G.cnd hr (by decide) (by rfl) (pa_cons (pe_cf G.ali hr (by decide) (by rfl) (pa_cons (pv 2) (pa_cons (pv 1) (pa_cons (pe_cm0 G.sen G.sc.tp.cl hr (by decide) (pe_fld (pv 0) rfl)) pa_nil)))) pa_nil))))))), ?_⟩
  have hs : Vbbraf.step st (.alike z) = if Vbbraf.isCard z = false then Vbbraf.no st 1 else match Vbbraf.ownerOf st.now z.toNat with
    | none => Vbbraf.no st 4
    | some t => Vbbraf.yes st (Vbbraf.counted ((Vbbraf.handOf st.now t).filter (Vbbraf.alike st.now t z.toNat))) := rfl
  rw [hs] at k
  obtain ⟨gd1, gd2, gd3, gd4, gd5⟩ := rch.good
  have gd : Gd st.now := ⟨gd1, rch.le⟩
  refine ⟨_, rfl, z, 0, 51, rfl, _, rfl, iteB (fun cc => ?_) fun cc => ?_⟩
  · have c1 : Vbbraf.isCard z = false := nb cc
    rw [if_pos c1] at k
    exact no_ans ea k E0
  have c1 : Vbbraf.isCard z = true := nb2 cc
  rw [if_neg (by rw [c1]; decide)] at k
  have zc := card_nat c1
  obtain ⟨pdx, h, tr, p1, p2, p3⟩ := id x.hpo
  refine ⟨_, rfl, e, CE, dx, _, _, rfl, x.ob, G.te.cl, G.te.nP, ef_position _ _ _ _ _, po, pdx, _, rfl, p1, pf_none _ _ _ _ (by decide +kernel) (by decide +kernel) (by decide +kernel) (by decide +kernel), _, rfl, po, st.now, z.toNat, congrArg (fun v => [V.ref po, v]) zc, x.hpo, gd, fun hn => ?_, fun t ha ht ht4 hat => ?_⟩
  · rw [hn] at k
    exact ⟨_, rfl, rfl, _, rfl, iteB (fun _ => no_ans ea k E0) fun cc => absurd cc (by decide)⟩
  · rw [ht] at k
    refine ⟨_, rfl, rfl, _, rfl, iteB (fun cc => absurd (of_decide_eq_true cc) (fun z => nomatch z)) fun _ => ?_⟩
    refine ⟨(by show 1 ≤ sizeLine; decide), fun p hp => ?_⟩
    have e1 : Evl.Ex H (upd H p (.lst [V.int 0])) := Evl.Ex.new hp
    have hp1 := upd_same (H := H) (a := p) (o := .lst [V.int 0])
    generalize upd H p (.lst [V.int 0]) = H1 at *
    have x1 := x.ex e1
    refine ⟨_, rfl, _, rfl, _, rfl, e, CE, dx, _, _, rfl, x1.ob, G.te.cl, G.te.nP, ef_position _ _ _ _ _, po, pdx, _, rfl, e1 _ _ p1, pf_none _ _ _ _ (by decide +kernel) (by decide +kernel) (by decide +kernel) (by decide +kernel), po, _, rfl, x1.hpo, gd, fun sn H2 hsn e2 hsl => ?_⟩
    have sl := Lm.seen_len gd1.len
    have hle := gd.le
    have htr := gd1.tr
    refine ⟨ha, z.toNat, sn, _, _, congrArg (fun v => [V.ref ha, v, V.ref sn]) zc, e2 _ _ (e1 _ _ hat), hsl, gd.hand ht4, by omega, fun o H3 ho e3 hol => ?_⟩
    rw [Lm.aliked_is gd1.len rch.deck ht4] at hol
    have f1 : ((Vbbraf.handOf st.now t).filter (Vbbraf.alike st.now t z.toNat)).length ≤ 16 := Nat.le_trans (List.length_filter_le _ _) (gd.hand ht4)
    refine ⟨o, _, rfl, .inl hol, by omega, fun c H4 hc e4 hcl => ?_⟩
    have e14 := (e2.trans e3).trans e4
    refine ⟨p, c, _, _, rfl, rfl, e14 _ _ hp1, hcl, line16 (by rw [ivs_len]; show 1 + (_ + 1) ≤ 1000; omega), fun r hr' => ?_⟩
    have e5 := Evl.Ex.new (o := .lst ([V.int 0] ++ ivs (Vbbraf.counted ((Vbbraf.handOf st.now t).filter (Vbbraf.alike st.now t z.toNat))))) hr'
    refine Ans.same ea k r _ (Evl.fresh_back (e1.trans e14) hr') ((e1.trans e14).trans e5) ?_
    rw [upd_same, zs_yes]
    rfl
def sqf (q : Vbbraf.Pos) (l : List Nat) : List Nat := l.map (Vbbraf.squeezedCard q)
theorem ok_esqueezed (G : EnCal P w K mg base CP CS CE) (D : DefM K CE "squeezed" "Ending.squeezed" (inClass c_Ending 16) ["self"]) (GR : CalM P w K mg base 1 CE "rows_now" (sp_rows_now P w CP CS CE)) : CalM P w K mg base 6 CE "squeezed" (sp_call0 P w CP CS CE .squeezed) := by
  have sc : FnScope ["self", "seen", "row"] ["self"] (defScope (inClass c_Ending 16)) := ⟨rfl, rfl, rfl, by decide +kernel, rfl, by decide +kernel, by decide +kernel⟩
  refine D.cal sc (by rintro _ _ _ _ ⟨_, _, _, _, rfl, _⟩; rfl) fun f cdv A outer s H vs Q E hr h => ?_
  obtain ⟨S, e, st, U, rfl, ea, k⟩ := h
  obtain ⟨rch, dx, se, d, de, po, pl, wn, x⟩ := id ea
  refine ⟨_, pss_cons (ps_set (i := 1) sc.nd rfl (.inr rfl) (pe_cm0 G.sen G.sc.tp.cl hr (by decide) (pe_fld (pv 0) rfl)))
    (pss_one (ps_ret (pe_op op_cat (pe_lst (pa_cons pe_int pa_nil)) (pe_cf G.acd hr (by decide) (by rfl) (pa_cons (pe_lc (own := [("row", 2)]) (g := gName 2) (tt := tYes) rfl sc.nd (pi_list (pe_cm0 GR G.te.cl hr (by decide) (pv 0))) (blkOk_by (N := ["self", "seen", "row"]) (sc := defScope (inClass c_Ending 16)) (by decide +kernel))
      (fun _ _ _ _ _ => pg_name (i := 2) sc.nd rfl (.inl rfl)) (fun _ _ _ _ _ => pts_nil) (fun _ _ _ _ _ => pe_cf G.sqr hr (by decide) (by rfl) (pa_cons (pv 2) (pa_cons (pv 1) pa_nil)))) pa_nil))))), ?_⟩
  have hs : Vbbraf.step st .squeezed = Vbbraf.yes st (((st.now.hands.map fun h => h.map (Vbbraf.squeezedCard st.now)).flatMap Vbbraf.counted) ++ Vbbraf.counted (st.now.trick.map (Vbbraf.squeezedCard st.now))) := rfl
  have hs2 : ((st.now.hands.map fun h => h.map (Vbbraf.squeezedCard st.now)).flatMap Vbbraf.counted) ++ Vbbraf.counted (st.now.trick.map (Vbbraf.squeezedCard st.now)) = ((rowsOf st.now).map (sqf st.now)).flatMap Vbbraf.counted := by
    unfold rowsOf
    rw [List.map_append, List.flatMap_append, List.map_cons, List.map_nil, List.flatMap_cons, List.flatMap_nil, List.append_nil]
    rfl
  rw [hs, hs2] at k
  obtain ⟨gd1, gd2, gd3, gd4, gd5⟩ := rch.good
  have gd : Gd st.now := ⟨gd1, rch.le⟩
  have hle := gd.le
  have htr := gd1.tr
  have sl := Lm.seen_len gd1.len
  obtain ⟨pdx, h, tr, p1, p2, p3⟩ := id x.hpo
  refine ⟨_, rfl, e, CE, dx, _, _, rfl, x.ob, G.te.cl, G.te.nP, ef_position _ _ _ _ _, po, pdx, _, rfl, p1, pf_none _ _ _ _ (by decide +kernel) (by decide +kernel) (by decide +kernel) (by decide +kernel), po, _, rfl, x.hpo, gd, fun sn H1 hsn e1 hsl => ?_⟩
  refine ⟨(by show 1 ≤ sizeLine; decide), fun p hp => ?_⟩
  have e2 : Evl.Ex H1 (upd H1 p (.lst [V.int 0])) := Evl.Ex.new hp
  have hp2 := upd_same (H := H1) (a := p) (o := .lst [V.int 0])
  generalize upd H1 p (.lst [V.int 0]) = H2 at *
  have e02 := e1.trans e2
  obtain ⟨ea2, _⟩ := ea.ex e02
  have x2 := x.ex e02
  refine ⟨_, rfl, e, dx, _, rfl, x2.ob, ef_none _ _ _ _ _ (by decide +kernel) (by decide +kernel) (by decide +kernel) (by decide +kernel) (by decide +kernel), S, e, st, U, rfl, ea2, fun rl H3 rs hrl e3 hrs hpr => ?_⟩
  have e03 := e02.trans e3
  have rl5 := paired_len hpr
  have r5 := rows_len gd
  have rf := rows_flat gd
  refine ⟨rl, rfl, ⟨_, SqL.of hrs⟩, fun Dk hDk => lc_list (xs := rs.map V.ref) (fun i H' => Evl.Ex H3 H' ∧ ∃ ts : List Addr, ts.length = i ∧ H' Dk = some (.lst (ts.map V.ref)) ∧ Paired (fun (q : Addr) (m : List Nat) => H' q = some (.lst (ivs m)) ∧ q ≠ Dk) ts (((rowsOf st.now).take i).map (sqf st.now))) ?_ ?_ ?_ ?_⟩
  · exact ⟨Evl.Ex.new hDk, [], rfl, upd_same, .nil⟩
  · intro i H' _ ⟨e4, _⟩
    exact SqL.of (e4 _ _ hrs)
  · intro i y H' hi ⟨e4, ts, htl, hts, hpt⟩
    rw [List.getElem?_map] at hi
    obtain ⟨r, hri, rfl⟩ := Option.map_eq_some_iff.mp hi
    have hil := (List.getElem?_eq_some_iff.mp hri).1
    have hil2 : i < (rowsOf st.now).length := by omega
    obtain ⟨r', hr1, hrl1⟩ := paired_at hpr (List.getElem?_eq_getElem hil2)
    rw [hri] at hr1
    cases hr1
    have hmem : (rowsOf st.now)[i] ∈ rowsOf st.now := List.getElem_mem hil2
    have rle := row_le hmem
    refine ⟨rfl, ?_⟩
    refine ⟨_, rfl, _, rfl, r, sn, _, Lm.seenOf st.now, Vbbraf.squeezedCard st.now, rfl, e4 _ _ hrl1, e4 _ _ (e3 _ _ (e2 _ _ hsl)), by omega, by omega, fun c hc => Lm.squeezed_is gd1.len rch.deck (rows_seen gd hmem hc), fun q H5 hq e5 hql => ?_⟩
    have hDk5 := e5 _ _ hts
    have nq : q ≠ Dk := fun z => by rw [z, hts] at hq; cases hq
    refine ⟨_, hDk5, Evl.sz_lt (by rw [List.length_map, htl]; omega), Evl.Ex.mut (e4.trans e5) hDk, ts ++ [q], by rw [List.length_append, htl]; rfl, by rw [upd_same, List.map_append]; rfl, ?_⟩
    rw [take_more (List.getElem?_eq_getElem hil2), List.map_append]
    refine Paired.snoc (Paired.mapP hpt fun b m hb => ?_) ?_
    · exact ⟨by rw [upd_ne hb.2]; exact e5 _ _ hb.1, hb.2⟩
    · exact ⟨by rw [upd_ne nq]; exact hql, nq⟩
  intro H4 ⟨e4, ts, htl, hts, hpt⟩
  rw [List.length_map, rl5, List.take_length] at hpt
  have fl : ∀ l : List (List Nat), (l.map (sqf st.now)).flatten.length = l.flatten.length := fun l => by
    induction l with
    | nil => rfl
    | cons a b ih => rw [List.map_cons, List.flatten_cons, List.flatten_cons, List.length_append, List.length_append, ih]; unfold sqf; rw [List.length_map]
  have fl2 := fl (rowsOf st.now)
  have e04 := e03.trans e4
  refine ⟨Dk, _, rfl, ⟨ts, hts, Paired.mapP hpt fun b m hb => .inl hb.1⟩, by rw [List.length_map]; omega, fun c H5 hc e5 hcl => ?_⟩
  have hp5 := e5 _ _ (e4 _ _ (e3 _ _ hp2))
  have cl := cnt_len ((rowsOf st.now).map (sqf st.now))
  rw [List.length_map] at cl
  refine ⟨p, c, _, _, rfl, rfl, hp5, hcl, line16 (by rw [ivs_len]; show 1 + _ ≤ 1000; omega), fun r hr' => ?_⟩
  have e6 := Evl.Ex.new (o := .lst ([V.int 0] ++ ivs (((rowsOf st.now).map (sqf st.now)).flatMap Vbbraf.counted))) hr'
  refine Ans.same ea k r _ (Evl.fresh_back (e04.trans e5) hr') ((e04.trans e5).trans e6) ?_
  rw [upd_same, zs_yes]
  rfl
theorem ok_etold (G : EnCal P w K mg base CP CS CE) (D : DefM K CE "told" "Ending.told" (inClass c_Ending 18) ["self"]) (GR : CalM P w K mg base 1 CE "rows_now" (sp_rows_now P w CP CS CE)) : CalM P w K mg base 6 CE "told" (sp_call0 P w CP CS CE .told) := by
  have sc : FnScope ["self", "rows"] ["self"] (defScope (inClass c_Ending 18)) := ⟨rfl, rfl, rfl, by decide +kernel, rfl, by decide +kernel, by decide +kernel⟩
  refine D.cal sc (by rintro _ _ _ _ ⟨_, _, _, _, rfl, _⟩; rfl) fun f cdv A outer s H vs Q E hr h => ?_
  obtain ⟨S, e, st, U, rfl, ea, k⟩ := h
  obtain ⟨rch, dx, se, d, de, po, pl, wn, x⟩ := id ea
  refine ⟨_, pss_cons (ps_set (i := 1) sc.nd rfl (.inl rfl) (pe_op op_cat (pe_cm0 GR G.te.cl hr (by decide) (pv 0)) (pe_lst (pa_cons (pe_fld (pv 0) rfl) pa_nil))))
    (pss_one (ps_ret (pe_op op_cat (pe_lst (pa_cons pe_int (pa_cons (pe_fld (pe_fld (pv 0) rfl) rfl) (pa_cons (pe_fld (pe_fld (pv 0) rfl) rfl) pa_nil)))) (pe_cf G.acd hr (by decide) (by rfl) (pa_cons (pv 1) pa_nil))))), ?_⟩
  have hs : Vbbraf.step st .told = Vbbraf.yes st (st.now.trump :: st.now.leader :: ((st.now.hands.flatMap Vbbraf.counted) ++ (Vbbraf.counted st.now.trick ++ Vbbraf.counted st.played))) := rfl
  have hs2 : (st.now.hands.flatMap Vbbraf.counted) ++ (Vbbraf.counted st.now.trick ++ Vbbraf.counted st.played) = (rowsOf st.now ++ [st.played]).flatMap Vbbraf.counted := by
    unfold rowsOf
    rw [List.flatMap_append, List.flatMap_append, List.flatMap_cons, List.flatMap_nil, List.append_nil, List.flatMap_cons, List.flatMap_nil, List.append_nil, List.append_assoc]
  rw [hs, hs2] at k
  obtain ⟨gd1, gd2, gd3, gd4, gd5⟩ := rch.good
  have gd : Gd st.now := ⟨gd1, rch.le⟩
  have r5 := rows_len gd
  have rf := rows_flat gd
  refine ⟨_, rfl, e, dx, _, rfl, x.ob, ef_none _ _ _ _ _ (by decide +kernel) (by decide +kernel) (by decide +kernel) (by decide +kernel) (by decide +kernel), S, e, st, U, rfl, ea, fun a H1 rs ha e1 hal hpr => ?_⟩
  have x1 := x.ex e1
  have rl5 := paired_len hpr
  refine ⟨_, rfl, e, CE, dx, _, _, rfl, x1.ob, G.te.cl, G.te.nL, ef_played _ _ _ _ _, (by show 1 ≤ sizeLine; decide), fun m hm => ?_⟩
  have e2 : Evl.Ex H1 (upd H1 m (.lst [V.ref pl])) := Evl.Ex.new hm
  have hm2 := upd_same (H := H1) (a := m) (o := .lst [V.ref pl])
  generalize upd H1 m (.lst [V.ref pl]) = H2 at *
  refine ⟨a, m, _, _, rfl, rfl, e2 _ _ hal, hm2, line16 (by rw [List.length_map]; show _ + 1 ≤ 1000; omega), fun b hb => ?_⟩
  have e3 : Evl.Ex H2 (upd H2 b (.lst (rs.map V.ref ++ [V.ref pl]))) := Evl.Ex.new hb
  have hb3 : upd H2 b (.lst (rs.map V.ref ++ [V.ref pl])) b = some (.lst ((rs ++ [pl]).map V.ref)) := by rw [upd_same, List.map_append]; rfl
  generalize upd H2 b (.lst (rs.map V.ref ++ [V.ref pl])) = H3 at *
  have e13 := e2.trans e3
  have x3 := x1.ex e13
  obtain ⟨pdx, h, tr, p1, p2, p3⟩ := id x3.hpo
  refine ⟨_, rfl, e, CE, dx, _, _, rfl, x3.ob, G.te.cl, G.te.nP, ef_position _ _ _ _ _, po, CP, pdx, _, _, rfl, p1, G.sc.tp.cl, G.sc.tp.nT, pf_trump _ _ _ _, _, rfl, e, CE, dx, _, _, rfl, x3.ob, G.te.cl, G.te.nP, ef_position _ _ _ _ _, po, CP, pdx, _, _, rfl, p1, G.sc.tp.cl, G.sc.tp.nL, pf_leader _ _ _ _, (by show 3 ≤ sizeLine; decide), fun n hn => ?_⟩
  have e4 : Evl.Ex H3 (upd H3 n (.lst [V.int 0, iv st.now.trump, iv st.now.leader])) := Evl.Ex.new hn
  have hn4 := upd_same (H := H3) (a := n) (o := .lst [V.int 0, iv st.now.trump, iv st.now.leader])
  generalize upd H3 n (.lst [V.int 0, iv st.now.trump, iv st.now.leader]) = H4 at *
  have e14 := e13.trans e4
  have x4 := x3.ex e4
  have fl : (rowsOf st.now ++ [st.played]).flatten.length ≤ 40 := by
    rw [List.flatten_append, List.length_append]
    simp only [List.flatten_cons, List.flatten_nil, List.append_nil]
    omega
  have ll : (rowsOf st.now ++ [st.played]).length = 6 := by rw [List.length_append, r5]; rfl
  refine ⟨_, rfl, b, _, rfl, ⟨rs ++ [pl], e4 _ _ hb3, Paired.snoc (Paired.mapP hpr fun r l z => .inr (e14 _ _ z)) (.inl x4.hpl)⟩, by omega, fun c H5 hc e5 hcl => ?_⟩
  have cl := cnt_len (rowsOf st.now ++ [st.played])
  refine ⟨n, c, _, _, rfl, rfl, e5 _ _ hn4, hcl, line16 (by rw [ivs_len]; show 3 + _ ≤ 1000; omega), fun r hr' => ?_⟩
  have e6 := Evl.Ex.new (o := .lst ([V.int 0, iv st.now.trump, iv st.now.leader] ++ ivs ((rowsOf st.now ++ [st.played]).flatMap Vbbraf.counted))) hr'
  have e05 := (e1.trans e14).trans e5
  refine Ans.same ea k r _ (Evl.fresh_back e05 hr') (e05.trans e6) ?_
  rw [upd_same, zs_yes]
  rfl
def sp_ecan (P : Program) (w : World) (CP CS CE : Addr) : Sp := fun vs H Q _ => ∃ S e a b st U U', vs = [.ref e, .int a, .int b] ∧ EnAt P w CP CS CE S H e st U ∧ (∀ y ∈ U, y ∈ U') ∧ U'.length ≤ sizeLine ∧ Cov U' st.now ∧ Ans P w CP CS CE S H e Q (Vbbraf.step st (.can a b)) U'
theorem ok_ecan (G : EnCal P w K mg base CP CS CE) (D : DefM K CE "can" "Ending.can" (inClass c_Ending 17) ["self", "side", "k"]) : CalM P w K mg base 61 CE "can" (sp_ecan P w CP CS CE) := by
  have sc : FnScope ["self", "side", "k", "most"] ["self", "side", "k"] (defScope (inClass c_Ending 17)) := ⟨rfl, rfl, rfl, by decide +kernel, rfl, by decide +kernel, by decide +kernel⟩
  refine D.cal sc (by rintro _ _ _ _ ⟨_, _, _, _, _, _, _, rfl, _⟩; rfl) fun f cdv A outer s H vs Q E hr h => ?_
  obtain ⟨S, e, a, b, st, U0, U, rfl, ea0, hU, hl, hc, k⟩ := h
  have ea := ea0.monoU hU
  obtain ⟨rch, dx, se, d, de, po, pl, wn, x⟩ := id ea
  refine ⟨_, pss_cons (ps_if (PW.pt (pw_or (pt_not (pt_val (pe_cf G.inr hr (by decide) (by rfl) (pa_cons (pv 1) (pa_cons pe_int (pa_cons pe_int pa_nil)))))) (pw_or1 (pt_not (pt_val (pe_cf G.inr hr (by decide) (by rfl) (pa_cons (pv 2) (pa_cons pe_int (pa_cons pe_int pa_nil))))))))) (pss_one (ps_ret (pe_cf0 G.oor hr (by decide) (by rfl)))) pss_nil)
    (pss_cons (ps_set (i := 3) sc.nd rfl (.inl rfl) (pe_cm G.val G.sc.ts.cl hr (Nat.le_refl _) (pe_fld (pv 0) rfl) (pa_cons (pe_fld (pv 0) rfl) pa_nil)))
    (pss_cons (ps_if (pt_cmpR op_eq (pv 1) pe_int (nomark _)) (pss_one (ps_set (i := 3) sc.nd rfl (.inl rfl) (pe_op op_sub (pe_cm0 G.tlf G.sc.tp.cl hr (by decide) (pe_fld (pv 0) rfl)) (pv 3)))) pss_nil)
    (pss_one (ps_ret (pe_lst (pa_cons pe_int (pa_cons (pe_ifExp (pt_cmpR op_le (pv 2) (pv 3) (nomark _)) pe_int pe_int) pa_nil))))))), ?_⟩
  have hs : Vbbraf.step st (.can a b) = if (Vbbraf.within a 0 1 && Vbbraf.within b 0 4) = false then Vbbraf.no st 1
    else Vbbraf.yes st [if (if a = 0 then decide (b.toNat ≤ Vbbraf.value st.now) else decide (b.toNat + Vbbraf.value st.now ≤ Vbbraf.toCome st.now)) = true then 1 else 0] := rfl
  rw [hs] at k
  obtain ⟨gd1, gd2, gd3, gd4, gd5⟩ := rch.good
  have gd : Gd st.now := ⟨gd1, rch.le⟩
  have hle := gd.le
  refine ⟨_, rfl, a, 0, 1, rfl, _, rfl, iteB (fun cc => iteT ?_) fun cc => ⟨_, rfl, b, 0, 4, rfl, _, rfl, iteB (fun cc2 => ?_) fun cc2 => ?_⟩⟩
  · rw [if_pos (by rw [nb cc]; rfl)] at k
    exact no_ans ea k E0
  · rw [if_pos (by rw [nb2 cc, nb cc2]; rfl)] at k
    exact no_ans ea k E0
  have c1 := nb2 cc
  have c2 := nb2 cc2
  rw [if_neg (by rw [c1, c2]; decide)] at k
  unfold Vbbraf.within at c1 c2
  rw [Bool.and_eq_true] at c1 c2
  have a0 := of_decide_eq_true c1.1
  have a1 := of_decide_eq_true c1.2
  have b0 := of_decide_eq_true c2.1
  have ss := x.se_of gd (fun _ h => h) hl hc
  obtain ⟨sdx, hsx⟩ := id x.hse
  refine ⟨_, rfl, e, CE, dx, _, _, rfl, x.ob, G.te.cl, G.te.nS, ef_search _ _ _ _ _, se, sdx, _, rfl, hsx, sf_none _ (by decide +kernel), _, rfl, e, CE, dx, _, _, rfl, x.ob, G.te.cl, G.te.nP, ef_position _ _ _ _ _, se, po, d, _, U, rfl, ss, by omega, fun H1 g1 f1 => ?_⟩
  have x1 := x.gx g1 f1
  have fin : ∀ (m : Int) (H2 : Hp), Evl.Ex H1 H2 → (decide (b ≤ m) = (if a = 0 then decide (b.toNat ≤ Vbbraf.value st.now) else decide (b.toNat + Vbbraf.value st.now ≤ Vbbraf.toCome st.now))) →
      (if decide (b ≤ m) = true then ∀ l, H2 l = none → Q (.ref l) (upd H2 l (.lst [V.int 0, V.int 1])) else ∀ l, H2 l = none → Q (.ref l) (upd H2 l (.lst [V.int 0, V.int 0]))) := fun m H2 e2 hm => by
    rw [← hm] at k
    cases z : decide (b ≤ m) with
    | true =>
      rw [z] at k
      show ∀ l, H2 l = none → Q (.ref l) (upd H2 l (.lst [V.int 0, V.int 1]))
      intro l hl'
      refine done_ans x rch k g1 f1 (Evl.fresh_back e2 hl') (e2.trans (Evl.Ex.new hl')) ?_
      rw [upd_same, zs_yes]
      rfl
    | false =>
      rw [z] at k
      show ∀ l, H2 l = none → Q (.ref l) (upd H2 l (.lst [V.int 0, V.int 0]))
      intro l hl'
      refine done_ans x rch k g1 f1 (Evl.fresh_back e2 hl') (e2.trans (Evl.Ex.new hl')) ?_
      rw [upd_same, zs_yes]
      rfl
  refine ⟨_, rfl, rfl, _, rfl, iteB (fun cc => ?_) fun cc => ?_⟩
  · have ha : a = 1 := by
      have := of_decide_eq_true cc
      injection this
    have n0 : ¬ a = 0 := by omega
    obtain ⟨pdx, h, tr, p1, p2, p3⟩ := id x1.hpo
    refine ⟨_, rfl, e, CE, dx, _, _, rfl, x1.ob, G.te.cl, G.te.nP, ef_position _ _ _ _ _, po, pdx, _, rfl, p1, pf_none _ _ _ _ (by decide +kernel) (by decide +kernel) (by decide +kernel) (by decide +kernel), po, _, rfl, x1.hpo, gd, fun H2 e2 => ?_⟩
    refine ⟨_, rfl, _, _, rfl, rfl, ?_⟩
    have hm : decide (b ≤ (Vbbraf.toCome st.now : Int) - (Vbbraf.value st.now : Int)) = (if a = 0 then decide (b.toNat ≤ Vbbraf.value st.now) else decide (b.toNat + Vbbraf.value st.now ≤ Vbbraf.toCome st.now)) := by
      rw [if_neg n0]
      by_cases z : b.toNat + Vbbraf.value st.now ≤ Vbbraf.toCome st.now
      · rw [decide_eq_true z, decide_eq_true (by omega)]
      · rw [decide_eq_false z, decide_eq_false (by omega)]
    have := fin _ H2 e2 hm
    refine ⟨_, rfl, _, rfl, _, _, rfl, rfl, _, rfl, iteB (fun cc => ?_) fun cc => ?_⟩
    · rw [if_pos cc] at this
      exact ⟨(by show 2 ≤ sizeLine; decide), this⟩
    · rw [if_neg (by rw [show decide (b ≤ (Vbbraf.toCome st.now : Int) - (Vbbraf.value st.now : Int)) = false from cc]; decide)] at this
      exact ⟨(by show 2 ≤ sizeLine; decide), this⟩
  · have n1 : ¬ a = 1 := fun z => by subst z; cases cc
    have ha : a = 0 := by omega
    have hm : decide (b ≤ (Vbbraf.value st.now : Int)) = (if a = 0 then decide (b.toNat ≤ Vbbraf.value st.now) else decide (b.toNat + Vbbraf.value st.now ≤ Vbbraf.toCome st.now)) := by
      rw [if_pos ha]
      by_cases z : b.toNat ≤ Vbbraf.value st.now
      · rw [decide_eq_true z, decide_eq_true (by omega)]
      · rw [decide_eq_false z, decide_eq_false (by omega)]
    have := fin _ H1 (Evl.Ex.refl _) hm
    refine ⟨_, rfl, _, rfl, _, _, rfl, rfl, _, rfl, iteB (fun cc => ?_) fun cc => ?_⟩
    · rw [if_pos cc] at this
      exact ⟨(by show 2 ≤ sizeLine; decide), this⟩
    · rw [if_neg (by rw [show decide (b ≤ (Vbbraf.value st.now : Int)) = false from cc]; decide)] at this
      exact ⟨(by show 2 ≤ sizeLine; decide), this⟩
end
end Lx

/-! endings.py: the reader -/
namespace Lx
open PySem PySem.Spec PyProof.Rows L2
def rdF (nl : Addr) (k : Nat) : List (Str × V) := [("numbers", .ref nl), ("place", iv k)]
theorem rf_numbers (nl : Addr) (k : Nat) : (rdF nl k).lookup ("numbers" : Str) = some (.ref nl) := lk_here
theorem rf_place (nl : Addr) (k : Nat) : (rdF nl k).lookup ("place" : Str) = some (iv k) := (lk_past (by decide +kernel)).trans lk_here
theorem rf_none (nl : Addr) (k : Nat) {m : Str} (h1 : (m == "numbers") = false) (h2 : (m == "place") = false) : (rdF nl k).lookup m = none := (lk_past h1).trans ((lk_past h2).trans rfl)
theorem rf_ne : ¬ ("numbers" : Str) = "place" := by decide +kernel
theorem rf_put (nl : Addr) (k j : Nat) : putF "place" (iv j) (rdF nl k) = rdF nl j := by
  unfold rdF
  rw [put_past rf_ne, put_here]
structure RdT (K : PySem.W.Frag) (C : Addr) : Prop where
  cl : Cls K C
  nN : NoAttr K C "numbers"
  nP : NoAttr K C "place"
/-- the reader at r stands ahead of rest -/
def RdAt (K : PySem.W.Frag) (C : Addr) (H : Hp) (r nl : Addr) (ns rest : List Int) : Prop := ∃ dx k, H r = some (.ins C dx (rdF nl k)) ∧ SqL K H nl (zs ns) ∧ ns.drop k = rest ∧ k ≤ ns.length ∧ ns.length ≤ 16000
section
variable {P : Program} {w : World} {K : PySem.W.Frag} {mg : Str → Option Value} {base : Heap} {CR : Addr}
theorem sql_gx {H H' : Hp} {d a C dx : Addr} {fs : List (Str × V)} {xs : List V} (g : Gx d H H') (hd : H d = some (.ins C dx fs)) (h : SqL K H a xs) : SqL K H' a xs := by
  rcases h with (h | ⟨o, h⟩) | h
  · exact .inl (.inl (g a _ (ne_of h hd (fun z => nomatch z)) h))
  · exact .inl (.inr ⟨o, g a _ (ne_of h hd (fun z => nomatch z)) h⟩)
  · exact .inr h
theorem sql_ex {H H' : Hp} {a : Addr} {xs : List V} (e : Evl.Ex H H') (h : SqL K H a xs) : SqL K H' a xs := Evl.ex_l e h
theorem RdAt.ex {H H' : Hp} {r nl : Addr} {ns rest : List Int} (x : RdAt K CR H r nl ns rest) (e : Evl.Ex H H') : RdAt K CR H' r nl ns rest := by
  obtain ⟨dx, k, h1, h2, h3⟩ := x
  exact ⟨dx, k, e _ _ h1, sql_ex e h2, h3⟩
theorem drop_cons {ns rest : List Int} {k : Nat} {z : Int} (h : ns.drop k = z :: rest) : ns[k]? = some z ∧ ns.drop (k + 1) = rest ∧ k + 1 ≤ ns.length := by
  have hl : k < ns.length := by
    have := congrArg List.length h
    rw [List.length_drop, List.length_cons] at this
    omega
  rw [List.drop_eq_getElem_cons hl] at h
  injection h with h1 h2
  exact ⟨by rw [List.getElem?_eq_getElem hl, h1], h2, hl⟩
theorem zs_at {ns : List Int} {k : Nat} {z : Int} (h : ns[k]? = some z) : (zs ns)[k]? = some (.int z) := by
  unfold zs
  rw [List.getElem?_map, h]
  rfl
theorem pairedL_mem {F F' : Addr → List Int → Prop} : ∀ {rs : List Addr} {hs : List (List Int)}, Paired F rs hs → (∀ b y, b ∈ rs → F b y → F' b y) → Paired F' rs hs
  | _, _, .nil, _ => .nil
  | _, _, .cons p r, h => .cons (h _ _ List.mem_cons_self p) (pairedL_mem r fun b y hb => h b y (List.mem_cons_of_mem _ hb))
def sp_rd_init (CR : Addr) : Sp := fun vs H Q _ => ∃ r dx nl, vs = [.ref r, .ref nl] ∧ H r = some (.ins CR dx []) ∧ Q .non (upd H r (.ins CR dx (rdF nl 0)))
theorem ok_rd_init (T : RdT K CR) (D : DefI K mg CR "Reader" "Reader.__init__" (inClass c_Reader 0) ["self", "numbers"]) : CalC P w K mg base 1 CR "Reader" (sp_rd_init CR) := by
  have sc : FnScope ["self", "numbers"] ["self", "numbers"] (defScope (inClass c_Reader 0)) := ⟨rfl, rfl, rfl, by decide +kernel, rfl, by decide +kernel, by decide +kernel⟩
  refine D.cal sc (by rintro _ _ _ _ ⟨_, _, _, rfl, _⟩; rfl) fun f cdv A outer s H vs Q E hr h => ?_
  obtain ⟨r, dx, nl, rfl, hr', k⟩ := h
  refine ⟨_, pss_cons (ps_fld (pv 0) (pv 1) rfl) (pss_one (ps_fld (pv 0) pe_int rfl)), ?_⟩
  refine ⟨_, rfl, _, rfl, r, CR, dx, _, rfl, hr', T.cl, T.nN, (by show 0 < 1000; decide), ?_⟩
  refine ⟨_, rfl, r, CR, dx, _, rfl, upd_same, T.cl, T.nP, (by show 1 < 1000; decide), ?_⟩
  show Q .non _
  have e0 : ∀ (f : Str) (v : V), putF f v [] = [(f, v)] := fun _ _ => rfl
  rw [upd_upd, e0, put_past rf_ne, e0]
  exact k
def sp_at_end (K : PySem.W.Frag) (CR : Addr) : Sp := fun vs H Q _ => ∃ r nl ns rest, vs = [.ref r] ∧ RdAt K CR H r nl ns rest ∧ Q (.bl rest.isEmpty) H
theorem ok_at_end (B : Bl mg) (T : RdT K CR) (D : DefM K CR "at_end" "Reader.at_end" (inClass c_Reader 1) ["self"]) : CalM P w K mg base 1 CR "at_end" (sp_at_end K CR) := by
  have sc : FnScope ["self"] ["self"] (defScope (inClass c_Reader 1)) := ⟨rfl, rfl, rfl, by decide +kernel, rfl, by decide +kernel, by decide +kernel⟩
  refine D.cal sc (by rintro _ _ _ _ ⟨_, _, _, _, rfl, _⟩; rfl) fun f cdv A outer s H vs Q E hr h => ?_
  obtain ⟨r, nl, ns, rest, rfl, ⟨dx, k, h1, h2, h3, h4, h5⟩, q⟩ := h
  refine ⟨_, pss_one (ps_ret (pe_cmpR op_eq (pe_fld (pv 0) rfl) (pe_callB call_len (by rfl) B.len PySem.boot_len (pa_cons (pe_fld (pv 0) rfl) pa_nil)) (nomark _))), ?_⟩
  refine ⟨_, rfl, r, CR, dx, _, _, rfl, h1, T.cl, T.nP, rf_place _ _, _, rfl, r, CR, dx, _, _, rfl, h1, T.cl, T.nN, rf_numbers _ _, _, _, rfl, .inl ⟨_, h2, rfl⟩, rfl, ?_⟩
  have e : decide (iv k = V.int ((zs ns).length : Int)) = rest.isEmpty := by
    rw [zs_len]
    show decide (iv k = iv ns.length) = _
    rw [dec_iv, ← h3]
    by_cases z : k = ns.length
    · rw [decide_eq_true z, z, List.drop_length]
      rfl
    · rw [decide_eq_false z]
      cases y : ns.drop k with
      | nil =>
        have := congrArg List.length y
        rw [List.length_drop] at this
        exact absurd (show k = ns.length by simp only [List.length_nil] at this; omega) z
      | cons a b => rfl
  rw [e]
  exact q
def sp_number (K : PySem.W.Frag) (CR : Addr) : Sp := fun vs H Q _ => ∃ r nl ns z rest, vs = [.ref r] ∧ RdAt K CR H r nl ns (z :: rest) ∧ ∀ H', Gx r H H' → RdAt K CR H' r nl ns rest → Q (.int z) H'
theorem ok_number (T : RdT K CR) (D : DefM K CR "number" "Reader.number" (inClass c_Reader 2) ["self"]) : CalM P w K mg base 1 CR "number" (sp_number K CR) := by
  have sc : FnScope ["self", "number"] ["self"] (defScope (inClass c_Reader 2)) := ⟨rfl, rfl, rfl, by decide +kernel, rfl, by decide +kernel, by decide +kernel⟩
  refine D.cal sc (by rintro _ _ _ _ ⟨_, _, _, _, _, rfl, _⟩; rfl) fun f cdv A outer s H vs Q E hr h => ?_
  obtain ⟨r, nl, ns, z, rest, rfl, ⟨dx, k, h1, h2, h3, h4, h5⟩, q⟩ := h
  refine ⟨_, pss_cons (ps_set (i := 1) sc.nd rfl (.inl rfl) (pe_ix ix_list (pe_fld (pv 0) rfl) (pe_fld (pv 0) rfl) (fun _ _ => rfl)))
    (pss_cons (ps_fldaug (pv 0) pe_int in_add) (pss_one (ps_ret (pv 1)))), ?_⟩
  obtain ⟨d1, d2, d3⟩ := drop_cons h3
  refine ⟨_, rfl, r, CR, dx, _, _, rfl, h1, T.cl, T.nN, rf_numbers _ _, _, rfl, r, CR, dx, _, _, rfl, h1, T.cl, T.nP, rf_place _ _, nl, _, _, V.int z, rfl, rfl, h2, atI_nat (zs_at d1), ?_⟩
  refine ⟨_, rfl, r, CR, dx, _, _, rfl, h1, T.cl, T.nP, rf_place _ _, _, _, rfl, rfl, dx, _, h1, (by show 2 < 1000; decide), ?_⟩
  have e : V.int ((k : Int) + 1) = iv (k + 1) := by unfold iv; congr 1
  rw [e, rf_put]
  have g : Gx r H (upd H r (.ins CR dx (rdF nl (k + 1)))) := fun a o n z => by rw [upd_ne n]; exact z
  exact ⟨_, rfl, q _ g ⟨dx, k + 1, upd_same, sql_gx g h1 h2, d2, d3, h5⟩⟩
def sp_row (K : PySem.W.Frag) (CR : Addr) : Sp := fun vs H Q _ => ∃ r nl ns rest x rest', vs = [.ref r] ∧ RdAt K CR H r nl ns rest ∧ PyFlat.row rest = some (x, rest') ∧ ∀ p H', H p = none → Gx r H H' → RdAt K CR H' r nl ns rest' → H' p = some (.lst (zs x)) → Q (.ref p) H'
theorem ok_row (T : RdT K CR) (D : DefM K CR "row" "Reader.row" (inClass c_Reader 3) ["self"]) (G : CalM P w K mg base 1 CR "number" (sp_number K CR)) : CalM P w K mg base 2 CR "row" (sp_row K CR) := by
  have sc : FnScope ["self", "size", "start"] ["self"] (defScope (inClass c_Reader 3)) := ⟨rfl, rfl, rfl, by decide +kernel, rfl, by decide +kernel, by decide +kernel⟩
  refine D.cal sc (by rintro _ _ _ _ ⟨_, _, _, _, _, _, rfl, _⟩; rfl) fun f cdv A outer s H vs Q E hr h => ?_
  obtain ⟨r, nl, ns, rest, x, rest', rfl, rd, hrow, q⟩ := h
  refine ⟨_, pss_cons (ps_set (i := 1) sc.nd rfl (.inl rfl) (pe_cm0 G T.cl hr (Nat.le_refl _) (pv 0)))
    (pss_cons (ps_set (i := 2) sc.nd rfl (.inl rfl) (pe_fld (pv 0) rfl))
    (pss_cons (ps_fldaug (pv 0) (pv 1) in_add)
    (pss_one (ps_ret (pe_slice sl_list (pe_fld (pv 0) rfl) (po_some (pv 2)) (po_some (pe_fld (pv 0) rfl))))))), ?_⟩
  obtain ⟨n, m, rfl, hn, rfl, rfl⟩ := Lm.row_some hrow
  obtain ⟨dx0, k0, y1, _⟩ := id rd
  refine ⟨_, rfl, r, dx0, _, rfl, y1, rf_none _ _ (by decide +kernel) (by decide +kernel), r, nl, ns, _, _, rfl, rd, fun H1 g1 rd1 => ?_⟩
  obtain ⟨dx, k, h1, h2, h3, h4, h5⟩ := rd1
  refine ⟨_, rfl, r, CR, dx, _, _, rfl, h1, T.cl, T.nP, rf_place _ _, ?_⟩
  refine ⟨_, rfl, r, CR, dx, _, _, rfl, h1, T.cl, T.nP, rf_place _ _, _, rfl, _, _, rfl, rfl, dx, _, h1, (by show 2 < 1000; decide), ?_⟩
  have e : V.int ((k : Int) + (n : Int)) = iv (k + n) := by unfold iv; congr 1
  rw [e, rf_put]
  have g2 : Gx r H1 (upd H1 r (.ins CR dx (rdF nl (k + n)))) := fun a o n z => by rw [upd_ne n]; exact z
  have hr2 : (upd H1 r (.ins CR dx (rdF nl (k + n)))) r = some (.ins CR dx (rdF nl (k + n))) := upd_same
  have sq2 := sql_gx g2 h1 h2
  generalize upd H1 r (.ins CR dx (rdF nl (k + n))) = H2 at *
  have hml : m.length = ns.length - k := by rw [← h3, List.length_drop]
  have hcut : cutV (zs ns) (some (k : Int)) (some ((k + n : Nat) : Int)) = zs (m.take n) := by
    unfold cutV
    rw [HT.sIx_nat, HT.sIx_nat, zs_len, Nat.min_eq_left h4, Nat.min_eq_left (by omega)]
    unfold zs
    rw [← List.map_drop, ← List.map_take, h3, Nat.add_sub_cancel_left]
  refine ⟨_, rfl, r, CR, dx, _, _, rfl, hr2, T.cl, T.nN, rf_numbers _ _, _, rfl, (k : Int), rfl, _, rfl, r, CR, dx, _, _, rfl, hr2, T.cl, T.nP, rf_place _ _, ((k + n : Nat) : Int), rfl, nl, _, rfl, sq2, fun p hp => ?_⟩
  have e3 := Evl.Ex.new (o := .lst (cutV (zs ns) (some (k : Int)) (some ((k + n : Nat) : Int)))) hp
  have hpH : H p = none := by
    cases z : H p with
    | none => rfl
    | some o =>
      by_cases y : p = r
      · rw [y, hr2] at hp; cases hp
      · rw [g2 p o y (g1 p o y z)] at hp; cases hp
  refine q p _ hpH ((g1.trans g2).trans (Gx.of e3)) ⟨dx, k + n, e3 _ _ hr2, sql_ex e3 sq2, ?_, by omega, h5⟩ ?_
  · rw [← h3, List.drop_drop]
  · rw [upd_same, hcut]
def sp_rows (K : PySem.W.Frag) (CR : Addr) : Sp := fun vs H Q _ => ∃ r n nl ns rest xs rest', vs = [.ref r, iv n] ∧ n ≤ 100 ∧ RdAt K CR H r nl ns rest ∧ PyFlat.rows n rest = some (xs, rest') ∧ ∀ p H', H p = none → Gx r H H' → RdAt K CR H' r nl ns rest' → HandsL H' p xs → Q (.ref p) H'
theorem ok_rows (B : Bl mg) (T : RdT K CR) (D : DefM K CR "rows" "Reader.rows" (inClass c_Reader 4) ["self", "count"]) (G : CalM P w K mg base 2 CR "row" (sp_row K CR)) : CalM P w K mg base 3 CR "rows" (sp_rows K CR) := by
  have sc : FnScope ["self", "count", "rows", "step"] ["self", "count"] (defScope (inClass c_Reader 4)) := ⟨rfl, rfl, rfl, by decide +kernel, rfl, by decide +kernel, by decide +kernel⟩
  refine D.cal sc (by rintro _ _ _ _ ⟨_, _, _, _, _, _, _, rfl, _⟩; rfl) fun f cdv A outer s H vs Q E hr h => ?_
  obtain ⟨r, n, nl, ns, rest, xs, rest', rfl, hn, rd, hrows, q⟩ := h
  refine ⟨_, pss_cons (ps_set (i := 2) sc.nd rfl (.inl rfl) (pe_lst pa_nil))
    (pss_cons (ps_for PassesOwn.never rfl (pi_range1 (by rfl) B.range (pa_cons (pv 1) pa_nil)) (pg_name (i := 3) sc.nd rfl (.inl rfl))
      (pss_one (ps_expr (pe_bm PySem.F.plainAttrs_list PySem.F.slot_list_append PySem.F.type_list_append mt_append (pv 2) (pa_cons (pe_cm0 G T.cl hr (Nat.le_refl _) (pv 0)) pa_nil)))))
    (pss_one (ps_ret (pv 2)))), ?_⟩
  refine ⟨Nat.zero_le _, fun p hp => ?_⟩
  have e1 : Evl.Ex H (upd H p (.lst [])) := Evl.Ex.new hp
  refine ⟨_, rfl, (n : Int), rfl, by omega, by omega, for_range (lo := 0) (n := n) (fun i σ H' => ∃ v rs done left mid, σ = [some (.ref r), some (iv n), some (.ref p), v] ∧ Gx r H H' ∧ RdAt K CR H' r nl ns mid ∧ H' p = some (.lst (rs.map V.ref)) ∧ Paired (fun (a : Addr) (x : List Int) => H' a = some (.lst (zs x))) rs done ∧ rs.length = i ∧ done ++ left = xs ∧ PyFlat.rows (n - i) mid = some (left, rest') ∧ ∀ a ∈ rs, a ≠ p) ?_ ?_ ?_⟩
  · exact ⟨none, [], [], xs, rest, rfl, Gx.of e1, rd.ex e1, upd_same, .nil, rfl, rfl, hrows, fun a h => by cases h⟩
  · rintro i σ H' hi ⟨v, rs, done, left, mid, rfl, g, rd', hp', hpr, hrl, hdl, hrest, hne⟩
    obtain ⟨j, hj⟩ : ∃ j, n - i = j + 1 := ⟨n - i - 1, by omega⟩
    rw [hj] at hrest
    obtain ⟨x, m, ys, r1, r2, rfl⟩ := Lm.rows_succ hrest
    obtain ⟨dx0, k0, y1, _⟩ := id rd'
    refine ⟨_, rfl, .inl ⟨rfl, _, SqL.of hp'⟩, _, rfl, r, dx0, _, rfl, y1, rf_none _ _ (by decide +kernel) (by decide +kernel), r, nl, ns, mid, x, m, rfl, rd', r1, fun a H2 ha g2 rd2 hx => ?_⟩
    have npr : p ≠ r := ne_of hp' y1 (fun z => nomatch z)
    have hp2 := g2 p _ npr hp'
    have hap : a ≠ p := fun z => by rw [z, hp'] at ha; cases ha
    refine ⟨p, _, .ref a, rfl, rfl, hp2, Evl.sz_lt (by rw [List.length_map]; omega), ?_⟩
    obtain ⟨dx2, k2, z1, z2, z3⟩ := id rd2
    have nlp : ∀ o, upd H2 p o r = H2 r := fun o => upd_ne (Ne.symm npr)
    have sq : SqL K (upd H2 p (.lst (rs.map V.ref ++ [.ref a]))) nl (zs ns) := by
      obtain ⟨dxr, kr, w1, w2, _⟩ := id rd
      exact sql_gx ((g.trans g2).upd_new hp) w1 w2
    refine ⟨some (.int (0 + (i : Int))), rs ++ [a], done ++ [x], ys, m, rfl, (g.trans g2).upd_new hp, ⟨dx2, k2, by rw [nlp]; exact z1, sq, z3⟩, by rw [upd_same, List.map_append]; rfl, ?_, by rw [List.length_append, hrl]; rfl, by rw [List.append_assoc]; exact hdl, ?_, ?_⟩
    · refine Paired.snoc (pairedL_mem hpr fun b y hb h => ?_) ?_
      · have nbr : b ≠ r := ne_of h y1 (fun z => nomatch z)
        rw [upd_ne (hne b hb)]
        exact g2 b _ nbr h
      · rw [upd_ne hap]
        exact hx
    · rw [show n - (i + 1) = j by omega]
      exact r2
    · intro b hb
      rcases List.mem_append.mp hb with hb | hb
      · exact hne b hb
      · rcases List.mem_cons.mp hb with z | hb
        · rw [z]; exact hap
        · cases hb
  · rintro σ H' ⟨v, rs, done, left, mid, rfl, g, rd', hp', hpr, hrl, hdl, hrest, hne⟩
    rw [Nat.sub_self] at hrest
    obtain ⟨l1, l2⟩ := Lm.rows_zero hrest
    rw [l1, List.append_nil] at hdl
    rw [← l2] at rd'
    rw [hdl] at hpr
    exact ⟨_, rfl, q p H' hp g rd' ⟨rs, hp', hpr⟩⟩
end
end Lx

/-! endings.py: one call, and all -/
namespace Lx
open PySem PySem.Spec PyProof.Rows L2
section
variable (P : Program) (w : World) (K : PySem.W.Frag) (CP CS CE CR : Addr)
/-- an ending at e and a reader at r ahead of rest; H0: what stood at first -/
structure Rdy (S : Addr → Prop) (H0 H : Hp) (e r nl : Addr) (ns rest : List Int) (st : Vbbraf.State) (U : List PK3) : Prop where
  en : EnAt P w CP CS CE S H e st U
  sr : S r
  ex : Evl.Ex H0 H
  s0 : ∀ a, H0 a ≠ none → S a
  r0 : H0 r = none
  nl0 : SqL K H0 nl (zs ns)
  rd : RdAt K CR H r nl ns rest
/-- an answer: behind it the reader is ahead of rest -/
def AnsR (S : Addr → Prop) (H0 H : Hp) (e r nl : Addr) (ns rest : List Int) (Q : VK) (a : Vbbraf.State × List Int) (U : List PK3) : Prop :=
  ∀ p H', ¬ S p → Rdy P w K CP CS CE CR S H0 H' e r nl ns rest a.1 U → (∀ b, S b → b ≠ r → H' b = H b) → H' p = some (.lst (zs a.2)) → Q (.ref p) H'
end
section
variable {P : Program} {w : World} {K : PySem.W.Frag} {mg : Str → Option Value} {base : Heap} {CP CS CE CR : Addr} {S : Addr → Prop} {H0 H H' : Hp} {e r nl : Addr} {ns rest rest' : List Int} {st : Vbbraf.State} {U U' : List PK3}
theorem en_ne_rd {C C' dx dx' se de po pl wn nl : Addr} {k : Nat} : HO.ins C dx (enF se de po pl wn) ≠ HO.ins C' dx' (rdF nl k) := fun z => by
  injection z with _ _ z
  exact absurd (congrArg List.length z) (by show ¬ (5 = 2); decide)
theorem pos_ne_rd {C C' dx dx' h tr nl : Addr} {t l k : Nat} : HO.ins C dx (posF h t l tr) ≠ HO.ins C' dx' (rdF nl k) := fun z => by
  injection z with _ _ z
  exact absurd (congrArg List.length z) (by show ¬ (4 = 2); decide)
theorem se_ne_rd {C C' dx dx' d nl : Addr} {k : Nat} : HO.ins C dx (seF d) ≠ HO.ins C' dx' (rdF nl k) := fun z => by
  injection z with _ _ z
  exact absurd (congrArg List.length z) (by show ¬ (1 = 2); decide)
theorem PosAt.gr {C p dx : Addr} {q : Vbbraf.Pos} {k : Nat} (x : PosAt C H p q) (g : Gx r H H') (hr : H r = some (.ins CR dx (rdF nl k))) : PosAt C H' p q := by
  obtain ⟨px, h, tr, h1, h2, h3⟩ := x
  exact ⟨px, h, tr, g _ _ (ne_of h1 hr pos_ne_rd) h1, h2.mono fun a xs z => g _ _ (ne_of z hr (fun z => nomatch z)) z, g _ _ (ne_of h3 hr (fun z => nomatch z)) h3⟩
/-- the reader goes on: the ending stands -/
theorem EnAt.gr {dx : Addr} {k : Nat} (x : EnAt P w CP CS CE S H e st U) (g : Gx r H H') (hr : H r = some (.ins CR dx (rdF nl k))) (hr' : H' r ≠ none) : EnAt P w CP CS CE S H' e st U := by
  obtain ⟨rch, dxe, se, d, de, po, pl, wn, x⟩ := x
  obtain ⟨sx, hs⟩ := x.hse
  obtain ⟨f1, xs, f2, f3, f4⟩ := x.fo
  refine ⟨rch, dxe, se, d, de, po, pl, wn, g _ _ (ne_of x.ob hr en_ne_rd) x.ob, ⟨sx, g _ _ (ne_of hs hr se_ne_rd) hs⟩, x.hde.gr g hr, x.hpo.gr g hr, g _ _ (ne_of x.hpl hr (fun z => nomatch z)) x.hpl, g _ _ (ne_of x.hwn hr (fun z => nomatch z)) x.hwn,
    ⟨f1, xs, g _ _ (ne_of f2 hr (fun z => nomatch z)) f2, f3, fun y hy => (f4 y hy).mono (fun a ys z => g _ _ (ne_of z hr (fun z => nomatch z)) z) fun _ h => h⟩, x.lw, fun a ha => ?_⟩
  obtain ⟨q1, q2⟩ := x.out a ha
  refine ⟨?_, q2⟩
  by_cases z : a = r
  · rw [z]; exact hr'
  · cases q : H a with
    | none => exact absurd q q1
    | some o => rw [g a o z q]; intro z; cases z
theorem ex_kp (x : Evl.Ex H0 H) (s0 : ∀ a, H0 a ≠ none → S a) (k : Kp S H H') : Evl.Ex H0 H' := fun a o z => by
  rw [k a (s0 a (by rw [z]; intro y; cases y))]
  exact x a o z
theorem ex_gr (x : Evl.Ex H0 H) (r0 : H0 r = none) (g : Gx r H H') : Evl.Ex H0 H' := fun a o z => g a o (ne_of_none z r0) (x a o z)
/-- a number is read -/
theorem Rdy.read (x : Rdy P w K CP CS CE CR S H0 H e r nl ns rest st U) (g : Gx r H H') (rd : RdAt K CR H' r nl ns rest') : Rdy P w K CP CS CE CR S H0 H' e r nl ns rest' st U := by
  obtain ⟨dx, k, h1, _⟩ := x.rd
  obtain ⟨dx', k', h1', _⟩ := id rd
  exact ⟨x.en.gr g h1 (by rw [h1']; intro z; cases z), x.sr, ex_gr x.ex x.r0 g, x.s0, x.r0, x.nl0, rd⟩
theorem Rdy.kpr (x : Rdy P w K CP CS CE CR S H0 H e r nl ns rest st U) (g : Gx r H H') : ∀ b, S b → b ≠ r → H' b = H b := fun b hb n => by
  cases q : H b with
  | none => exact absurd q (x.en.there hb)
  | some o => exact g b o n q
/-- the ending has answered -/
theorem Rdy.told {st' : Vbbraf.State} (x : Rdy P w K CP CS CE CR S H0 H e r nl ns rest st U) (en : EnAt P w CP CS CE S H' e st' U') (k : Kp S H H') : Rdy P w K CP CS CE CR S H0 H' e r nl ns rest st' U' := by
  have e' := ex_kp x.ex x.s0 k
  obtain ⟨dx, j, h1, _, h3⟩ := x.rd
  exact ⟨en, x.sr, e', x.s0, x.r0, x.nl0, dx, j, by rw [k r x.sr]; exact h1, sql_ex e' x.nl0, h3⟩
/-- .. so it is an answer here -/
theorem AnsR.of {Q : VK} {a : Vbbraf.State × List Int} (x : Rdy P w K CP CS CE CR S H0 H e r nl ns rest st U) (k : AnsR P w K CP CS CE CR S H0 H e r nl ns rest Q a U') : Ans P w CP CS CE S H e Q a U' := fun p H' hp en kp hl =>
  k p H' hp (x.told en kp) (fun b hb _ => kp b hb) hl
theorem AnsR.read {Q : VK} {a : Vbbraf.State × List Int} {H1 : Hp} (x : Rdy P w K CP CS CE CR S H0 H e r nl ns rest st U) (g : Gx r H H1) (k : AnsR P w K CP CS CE CR S H0 H e r nl ns rest' Q a U') : AnsR P w K CP CS CE CR S H0 H1 e r nl ns rest' Q a U' := fun p H' hp y kp hl =>
  k p H' hp y (fun b hb n => (kp b hb n).trans (x.kpr g b hb n)) hl
/-- what the calls may call -/
structure TopCal (P : Program) (w : World) (K : PySem.W.Frag) (mg : Str → Option Value) (base : Heap) (CP CS CE CR : Addr) : Prop where
  en : EnCal P w K mg base CP CS CE
  tr : RdT K CR
  ini : CalC P w K mg base 3 CE "Ending" (sp_en_init P w CP CS CE)
  deal : CalM P w K mg base 6 CE "deal" (sp_edeal P w CP CS CE)
  play : CalM P w K mg base 6 CE "play" (sp_play P w CP CS CE)
  back : CalM P w K mg base 6 CE "back" (sp_back P w CP CS CE)
  turn : CalM P w K mg base 6 CE "turn" (sp_call0 P w CP CS CE .turn)
  val : CalM P w K mg base 61 CE "value" (sp_heavy0 P w CP CS CE .value)
  crd : CalM P w K mg base 61 CE "cards" (sp_heavy0 P w CP CS CE .cards)
  lin : CalM P w K mg base 61 CE "line" (sp_heavy0 P w CP CS CE .line)
  acc : CalM P w K mg base 61 CE "account" (sp_eaccount P w CP CS CE)
  pst : CalM P w K mg base 61 CE "past" (sp_heavyC P w CP CS CE .past)
  tab : CalM P w K mg base 61 CE "table" (sp_heavyC P w CP CS CE .table)
  ali : CalM P w K mg base 6 CE "alike" (sp_ealike P w CP CS CE)
  sqz : CalM P w K mg base 6 CE "squeezed" (sp_call0 P w CP CS CE .squeezed)
  can : CalM P w K mg base 61 CE "can" (sp_ecan P w CP CS CE)
  tld : CalM P w K mg base 6 CE "told" (sp_call0 P w CP CS CE .told)
  rin : CalC P w K mg base 1 CR "Reader" (sp_rd_init CR)
  atE : CalM P w K mg base 1 CR "at_end" (sp_at_end K CR)
  num : CalM P w K mg base 1 CR "number" (sp_number K CR)
  row : CalM P w K mg base 2 CR "row" (sp_row K CR)
  rws : CalM P w K mg base 3 CR "rows" (sp_rows K CR)
def sp_tdeal (P : Program) (w : World) (K : PySem.W.Frag) (CP CS CE CR : Addr) : Sp := fun vs H Q _ => ∃ S H0 e r nl ns t l rest r0 r1 r2 r3 rest' st U, vs = [.ref e, .ref r] ∧ Rdy P w K CP CS CE CR S H0 H e r nl ns (t :: l :: rest) st U ∧ PyFlat.rows 4 rest = some ([r0, r1, r2, r3], rest') ∧ (∀ x ∈ [r0, r1, r2, r3], x.length ≤ 20) ∧
  AnsR P w K CP CS CE CR S H0 H e r nl ns rest' Q (Vbbraf.step st (.deal t l r0 r1 r2 r3)) U
theorem ok_tdeal (G : TopCal P w K mg base CP CS CE CR) (D : DefF K mg "deal" s_deal ["ending", "reader"]) : CalF P w K mg base 7 "deal" (sp_tdeal P w K CP CS CE CR) := by
  have sc : FnScope ["ending", "reader", "trump", "leader"] ["ending", "reader"] (defScope s_deal) := ⟨rfl, rfl, rfl, by decide +kernel, rfl, by decide +kernel, by decide +kernel⟩
  refine D.cal sc (by rintro _ _ _ _ ⟨_, _, _, _, _, _, _, _, _, _, _, _, _, _, _, _, rfl, _⟩; rfl) fun f cdv A outer s H vs Q E hr h => ?_
  obtain ⟨S, H0, e, r, nl, ns, t, l, rest, r0, r1, r2, r3, rest', st, U, rfl, x, hrows, h20, k⟩ := h
  refine ⟨_, pss_cons (ps_set (i := 2) sc.nd rfl (.inl rfl) (pe_cm0 G.num G.tr.cl hr (by decide) (pv 1)))
    (pss_cons (ps_set (i := 3) sc.nd rfl (.inl rfl) (pe_cm0 G.num G.tr.cl hr (by decide) (pv 1)))
    (pss_one (ps_ret (pe_cm G.deal G.en.te.cl hr (by decide) (pv 0) (pa_cons (pv 2) (pa_cons (pv 3) (pa_cons (pe_cm G.rws G.tr.cl hr (by decide) (pv 1) (pa_cons pe_int pa_nil)) pa_nil))))))), ?_⟩
  obtain ⟨dx, j, h1, _⟩ := x.rd
  refine ⟨_, rfl, r, dx, _, rfl, h1, rf_none _ _ (by decide +kernel) (by decide +kernel), r, nl, ns, t, _, rfl, x.rd, fun H1 g1 rd1 => ?_⟩
  have x1 := x.read g1 rd1
  have k1 := k.read x g1
  obtain ⟨dx1, j1, h11, _⟩ := id rd1
  refine ⟨_, rfl, r, dx1, _, rfl, h11, rf_none _ _ (by decide +kernel) (by decide +kernel), r, nl, ns, l, _, rfl, rd1, fun H2 g2 rd2 => ?_⟩
  have x2 := x1.read g2 rd2
  have k2 := k1.read x1 g2
  obtain ⟨dx2, j2, h12, _⟩ := id rd2
  obtain ⟨_, dxe, _, _, _, _, _, _, eo⟩ := id x2.en
  refine ⟨_, rfl, e, dxe, _, rfl, eo.ob, ef_none _ _ _ _ _ (by decide +kernel) (by decide +kernel) (by decide +kernel) (by decide +kernel) (by decide +kernel), _, rfl, _, rfl, _, rfl, r, dx2, _, rfl, h12, rf_none _ _ (by decide +kernel) (by decide +kernel), r, 4, nl, ns, rest, _, rest', rfl, by decide, rd2, hrows, fun p H3 hp g3 rd3 hh => ?_⟩
  have x3 := x2.read g3 rd3
  have k3 := k2.read x2 g3
  exact ⟨S, e, t, l, p, r0, r1, r2, r3, st, U, rfl, x3.en, hh, h20, AnsR.of x3 k3⟩
def sp_tcan (P : Program) (w : World) (K : PySem.W.Frag) (CP CS CE CR : Addr) : Sp := fun vs H Q _ => ∃ S H0 e r nl ns a b rest st U U', vs = [.ref e, .ref r] ∧ Rdy P w K CP CS CE CR S H0 H e r nl ns (a :: b :: rest) st U ∧ (∀ y ∈ U, y ∈ U') ∧ U'.length ≤ sizeLine ∧ Cov U' st.now ∧
  AnsR P w K CP CS CE CR S H0 H e r nl ns rest Q (Vbbraf.step st (.can a b)) U'
theorem ok_tcan (G : TopCal P w K mg base CP CS CE CR) (D : DefF K mg "can" s_can ["ending", "reader"]) : CalF P w K mg base 62 "can" (sp_tcan P w K CP CS CE CR) := by
  have sc : FnScope ["ending", "reader", "side"] ["ending", "reader"] (defScope s_can) := ⟨rfl, rfl, rfl, by decide +kernel, rfl, by decide +kernel, by decide +kernel⟩
  refine D.cal sc (by rintro _ _ _ _ ⟨_, _, _, _, _, _, _, _, _, _, _, _, rfl, _⟩; rfl) fun f cdv A outer s H vs Q E hr h => ?_
  obtain ⟨S, H0, e, r, nl, ns, a, b, rest, st, U, U', rfl, x, hU, hl, hc, k⟩ := h
  refine ⟨_, pss_cons (ps_set (i := 2) sc.nd rfl (.inl rfl) (pe_cm0 G.num G.tr.cl hr (by decide) (pv 1)))
    (pss_one (ps_ret (pe_cm G.can G.en.te.cl hr (Nat.le_refl _) (pv 0) (pa_cons (pv 2) (pa_cons (pe_cm0 G.num G.tr.cl hr (by decide) (pv 1)) pa_nil))))), ?_⟩
  obtain ⟨dx, j, h1, _⟩ := x.rd
  refine ⟨_, rfl, r, dx, _, rfl, h1, rf_none _ _ (by decide +kernel) (by decide +kernel), r, nl, ns, a, _, rfl, x.rd, fun H1 g1 rd1 => ?_⟩
  have x1 := x.read g1 rd1
  have k1 := k.read x g1
  obtain ⟨dx1, j1, h11, _⟩ := id rd1
  obtain ⟨_, dxe, _, _, _, _, _, _, eo⟩ := id x1.en
  refine ⟨_, rfl, e, dxe, _, rfl, eo.ob, ef_none _ _ _ _ _ (by decide +kernel) (by decide +kernel) (by decide +kernel) (by decide +kernel) (by decide +kernel), _, rfl, _, rfl, r, dx1, _, rfl, h11, rf_none _ _ (by decide +kernel) (by decide +kernel), r, nl, ns, b, _, rfl, rd1, fun H2 g2 rd2 => ?_⟩
  have x2 := x1.read g2 rd2
  have k2 := k1.read x1 g2
  exact ⟨S, e, a, b, st, U, U', rfl, x2.en, hU, hl, hc, AnsR.of x2 k2⟩
end
end Lx

/-! endings.py: answers -/
namespace Lx
open PySem PySem.Spec PyProof.Rows L2
section
variable {P : Program} {w : World} {K : PySem.W.Frag} {mg : Str → Option Value} {base : Heap} {CP CS CE CR : Addr} {S : Addr → Prop} {H0 H H' : Hp} {e r nl t : Addr} {ns rest rest' : List Int} {st : Vbbraf.State} {U U' : List PK3}
theorem Rdy.monoU (x : Rdy P w K CP CS CE CR S H0 H e r nl ns rest st U) (h : ∀ y ∈ U, y ∈ U') : Rdy P w K CP CS CE CR S H0 H e r nl ns rest st U' := ⟨x.en.monoU h, x.sr, x.ex, x.s0, x.r0, x.nl0, x.rd⟩
theorem allHands_mem : ∀ {hs hs' : List (List Nat)}, Sub4 hs hs' → hs ∈ Lm.allHands hs'
  | _, _, .nil => List.mem_cons_self
  | _, _, .cons p r => List.mem_flatMap.mpr ⟨_, Lm.subs_mem p, List.mem_map_of_mem (allHands_mem r)⟩
theorem covers_all (hs : List (List Nat)) : Covers (Lm.allKeys hs) hs := fun _ _ _ h ht hl => Lm.allKeys_mem (allHands_mem h) ht hl
/-- a list that the caller keeps is written -/
theorem Rdy.list {xs ys : List V} (x : Rdy P w K CP CS CE CR S H0 H e r nl ns rest st U) (ht : S t) (h0 : H0 t = none) (hl : H t = some (.lst xs)) : Rdy P w K CP CS CE CR S H0 (upd H t (.lst ys)) e r nl ns rest st U := by
  obtain ⟨dx, k, h1, _, h3⟩ := x.rd
  have ex : Evl.Ex H0 (upd H t (.lst ys)) := Evl.Ex.mut x.ex h0
  refine ⟨x.en.other ht hl, x.sr, ex, x.s0, x.r0, x.nl0, dx, k, ?_, sql_ex ex x.nl0, h3⟩
  rw [upd_ne (ne_of h1 hl (fun z => nomatch z))]
  exact h1
def sp_next (P : Program) (w : World) (K : PySem.W.Frag) (CP CS CE CR : Addr) : Sp := fun vs H Q _ => ∃ S H0 e r nl ns rest c rest' st U U', vs = [.ref e, .ref r] ∧ Rdy P w K CP CS CE CR S H0 H e r nl ns rest st U ∧ PyFlat.call PyVbbraf.shape rest = some (c, rest') ∧ VbbrafNeutral.asked1 (PyVbbraf.whole c) = true ∧
  (∀ y ∈ U, y ∈ U') ∧ (VbbrafNeutral.heavy (PyVbbraf.whole c) = true → U'.length ≤ sizeLine ∧ Covers U' st.first.hands) ∧ AnsR P w K CP CS CE CR S H0 H e r nl ns rest' Q (Vbbraf.stepRows st (PyVbbraf.whole c)) U'
def sp_answers (K : PySem.W.Frag) : Sp := fun vs H Q _ => ∃ a ns, vs = [.ref a] ∧ SqL K H a (zs ns) ∧ ns.length ≤ 16000 ∧ PyVbbraf.answers_asked ns = true ∧ ∀ H' p, H' p = some (.lst (zs (PyVbbraf.answers ns))) → Q (.ref p) H'
theorem ok_answers {fa : Addr} {fda : FuncData} (G : TopCal P w K mg base CP CS CE CR) (F : Fun K "answers" "answers" s_answers fa fda) (GN : CalF P w K mg base 70 "answer_next" (sp_next P w K CP CS CE CR)) : FnOk P w K mg base CX0 71 fa fda ["calls"] (sp_answers K) := by
  have sc : FnScope ["calls", "ending", "reader", "told", "answer"] ["calls"] (defScope s_answers) := ⟨rfl, rfl, rfl, by decide +kernel, rfl, by decide +kernel, by decide +kernel⟩
  refine F.ok sc (by rintro _ _ _ _ ⟨_, _, rfl, _⟩; rfl) fun cdv A outer s H vs Q E hr h => ?_
  obtain ⟨a, ns, rfl, hS, hlen, hask, k⟩ := h
  refine ⟨_, pss_cons (ps_set (i := 1) sc.nd rfl (.inl rfl) (pe_cc0 G.ini hr (by decide) (by rfl)))
    (pss_cons (ps_set (i := 2) sc.nd rfl (.inl rfl) (pe_cc G.rin hr (by decide) (by rfl) (pa_cons (pv 0) pa_nil)))
    (pss_cons (ps_set (i := 3) sc.nd rfl (.inl rfl) (pe_lst pa_nil))
    (pss_cons (ps_while PassesOwn.never (pt_not (pt_val (pe_cm0 G.atE G.tr.cl hr (by decide) (pv 2))))
      (pss_cons (ps_set (i := 4) sc.nd rfl (.inl rfl) (pe_cf GN hr (Nat.le_refl _) (by rfl) (pa_cons (pv 1) (pa_cons (pv 2) pa_nil))))
      (pss_cons (ps_expr (pe_bm PySem.F.plainAttrs_list PySem.F.slot_list_append PySem.F.type_list_append mt_append (pv 3) (pa_cons (pe_callB call_len (by rfl) G.en.sc.bl.len PySem.boot_len (pa_cons (pv 4) pa_nil)) pa_nil)))
      (pss_one (ps_expr (pe_bm PySem.F.plainAttrs_list PySem.F.slot_list_extend PySem.F.type_list_extend mt_extend (pv 3) (pa_cons (pv 4) pa_nil)))))))
    (pss_one (ps_ret (pv 3)))))), ?_⟩
  obtain ⟨raw, m1, m2, m3, m4, m5⟩ := Lm.asked_is hask
  -- ending = Ending()
  intro e dx he hdx hne
  have n1 : Evl.Ex H (upd H dx (.own e)) := Evl.Ex.new hdx
  have he1 : (upd H dx (.own e)) e = none := by rw [upd_ne (Ne.symm hne)]; exact he
  have n2 : Evl.Ex (upd H dx (.own e)) (upd (upd H dx (.own e)) e (.ins CE dx [])) := Evl.Ex.new he1
  have n12 := n1.trans n2
  refine ⟨fun b => H b ≠ none, e, dx, rfl, upd_same, fun b hb => ?_, fun H1 en1 kp1 => ⟨rfl, ?_⟩⟩
  · refine ⟨?_, fun z => hb (by rw [z]; exact he)⟩
    cases q : H b with
    | none => exact absurd q hb
    | some o => rw [n12 _ _ q]; intro z; cases z
  have ex1 : Evl.Ex H H1 := fun b o z => by
    rw [kp1 b (show H b ≠ none by rw [z]; intro y; cases y)]
    exact n12 b o z
  -- reader = Reader(calls)
  refine ⟨_, rfl, fun r rdx hrr hrdx hrne => ?_⟩
  refine ⟨r, rdx, a, rfl, upd_same, rfl, ?_⟩
  have mk := ex_made (o1 := .own r) (o2 := .ins CR rdx []) (o3 := .ins CR rdx (rdF a 0)) hrr hrdx
  have hr2 := upd_same (H := upd (upd H1 rdx (.own r)) r (.ins CR rdx [])) (a := r) (o := .ins CR rdx (rdF a 0))
  have r0 : H r = none := Evl.fresh_back ex1 hrr
  have en2 := en1.more hrr mk hr2
  have ex2 := ex1.trans mk
  generalize upd (upd (upd H1 rdx (.own r)) r (.ins CR rdx [])) r (.ins CR rdx (rdF a 0)) = H2 at *
  -- told = []
  refine ⟨Nat.zero_le _, fun t ht => ?_⟩
  have e3 := Evl.Ex.new (o := .lst []) ht
  have ht3 := upd_same (H := H2) (a := t) (o := .lst [])
  have en3 := en2.more ht e3 ht3
  have t0 : H t = none := Evl.fresh_back ex2 ht
  have ex3 := ex2.trans e3
  have hr3 := e3 _ _ hr2
  have ntr : t ≠ r := fun z => by rw [z, hr2] at ht; cases ht
  generalize upd H2 t (.lst []) = H3 at *
  have rdy0 : Rdy P w K CP CS CE CR (fun b => (H b ≠ none ∨ b = r) ∨ b = t) H H3 e r a ns ns Vbbraf.start [] :=
    ⟨en3, .inl (.inr rfl), ex3, fun b hb => .inl (.inl hb), r0, hS, rdx, 0, hr3, sql_ex ex3 hS, rfl, Nat.zero_le _, hlen⟩
  refine ⟨fun m σ H' => ∃ f cs rest st U done h v, m = cs.length ∧ σ = [some (.ref a), some (.ref e), some (.ref r), some (.ref t), v] ∧ PyFlat.calls PyVbbraf.shape f rest = some cs ∧ Rdy P w K CP CS CE CR (fun b => (H b ≠ none ∨ b = r) ∨ b = t) H H' e r a ns rest st U ∧ H' t = some (.lst (zs done)) ∧
      done ++ PyFlat.told (PyFlat.played VbbrafNeutral.step st (cs.map PyVbbraf.whole)) = PyVbbraf.answers ns ∧ (∀ c ∈ cs, VbbrafNeutral.asked1 (PyVbbraf.whole c) = true) ∧ ((cs.map PyVbbraf.whole).filter VbbrafNeutral.heavy).length + h ≤ 6 ∧ U.length ≤ 1310720 * h,
    ⟨_, ns.length, raw, ns, Vbbraf.start, [], [], 0, none, rfl, rfl, m1, rdy0, ht3, by rw [m5]; rfl, m2, m3, Nat.zero_le _⟩, ?_⟩
  rintro m σ H' ⟨f, cs, rest, st, U, done, h, v, rfl, rfl, c1, x, ht', c2, c3, c4, c5⟩
  obtain ⟨dxr, kr, hr', _⟩ := x.rd
  refine ⟨_, rfl, r, dxr, _, rfl, hr', rf_none _ _ (by decide +kernel) (by decide +kernel), r, a, ns, rest, rfl, x.rd, _, rfl, iteB (fun cc => ?_) fun cc => ?_⟩
  · have hne' : rest ≠ [] := fun z => by rw [z] at cc; cases cc
    obtain ⟨p0, rr, er⟩ : ∃ p0 rr, rest = p0 :: rr := by
      cases rest with
      | nil => exact absurd rfl hne'
      | cons p q => exact ⟨p, q, rfl⟩
    rw [er] at c1
    obtain ⟨f', c, rest', cs', _, d1, d2, rfl⟩ := Lm.calls_cons c1
    rw [← er] at d1
    refine ⟨fun σ2 H3 => ∃ m', m' < (c :: cs').length ∧ ∃ f cs rest st U done h v, m' = cs.length ∧ σ2 = [some (.ref a), some (.ref e), some (.ref r), some (.ref t), v] ∧ PyFlat.calls PyVbbraf.shape f rest = some cs ∧ Rdy P w K CP CS CE CR (fun b => (H b ≠ none ∨ b = r) ∨ b = t) H H3 e r a ns rest st U ∧ H3 t = some (.lst (zs done)) ∧
      done ++ PyFlat.told (PyFlat.played VbbrafNeutral.step st (cs.map PyVbbraf.whole)) = PyVbbraf.answers ns ∧ (∀ c ∈ cs, VbbrafNeutral.asked1 (PyVbbraf.whole c) = true) ∧ ((cs.map PyVbbraf.whole).filter VbbrafNeutral.heavy).length + h ≤ 6 ∧ U.length ≤ 1310720 * h, fun _ _ z => z, ?_⟩
    have hc := c3 c List.mem_cons_self
    rw [List.map_cons] at c2 c4
    have hpl := Lm.played_cons st (PyVbbraf.whole c) (cs'.map PyVbbraf.whole)
    rw [hpl] at c2
    obtain ⟨rch, _⟩ := id x.en
    have hU : ∀ y ∈ U, y ∈ (if VbbrafNeutral.heavy (PyVbbraf.whole c) = true then U ++ Lm.allKeys st.first.hands else U) := fun y hy => by
      split
      · exact List.mem_append_left _ hy
      · exact hy
    have hcount : ((PyVbbraf.whole c :: cs'.map PyVbbraf.whole).filter VbbrafNeutral.heavy).length = ((cs'.map PyVbbraf.whole).filter VbbrafNeutral.heavy).length + (if VbbrafNeutral.heavy (PyVbbraf.whole c) = true then 1 else 0) := by
      rw [List.filter_cons]
      split <;> rfl
    rw [hcount] at c4
    have hkeys := Lm.allKeys_le rch.good.2.2.1
    have hUl : (if VbbrafNeutral.heavy (PyVbbraf.whole c) = true then U ++ Lm.allKeys st.first.hands else U).length ≤ 1310720 * (h + (if VbbrafNeutral.heavy (PyVbbraf.whole c) = true then 1 else 0)) := by
      split
      · rw [List.length_append]; omega
      · omega
    have hlen2 := congrArg List.length c2
    rw [List.length_append, List.length_append, List.length_cons] at hlen2
    refine ⟨_, rfl, _, rfl, _, H, e, r, a, ns, rest, c, rest', st, U, (if VbbrafNeutral.heavy (PyVbbraf.whole c) = true then U ++ Lm.allKeys st.first.hands else U), rfl, x, d1, hc, hU, fun hv => ?_, fun p H4 hp x4 kp4 hl4 => ?_⟩
    · have q1 : (if VbbrafNeutral.heavy (PyVbbraf.whole c) = true then 1 else 0) = 1 := if_pos hv
      rw [q1] at c4 hUl
      rw [if_pos hv] at hUl ⊢
      refine ⟨by rw [sizeLine_eq]; omega, fun hs t l q1 q2 q3 => List.mem_append_right _ (covers_all _ hs t l q1 q2 q3)⟩
    have ht4 := (kp4 t (.inr rfl) ntr).trans ht'
    generalize (if VbbrafNeutral.heavy (PyVbbraf.whole c) = true then U ++ Lm.allKeys st.first.hands else U) = U' at *
    have npt : p ≠ t := fun z => hp (.inr z)
    refine ⟨_, rfl, .inl ⟨rfl, _, SqL.of ht4⟩, _, rfl, _, _, rfl, .inl ⟨_, SqL.of hl4, rfl⟩, t, _, _, rfl, rfl, ht4, by rw [zs_len, sizeLine_eq]; omega, ?_⟩
    rw [zs_len]
    have x5 := x4.list (ys := zs done ++ [V.int ((Vbbraf.stepRows st (PyVbbraf.whole c)).2.length : Int)]) (.inr rfl) t0 ht4
    have ht5 : (upd H4 t (.lst (zs done ++ [V.int ((Vbbraf.stepRows st (PyVbbraf.whole c)).2.length : Int)]))) t = some (.lst (zs (done ++ [((Vbbraf.stepRows st (PyVbbraf.whole c)).2.length : Int)]))) := by
      rw [upd_same]
      unfold zs
      rw [List.map_append]
      rfl
    have hl5 : (upd H4 t (.lst (zs done ++ [V.int ((Vbbraf.stepRows st (PyVbbraf.whole c)).2.length : Int)]))) p = some (.lst (zs (Vbbraf.stepRows st (PyVbbraf.whole c)).2)) := by rw [upd_ne npt]; exact hl4
    generalize upd H4 t (.lst (zs done ++ [V.int ((Vbbraf.stepRows st (PyVbbraf.whole c)).2.length : Int)])) = H5 at *
    refine ⟨_, rfl, .inl ⟨rfl, _, SqL.of ht5⟩, _, rfl, t, p, _, _, rfl, rfl, ht5, hl5, by rw [zs_len, zs_len, sizeLine_eq, List.length_append, List.length_cons, List.length_nil]; omega, ?_⟩
    have x6 := x5.list (ys := zs (done ++ [((Vbbraf.stepRows st (PyVbbraf.whole c)).2.length : Int)]) ++ zs (Vbbraf.stepRows st (PyVbbraf.whole c)).2) (.inr rfl) t0 ht5
    refine ⟨cs'.length, by rw [List.length_cons]; omega, f', cs', rest', _, U', done ++ ((Vbbraf.stepRows st (PyVbbraf.whole c)).2.length : Int) :: (Vbbraf.stepRows st (PyVbbraf.whole c)).2, h + (if VbbrafNeutral.heavy (PyVbbraf.whole c) = true then 1 else 0), some (.ref p), rfl, rfl, d2, x6, ?_, ?_, fun y hy => c3 y (List.mem_cons_of_mem _ hy), by omega, hUl⟩
    · rw [upd_same]
      unfold zs
      rw [← List.map_append, List.append_assoc]
      rfl
    · rw [List.append_assoc]
      exact c2
  · have hz : rest = [] := by
      cases rest with
      | nil => rfl
      | cons p q => cases cc
    rw [hz] at c1
    have := Lm.calls_nil c1
    subst this
    refine ⟨_, rfl, k H' t ?_⟩
    rw [ht', ← c2]
    show some (HO.lst (zs done)) = some (HO.lst (zs (done ++ [])))
    rw [List.append_nil]
end
end Lx

/-! endings.py: answer_next -/
namespace Lx
open PySem PySem.Spec PyProof.Rows L2
section
variable {P : Program} {w : World} {K : PySem.W.Frag} {mg : Str → Option Value} {base : Heap} {CP CS CE CR : Addr} {S : Addr → Prop} {H0 H H' : Hp} {e r nl t : Addr} {ns rest rest' : List Int} {st : Vbbraf.State} {U U' : List PK3}
theorem if_ne {a b : Int} {A B : Prop} (h : a ≠ b) (q : B) : if decide (V.int a = V.int b) = true then A else B := by
  rw [if_neg]
  · exact q
  · intro z
    have := of_decide_eq_true z
    injection this with this
    exact h this
theorem if_eq {a : Int} {A B : Prop} (q : A) : if decide (V.int a = V.int a) = true then A else B := by
  rw [if_pos (decide_eq_true rfl)]
  exact q
theorem AnsR.mono {Q : VK} {a : Vbbraf.State × List Int} (k : AnsR P w K CP CS CE CR S H0 H e r nl ns rest Q a U') (h : ∀ y ∈ U, y ∈ U') : AnsR P w K CP CS CE CR S H0 H e r nl ns rest Q a U := fun p H' hp y => k p H' hp (y.monoU h)
structure Cons1 (mg : Str → Option Value) : Prop where
  c0 : ∃ t, mg "DEAL" = some (.int 0 t)
  c1 : ∃ t, mg "PLAY" = some (.int 1 t)
  c2 : ∃ t, mg "BACK" = some (.int 2 t)
  c3 : ∃ t, mg "TURN" = some (.int 3 t)
  c4 : ∃ t, mg "VALUE" = some (.int 4 t)
  c5 : ∃ t, mg "CARDS" = some (.int 5 t)
  c6 : ∃ t, mg "LINE" = some (.int 6 t)
  c7 : ∃ t, mg "ACCOUNT" = some (.int 7 t)
  c8 : ∃ t, mg "PAST" = some (.int 8 t)
  c9 : ∃ t, mg "TABLE" = some (.int 9 t)
  c10 : ∃ t, mg "ALIKE" = some (.int 10 t)
  c11 : ∃ t, mg "SQUEEZED" = some (.int 11 t)
  c12 : ∃ t, mg "CAN" = some (.int 12 t)
  c13 : ∃ t, mg "TOLD" = some (.int 13 t)
def sp_next1 (P : Program) (w : World) (K : PySem.W.Frag) (CP CS CE CR : Addr) : Sp := fun vs H Q _ => ∃ S H0 e r nl ns rest c rest' st U U', vs = [.ref e, .ref r] ∧ Rdy P w K CP CS CE CR S H0 H e r nl ns rest st U ∧ Lm.CallIs rest c rest' ∧
  (∀ y ∈ U, y ∈ U') ∧ (VbbrafNeutral.heavy c = true → U'.length ≤ sizeLine ∧ Covers U' st.first.hands) ∧ AnsR P w K CP CS CE CR S H0 H e r nl ns rest' Q (Vbbraf.stepRows st c) U'
theorem ok_next1 (G : TopCal P w K mg base CP CS CE CR) (N : Cons1 mg) (D : DefF K mg "answer_next" s_answer_next ["ending", "reader"]) (GD : CalF P w K mg base 7 "deal" (sp_tdeal P w K CP CS CE CR)) (GN : CalF P w K mg base 62 "can" (sp_tcan P w K CP CS CE CR)) : CalF P w K mg base 70 "answer_next" (sp_next1 P w K CP CS CE CR) := by
  have sc : FnScope ["ending", "reader", "call"] ["ending", "reader"] (defScope s_answer_next) := ⟨rfl, rfl, rfl, by decide +kernel, rfl, by decide +kernel, by decide +kernel⟩
  refine D.cal sc (by rintro _ _ _ _ ⟨_, _, _, _, _, _, _, _, _, _, _, _, rfl, _⟩; rfl) fun f cdv A outer s H vs Q E hr h => ?_
  obtain ⟨S, H0, e, r, nl, ns, rest, c, rest', st, U, U', rfl, x, hc, hU, hheavy, k⟩ := h
  obtain ⟨t0, n0⟩ := N.c0
  obtain ⟨t1, n1⟩ := N.c1
  obtain ⟨t2, n2⟩ := N.c2
  obtain ⟨t3, n3⟩ := N.c3
  obtain ⟨t4, n4⟩ := N.c4
  obtain ⟨t5, n5⟩ := N.c5
  obtain ⟨t6, n6⟩ := N.c6
  obtain ⟨t7, n7⟩ := N.c7
  obtain ⟨t8, n8⟩ := N.c8
  obtain ⟨t9, n9⟩ := N.c9
  obtain ⟨t10, n10⟩ := N.c10
  obtain ⟨t11, n11⟩ := N.c11
  obtain ⟨t12, n12⟩ := N.c12
  obtain ⟨t13, n13⟩ := N.c13
  refine ⟨_, pss_cons (ps_set (i := 2) sc.nd rfl (.inl rfl) (pe_cm0 G.num G.tr.cl hr (by decide) (pv 1)))
    (pss_cons (ps_if (pt_cmpR op_eq (pv 2) (pe_glob (v := .int 0) (by rfl) n0 ⟨_, rfl⟩) (nomark _)) (pss_one (ps_ret (pe_cf GD hr (by decide) (by rfl) (pa_cons (pv 0) (pa_cons (pv 1) pa_nil))))) pss_nil)
    (pss_cons (ps_if (pt_cmpR op_eq (pv 2) (pe_glob (v := .int 1) (by rfl) n1 ⟨_, rfl⟩) (nomark _)) (pss_one (ps_ret (pe_cm G.play G.en.te.cl hr (by decide) (pv 0) (pa_cons (pe_cm0 G.num G.tr.cl hr (by decide) (pv 1)) pa_nil)))) pss_nil)
    (pss_cons (ps_if (pt_cmpR op_eq (pv 2) (pe_glob (v := .int 2) (by rfl) n2 ⟨_, rfl⟩) (nomark _)) (pss_one (ps_ret (pe_cm0 G.back G.en.te.cl hr (by decide) (pv 0)))) pss_nil)
    (pss_cons (ps_if (pt_cmpR op_eq (pv 2) (pe_glob (v := .int 3) (by rfl) n3 ⟨_, rfl⟩) (nomark _)) (pss_one (ps_ret (pe_cm0 G.turn G.en.te.cl hr (by decide) (pv 0)))) pss_nil)
    (pss_cons (ps_if (pt_cmpR op_eq (pv 2) (pe_glob (v := .int 4) (by rfl) n4 ⟨_, rfl⟩) (nomark _)) (pss_one (ps_ret (pe_cm0 G.val G.en.te.cl hr (by decide) (pv 0)))) pss_nil)
    (pss_cons (ps_if (pt_cmpR op_eq (pv 2) (pe_glob (v := .int 5) (by rfl) n5 ⟨_, rfl⟩) (nomark _)) (pss_one (ps_ret (pe_cm0 G.crd G.en.te.cl hr (by decide) (pv 0)))) pss_nil)
    (pss_cons (ps_if (pt_cmpR op_eq (pv 2) (pe_glob (v := .int 6) (by rfl) n6 ⟨_, rfl⟩) (nomark _)) (pss_one (ps_ret (pe_cm0 G.lin G.en.te.cl hr (by decide) (pv 0)))) pss_nil)
    (pss_cons (ps_if (pt_cmpR op_eq (pv 2) (pe_glob (v := .int 7) (by rfl) n7 ⟨_, rfl⟩) (nomark _)) (pss_one (ps_ret (pe_cm G.acc G.en.te.cl hr (by decide) (pv 0) (pa_cons (pe_cm0 G.row G.tr.cl hr (by decide) (pv 1)) pa_nil)))) pss_nil)
    (pss_cons (ps_if (pt_cmpR op_eq (pv 2) (pe_glob (v := .int 8) (by rfl) n8 ⟨_, rfl⟩) (nomark _)) (pss_one (ps_ret (pe_cm0 G.pst G.en.te.cl hr (by decide) (pv 0)))) pss_nil)
    (pss_cons (ps_if (pt_cmpR op_eq (pv 2) (pe_glob (v := .int 9) (by rfl) n9 ⟨_, rfl⟩) (nomark _)) (pss_one (ps_ret (pe_cm0 G.tab G.en.te.cl hr (by decide) (pv 0)))) pss_nil)
    (pss_cons (ps_if (pt_cmpR op_eq (pv 2) (pe_glob (v := .int 10) (by rfl) n10 ⟨_, rfl⟩) (nomark _)) (pss_one (ps_ret (pe_cm G.ali G.en.te.cl hr (by decide) (pv 0) (pa_cons (pe_cm0 G.num G.tr.cl hr (by decide) (pv 1)) pa_nil)))) pss_nil)
    (pss_cons (ps_if (pt_cmpR op_eq (pv 2) (pe_glob (v := .int 11) (by rfl) n11 ⟨_, rfl⟩) (nomark _)) (pss_one (ps_ret (pe_cm0 G.sqz G.en.te.cl hr (by decide) (pv 0)))) pss_nil)
    (pss_cons (ps_if (pt_cmpR op_eq (pv 2) (pe_glob (v := .int 12) (by rfl) n12 ⟨_, rfl⟩) (nomark _)) (pss_one (ps_ret (pe_cf GN hr (by decide) (by rfl) (pa_cons (pv 0) (pa_cons (pv 1) pa_nil))))) pss_nil)
    (pss_cons (ps_if (pt_cmpR op_eq (pv 2) (pe_glob (v := .int 13) (by rfl) n13 ⟨_, rfl⟩) (nomark _)) (pss_one (ps_ret (pe_cm0 G.tld G.en.te.cl hr (by decide) (pv 0)))) pss_nil)
    (pss_one ps_never))))))))))))))), ?_⟩
  obtain ⟨dx, j, h1, _⟩ := x.rd
  obtain ⟨p, q, hrest⟩ : ∃ p q, rest = p :: q := by cases hc <;> exact ⟨_, _, rfl⟩
  subst hrest
  refine ⟨_, rfl, r, dx, _, rfl, h1, rf_none _ _ (by decide +kernel) (by decide +kernel), r, nl, ns, p, q, rfl, x.rd, fun H1 g1 rd1 => ?_⟩
  have x1 := x.read g1 rd1
  have k1 := k.read x g1
  obtain ⟨dx1, j1, h11, _⟩ := id rd1
  obtain ⟨rch, dxe, _, _, _, _, _, _, eo⟩ := id x1.en
  have tr5 := rch.trump.1
  cases hc with
  | deal t l r0 r1 r2 r3 hrows h20 =>
    refine ⟨_, rfl, rfl, _, rfl, if_eq ?_⟩
    exact ⟨_, rfl, _, rfl, S, H0, e, r, nl, ns, t, l, _, r0, r1, r2, r3, rest', st, U, rfl, x1, hrows, h20, k1.mono hU⟩
  | play z =>
    refine ⟨_, rfl, rfl, _, rfl, if_ne (by decide) ⟨_, rfl, rfl, _, rfl, if_eq ?_⟩⟩
    refine ⟨_, rfl, e, dxe, _, rfl, eo.ob, ef_none _ _ _ _ _ (by decide +kernel) (by decide +kernel) (by decide +kernel) (by decide +kernel) (by decide +kernel), _, rfl, r, dx1, _, rfl, h11, rf_none _ _ (by decide +kernel) (by decide +kernel), r, nl, ns, z, _, rfl, rd1, fun H2 g2 rd2 => ?_⟩
    have x2 := x1.read g2 rd2
    have k2 := k1.read x1 g2
    exact ⟨S, e, z, st, U, rfl, x2.en, AnsR.of x2 (k2.mono hU)⟩
  | back =>
    refine ⟨_, rfl, rfl, _, rfl, if_ne (by decide) ⟨_, rfl, rfl, _, rfl, if_ne (by decide) ⟨_, rfl, rfl, _, rfl, if_eq ?_⟩⟩⟩
    exact ⟨_, rfl, e, dxe, _, rfl, eo.ob, ef_none _ _ _ _ _ (by decide +kernel) (by decide +kernel) (by decide +kernel) (by decide +kernel) (by decide +kernel), S, e, st, U, rfl, x1.en, AnsR.of x1 (k1.mono hU)⟩
  | turn =>
    refine ⟨_, rfl, rfl, _, rfl, if_ne (by decide) ⟨_, rfl, rfl, _, rfl, if_ne (by decide) ⟨_, rfl, rfl, _, rfl, if_ne (by decide) ⟨_, rfl, rfl, _, rfl, if_eq ?_⟩⟩⟩⟩
    exact ⟨_, rfl, e, dxe, _, rfl, eo.ob, ef_none _ _ _ _ _ (by decide +kernel) (by decide +kernel) (by decide +kernel) (by decide +kernel) (by decide +kernel), S, e, st, U, rfl, x1.en, AnsR.of x1 (k1.mono hU)⟩
  | value =>
    refine ⟨_, rfl, rfl, _, rfl, if_ne (by decide) ⟨_, rfl, rfl, _, rfl, if_ne (by decide) ⟨_, rfl, rfl, _, rfl, if_ne (by decide) ⟨_, rfl, rfl, _, rfl, if_ne (by decide) ⟨_, rfl, rfl, _, rfl, if_eq ?_⟩⟩⟩⟩⟩
    obtain ⟨hl, hcv⟩ := hheavy rfl
    exact ⟨_, rfl, e, dxe, _, rfl, eo.ob, ef_none _ _ _ _ _ (by decide +kernel) (by decide +kernel) (by decide +kernel) (by decide +kernel) (by decide +kernel), S, e, st, U, U', rfl, x1.en, hU, hl, (hcv.sub (reach_sub rch)).cov tr5, AnsR.of x1 k1⟩
  | cards =>
    refine ⟨_, rfl, rfl, _, rfl, if_ne (by decide) ⟨_, rfl, rfl, _, rfl, if_ne (by decide) ⟨_, rfl, rfl, _, rfl, if_ne (by decide) ⟨_, rfl, rfl, _, rfl, if_ne (by decide) ⟨_, rfl, rfl, _, rfl, if_ne (by decide) ⟨_, rfl, rfl, _, rfl, if_eq ?_⟩⟩⟩⟩⟩⟩
    obtain ⟨hl, hcv⟩ := hheavy rfl
    exact ⟨_, rfl, e, dxe, _, rfl, eo.ob, ef_none _ _ _ _ _ (by decide +kernel) (by decide +kernel) (by decide +kernel) (by decide +kernel) (by decide +kernel), S, e, st, U, U', rfl, x1.en, hU, hl, (hcv.sub (reach_sub rch)).cov tr5, AnsR.of x1 k1⟩
  | line =>
    refine ⟨_, rfl, rfl, _, rfl, if_ne (by decide) ⟨_, rfl, rfl, _, rfl, if_ne (by decide) ⟨_, rfl, rfl, _, rfl, if_ne (by decide) ⟨_, rfl, rfl, _, rfl, if_ne (by decide) ⟨_, rfl, rfl, _, rfl, if_ne (by decide) ⟨_, rfl, rfl, _, rfl, if_ne (by decide) ⟨_, rfl, rfl, _, rfl, if_eq ?_⟩⟩⟩⟩⟩⟩⟩
    obtain ⟨hl, hcv⟩ := hheavy rfl
    exact ⟨_, rfl, e, dxe, _, rfl, eo.ob, ef_none _ _ _ _ _ (by decide +kernel) (by decide +kernel) (by decide +kernel) (by decide +kernel) (by decide +kernel), S, e, st, U, U', rfl, x1.en, hU, hl, (hcv.sub (reach_sub rch)).cov tr5, AnsR.of x1 k1⟩
  | account xs hrow h20 =>
    refine ⟨_, rfl, rfl, _, rfl, if_ne (by decide) ⟨_, rfl, rfl, _, rfl, if_ne (by decide) ⟨_, rfl, rfl, _, rfl, if_ne (by decide) ⟨_, rfl, rfl, _, rfl, if_ne (by decide) ⟨_, rfl, rfl, _, rfl, if_ne (by decide) ⟨_, rfl, rfl, _, rfl, if_ne (by decide) ⟨_, rfl, rfl, _, rfl, if_ne (by decide) ⟨_, rfl, rfl, _, rfl, if_eq ?_⟩⟩⟩⟩⟩⟩⟩⟩
    obtain ⟨hl, hcv⟩ := hheavy rfl
    refine ⟨_, rfl, e, dxe, _, rfl, eo.ob, ef_none _ _ _ _ _ (by decide +kernel) (by decide +kernel) (by decide +kernel) (by decide +kernel) (by decide +kernel), _, rfl, r, dx1, _, rfl, h11, rf_none _ _ (by decide +kernel) (by decide +kernel), r, nl, ns, q, xs, rest', rfl, rd1, hrow, fun a H2 ha g2 rd2 hal => ?_⟩
    have x2 := x1.read g2 rd2
    have k2 := k1.read x1 g2
    exact ⟨S, e, a, xs, st, U, U', rfl, x2.en, hal, h20, hU, hl, (hcv.sub (reach_sub rch)).cov tr5, AnsR.of x2 k2⟩
  | past =>
    refine ⟨_, rfl, rfl, _, rfl, if_ne (by decide) ⟨_, rfl, rfl, _, rfl, if_ne (by decide) ⟨_, rfl, rfl, _, rfl, if_ne (by decide) ⟨_, rfl, rfl, _, rfl, if_ne (by decide) ⟨_, rfl, rfl, _, rfl, if_ne (by decide) ⟨_, rfl, rfl, _, rfl, if_ne (by decide) ⟨_, rfl, rfl, _, rfl, if_ne (by decide) ⟨_, rfl, rfl, _, rfl, if_ne (by decide) ⟨_, rfl, rfl, _, rfl, if_eq ?_⟩⟩⟩⟩⟩⟩⟩⟩⟩
    obtain ⟨hl, hcv⟩ := hheavy rfl
    exact ⟨_, rfl, e, dxe, _, rfl, eo.ob, ef_none _ _ _ _ _ (by decide +kernel) (by decide +kernel) (by decide +kernel) (by decide +kernel) (by decide +kernel), S, e, st, U, U', rfl, x1.en, hU, hl, hcv, AnsR.of x1 k1⟩
  | table =>
    refine ⟨_, rfl, rfl, _, rfl, if_ne (by decide) ⟨_, rfl, rfl, _, rfl, if_ne (by decide) ⟨_, rfl, rfl, _, rfl, if_ne (by decide) ⟨_, rfl, rfl, _, rfl, if_ne (by decide) ⟨_, rfl, rfl, _, rfl, if_ne (by decide) ⟨_, rfl, rfl, _, rfl, if_ne (by decide) ⟨_, rfl, rfl, _, rfl, if_ne (by decide) ⟨_, rfl, rfl, _, rfl, if_ne (by decide) ⟨_, rfl, rfl, _, rfl, if_ne (by decide) ⟨_, rfl, rfl, _, rfl, if_eq ?_⟩⟩⟩⟩⟩⟩⟩⟩⟩⟩
    obtain ⟨hl, hcv⟩ := hheavy rfl
    exact ⟨_, rfl, e, dxe, _, rfl, eo.ob, ef_none _ _ _ _ _ (by decide +kernel) (by decide +kernel) (by decide +kernel) (by decide +kernel) (by decide +kernel), S, e, st, U, U', rfl, x1.en, hU, hl, hcv, AnsR.of x1 k1⟩
  | alike z =>
    refine ⟨_, rfl, rfl, _, rfl, if_ne (by decide) ⟨_, rfl, rfl, _, rfl, if_ne (by decide) ⟨_, rfl, rfl, _, rfl, if_ne (by decide) ⟨_, rfl, rfl, _, rfl, if_ne (by decide) ⟨_, rfl, rfl, _, rfl, if_ne (by decide) ⟨_, rfl, rfl, _, rfl, if_ne (by decide) ⟨_, rfl, rfl, _, rfl, if_ne (by decide) ⟨_, rfl, rfl, _, rfl, if_ne (by decide) ⟨_, rfl, rfl, _, rfl, if_ne (by decide) ⟨_, rfl, rfl, _, rfl, if_ne (by decide) ⟨_, rfl, rfl, _, rfl, if_eq ?_⟩⟩⟩⟩⟩⟩⟩⟩⟩⟩⟩
    refine ⟨_, rfl, e, dxe, _, rfl, eo.ob, ef_none _ _ _ _ _ (by decide +kernel) (by decide +kernel) (by decide +kernel) (by decide +kernel) (by decide +kernel), _, rfl, r, dx1, _, rfl, h11, rf_none _ _ (by decide +kernel) (by decide +kernel), r, nl, ns, z, _, rfl, rd1, fun H2 g2 rd2 => ?_⟩
    have x2 := x1.read g2 rd2
    have k2 := k1.read x1 g2
    exact ⟨S, e, z, st, U, rfl, x2.en, AnsR.of x2 (k2.mono hU)⟩
  | squeezed =>
    refine ⟨_, rfl, rfl, _, rfl, if_ne (by decide) ⟨_, rfl, rfl, _, rfl, if_ne (by decide) ⟨_, rfl, rfl, _, rfl, if_ne (by decide) ⟨_, rfl, rfl, _, rfl, if_ne (by decide) ⟨_, rfl, rfl, _, rfl, if_ne (by decide) ⟨_, rfl, rfl, _, rfl, if_ne (by decide) ⟨_, rfl, rfl, _, rfl, if_ne (by decide) ⟨_, rfl, rfl, _, rfl, if_ne (by decide) ⟨_, rfl, rfl, _, rfl, if_ne (by decide) ⟨_, rfl, rfl, _, rfl, if_ne (by decide) ⟨_, rfl, rfl, _, rfl, if_ne (by decide) ⟨_, rfl, rfl, _, rfl, if_eq ?_⟩⟩⟩⟩⟩⟩⟩⟩⟩⟩⟩⟩
    exact ⟨_, rfl, e, dxe, _, rfl, eo.ob, ef_none _ _ _ _ _ (by decide +kernel) (by decide +kernel) (by decide +kernel) (by decide +kernel) (by decide +kernel), S, e, st, U, rfl, x1.en, AnsR.of x1 (k1.mono hU)⟩
  | can a b =>
    refine ⟨_, rfl, rfl, _, rfl, if_ne (by decide) ⟨_, rfl, rfl, _, rfl, if_ne (by decide) ⟨_, rfl, rfl, _, rfl, if_ne (by decide) ⟨_, rfl, rfl, _, rfl, if_ne (by decide) ⟨_, rfl, rfl, _, rfl, if_ne (by decide) ⟨_, rfl, rfl, _, rfl, if_ne (by decide) ⟨_, rfl, rfl, _, rfl, if_ne (by decide) ⟨_, rfl, rfl, _, rfl, if_ne (by decide) ⟨_, rfl, rfl, _, rfl, if_ne (by decide) ⟨_, rfl, rfl, _, rfl, if_ne (by decide) ⟨_, rfl, rfl, _, rfl, if_ne (by decide) ⟨_, rfl, rfl, _, rfl, if_ne (by decide) ⟨_, rfl, rfl, _, rfl, if_eq ?_⟩⟩⟩⟩⟩⟩⟩⟩⟩⟩⟩⟩⟩
    obtain ⟨hl, hcv⟩ := hheavy rfl
    exact ⟨_, rfl, _, rfl, S, H0, e, r, nl, ns, a, b, _, st, U, U', rfl, x1, hU, hl, (hcv.sub (reach_sub rch)).cov tr5, k1⟩
  | told =>
    refine ⟨_, rfl, rfl, _, rfl, if_ne (by decide) ⟨_, rfl, rfl, _, rfl, if_ne (by decide) ⟨_, rfl, rfl, _, rfl, if_ne (by decide) ⟨_, rfl, rfl, _, rfl, if_ne (by decide) ⟨_, rfl, rfl, _, rfl, if_ne (by decide) ⟨_, rfl, rfl, _, rfl, if_ne (by decide) ⟨_, rfl, rfl, _, rfl, if_ne (by decide) ⟨_, rfl, rfl, _, rfl, if_ne (by decide) ⟨_, rfl, rfl, _, rfl, if_ne (by decide) ⟨_, rfl, rfl, _, rfl, if_ne (by decide) ⟨_, rfl, rfl, _, rfl, if_ne (by decide) ⟨_, rfl, rfl, _, rfl, if_ne (by decide) ⟨_, rfl, rfl, _, rfl, if_ne (by decide) ⟨_, rfl, rfl, _, rfl, if_eq ?_⟩⟩⟩⟩⟩⟩⟩⟩⟩⟩⟩⟩⟩⟩
    exact ⟨_, rfl, e, dxe, _, rfl, eo.ob, ef_none _ _ _ _ _ (by decide +kernel) (by decide +kernel) (by decide +kernel) (by decide +kernel) (by decide +kernel), S, e, st, U, rfl, x1.en, AnsR.of x1 (k1.mono hU)⟩
/-- as answers asks it -/
theorem ok_next (G : CalF P w K mg base 70 "answer_next" (sp_next1 P w K CP CS CE CR)) : CalF P w K mg base 70 "answer_next" (sp_next P w K CP CS CE CR) := by
  obtain ⟨f, fd, ps, F, b, r⟩ := G
  refine ⟨f, fd, ps, F.imp fun vs H Q E h => ?_, b, r⟩
  obtain ⟨S, H0, e, r, nl, ns, rest, c, rest', st, U, U', h1, h2, h3, h4, h5, h6, h7⟩ := h
  rw [Lm.whole_is] at h4 h6 h7
  exact ⟨S, H0, e, r, nl, ns, rest, c, rest', st, U, U', h1, h2, Lm.call_is h3 h4, h5, h6, h7⟩
end
end Lx

/-! The end: what the top has written. -/
namespace Lx
open PySem PySem.Spec PyProof.Rows L2
theorem mkF {K : PySem.W.Frag} {h : Heap} {mg : Str → Option Value} {x : Str} {st : Stmt} {ps : List Str} {f : Addr} {oc : Value} {od an : Option Addr} {sl : Array (Option Value)} {kV dc pm cd ct : Value} (X : K.In h) (G : h.Ns mainGlobals mg)
    (a : PySem.W.nsIn K mainGlobals x = some (some (.ref f))) (l : K.lookup f = some ⟨oc, od, .func (PySem.W.fnOf x x (defArgs st) (defBody st) (defScope st) .none kV dc pm an cd ct), sl⟩) (c : PySem.W.codeIn K cd x = true) (k : PySem.W.keepIn K (.ref f) = true)
    (hb : ∀ (kV doc pm : Value) (an : Option Addr) (cdv ct : Value) (us : List Value), us.length = ps.length → bindArgs (PySem.W.fnOf x x (defArgs st) (defBody st) (defScope st) .none kV doc pm an cdv ct) ⟨us, []⟩ = pure (ps.zip us)) : DefF K mg x st ps :=
  ⟨f, _, fun_mk l c k, (fun_mk l c k).binds hb, PySem.W.mg_of X G a⟩
theorem mkM {K : PySem.W.Frag} {C : Addr} {x q : Str} {st : Stmt} {ps : List Str} {f : Addr} {oc : Value} {od an : Option Addr} {sl : Array (Option Value)} {kV dc pm cd ct : Value}
    (a : PySem.W.findIn K (.ref C) x = some (some (.ref f))) (i : PySem.W.isFn K (.ref f) = true) (l : K.lookup f = some ⟨oc, od, .func (PySem.W.fnOf x q (defArgs st) (defBody st) (defScope st) .none kV dc pm an cd ct), sl⟩) (c : PySem.W.codeIn K cd q = true) (k : PySem.W.keepIn K (.ref f) = true)
    (hb : ∀ (kV doc pm : Value) (an : Option Addr) (cdv ct : Value) (us : List Value), us.length = ps.length → bindArgs (PySem.W.fnOf x q (defArgs st) (defBody st) (defScope st) .none kV doc pm an cdv ct) ⟨us, []⟩ = pure (ps.zip us)) : DefM K C x q st ps :=
  ⟨f, _, fun_mk l c k, (fun_mk l c k).binds hb, a, i, k⟩
theorem mkI {K : PySem.W.Frag} {h : Heap} {mg : Str → Option Value} {C : Addr} {cn q : Str} {st : Stmt} {ps : List Str} {f : Addr} {oc : Value} {od an : Option Addr} {sl : Array (Option Value)} {kV dc pm cd ct : Value} (X : K.In h) (G : h.Ns mainGlobals mg)
    (g : PySem.W.nsIn K mainGlobals cn = some (some (.ref C))) (a : PySem.W.findIn K (.ref C) "__init__" = some (some (.ref f))) (i : PySem.W.isFn K (.ref f) = true) (l : K.lookup f = some ⟨oc, od, .func (PySem.W.fnOf "__init__" q (defArgs st) (defBody st) (defScope st) .none kV dc pm an cd ct), sl⟩) (c : PySem.W.codeIn K cd q = true) (k : PySem.W.keepIn K (.ref f) = true)
    (mk : PySem.W.makesIn K C = true) (kc : PySem.W.keepIn K (.ref C) = true)
    (hb : ∀ (kV doc pm : Value) (an : Option Addr) (cdv ct : Value) (us : List Value), us.length = ps.length → bindArgs (PySem.W.fnOf "__init__" q (defArgs st) (defBody st) (defScope st) .none kV doc pm an cdv ct) ⟨us, []⟩ = pure (ps.zip us)) : DefI K mg C cn q st ps :=
  ⟨f, _, fun_mk l c k, (fun_mk l c k).binds hb, ⟨mk, a, i, kc⟩, PySem.W.mg_of X G g⟩
theorem all_mk {P : Program} {w : World} {K : PySem.W.Frag} {h : Heap} {mg : Str → Option Value} {fa CP CS CE CR fz : Addr} (X : K.In h) (G : h.Ns mainGlobals mg) (hfa : mg "answers" = some (.ref fa))
    {od an : Option Addr} {sl : Array (Option Value)} {oc kV dc pm cd ct : Value}
    (az : PySem.W.nsIn K mainGlobals "answers" = some (some (.ref fz))) (lz : K.lookup fz = some ⟨oc, od, .func (PySem.W.fnOf "answers" "answers" (defArgs s_answers) (defBody s_answers) (defScope s_answers) .none kV dc pm an cd ct), sl⟩) (cz : PySem.W.codeIn K cd "answers" = true) (kz : PySem.W.keepIn K (.ref fz) = true)
    (aCP : PySem.W.nsIn K mainGlobals "Position" = some (some (.ref CP)))
    (clCP : Cls K CP)
    (nCP_hands : PySem.W.findIn K (.ref CP) "hands" = some none)
    (nCP_trump : PySem.W.findIn K (.ref CP) "trump" = some none)
    (nCP_leader : PySem.W.findIn K (.ref CP) "leader" = some none)
    (nCP_trick : PySem.W.findIn K (.ref CP) "trick" = some none)
    (dCP_init : DefI K mg CP "Position" "Position.__init__" (inClass c_Position 0) ["self", "hands", "trump", "leader", "trick"])
    (dCP_on_turn : DefM K CP "on_turn" "Position.on_turn" (inClass c_Position 1) ["self"])
    (dCP_hand_on_turn : DefM K CP "hand_on_turn" "Position.hand_on_turn" (inClass c_Position 2) ["self"])
    (dCP_choices : DefM K CP "choices" "Position.choices" (inClass c_Position 3) ["self"])
    (dCP_has_cards : DefM K CP "has_cards" "Position.has_cards" (inClass c_Position 4) ["self"])
    (dCP_cards_left : DefM K CP "cards_left" "Position.cards_left" (inClass c_Position 5) ["self"])
    (dCP_tricks_left : DefM K CP "tricks_left" "Position.tricks_left" (inClass c_Position 6) ["self"])
    (dCP_seen : DefM K CP "seen" "Position.seen" (inClass c_Position 7) ["self"])
    (dCP_hand_with : DefM K CP "hand_with" "Position.hand_with" (inClass c_Position 8) ["self", "card"])
    (dCP_behind : DefM K CP "behind" "Position.behind" (inClass c_Position 9) ["self", "card"])
    (dCP_between_tricks : DefM K CP "between_tricks" "Position.between_tricks" (inClass c_Position 10) ["self"])
    (dCP_winner_behind : DefM K CP "winner_behind" "Position.winner_behind" (inClass c_Position 11) ["self"])
    (aCS : PySem.W.nsIn K mainGlobals "Search" = some (some (.ref CS)))
    (clCS : Cls K CS)
    (nCS_found : PySem.W.findIn K (.ref CS) "found" = some none)
    (dCS_init : DefI K mg CS "Search" "Search.__init__" (inClass c_Search 0) ["self"])
    (dCS_value : DefM K CS "value" "Search.value" (inClass c_Search 1) ["self", "position"])
    (dCS_best_of_choices : DefM K CS "best_of_choices" "Search.best_of_choices" (inClass c_Search 2) ["self", "position"])
    (dCS_value_by : DefM K CS "value_by" "Search.value_by" (inClass c_Search 3) ["self", "position", "card"])
    (dCS_gift : DefM K CS "gift" "Search.gift" (inClass c_Search 4) ["self", "position", "card"])
    (dCS_least_that_keeps : DefM K CS "least_that_keeps" "Search.least_that_keeps" (inClass c_Search 5) ["self", "position"])
    (dCS_line : DefM K CS "line" "Search.line" (inClass c_Search 6) ["self", "position"])
    (aCE : PySem.W.nsIn K mainGlobals "Ending" = some (some (.ref CE)))
    (clCE : Cls K CE)
    (nCE_search : PySem.W.findIn K (.ref CE) "search" = some none)
    (nCE_dealt : PySem.W.findIn K (.ref CE) "dealt" = some none)
    (nCE_position : PySem.W.findIn K (.ref CE) "position" = some none)
    (nCE_played : PySem.W.findIn K (.ref CE) "played" = some none)
    (nCE_won : PySem.W.findIn K (.ref CE) "won" = some none)
    (dCE_init : DefI K mg CE "Ending" "Ending.__init__" (inClass c_Ending 0) ["self"])
    (dCE_begin : DefM K CE "begin" "Ending.begin" (inClass c_Ending 1) ["self", "position"])
    (dCE_step : DefM K CE "step" "Ending.step" (inClass c_Ending 2) ["self", "card"])
    (dCE_standing : DefM K CE "standing" "Ending.standing" (inClass c_Ending 3) ["self"])
    (dCE_rows_now : DefM K CE "rows_now" "Ending.rows_now" (inClass c_Ending 4) ["self"])
    (dCE_deal : DefM K CE "deal" "Ending.deal" (inClass c_Ending 5) ["self", "trump", "leader", "hands"])
    (dCE_play : DefM K CE "play" "Ending.play" (inClass c_Ending 6) ["self", "card"])
    (dCE_back : DefM K CE "back" "Ending.back" (inClass c_Ending 7) ["self"])
    (dCE_turn : DefM K CE "turn" "Ending.turn" (inClass c_Ending 8) ["self"])
    (dCE_value : DefM K CE "value" "Ending.value" (inClass c_Ending 9) ["self"])
    (dCE_cards : DefM K CE "cards" "Ending.cards" (inClass c_Ending 10) ["self"])
    (dCE_line : DefM K CE "line" "Ending.line" (inClass c_Ending 11) ["self"])
    (dCE_account : DefM K CE "account" "Ending.account" (inClass c_Ending 12) ["self", "cards"])
    (dCE_past : DefM K CE "past" "Ending.past" (inClass c_Ending 13) ["self"])
    (dCE_table : DefM K CE "table" "Ending.table" (inClass c_Ending 14) ["self"])
    (dCE_alike : DefM K CE "alike" "Ending.alike" (inClass c_Ending 15) ["self", "card"])
    (dCE_squeezed : DefM K CE "squeezed" "Ending.squeezed" (inClass c_Ending 16) ["self"])
    (dCE_can : DefM K CE "can" "Ending.can" (inClass c_Ending 17) ["self", "side", "k"])
    (dCE_told : DefM K CE "told" "Ending.told" (inClass c_Ending 18) ["self"])
    (aCR : PySem.W.nsIn K mainGlobals "Reader" = some (some (.ref CR)))
    (clCR : Cls K CR)
    (nCR_numbers : PySem.W.findIn K (.ref CR) "numbers" = some none)
    (nCR_place : PySem.W.findIn K (.ref CR) "place" = some none)
    (dCR_init : DefI K mg CR "Reader" "Reader.__init__" (inClass c_Reader 0) ["self", "numbers"])
    (dCR_at_end : DefM K CR "at_end" "Reader.at_end" (inClass c_Reader 1) ["self"])
    (dCR_number : DefM K CR "number" "Reader.number" (inClass c_Reader 2) ["self"])
    (dCR_row : DefM K CR "row" "Reader.row" (inClass c_Reader 3) ["self"])
    (dCR_rows : DefM K CR "rows" "Reader.rows" (inClass c_Reader 4) ["self", "count"])
    (d_suit_of : DefF K mg "suit_of" s_suit_of ["card"])
    (d_top_of : DefF K mg "top_of" s_top_of ["suit"])
    (d_side_of : DefF K mg "side_of" s_side_of ["seat"])
    (d_seat_behind : DefF K mg "seat_behind" s_seat_behind ["seat", "steps"])
    (d_playable : DefF K mg "playable" s_playable ["hand", "trick"])
    (d_beats : DefF K mg "beats" s_beats ["card", "best", "trump"])
    (d_winning_place : DefF K mg "winning_place" s_winning_place ["trick", "trump"])
    (d_trick_of_side_0 : DefF K mg "trick_of_side_0" s_trick_of_side_0 ["behind"])
    (d_may_be_played : DefF K mg "may_be_played" s_may_be_played ["position", "cards"])
    (d_account_of : DefF K mg "account_of" s_account_of ["search", "position", "cards"])
    (d_parted : DefF K mg "parted" s_parted ["first", "second", "others"])
    (d_alike_in : DefF K mg "alike_in" s_alike_in ["hand", "card", "seen"])
    (d_squeezed_card : DefF K mg "squeezed_card" s_squeezed_card ["card", "seen"])
    (d_squeezed_row : DefF K mg "squeezed_row" s_squeezed_row ["cards", "seen"])
    (d_out_of_range : DefF K mg "out_of_range" s_out_of_range [])
    (d_hands_not_right : DefF K mg "hands_not_right" s_hands_not_right [])
    (d_no_cards : DefF K mg "no_cards" s_no_cards [])
    (d_card_not_there : DefF K mg "card_not_there" s_card_not_there [])
    (d_must_follow : DefF K mg "must_follow" s_must_follow [])
    (d_may_not_be_played : DefF K mg "may_not_be_played" s_may_not_be_played [])
    (d_not_for_a_table : DefF K mg "not_for_a_table" s_not_for_a_table [])
    (d_in_range : DefF K mg "in_range" s_in_range ["number", "least", "greatest"])
    (d_row_in_range : DefF K mg "row_in_range" s_row_in_range ["cards", "longest"])
    (d_hands_are_right : DefF K mg "hands_are_right" s_hands_are_right ["hands"])
    (d_counted : DefF K mg "counted" s_counted ["cards"])
    (d_all_counted : DefF K mg "all_counted" s_all_counted ["rows"])
    (d_deal : DefF K mg "deal" s_deal ["ending", "reader"])
    (d_can : DefF K mg "can" s_can ["ending", "reader"])
    (d_answer_next : DefF K mg "answer_next" s_answer_next ["ending", "reader"])
    (kDEAL : ∃ t, PySem.W.nsIn K mainGlobals "DEAL" = some (some (.int 0 t)))
    (kPLAY : ∃ t, PySem.W.nsIn K mainGlobals "PLAY" = some (some (.int 1 t)))
    (kBACK : ∃ t, PySem.W.nsIn K mainGlobals "BACK" = some (some (.int 2 t)))
    (kTURN : ∃ t, PySem.W.nsIn K mainGlobals "TURN" = some (some (.int 3 t)))
    (kVALUE : ∃ t, PySem.W.nsIn K mainGlobals "VALUE" = some (some (.int 4 t)))
    (kCARDS : ∃ t, PySem.W.nsIn K mainGlobals "CARDS" = some (some (.int 5 t)))
    (kLINE : ∃ t, PySem.W.nsIn K mainGlobals "LINE" = some (some (.int 6 t)))
    (kACCOUNT : ∃ t, PySem.W.nsIn K mainGlobals "ACCOUNT" = some (some (.int 7 t)))
    (kPAST : ∃ t, PySem.W.nsIn K mainGlobals "PAST" = some (some (.int 8 t)))
    (kTABLE : ∃ t, PySem.W.nsIn K mainGlobals "TABLE" = some (some (.int 9 t)))
    (kALIKE : ∃ t, PySem.W.nsIn K mainGlobals "ALIKE" = some (some (.int 10 t)))
    (kSQUEEZED : ∃ t, PySem.W.nsIn K mainGlobals "SQUEEZED" = some (some (.int 11 t)))
    (kCAN : ∃ t, PySem.W.nsIn K mainGlobals "CAN" = some (some (.int 12 t)))
    (kTOLD : ∃ t, PySem.W.nsIn K mainGlobals "TOLD" = some (some (.int 13 t)))
    (b_len : PySem.W.nsIn K mainGlobals "len" = some none)
    (b_list : PySem.W.nsIn K mainGlobals "list" = some none)
    (b_tuple : PySem.W.nsIn K mainGlobals "tuple" = some none)
    (b_range : PySem.W.nsIn K mainGlobals "range" = some none)
    (b_any : PySem.W.nsIn K mainGlobals "any" = some none)
    (b_all : PySem.W.nsIn K mainGlobals "all" = some none)
    (b_max : PySem.W.nsIn K mainGlobals "max" = some none)
    (b_min : PySem.W.nsIn K mainGlobals "min" = some none)
    (b_set : PySem.W.nsIn K mainGlobals "set" = some none)
    (b_sorted : PySem.W.nsIn K mainGlobals "sorted" = some none)
    (b_sum : PySem.W.nsIn K mainGlobals "sum" = some none) :
    ∃ fd : FuncData, (∀ (s : Shared) (us : List Value), us.length = (["calls"] : List Str).length → BindsTo s fd ⟨us, []⟩ ((["calls"] : List Str).zip us)) ∧ ∀ base : Heap, K.In base → base.Ns mainGlobals mg → FnOk P w K mg base CX0 71 fa fd ["calls"] (sp_answers K) := by
  have e := hfa.symm.trans (PySem.W.mg_of X G az)
  cases e
  refine ⟨PySem.W.fnOf "answers" "answers" (defArgs s_answers) (defBody s_answers) (defScope s_answers) .none kV dc pm an cd ct, fun s us hu => match us, hu with | [_], _ => .of_eq rfl, fun base _ _ => ?_⟩
  have B : Bl mg := ⟨PySem.W.mg_none_of X G b_len, PySem.W.mg_none_of X G b_list, PySem.W.mg_none_of X G b_tuple, PySem.W.mg_none_of X G b_range, PySem.W.mg_none_of X G b_any, PySem.W.mg_none_of X G b_all, PySem.W.mg_none_of X G b_max, PySem.W.mg_none_of X G b_min, PySem.W.mg_none_of X G b_set, PySem.W.mg_none_of X G b_sorted, PySem.W.mg_none_of X G b_sum⟩
  have TP : PosT K CP := ⟨clCP, nCP_hands, nCP_trump, nCP_leader, nCP_trick⟩
  have TS : SeT K CS := ⟨clCS, nCS_found⟩
  have TE : EnT K CE := ⟨clCE, nCE_search, nCE_dealt, nCE_position, nCE_played, nCE_won⟩
  have TR : RdT K CR := ⟨clCR, nCR_numbers, nCR_place⟩
  have N : Cons1 mg := by
    obtain ⟨t0, h0⟩ := kDEAL
    obtain ⟨t1, h1⟩ := kPLAY
    obtain ⟨t2, h2⟩ := kBACK
    obtain ⟨t3, h3⟩ := kTURN
    obtain ⟨t4, h4⟩ := kVALUE
    obtain ⟨t5, h5⟩ := kCARDS
    obtain ⟨t6, h6⟩ := kLINE
    obtain ⟨t7, h7⟩ := kACCOUNT
    obtain ⟨t8, h8⟩ := kPAST
    obtain ⟨t9, h9⟩ := kTABLE
    obtain ⟨t10, h10⟩ := kALIKE
    obtain ⟨t11, h11⟩ := kSQUEEZED
    obtain ⟨t12, h12⟩ := kCAN
    obtain ⟨t13, h13⟩ := kTOLD
    exact ⟨⟨_, PySem.W.mg_of X G h0⟩, ⟨_, PySem.W.mg_of X G h1⟩, ⟨_, PySem.W.mg_of X G h2⟩, ⟨_, PySem.W.mg_of X G h3⟩, ⟨_, PySem.W.mg_of X G h4⟩, ⟨_, PySem.W.mg_of X G h5⟩, ⟨_, PySem.W.mg_of X G h6⟩, ⟨_, PySem.W.mg_of X G h7⟩, ⟨_, PySem.W.mg_of X G h8⟩, ⟨_, PySem.W.mg_of X G h9⟩, ⟨_, PySem.W.mg_of X G h10⟩, ⟨_, PySem.W.mg_of X G h11⟩, ⟨_, PySem.W.mg_of X G h12⟩, ⟨_, PySem.W.mg_of X G h13⟩⟩
  have c_side := ok_side_of (P := P) (w := w) (base := base) d_side_of
  have c_seat := ok_seat_behind (P := P) (w := w) (base := base) d_seat_behind
  have c_playable := ok_playable (P := P) (w := w) (base := base) B d_playable d_suit_of
  have c_wins := ok_winning_place (P := P) (w := w) (base := base) B d_winning_place d_suit_of d_beats
  have p_init := ok_pos_init (P := P) (w := w) (base := base) TP dCP_init
  have p_turn := ok_on_turn (P := P) (w := w) (base := base) B TP dCP_on_turn c_seat
  have p_hand := ok_hand_on_turn (P := P) (w := w) (base := base) (mg := mg) TP dCP_hand_on_turn p_turn
  have p_chs := ok_choices (P := P) (w := w) (base := base) TP dCP_choices p_hand c_playable
  have p_left := ok_cards_left (P := P) (w := w) (base := base) B TP dCP_cards_left
  have p_has := ok_has_cards (P := P) (w := w) (base := base) (mg := mg) TP dCP_has_cards p_left
  have p_tleft := ok_tricks_left (P := P) (w := w) (base := base) B TP dCP_tricks_left p_left
  have p_seen := ok_seen (P := P) (w := w) (base := base) B TP dCP_seen
  have p_hwith := ok_hand_with (P := P) (w := w) (base := base) (mg := mg) TP dCP_hand_with
  have p_betw := ok_between (P := P) (w := w) (base := base) B TP dCP_between_tricks
  have p_wb := ok_winner_behind (P := P) (w := w) (base := base) (mg := mg) TP dCP_winner_behind p_betw
  have p_beh := ok_behind (P := P) (w := w) (base := base) B TP dCP_behind p_init p_turn p_hand c_seat c_wins
  have c_suit := ok_suit_of (P := P) (w := w) (base := base) d_suit_of
  have c_top := ok_top_of (P := P) (w := w) (base := base) d_top_of
  have c_t0 := ok_trick0 (P := P) (w := w) (base := base) TP d_trick_of_side_0 p_wb c_side
  have c_parted := ok_parted (P := P) (w := w) (base := base) B d_parted
  have c_alike := ok_alike_in (P := P) (w := w) (base := base) d_alike_in c_suit c_parted
  have c_sqc := ok_squeezed_card (P := P) (w := w) (base := base) B d_squeezed_card c_suit c_top
  have c_sqr := ok_squeezed_row (P := P) (w := w) (base := base) d_squeezed_row c_sqc
  have c_cnd := ok_counted (P := P) (w := w) (base := base) B d_counted
  have c_acd := ok_all_counted (P := P) (w := w) (base := base) d_all_counted c_cnd
  have c_may := ok_may (P := P) (w := w) (base := base) TP d_may_be_played p_chs p_beh
  have sc : SeCal P w K mg base CP CS := ⟨B, TP, TS, p_betw, p_wb, p_turn, p_chs, p_has, p_beh, c_side, c_t0⟩
  have s_init := ok_se_init (P := P) (w := w) (base := base) TS dCS_init
  have s_val := ok_search sc dCS_value dCS_best_of_choices dCS_value_by
  have s_vby := ok_value_by sc (by omega) dCS_value_by (s_val 16)
  have s_least := ok_least (k := 55) sc (by omega) dCS_least_that_keeps ((s_val 17).mono (by omega)) (s_vby.mono (by omega))
  have s_line := ok_line sc (by omega) dCS_line s_least
  have s_gift := ok_gift (k := 57) sc (by omega) dCS_gift ((s_val 17).mono (by omega)) (s_vby.mono (by omega))
  have c_acc := ok_acc (k := 59) sc (by omega) d_account_of ((s_val 17).mono (by omega)) (s_gift.mono (by omega))
  have r_inr := ok_in_range (P := P) (w := w) (base := base) d_in_range
  have r_row := ok_row_in_range (P := P) (w := w) (base := base) B d_row_in_range r_inr
  have r_har := ok_hands_right (P := P) (w := w) (base := base) B d_hands_are_right
  have sc0 : ∀ {st : Stmt}, (defScope st).kind = .function → (defScope st).isCoroutine = false → (defScope st).isGenerator = false → (∀ y ∈ (defScope st).names, y.2 ≠ .free) → FnScope [] [] (defScope st) := fun a b c d => ⟨a, b, c, List.nodup_nil, rfl, (fun x hx => by cases hx), d⟩
  have n1 := ok_no (P := P) (w := w) (base := base) (k := 1) d_out_of_range (sc0 rfl rfl rfl (by decide +kernel)) rfl
  have n2 := ok_no (P := P) (w := w) (base := base) (k := 2) d_hands_not_right (sc0 rfl rfl rfl (by decide +kernel)) rfl
  have n3 := ok_no (P := P) (w := w) (base := base) (k := 3) d_no_cards (sc0 rfl rfl rfl (by decide +kernel)) rfl
  have n4 := ok_no (P := P) (w := w) (base := base) (k := 4) d_card_not_there (sc0 rfl rfl rfl (by decide +kernel)) rfl
  have n5 := ok_no (P := P) (w := w) (base := base) (k := 5) d_must_follow (sc0 rfl rfl rfl (by decide +kernel)) rfl
  have n6 := ok_no (P := P) (w := w) (base := base) (k := 6) d_may_not_be_played (sc0 rfl rfl rfl (by decide +kernel)) rfl
  have n7 := ok_no (P := P) (w := w) (base := base) (k := 7) d_not_for_a_table (sc0 rfl rfl rfl (by decide +kernel)) rfl
  have e_beg := ok_begin (P := P) (w := w) (base := base) (mg := mg) TE dCE_begin
  have ec : EnCal P w K mg base CP CS CE := ⟨sc, TE, p_hand, p_init, s_init, (s_val 17).mono (by omega), s_vby.mono (by omega), s_line.mono (by omega), e_beg, n1, n2, n3, n4, n5, r_inr, r_row, r_har, c_cnd, c_acd, p_left, p_tleft, p_seen, p_hwith, c_may, c_acc, c_alike, c_sqr, n6, n7⟩
  have e_init := ok_en_init ec dCE_init
  have e_step := ok_step ec dCE_step
  have e_stand := ok_standing ec dCE_standing
  have e_rows := ok_rows_now ec dCE_rows_now
  have rd_init := ok_rd_init (P := P) (w := w) (base := base) TR dCR_init
  have rd_end := ok_at_end (P := P) (w := w) (base := base) B TR dCR_at_end
  have rd_num := ok_number (P := P) (w := w) (base := base) (mg := mg) TR dCR_number
  have rd_row := ok_row (P := P) (w := w) (base := base) (mg := mg) TR dCR_row rd_num
  have rd_rows := ok_rows (P := P) (w := w) (base := base) B TR dCR_rows rd_row
  have tc : TopCal P w K mg base CP CS CE CR := ⟨ec, TR, e_init, ok_edeal ec dCE_deal, ok_play ec dCE_play e_step e_stand, ok_back ec dCE_back e_step e_stand, ok_turn ec dCE_turn e_stand, ok_evalue ec dCE_value, ok_ecards ec dCE_cards, ok_eline ec dCE_line, ok_eaccount ec dCE_account, ok_epast ec dCE_past, ok_etable ec dCE_table, ok_ealike ec dCE_alike, ok_esqueezed ec dCE_squeezed e_rows, ok_ecan ec dCE_can, ok_etold ec dCE_told e_rows, rd_init, rd_end, rd_num, rd_row, rd_rows⟩
  have t_deal := ok_tdeal tc d_deal
  have t_can := ok_tcan tc d_can
  have t_next := ok_next (ok_next1 tc N d_answer_next t_deal t_can)
  exact ok_answers tc (fun_mk lz cz kz) t_next

end Lx

open PySem PySem.W PyProof.Rows
set_option maxRecDepth 100000 in
set_option maxHeartbeats 8000000 in
theorem PySem.Challenge.cw_lasttricksdesk_s01_answers_holds : PySem.Challenge.rw_lasttricksdesk_s01_answers.Holds := by
  w_on; k_headS; (case hw => exact ⟨[.list [.int 3]], by decide +kernel, by decide +kernel⟩)
  k_fillS
  refine L2.walk_specK (r := PySem.Challenge.rw_lasttricksdesk_s01_answers) (k := 71) (CX := L2.CX0) (ps := ["calls"]) (sp := Lx.sp_answers) (by decide +kernel) rfl rfl ⟨rfl, by decide, by decide⟩ (fun w h Y => PySem.W.kIn_of Y) ?F ?S (fun _ _ _ _ z => z)
  case F =>
    intro w mg fa h Y KX G hmg
    refine' Lx.all_mk KX G hmg ?az ?lz ?cz ?kz ?aCP ?clCP ?nCP_hands ?nCP_trump ?nCP_leader ?nCP_trick ?dCP_init ?dCP_on_turn ?dCP_hand_on_turn ?dCP_choices ?dCP_has_cards ?dCP_cards_left ?dCP_tricks_left ?dCP_seen ?dCP_hand_with ?dCP_behind ?dCP_between_tricks ?dCP_winner_behind ?aCS ?clCS ?nCS_found ?dCS_init ?dCS_value ?dCS_best_of_choices ?dCS_value_by ?dCS_gift ?dCS_least_that_keeps ?dCS_line ?aCE ?clCE ?nCE_search ?nCE_dealt ?nCE_position ?nCE_played ?nCE_won ?dCE_init ?dCE_begin ?dCE_step ?dCE_standing ?dCE_rows_now ?dCE_deal ?dCE_play ?dCE_back ?dCE_turn ?dCE_value ?dCE_cards ?dCE_line ?dCE_account ?dCE_past ?dCE_table ?dCE_alike ?dCE_squeezed ?dCE_can ?dCE_told ?aCR ?clCR ?nCR_numbers ?nCR_place ?dCR_init ?dCR_at_end ?dCR_number ?dCR_row ?dCR_rows ?d_suit_of ?d_top_of ?d_side_of ?d_seat_behind ?d_playable ?d_beats ?d_winning_place ?d_trick_of_side_0 ?d_may_be_played ?d_account_of ?d_parted ?d_alike_in ?d_squeezed_card ?d_squeezed_row ?d_out_of_range ?d_hands_not_right ?d_no_cards ?d_card_not_there ?d_must_follow ?d_may_not_be_played ?d_not_for_a_table ?d_in_range ?d_row_in_range ?d_hands_are_right ?d_counted ?d_all_counted ?d_deal ?d_can ?d_answer_next ?kDEAL ?kPLAY ?kBACK ?kTURN ?kVALUE ?kCARDS ?kLINE ?kACCOUNT ?kPAST ?kTABLE ?kALIKE ?kSQUEEZED ?kCAN ?kTOLD ?b_len ?b_list ?b_tuple ?b_range ?b_any ?b_all ?b_max ?b_min ?b_set ?b_sorted ?b_sum
    (case az => k_is); (case lz => k_is); (case cz => k_is); (case kz => k_is)
    (case aCP => k_is)
    (case clCP => (refine' ⟨?p1, ?p2, ?p3, ?p4⟩; (case p1 => k_is); (case p2 => k_is); (case p3 => k_is); (case p4 => k_is)))
    (case nCP_hands => k_is)
    (case nCP_trump => k_is)
    (case nCP_leader => k_is)
    (case nCP_trick => k_is)
    (case dCP_init => (refine' Lx.mkI KX G ?p0 ?p1 ?p2 ?p3 ?p4 ?p5 ?p6 ?p7 (fun _ _ _ _ _ _ us hl => match us, hl with | [_, _, _, _, _], _ => rfl); (case p0 => k_is); (case p1 => k_is); (case p2 => k_is); (case p3 => k_is); (case p4 => k_is); (case p5 => k_is); (case p6 => k_is); (case p7 => k_is)))
    (case dCP_on_turn => (refine' Lx.mkM ?p1 ?p2 ?p3 ?p4 ?p5 (fun _ _ _ _ _ _ us hl => match us, hl with | [_], _ => rfl); (case p1 => k_is); (case p2 => k_is); (case p3 => k_is); (case p4 => k_is); (case p5 => k_is)))
    (case dCP_hand_on_turn => (refine' Lx.mkM ?p1 ?p2 ?p3 ?p4 ?p5 (fun _ _ _ _ _ _ us hl => match us, hl with | [_], _ => rfl); (case p1 => k_is); (case p2 => k_is); (case p3 => k_is); (case p4 => k_is); (case p5 => k_is)))
    (case dCP_choices => (refine' Lx.mkM ?p1 ?p2 ?p3 ?p4 ?p5 (fun _ _ _ _ _ _ us hl => match us, hl with | [_], _ => rfl); (case p1 => k_is); (case p2 => k_is); (case p3 => k_is); (case p4 => k_is); (case p5 => k_is)))
    (case dCP_has_cards => (refine' Lx.mkM ?p1 ?p2 ?p3 ?p4 ?p5 (fun _ _ _ _ _ _ us hl => match us, hl with | [_], _ => rfl); (case p1 => k_is); (case p2 => k_is); (case p3 => k_is); (case p4 => k_is); (case p5 => k_is)))
    (case dCP_cards_left => (refine' Lx.mkM ?p1 ?p2 ?p3 ?p4 ?p5 (fun _ _ _ _ _ _ us hl => match us, hl with | [_], _ => rfl); (case p1 => k_is); (case p2 => k_is); (case p3 => k_is); (case p4 => k_is); (case p5 => k_is)))
    (case dCP_tricks_left => (refine' Lx.mkM ?p1 ?p2 ?p3 ?p4 ?p5 (fun _ _ _ _ _ _ us hl => match us, hl with | [_], _ => rfl); (case p1 => k_is); (case p2 => k_is); (case p3 => k_is); (case p4 => k_is); (case p5 => k_is)))
    (case dCP_seen => (refine' Lx.mkM ?p1 ?p2 ?p3 ?p4 ?p5 (fun _ _ _ _ _ _ us hl => match us, hl with | [_], _ => rfl); (case p1 => k_is); (case p2 => k_is); (case p3 => k_is); (case p4 => k_is); (case p5 => k_is)))
    (case dCP_hand_with => (refine' Lx.mkM ?p1 ?p2 ?p3 ?p4 ?p5 (fun _ _ _ _ _ _ us hl => match us, hl with | [_, _], _ => rfl); (case p1 => k_is); (case p2 => k_is); (case p3 => k_is); (case p4 => k_is); (case p5 => k_is)))
    (case dCP_behind => (refine' Lx.mkM ?p1 ?p2 ?p3 ?p4 ?p5 (fun _ _ _ _ _ _ us hl => match us, hl with | [_, _], _ => rfl); (case p1 => k_is); (case p2 => k_is); (case p3 => k_is); (case p4 => k_is); (case p5 => k_is)))
    (case dCP_between_tricks => (refine' Lx.mkM ?p1 ?p2 ?p3 ?p4 ?p5 (fun _ _ _ _ _ _ us hl => match us, hl with | [_], _ => rfl); (case p1 => k_is); (case p2 => k_is); (case p3 => k_is); (case p4 => k_is); (case p5 => k_is)))
    (case dCP_winner_behind => (refine' Lx.mkM ?p1 ?p2 ?p3 ?p4 ?p5 (fun _ _ _ _ _ _ us hl => match us, hl with | [_], _ => rfl); (case p1 => k_is); (case p2 => k_is); (case p3 => k_is); (case p4 => k_is); (case p5 => k_is)))
    (case aCS => k_is)
    (case clCS => (refine' ⟨?p1, ?p2, ?p3, ?p4⟩; (case p1 => k_is); (case p2 => k_is); (case p3 => k_is); (case p4 => k_is)))
    (case nCS_found => k_is)
    (case dCS_init => (refine' Lx.mkI KX G ?p0 ?p1 ?p2 ?p3 ?p4 ?p5 ?p6 ?p7 (fun _ _ _ _ _ _ us hl => match us, hl with | [_], _ => rfl); (case p0 => k_is); (case p1 => k_is); (case p2 => k_is); (case p3 => k_is); (case p4 => k_is); (case p5 => k_is); (case p6 => k_is); (case p7 => k_is)))
    (case dCS_value => (refine' Lx.mkM ?p1 ?p2 ?p3 ?p4 ?p5 (fun _ _ _ _ _ _ us hl => match us, hl with | [_, _], _ => rfl); (case p1 => k_is); (case p2 => k_is); (case p3 => k_is); (case p4 => k_is); (case p5 => k_is)))
    (case dCS_best_of_choices => (refine' Lx.mkM ?p1 ?p2 ?p3 ?p4 ?p5 (fun _ _ _ _ _ _ us hl => match us, hl with | [_, _], _ => rfl); (case p1 => k_is); (case p2 => k_is); (case p3 => k_is); (case p4 => k_is); (case p5 => k_is)))
    (case dCS_value_by => (refine' Lx.mkM ?p1 ?p2 ?p3 ?p4 ?p5 (fun _ _ _ _ _ _ us hl => match us, hl with | [_, _, _], _ => rfl); (case p1 => k_is); (case p2 => k_is); (case p3 => k_is); (case p4 => k_is); (case p5 => k_is)))
    (case dCS_gift => (refine' Lx.mkM ?p1 ?p2 ?p3 ?p4 ?p5 (fun _ _ _ _ _ _ us hl => match us, hl with | [_, _, _], _ => rfl); (case p1 => k_is); (case p2 => k_is); (case p3 => k_is); (case p4 => k_is); (case p5 => k_is)))
    (case dCS_least_that_keeps => (refine' Lx.mkM ?p1 ?p2 ?p3 ?p4 ?p5 (fun _ _ _ _ _ _ us hl => match us, hl with | [_, _], _ => rfl); (case p1 => k_is); (case p2 => k_is); (case p3 => k_is); (case p4 => k_is); (case p5 => k_is)))
    (case dCS_line => (refine' Lx.mkM ?p1 ?p2 ?p3 ?p4 ?p5 (fun _ _ _ _ _ _ us hl => match us, hl with | [_, _], _ => rfl); (case p1 => k_is); (case p2 => k_is); (case p3 => k_is); (case p4 => k_is); (case p5 => k_is)))
    (case aCE => k_is)
    (case clCE => (refine' ⟨?p1, ?p2, ?p3, ?p4⟩; (case p1 => k_is); (case p2 => k_is); (case p3 => k_is); (case p4 => k_is)))
    (case nCE_search => k_is)
    (case nCE_dealt => k_is)
    (case nCE_position => k_is)
    (case nCE_played => k_is)
    (case nCE_won => k_is)
    (case dCE_init => (refine' Lx.mkI KX G ?p0 ?p1 ?p2 ?p3 ?p4 ?p5 ?p6 ?p7 (fun _ _ _ _ _ _ us hl => match us, hl with | [_], _ => rfl); (case p0 => k_is); (case p1 => k_is); (case p2 => k_is); (case p3 => k_is); (case p4 => k_is); (case p5 => k_is); (case p6 => k_is); (case p7 => k_is)))
    (case dCE_begin => (refine' Lx.mkM ?p1 ?p2 ?p3 ?p4 ?p5 (fun _ _ _ _ _ _ us hl => match us, hl with | [_, _], _ => rfl); (case p1 => k_is); (case p2 => k_is); (case p3 => k_is); (case p4 => k_is); (case p5 => k_is)))
    (case dCE_step => (refine' Lx.mkM ?p1 ?p2 ?p3 ?p4 ?p5 (fun _ _ _ _ _ _ us hl => match us, hl with | [_, _], _ => rfl); (case p1 => k_is); (case p2 => k_is); (case p3 => k_is); (case p4 => k_is); (case p5 => k_is)))
    (case dCE_standing => (refine' Lx.mkM ?p1 ?p2 ?p3 ?p4 ?p5 (fun _ _ _ _ _ _ us hl => match us, hl with | [_], _ => rfl); (case p1 => k_is); (case p2 => k_is); (case p3 => k_is); (case p4 => k_is); (case p5 => k_is)))
    (case dCE_rows_now => (refine' Lx.mkM ?p1 ?p2 ?p3 ?p4 ?p5 (fun _ _ _ _ _ _ us hl => match us, hl with | [_], _ => rfl); (case p1 => k_is); (case p2 => k_is); (case p3 => k_is); (case p4 => k_is); (case p5 => k_is)))
    (case dCE_deal => (refine' Lx.mkM ?p1 ?p2 ?p3 ?p4 ?p5 (fun _ _ _ _ _ _ us hl => match us, hl with | [_, _, _, _], _ => rfl); (case p1 => k_is); (case p2 => k_is); (case p3 => k_is); (case p4 => k_is); (case p5 => k_is)))
    (case dCE_play => (refine' Lx.mkM ?p1 ?p2 ?p3 ?p4 ?p5 (fun _ _ _ _ _ _ us hl => match us, hl with | [_, _], _ => rfl); (case p1 => k_is); (case p2 => k_is); (case p3 => k_is); (case p4 => k_is); (case p5 => k_is)))
    (case dCE_back => (refine' Lx.mkM ?p1 ?p2 ?p3 ?p4 ?p5 (fun _ _ _ _ _ _ us hl => match us, hl with | [_], _ => rfl); (case p1 => k_is); (case p2 => k_is); (case p3 => k_is); (case p4 => k_is); (case p5 => k_is)))
    (case dCE_turn => (refine' Lx.mkM ?p1 ?p2 ?p3 ?p4 ?p5 (fun _ _ _ _ _ _ us hl => match us, hl with | [_], _ => rfl); (case p1 => k_is); (case p2 => k_is); (case p3 => k_is); (case p4 => k_is); (case p5 => k_is)))
    (case dCE_value => (refine' Lx.mkM ?p1 ?p2 ?p3 ?p4 ?p5 (fun _ _ _ _ _ _ us hl => match us, hl with | [_], _ => rfl); (case p1 => k_is); (case p2 => k_is); (case p3 => k_is); (case p4 => k_is); (case p5 => k_is)))
    (case dCE_cards => (refine' Lx.mkM ?p1 ?p2 ?p3 ?p4 ?p5 (fun _ _ _ _ _ _ us hl => match us, hl with | [_], _ => rfl); (case p1 => k_is); (case p2 => k_is); (case p3 => k_is); (case p4 => k_is); (case p5 => k_is)))
    (case dCE_line => (refine' Lx.mkM ?p1 ?p2 ?p3 ?p4 ?p5 (fun _ _ _ _ _ _ us hl => match us, hl with | [_], _ => rfl); (case p1 => k_is); (case p2 => k_is); (case p3 => k_is); (case p4 => k_is); (case p5 => k_is)))
    (case dCE_account => (refine' Lx.mkM ?p1 ?p2 ?p3 ?p4 ?p5 (fun _ _ _ _ _ _ us hl => match us, hl with | [_, _], _ => rfl); (case p1 => k_is); (case p2 => k_is); (case p3 => k_is); (case p4 => k_is); (case p5 => k_is)))
    (case dCE_past => (refine' Lx.mkM ?p1 ?p2 ?p3 ?p4 ?p5 (fun _ _ _ _ _ _ us hl => match us, hl with | [_], _ => rfl); (case p1 => k_is); (case p2 => k_is); (case p3 => k_is); (case p4 => k_is); (case p5 => k_is)))
    (case dCE_table => (refine' Lx.mkM ?p1 ?p2 ?p3 ?p4 ?p5 (fun _ _ _ _ _ _ us hl => match us, hl with | [_], _ => rfl); (case p1 => k_is); (case p2 => k_is); (case p3 => k_is); (case p4 => k_is); (case p5 => k_is)))
    (case dCE_alike => (refine' Lx.mkM ?p1 ?p2 ?p3 ?p4 ?p5 (fun _ _ _ _ _ _ us hl => match us, hl with | [_, _], _ => rfl); (case p1 => k_is); (case p2 => k_is); (case p3 => k_is); (case p4 => k_is); (case p5 => k_is)))
    (case dCE_squeezed => (refine' Lx.mkM ?p1 ?p2 ?p3 ?p4 ?p5 (fun _ _ _ _ _ _ us hl => match us, hl with | [_], _ => rfl); (case p1 => k_is); (case p2 => k_is); (case p3 => k_is); (case p4 => k_is); (case p5 => k_is)))
    (case dCE_can => (refine' Lx.mkM ?p1 ?p2 ?p3 ?p4 ?p5 (fun _ _ _ _ _ _ us hl => match us, hl with | [_, _, _], _ => rfl); (case p1 => k_is); (case p2 => k_is); (case p3 => k_is); (case p4 => k_is); (case p5 => k_is)))
    (case dCE_told => (refine' Lx.mkM ?p1 ?p2 ?p3 ?p4 ?p5 (fun _ _ _ _ _ _ us hl => match us, hl with | [_], _ => rfl); (case p1 => k_is); (case p2 => k_is); (case p3 => k_is); (case p4 => k_is); (case p5 => k_is)))
    (case aCR => k_is)
    (case clCR => (refine' ⟨?p1, ?p2, ?p3, ?p4⟩; (case p1 => k_is); (case p2 => k_is); (case p3 => k_is); (case p4 => k_is)))
    (case nCR_numbers => k_is)
    (case nCR_place => k_is)
    (case dCR_init => (refine' Lx.mkI KX G ?p0 ?p1 ?p2 ?p3 ?p4 ?p5 ?p6 ?p7 (fun _ _ _ _ _ _ us hl => match us, hl with | [_, _], _ => rfl); (case p0 => k_is); (case p1 => k_is); (case p2 => k_is); (case p3 => k_is); (case p4 => k_is); (case p5 => k_is); (case p6 => k_is); (case p7 => k_is)))
    (case dCR_at_end => (refine' Lx.mkM ?p1 ?p2 ?p3 ?p4 ?p5 (fun _ _ _ _ _ _ us hl => match us, hl with | [_], _ => rfl); (case p1 => k_is); (case p2 => k_is); (case p3 => k_is); (case p4 => k_is); (case p5 => k_is)))
    (case dCR_number => (refine' Lx.mkM ?p1 ?p2 ?p3 ?p4 ?p5 (fun _ _ _ _ _ _ us hl => match us, hl with | [_], _ => rfl); (case p1 => k_is); (case p2 => k_is); (case p3 => k_is); (case p4 => k_is); (case p5 => k_is)))
    (case dCR_row => (refine' Lx.mkM ?p1 ?p2 ?p3 ?p4 ?p5 (fun _ _ _ _ _ _ us hl => match us, hl with | [_], _ => rfl); (case p1 => k_is); (case p2 => k_is); (case p3 => k_is); (case p4 => k_is); (case p5 => k_is)))
    (case dCR_rows => (refine' Lx.mkM ?p1 ?p2 ?p3 ?p4 ?p5 (fun _ _ _ _ _ _ us hl => match us, hl with | [_, _], _ => rfl); (case p1 => k_is); (case p2 => k_is); (case p3 => k_is); (case p4 => k_is); (case p5 => k_is)))
    (case d_suit_of => (refine' Lx.mkF KX G ?p1 ?p2 ?p3 ?p4 (fun _ _ _ _ _ _ us hl => match us, hl with | [_], _ => rfl); (case p1 => k_is); (case p2 => k_is); (case p3 => k_is); (case p4 => k_is)))
    (case d_top_of => (refine' Lx.mkF KX G ?p1 ?p2 ?p3 ?p4 (fun _ _ _ _ _ _ us hl => match us, hl with | [_], _ => rfl); (case p1 => k_is); (case p2 => k_is); (case p3 => k_is); (case p4 => k_is)))
    (case d_side_of => (refine' Lx.mkF KX G ?p1 ?p2 ?p3 ?p4 (fun _ _ _ _ _ _ us hl => match us, hl with | [_], _ => rfl); (case p1 => k_is); (case p2 => k_is); (case p3 => k_is); (case p4 => k_is)))
    (case d_seat_behind => (refine' Lx.mkF KX G ?p1 ?p2 ?p3 ?p4 (fun _ _ _ _ _ _ us hl => match us, hl with | [_, _], _ => rfl); (case p1 => k_is); (case p2 => k_is); (case p3 => k_is); (case p4 => k_is)))
    (case d_playable => (refine' Lx.mkF KX G ?p1 ?p2 ?p3 ?p4 (fun _ _ _ _ _ _ us hl => match us, hl with | [_, _], _ => rfl); (case p1 => k_is); (case p2 => k_is); (case p3 => k_is); (case p4 => k_is)))
    (case d_beats => (refine' Lx.mkF KX G ?p1 ?p2 ?p3 ?p4 (fun _ _ _ _ _ _ us hl => match us, hl with | [_, _, _], _ => rfl); (case p1 => k_is); (case p2 => k_is); (case p3 => k_is); (case p4 => k_is)))
    (case d_winning_place => (refine' Lx.mkF KX G ?p1 ?p2 ?p3 ?p4 (fun _ _ _ _ _ _ us hl => match us, hl with | [_, _], _ => rfl); (case p1 => k_is); (case p2 => k_is); (case p3 => k_is); (case p4 => k_is)))
    (case d_trick_of_side_0 => (refine' Lx.mkF KX G ?p1 ?p2 ?p3 ?p4 (fun _ _ _ _ _ _ us hl => match us, hl with | [_], _ => rfl); (case p1 => k_is); (case p2 => k_is); (case p3 => k_is); (case p4 => k_is)))
    (case d_may_be_played => (refine' Lx.mkF KX G ?p1 ?p2 ?p3 ?p4 (fun _ _ _ _ _ _ us hl => match us, hl with | [_, _], _ => rfl); (case p1 => k_is); (case p2 => k_is); (case p3 => k_is); (case p4 => k_is)))
    (case d_account_of => (refine' Lx.mkF KX G ?p1 ?p2 ?p3 ?p4 (fun _ _ _ _ _ _ us hl => match us, hl with | [_, _, _], _ => rfl); (case p1 => k_is); (case p2 => k_is); (case p3 => k_is); (case p4 => k_is)))
    (case d_parted => (refine' Lx.mkF KX G ?p1 ?p2 ?p3 ?p4 (fun _ _ _ _ _ _ us hl => match us, hl with | [_, _, _], _ => rfl); (case p1 => k_is); (case p2 => k_is); (case p3 => k_is); (case p4 => k_is)))
    (case d_alike_in => (refine' Lx.mkF KX G ?p1 ?p2 ?p3 ?p4 (fun _ _ _ _ _ _ us hl => match us, hl with | [_, _, _], _ => rfl); (case p1 => k_is); (case p2 => k_is); (case p3 => k_is); (case p4 => k_is)))
    (case d_squeezed_card => (refine' Lx.mkF KX G ?p1 ?p2 ?p3 ?p4 (fun _ _ _ _ _ _ us hl => match us, hl with | [_, _], _ => rfl); (case p1 => k_is); (case p2 => k_is); (case p3 => k_is); (case p4 => k_is)))
    (case d_squeezed_row => (refine' Lx.mkF KX G ?p1 ?p2 ?p3 ?p4 (fun _ _ _ _ _ _ us hl => match us, hl with | [_, _], _ => rfl); (case p1 => k_is); (case p2 => k_is); (case p3 => k_is); (case p4 => k_is)))
    (case d_out_of_range => (refine' Lx.mkF KX G ?p1 ?p2 ?p3 ?p4 (fun _ _ _ _ _ _ us hl => match us, hl with | [], _ => rfl); (case p1 => k_is); (case p2 => k_is); (case p3 => k_is); (case p4 => k_is)))
    (case d_hands_not_right => (refine' Lx.mkF KX G ?p1 ?p2 ?p3 ?p4 (fun _ _ _ _ _ _ us hl => match us, hl with | [], _ => rfl); (case p1 => k_is); (case p2 => k_is); (case p3 => k_is); (case p4 => k_is)))
    (case d_no_cards => (refine' Lx.mkF KX G ?p1 ?p2 ?p3 ?p4 (fun _ _ _ _ _ _ us hl => match us, hl with | [], _ => rfl); (case p1 => k_is); (case p2 => k_is); (case p3 => k_is); (case p4 => k_is)))
    (case d_card_not_there => (refine' Lx.mkF KX G ?p1 ?p2 ?p3 ?p4 (fun _ _ _ _ _ _ us hl => match us, hl with | [], _ => rfl); (case p1 => k_is); (case p2 => k_is); (case p3 => k_is); (case p4 => k_is)))
    (case d_must_follow => (refine' Lx.mkF KX G ?p1 ?p2 ?p3 ?p4 (fun _ _ _ _ _ _ us hl => match us, hl with | [], _ => rfl); (case p1 => k_is); (case p2 => k_is); (case p3 => k_is); (case p4 => k_is)))
    (case d_may_not_be_played => (refine' Lx.mkF KX G ?p1 ?p2 ?p3 ?p4 (fun _ _ _ _ _ _ us hl => match us, hl with | [], _ => rfl); (case p1 => k_is); (case p2 => k_is); (case p3 => k_is); (case p4 => k_is)))
    (case d_not_for_a_table => (refine' Lx.mkF KX G ?p1 ?p2 ?p3 ?p4 (fun _ _ _ _ _ _ us hl => match us, hl with | [], _ => rfl); (case p1 => k_is); (case p2 => k_is); (case p3 => k_is); (case p4 => k_is)))
    (case d_in_range => (refine' Lx.mkF KX G ?p1 ?p2 ?p3 ?p4 (fun _ _ _ _ _ _ us hl => match us, hl with | [_, _, _], _ => rfl); (case p1 => k_is); (case p2 => k_is); (case p3 => k_is); (case p4 => k_is)))
    (case d_row_in_range => (refine' Lx.mkF KX G ?p1 ?p2 ?p3 ?p4 (fun _ _ _ _ _ _ us hl => match us, hl with | [_, _], _ => rfl); (case p1 => k_is); (case p2 => k_is); (case p3 => k_is); (case p4 => k_is)))
    (case d_hands_are_right => (refine' Lx.mkF KX G ?p1 ?p2 ?p3 ?p4 (fun _ _ _ _ _ _ us hl => match us, hl with | [_], _ => rfl); (case p1 => k_is); (case p2 => k_is); (case p3 => k_is); (case p4 => k_is)))
    (case d_counted => (refine' Lx.mkF KX G ?p1 ?p2 ?p3 ?p4 (fun _ _ _ _ _ _ us hl => match us, hl with | [_], _ => rfl); (case p1 => k_is); (case p2 => k_is); (case p3 => k_is); (case p4 => k_is)))
    (case d_all_counted => (refine' Lx.mkF KX G ?p1 ?p2 ?p3 ?p4 (fun _ _ _ _ _ _ us hl => match us, hl with | [_], _ => rfl); (case p1 => k_is); (case p2 => k_is); (case p3 => k_is); (case p4 => k_is)))
    (case d_deal => (refine' Lx.mkF KX G ?p1 ?p2 ?p3 ?p4 (fun _ _ _ _ _ _ us hl => match us, hl with | [_, _], _ => rfl); (case p1 => k_is); (case p2 => k_is); (case p3 => k_is); (case p4 => k_is)))
    (case d_can => (refine' Lx.mkF KX G ?p1 ?p2 ?p3 ?p4 (fun _ _ _ _ _ _ us hl => match us, hl with | [_, _], _ => rfl); (case p1 => k_is); (case p2 => k_is); (case p3 => k_is); (case p4 => k_is)))
    (case d_answer_next => (refine' Lx.mkF KX G ?p1 ?p2 ?p3 ?p4 (fun _ _ _ _ _ _ us hl => match us, hl with | [_, _], _ => rfl); (case p1 => k_is); (case p2 => k_is); (case p3 => k_is); (case p4 => k_is)))
    (case kDEAL => exact ⟨_, by k_is⟩)
    (case kPLAY => exact ⟨_, by k_is⟩)
    (case kBACK => exact ⟨_, by k_is⟩)
    (case kTURN => exact ⟨_, by k_is⟩)
    (case kVALUE => exact ⟨_, by k_is⟩)
    (case kCARDS => exact ⟨_, by k_is⟩)
    (case kLINE => exact ⟨_, by k_is⟩)
    (case kACCOUNT => exact ⟨_, by k_is⟩)
    (case kPAST => exact ⟨_, by k_is⟩)
    (case kTABLE => exact ⟨_, by k_is⟩)
    (case kALIKE => exact ⟨_, by k_is⟩)
    (case kSQUEEZED => exact ⟨_, by k_is⟩)
    (case kCAN => exact ⟨_, by k_is⟩)
    (case kTOLD => exact ⟨_, by k_is⟩)
    (case b_len => k_is)
    (case b_list => k_is)
    (case b_tuple => k_is)
    (case b_range => k_is)
    (case b_any => k_is)
    (case b_all => k_is)
    (case b_max => k_is)
    (case b_min => k_is)
    (case b_set => k_is)
    (case b_sorted => k_is)
    (case b_sum => k_is)

  case S =>
    intro K H xs a hO hwi hask hx
    cases hx with
    | cons h1 h2 =>
      cases h2
      cases h1 with
      | lst hs ha =>
        have e := L2.ints_dw a.1 _ ha
        subst e
        have q : ((Codec.inLen 0 16000 a.1 && a.1.all (Codec.inInt (-1000000000000000000) 1000000000000000000)) && true) = true := hwi
        rw [Bool.and_eq_true, Bool.and_eq_true] at q
        exact ⟨_, a.1, rfl, hs, (Codec.inNat_iff.mp q.1.1).2, hask, fun H' p hp => .lst (L2.SqL.of hp) (L2.dw_ints _)⟩
#print axioms PySem.Challenge.cw_lasttricksdesk_s01_answers_holds

