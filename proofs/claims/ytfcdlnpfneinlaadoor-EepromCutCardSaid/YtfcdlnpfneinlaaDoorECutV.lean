/-
  WHAT WAITS LIES IN ONE PAGE; what power's failing leaves apart (values alone).
-/
import Derived.Test.YtfcdlnpfneinlaaDoorEWritesV
import Derived.Test.YtfcdlnpfneinlaaDoorENew
namespace Go.Proofs.YtfcdlnpfneinlaaDoor
open Go.RowKit
set_option maxRecDepth 20000

/-- what is collected, and what waits, lies in one page -/
structure Pg (s : Chip) : Prop where
  wait : ∀ x ∈ s.wait, ∀ y ∈ s.wait, x.1 / gcol s.kind 1 = y.1 / gcol s.kind 1
  at_ : s.coll ≠ [] → s.nx = 3 ∨ s.nx = 4 ∧ s.bh = 3
  coll : ∀ x ∈ s.coll, x.1 / gcol s.kind 1 = s.pointer / gcol s.kind 1
section
variable {s : Chip}
theorem Pg.none (hw : ∀ x ∈ s.wait, ∀ y ∈ s.wait, x.1 / gcol s.kind 1 = y.1 / gcol s.kind 1) (hc : s.coll = []) : Pg s :=
  ⟨hw, fun h => absurd hc h, fun x hx => by rw [hc] at hx; cases hx⟩
theorem Pg.nil (h : Pg s) (h3 : s.nx ≠ 3) (h4 : s.nx = 4 → s.bh ≠ 3) : s.coll = [] := by
  by_cases hc : s.coll = []
  · exact hc
  · rcases h.at_ hc with e | ⟨e1, e2⟩
    · exact absurd e h3
    · exact absurd e2 (h4 e1)
theorem Pg.turn (h : Pg s) (n : Nat) : Pg (s.turn n) := Pg.none h.wait rfl
theorem Pg.write (h : Pg s) : Pg s.write := by
  unfold Chip.write
  split
  · exact h
  · split
    · exact ⟨h.wait, h.at_, h.coll⟩
    · exact ⟨(fun x hx => by cases hx), h.at_, h.coll⟩
theorem Pg.hear (h : Pg s) (e : Int) (line : Bool) : Pg (s.hear e line) := by
  unfold Chip.hear
  split
  · exact ⟨h.wait, h.at_, h.coll⟩
  · split
    · exact ⟨h.wait, h.at_, h.coll⟩
    · exact h
theorem Pg.device (h : Pg s) (hc : s.coll = []) (e : Int) (line : Bool) : Pg (s.device e line) := by
  unfold Chip.device
  split
  · split
    · split
      · exact Pg.none h.wait hc
      · exact Pg.none h.wait hc
    · exact Pg.none h.wait rfl
  · exact h.hear e line
theorem Pg.addr_ (h : Pg s) (hc : s.coll = []) (e : Int) (line : Bool) : Pg (s.addr e line) := by
  unfold Chip.addr
  split
  · split
    · exact Pg.none h.wait hc
    · exact Pg.none h.wait hc
  · exact h.hear e line
theorem page_next {x g : Int} (hg : 0 < g) : (x - x % g + (x + 1) % g) / g = x / g := by
  have h1 := Int.emod_add_mul_ediv x g
  have h2 := Int.emod_nonneg (x + 1) (show g ≠ 0 by omega)
  have h3 := Int.emod_lt_of_pos (x + 1) hg
  rw [show x - x % g + (x + 1) % g = (x + 1) % g + g * (x / g) by omega, Int.add_mul_ediv_left _ _ (by omega), Int.ediv_eq_zero_of_lt h2 h3]
  omega
theorem Pg.dat_ (h : Pg s) (hg : 0 < gcol s.kind 1) (h3 : s.nx = 3) (e : Int) (line wp : Bool) : Pg (s.dat e line wp) := by
  unfold Chip.dat
  split
  · exact ⟨fun x hx y hy => (h.coll x hx).trans (h.coll y hy).symm, h.at_, h.coll⟩
  · split
    · refine ⟨h.wait, fun _ => .inr ⟨rfl, rfl⟩, fun x hx => ?_⟩
      show x.1 / gcol s.kind 1 = (s.pointer - s.pointer % gcol s.kind 1 + (s.pointer + 1) % gcol s.kind 1) / gcol s.kind 1
      rw [page_next hg]
      rcases List.mem_append.1 (show x ∈ s.coll ++ [(s.pointer, s.shift)] from hx) with h1 | h1
      · exact h.coll x h1
      · rw [List.mem_singleton.1 h1]
    · unfold Chip.hear
      split
      · exact ⟨h.wait, fun _ => .inl h3, h.coll⟩
      · split
        · exact ⟨h.wait, fun _ => .inl h3, h.coll⟩
        · exact h
theorem Pg.send_ (h : Pg s) (hc : s.coll = []) (e : Int) : Pg (s.send e) := by
  unfold Chip.send
  split
  · split
    · exact Pg.none h.wait hc
    · split
      · exact Pg.none h.wait hc
      · exact Pg.none h.wait hc
  · exact h
theorem Pg.run_ (h : Pg s) (hg : 0 < gcol s.kind 1) (e : Int) (line wp : Bool) : Pg (s.run e line wp) := by
  unfold Chip.run
  split
  · exact h.device (h.nil (by omega) (by omega)) e line
  · split
    · exact h.addr_ (h.nil (by omega) (by omega)) e line
    · split
      · exact h.dat_ hg (by assumption) e line wp
      · split
        · rename_i h4
          unfold Chip.acked
          split
          · split
            · rename_i h2
              have hc := h.nil (by omega) (by omega)
              exact (Pg.none (s := { s with pulls := false, nx := 2 }) h.wait hc).addr_ hc e line
            · split
              · exact (show Pg { s with pulls := false, nx := 3 } from ⟨h.wait, fun _ => .inl rfl, h.coll⟩).dat_ hg rfl e line wp
              · rename_i h3
                have hc := h.nil (by omega) (fun _ => h3)
                exact (Pg.none (s := { s with pulls := false, nx := 5 }) h.wait hc).send_ hc e
          · exact h
        · split
          · exact h.send_ (h.nil (by omega) (by omega)) e
          · split
            · have hc := h.nil (by omega) (by omega)
              unfold Chip.await
              split
              · split
                · exact h.turn 0
                · exact h
              · split
                · exact (Pg.none (s := { s with nx := 5 }) h.wait hc).send_ hc e
                · exact h
            · exact h
theorem Pg.event_ (h : Pg s) (hg : 0 < gcol s.kind 1) (e : Int) (line wp : Bool) : Pg (s.event e line wp) := by
  unfold Chip.event
  split
  · exact h.turn 1
  · split
    · exact (h.run_ hg e line wp).turn 0
    · split
      · exact h.run_ hg e line wp
      · exact h
theorem write_kind (s : Chip) : s.write.kind = s.kind := by
  unfold Chip.write
  split
  · rfl
  · split <;> rfl
theorem Pg.step (h : Pg s) (hg : 0 < gcol s.kind 1) (scl sda wp : Bool) : Pg (s.step scl sda wp) := by
  have hw := h.write
  unfold Chip.step
  exact (show Pg { s.write with lev := (scl, sda && !s.write.pulls) } from ⟨hw.wait, hw.at_, hw.coll⟩).event_ (by show 0 < gcol s.write.kind 1; rw [write_kind]; exact hg) _ _ _
end

/-- so many cycles -/
def runL (s : Chip) (l : List (Bool × Bool × Bool)) : Chip := l.foldl (fun s x => s.step x.1 x.2.1 x.2.2) s
theorem runL_snoc (s : Chip) (l : List (Bool × Bool × Bool)) (x : Bool × Bool × Bool) : runL s (l ++ [x]) = (runL s l).step x.1 x.2.1 x.2.2 := by simp [runL]
theorem runL_ok {s : Chip} {n : Int} (l : List (Bool × Bool × Bool)) (h : s.Ok n) (hn : 0 ≤ n) : (runL s l).Ok (n + l.length) := by
  induction l using snoc_rec with
  | h0 => simpa [runL] using h
  | h1 l x ih =>
    rw [runL_snoc, List.length_append, List.length_singleton, show n + ((l.length + 1 : Nat) : Int) = n + l.length + 1 by omega]
    exact ih.step (by omega) _ _ _
theorem runL_pg {s : Chip} {n : Int} (l : List (Bool × Bool × Bool)) (h : s.Ok n) (hn : 0 ≤ n) (hp : Pg s) : Pg (runL s l) := by
  induction l using snoc_rec with
  | h0 => exact hp
  | h1 l x ih =>
    rw [runL_snoc]
    exact ih.step (by have := kind_size (runL_ok l h hn).kind; omega) _ _ _

/-- numbers in order, of few places, are few -/
theorem few_sorted (l : List Int) : ∀ (a g : Int), 0 ≤ g → l.Pairwise (fun a b => a < b) → (∀ x ∈ l, a ≤ x ∧ x < a + g) → (l.length : Int) ≤ g := by
  induction l with
  | nil => intro a g hg _ _; simpa using hg
  | cons x l ih =>
    intro a g hg hp hx
    have h1 := hx x (by simp)
    rw [List.pairwise_cons] at hp
    have := ih (x + 1) (a + g - (x + 1)) (by omega) hp.2 fun y hy => by
      have h2 := hp.1 y hy
      have h3 := hx y (List.mem_cons_of_mem _ hy)
      omega
    rw [List.length_cons]
    omega
theorem getL_some {l : List (Int × Int)} {x : Int × Int} (h : x ∈ l) : (getL l x.1).isSome = true := by
  cases hg : getL l x.1 with
  | some c => rfl
  | none => exact absurd rfl (getL_none hg x h)
section
variable {s : Chip} {n : Int}
theorem places_mem (h : s.Ok n) (k : Int) : k ∈ s.places ↔ ∃ c, (k, c) ∈ s.wait := by
  unfold Chip.places
  rw [mem_keysL]
  constructor
  · rintro ⟨_, _, h3⟩
    obtain ⟨c, hc⟩ := Option.isSome_iff_exists.1 h3
    exact ⟨c, getL_mem hc⟩
  · rintro ⟨c, hc⟩
    have := (h.wait _ hc).1
    exact ⟨this.1, this.2, getL_some hc⟩
theorem places_page (h : s.Ok n) (hp : Pg s) {a b : Int} (ha : a ∈ s.places) (hb : b ∈ s.places) : a / gcol s.kind 1 = b / gcol s.kind 1 := by
  obtain ⟨c, hc⟩ := (places_mem h a).1 ha
  obtain ⟨d, hd⟩ := (places_mem h b).1 hb
  exact hp.wait _ hc _ hd
theorem places_few (h : s.Ok n) (hp : Pg s) : (s.places.length : Int) ≤ gcol s.kind 1 := by
  have hg : 0 < gcol s.kind 1 := by have := kind_size h.kind; omega
  cases hl : s.places with
  | nil => simp; omega
  | cons a l =>
    have ha : a ∈ s.places := by rw [hl]; simp
    have := few_sorted s.places (a / gcol s.kind 1 * gcol s.kind 1) (gcol s.kind 1) (by omega) (keysL_sorted _ _) fun x hx => by
      have e := places_page h hp hx ha
      have h1 := Int.emod_add_mul_ediv x (gcol s.kind 1)
      have h2 := Int.emod_nonneg x (show gcol s.kind 1 ≠ 0 by omega)
      have h3 := Int.emod_lt_of_pos x hg
      rw [← e, Int.mul_comm]
      omega
    rw [hl] at this
    exact this
theorem places_busy (h : s.Ok n) : decide (0 < (s.places.length : Int)) = decide (0 < s.left) := by
  apply decide_eq_decide.2
  rw [h.busy]
  constructor
  · intro hl e
    have : s.places = [] := by unfold Chip.places; rw [e, keysL_nil]
    rw [this] at hl
    simp at hl
  · intro hne
    cases hw : s.wait with
    | nil => exact absurd hw hne
    | cons x l =>
      have : x.1 ∈ s.places := (places_mem h x.1).2 ⟨x.2, by rw [hw]; simp⟩
      have := List.length_pos_of_mem this
      omega
/-- what is apart waited -/
theorem apart_waits (_ : s.Ok n) (ps : List Int) {v : Int} (hv : v ∈ apartL s.data (cellsL s.data s.places ps)) : v ∈ s.places := by
  obtain ⟨i, hi, rfl, ha⟩ := (apartTo_mem _ _ _ _).1 hv
  rw [cellsL_len, Nat.max_self] at hi
  by_cases hm : (i : Int) ∈ s.places
  · exact hm
  · have e := cellsL_else s.data s.places ps i hi hm
    unfold apartAt at ha
    rw [e, cellsL_len] at ha
    simp at ha
    omega
end
/-- a place that is named once has what was picked for it -/
theorem cells_pick (l zs ps : List Int) (hz : zs.Pairwise (fun a b => a < b)) (hin : ∀ z ∈ zs, 0 ≤ z ∧ z < (l.length : Int)) (m : Nat) (hm : m < zs.length) (hp : m < ps.length) : (cellsL l zs ps).getD (zs.getD m 0).toNat 0 = ps.getD m 0 := by
  have hx : zs.getD m 0 = zs[m] := by simp [List.getD, hm]
  rw [hx]
  have h1 := hin zs[m] (List.getElem_mem hm)
  have key : ∀ k, m < k → k ≤ zs.length → (cellsL l (zs.take k) ps).getD zs[m].toNat 0 = ps.getD m 0 := by
    intro k
    induction k with
    | zero => omega
    | succ k ih =>
      intro hmk hk
      have ht : zs.take (k + 1) = zs.take k ++ [zs.getD k 0] := by rw [List.take_add_one]; simp [List.getD, show k < zs.length by omega]
      have hlen : (zs.take k).length = k := by rw [List.length_take]; omega
      rw [ht]
      by_cases hkp : k < ps.length
      · rw [cellsL_succ l (zs.take k) ps _ (by rw [hlen]; exact hkp), hlen, putL_get _ _ _ _ (by rw [cellsL_len]; omega)]
        have hzk : zs.getD k 0 = zs[k] := by simp [List.getD, show k < zs.length by omega]
        by_cases e : m = k
        · subst e
          rw [if_pos (by rw [hx]; omega)]
        · have hlt : zs[m] < zs[k] := List.pairwise_iff_getElem.1 hz m k hm (by omega) (by omega)
          rw [if_neg (by rw [hzk]; omega)]
          exact ih (by omega) (by omega)
      · rw [cellsL_over _ _ _ _ (by rw [hlen]; omega)]
        exact ih (by omega) (by omega)
  have := key zs.length hm (Nat.le_refl _)
  rw [List.take_length] at this
  exact this
end Go.Proofs.YtfcdlnpfneinlaaDoor
