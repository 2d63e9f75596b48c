/-
  WHAT Sync AND Crash LEAVE, sector by sector.
-/
import Derived.Test.YtconholnjhjhcaaRun
namespace Go.Proofs.Ytconholnjhjhcaa
open Ks

theorem settled_cach (s : St) (i k : Int) (bs : List Int) : (s.settled i bs).cach k = if k = i then none else s.cach k := rfl
theorem settled_last {s : St} {i : Int} {bs : List Int} (h0 : 0 ≤ i) (h1 : i < s.last.length) (k : Nat) : (s.settled i bs).last.getD k [] = if (k : Int) = i then bs else s.last.getD k [] := by
  unfold Ks.St.settled
  simp only [List.getD]
  by_cases e : (k : Int) = i
  · have : i.toNat = k := by omega
    rw [if_pos e, this, List.getElem?_set_self (by omega)]
    rfl
  · rw [if_neg e, List.getElem?_set_ne (by omega)]

theorem syncL_cach : ∀ (us : List Int) (s : St) (k : Int), (syncL s us).cach k = if k ∈ us then none else s.cach k
  | [], s, k => by simp [syncL]
  | i :: us, s, k => by
    show (syncL (s.settled i _) us).cach k = _
    rw [syncL_cach us, settled_cach]
    by_cases h1 : k ∈ us
    · simp [h1]
    · by_cases h2 : k = i
      · simp [h2]
      · simp [h1, h2]
theorem syncL_last : ∀ (us : List Int) (s : St), us.Pairwise (fun a b => a < b) → (∀ i ∈ us, 0 ≤ i ∧ i < s.last.length) → ∀ k : Nat, (syncL s us).last.getD k [] = if (k : Int) ∈ us then (s.cach k).getD [] else s.last.getD k []
  | [], s, _, _, k => by simp [syncL]
  | i :: us, s, hp, hr, k => by
    obtain ⟨hp1, hp2⟩ := List.pairwise_cons.1 hp
    obtain ⟨hi0, hi1⟩ := hr i (by simp)
    show (syncL (s.settled i _) us).last.getD k [] = _
    rw [syncL_last us _ hp2 (fun j hj => by have := hr j (by simp [hj]); simpa [Ks.St.settled] using this)]
    rw [settled_last hi0 hi1, settled_cach]
    by_cases h1 : (k : Int) ∈ us
    · have hne : (k : Int) ≠ i := by
        have := hp1 _ h1
        omega
      simp [h1, hne]
    · by_cases h2 : (k : Int) = i
      · simp [h2]
        rw [h2] at h1
        simp [h1]
      · simp [h1, h2]

theorem crashL_cach : ∀ (us : List Int) (s : St) (ts : List (Int × List Int)) (k : Int), (crashL s us ts).cach k = if k ∈ us then none else s.cach k
  | [], s, _, k => by simp [crashL]
  | i :: us, s, ts, k => by
    show (crashL (s.settled i _) us ts.tail).cach k = _
    rw [crashL_cach us, settled_cach]
    by_cases h1 : k ∈ us
    · simp [h1]
    · by_cases h2 : k = i
      · simp [h2]
      · simp [h1, h2]
/-- what lasts of the j-th one is as its tear tells -/
theorem crashL_at : ∀ (us : List Int) (s : St) (ts : List (Int × List Int)), us.Pairwise (fun a b => a < b) → (∀ i ∈ us, 0 ≤ i ∧ i < s.last.length) → ∀ (j : Nat) (k : Nat), us[j]? = some (k : Int) →
    (crashL s us ts).last.getD k [] = leftOf s k (ts.getD j (0, [])).1 (ts.getD j (0, [])).2
  | [], s, _, _, _, j, k, h => by simp at h
  | i :: us, s, ts, hp, hr, j, k, h => by
    obtain ⟨hp1, hp2⟩ := List.pairwise_cons.1 hp
    obtain ⟨hi0, hi1⟩ := hr i (by simp)
    have hr' : ∀ bs, ∀ j ∈ us, 0 ≤ j ∧ j < ((s.settled i bs).last.length : Int) := fun bs j hj => by have := hr j (by simp [hj]); simpa [Ks.St.settled] using this
    show (crashL (s.settled i (leftOf s i (ts.headD (0, [])).1 (ts.headD (0, [])).2)) us ts.tail).last.getD k [] = _
    cases j with
    | zero =>
      simp at h
      subst h
      have hnot : (k : Int) ∉ us := fun hm => by have := hp1 _ hm; omega
      have e : ts.getD 0 (0, []) = ts.headD (0, []) := by cases ts <;> rfl
      rw [e]
      have stay : ∀ (us' : List Int) (s' : St) (ts' : List (Int × List Int)), (∀ i ∈ us', 0 ≤ i ∧ i < (s'.last.length : Int)) → (k : Int) ∉ us' → (crashL s' us' ts').last.getD k [] = s'.last.getD k [] := by
        intro us'
        induction us' with
        | nil => intro s' ts' _ _; rfl
        | cons a us' ih =>
          intro s' ts' hr'' hn
          obtain ⟨ha0, ha1⟩ := hr'' a (by simp)
          show (crashL (s'.settled a _) us' ts'.tail).last.getD k [] = _
          rw [ih _ _ (fun j hj => by have := hr'' j (by simp [hj]); simpa [Ks.St.settled] using this) (fun h => hn (by simp [h])), settled_last ha0 ha1, if_neg (fun e => hn (by simp [e]))]
      rw [stay us _ _ (hr' _) hnot, settled_last hi0 hi1, if_pos rfl]
    | succ j =>
      have h' : us[j]? = some (k : Int) := by simpa using h
      have hm : (k : Int) ∈ us := List.mem_of_getElem? h'
      have hne : (k : Int) ≠ i := by have := hp1 _ hm; omega
      rw [crashL_at us _ ts.tail hp2 (hr' _) j k h']
      have e : ts.tail.getD j (0, []) = ts.getD (j + 1) (0, []) := by cases ts <;> simp [List.getD]
      rw [e]
      unfold leftOf
      rw [settled_cach, if_neg hne]
      have e2 : (s.settled i (leftOf s i (ts.headD (0, [])).1 (ts.headD (0, [])).2)).last.getD ((k : Int).toNat) [] = s.last.getD ((k : Int).toNat) [] := by
        rw [settled_last hi0 hi1, if_neg (by simpa using hne)]
      unfold leftOf at e2
      rw [e2]
      rfl
theorem crashL_stays : ∀ (us : List Int) (s : St) (ts : List (Int × List Int)), (∀ i ∈ us, 0 ≤ i ∧ i < (s.last.length : Int)) → ∀ k : Nat, (k : Int) ∉ us → (crashL s us ts).last.getD k [] = s.last.getD k []
  | [], _, _, _, _, _ => rfl
  | a :: us, s, ts, hr, k, hn => by
    obtain ⟨ha0, ha1⟩ := hr a (by simp)
    show (crashL (s.settled a _) us ts.tail).last.getD k [] = _
    rw [crashL_stays us _ _ (fun j hj => by have := hr j (by simp [hj]); simpa [Ks.St.settled] using this) k (fun h => hn (by simp [h])), settled_last ha0 ha1, if_neg (fun e => hn (by simp [e]))]

/-- cached ones are sectors -/
def Wf (s : St) : Prop := ∀ k bs, s.cach k = some bs → 0 ≤ k ∧ k < s.last.length ∧ bs.length = s.size
theorem uns_range (s : St) : ∀ i ∈ s.uns, 0 ≤ i ∧ i < (s.last.length : Int) := fun i hi => by
  rw [mem_uns] at hi
  exact ⟨hi.1, hi.2.1⟩
theorem uns_nil {s : St} (h : ∀ k, s.cach k = none) : s.uns = [] := by
  unfold Ks.St.uns
  rw [List.filter_eq_nil_iff.2 (fun i _ => by simp [h])]
  rfl
theorem mem_uns_wf {s : St} (h : Wf s) (k : Int) : k ∈ s.uns ↔ (s.cach k).isSome = true := by
  rw [mem_uns]
  constructor
  · exact fun h => h.2.2
  · intro hk
    obtain ⟨bs, hb⟩ := Option.isSome_iff_exists.1 hk
    have := h k bs hb
    exact ⟨this.1, this.2.1, hk⟩
theorem sync_none {s : St} (h : Wf s) (k : Int) : (syncL s s.uns).cach k = none := by
  rw [syncL_cach]
  split
  · rfl
  · rename_i hk
    rw [mem_uns_wf h] at hk
    cases hc : s.cach k with
    | none => rfl
    | some bs => rw [hc] at hk; simp at hk
theorem crash_none {s : St} (h : Wf s) (ts : List (Int × List Int)) (k : Int) : (s.crash ts).cach k = none := by
  unfold Ks.St.crash
  rw [crashL_cach]
  split
  · rfl
  · rename_i hk
    rw [mem_uns_wf h] at hk
    cases hc : s.cach k with
    | none => rfl
    | some bs => rw [hc] at hk; simp at hk
theorem sync_at {s : St} (h : Wf s) (k : Nat) : (syncL s s.uns).last.getD k [] = (s.cach k).getD (s.last.getD k []) := by
  rw [syncL_last _ _ (sorted_uns s) (uns_range s)]
  split
  · rename_i hk
    rw [mem_uns_wf h] at hk
    obtain ⟨bs, hb⟩ := Option.isSome_iff_exists.1 hk
    rw [hb]
    rfl
  · rename_i hk
    rw [mem_uns_wf h] at hk
    cases hc : s.cach k with
    | none => rfl
    | some bs => rw [hc] at hk; simp at hk
theorem crash_idle {s : St} (h : ∀ k, s.cach k = none) (ts : List (Int × List Int)) : s.crash ts = s := by
  unfold Ks.St.crash
  rw [uns_nil h]
  rfl
theorem list_getD {a b : List (List Int)} (h : a.length = b.length) (he : ∀ k, k < a.length → a.getD k [] = b.getD k []) : a = b := by
  apply List.ext_getElem h
  intro i h1 h2
  have := he i h1
  simpa [List.getD, h1, h2] using this
end Go.Proofs.Ytconholnjhjhcaa
