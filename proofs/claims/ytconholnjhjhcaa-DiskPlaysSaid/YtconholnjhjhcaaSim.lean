/-
  THE DISK AND THE REFERENCE's GO ALIKE.
-/
import Derived.Test.YtconholnjhjhcaaTold
import Derived.Test.YtconholnjhjhcaaModel
namespace Go.Proofs.Ytconholnjhjhcaa
open Ks

structure Sim (s : St) (r : RS) : Prop where
  size : s.size = r.size
  last : s.last = r.last
  clen : r.cach.length = r.last.length
  cach : ∀ k : Nat, s.cach (k : Int) = r.cach.getD k none
  neg : ∀ k : Int, k < 0 → s.cach k = none
  ops : s.ops = r.ops
  wr : s.wr = r.wr
  plan : ∀ k : Int, (r.ops : Int) < k → s.plan k = decide (k ∈ r.plans)
  lens : ∀ i, i < r.last.length → (r.last.getD i []).length = r.size
  clens : ∀ i bs, r.cach.getD i none = some bs → bs.length = r.size

section
variable {s : St} {r : RS}
theorem getD_beyond {α : Type} (l : List (Option α)) (k : Nat) (h : l.length ≤ k) : l.getD k none = none := by simp [List.getD, h]
theorem Sim.wf (h : Sim s r) : Wf s := by
  intro k bs hk
  by_cases h0 : k < 0
  · rw [h.neg k h0] at hk; cases hk
  · obtain ⟨n, rfl⟩ := Int.eq_ofNat_of_zero_le (show 0 ≤ k by omega)
    have hk : s.cach (n : Int) = some bs := hk
    rw [h.cach n] at hk
    have hn : n < r.last.length := by
      rcases Nat.lt_or_ge n r.last.length with h1 | h1
      · exact h1
      · rw [getD_beyond _ _ (by rw [h.clen]; exact h1)] at hk; cases hk
    exact ⟨by omega, by rw [h.last]; omega, by rw [h.size]; exact h.clens n bs hk⟩
theorem Sim.fails (h : Sim s r) : s.fails = r.fails := by
  unfold St.fails RS.fails
  rw [h.ops]
  exact h.plan _ (by omega)
theorem Sim.tick (h : Sim s r) : Sim s.tick r.tick :=
  ⟨h.size, h.last, h.clen, h.cach, h.neg, by show s.ops + 1 = r.ops + 1; rw [h.ops], h.wr, fun k hk => by
    have hk' : (r.ops : Int) + 1 < k := by have : ((r.ops + 1 : Nat) : Int) < k := hk; omega
    show (if k = (s.ops : Int) + 1 then false else s.plan k) = decide (k ∈ r.plans)
    rw [h.ops, if_neg (by omega)]
    exact h.plan k (by omega), h.lens, h.clens⟩
theorem Sim.read (h : Sim s r) (i : Int) : St.read s i = r.read i := by
  unfold St.read RS.read
  rw [h.fails, h.last]
  by_cases hf : r.fails = true
  · rw [if_pos hf, if_pos hf]
  · rw [if_neg hf, if_neg hf]
    by_cases hi : i < 0 ∨ (r.last.length : Int) ≤ i
    · rw [if_pos hi, if_pos hi]
    · rw [if_neg hi, if_neg hi]
      obtain ⟨n, rfl⟩ := Int.eq_ofNat_of_zero_le (show 0 ≤ i by omega)
      rw [show s.cach (n : Int) = r.cach.getD n none from h.cach n]
      rfl
theorem Sim.write (h : Sim s r) (i : Int) (bs : List Int) : Sim (s.write i bs).1 (r.write i bs).1 ∧ (s.write i bs).2 = (r.write i bs).2 := by
  unfold St.write RS.write
  rw [h.fails, h.last, h.size]
  by_cases hf : r.fails = true
  · rw [if_pos hf, if_pos hf]; exact ⟨h.tick, rfl⟩
  rw [if_neg hf, if_neg hf]
  by_cases h0 : i < 0
  · rw [if_pos h0, if_pos h0]; exact ⟨h.tick, rfl⟩
  rw [if_neg h0, if_neg h0]
  by_cases h1 : (r.last.length : Int) ≤ i
  · rw [if_pos h1, if_pos h1]; exact ⟨h.tick, rfl⟩
  rw [if_neg h1, if_neg h1]
  by_cases h2 : bs.length ≠ r.size
  · rw [if_pos h2, if_pos h2]; exact ⟨h.tick, rfl⟩
  rw [if_neg h2, if_neg h2]
  obtain ⟨n, rfl⟩ := Int.eq_ofNat_of_zero_le (show 0 ≤ i by omega)
  have hn : n < r.last.length := by omega
  have h2 : bs.length = r.size := by simpa using h2
  have ht := h.tick
  refine ⟨⟨h.size, h.last, by simpa [RS.put, RS.tick] using h.clen, fun k => ?_, fun k hk => ?_, ht.ops, ?_, ht.plan, h.lens, fun k b hb => ?_⟩, rfl⟩
  · show (if (k : Int) = (n : Int) then some bs else s.cach (k : Int)) = (r.cach.set n (some bs)).getD k none
    rw [getD_set _ _ _ _ _ (by rw [h.clen]; exact hn), h.cach k]
    by_cases e : k = n
    · subst e; simp
    · rw [if_neg (by omega), if_neg (by omega)]
  · show (if k = (n : Int) then some bs else s.cach k) = none
    rw [if_neg (by omega)]
    exact h.neg k hk
  · show s.wr + 1 = r.wr + 1
    rw [h.wr]
  · have hb : (r.cach.set n (some bs)).getD k none = some b := hb
    rw [getD_set _ _ _ _ _ (by rw [h.clen]; exact hn)] at hb
    split at hb
    · injection hb with hb
      rw [← hb]; exact h2
    · exact h.clens k b hb

theorem getD_settle (l : List (List Int)) (k i : Nat) (bs : List Int) (hk : k < l.length) : (l.set k bs).getD i [] = if k = i then bs else l.getD i [] := getD_set l k i bs [] hk

/-- what the first k sectors have when they are synced -/
theorem syncTo_at (r : RS) (hc : r.cach.length = r.last.length) : ∀ k, k ≤ r.last.length → (∀ i, (r.syncTo k).last.getD i [] = if i < k then (r.cach.getD i none).getD (r.last.getD i []) else r.last.getD i []) ∧
    (∀ i, (r.syncTo k).cach.getD i none = if i < k then none else r.cach.getD i none) ∧ (r.syncTo k).cach.length = r.cach.length ∧ (r.syncTo k).size = r.size ∧ (r.syncTo k).plans = r.plans ∧ (r.syncTo k).ops = r.ops ∧ (r.syncTo k).wr = r.wr
  | 0, _ => ⟨fun i => by simp [RS.syncTo], fun i => by simp [RS.syncTo], rfl, rfl, rfl, rfl, rfl⟩
  | k + 1, hk => by
    obtain ⟨h1, h2, h3, h4, h5, h6, h7⟩ := syncTo_at r hc k (by omega)
    have hkk : (r.syncTo k).cach.getD k none = r.cach.getD k none := by rw [h2, if_neg (by omega)]
    cases ho : r.cach.getD k none with
    | none =>
      rw [syncTo_none r k (by rw [hkk, ho])]
      refine ⟨fun i => ?_, fun i => ?_, h3, h4, h5, h6, h7⟩
      · rw [h1]
        by_cases e : i = k
        · subst e; rw [if_neg (by omega), if_pos (by omega), ho]; rfl
        · by_cases hlt : i < k
          · rw [if_pos hlt, if_pos (by omega)]
          · rw [if_neg hlt, if_neg (by omega)]
      · rw [h2]
        by_cases e : i = k
        · subst e; rw [if_neg (by omega), if_pos (by omega), ho]
        · by_cases hlt : i < k
          · rw [if_pos hlt, if_pos (by omega)]
          · rw [if_neg hlt, if_neg (by omega)]
    | some bs =>
      rw [syncTo_some r k bs (by rw [hkk, ho])]
      have hl := syncTo_len r k
      refine ⟨fun i => ?_, fun i => ?_, by simpa [RS.settled] using h3, h4, h5, h6, h7⟩
      · show ((r.syncTo k).last.set k bs).getD i [] = _
        rw [getD_settle _ _ _ _ (by omega), h1]
        by_cases e : k = i
        · subst e; rw [if_pos rfl, if_pos (by omega), ho]; rfl
        · rw [if_neg e]
          by_cases hlt : i < k
          · rw [if_pos hlt, if_pos (by omega)]
          · rw [if_neg hlt, if_neg (by omega)]
      · show ((r.syncTo k).cach.set k none).getD i none = _
        rw [getD_set _ _ _ _ _ (by rw [h3, hc]; omega), h2]
        by_cases e : k = i
        · subst e; rw [if_pos rfl, if_pos (by omega)]
        · rw [if_neg e]
          by_cases hlt : i < k
          · rw [if_pos hlt, if_pos (by omega)]
          · rw [if_neg hlt, if_neg (by omega)]

theorem lens_or (h : Sim s r) (k : Nat) (hk : k < r.last.length) : ((r.cach.getD k none).getD (r.last.getD k [])).length = r.size := by
  cases ho : r.cach.getD k none with
  | none => exact h.lens k hk
  | some bs => exact h.clens k bs ho
theorem Sim.uns (h : Sim s r) : s.uns = r.uns := by
  unfold St.uns RS.uns runsTo
  rw [h.last]
  congr 1
  apply List.filter_congr
  intro i _
  rw [h.cach i]

theorem Sim.sync (h : Sim s r) : Sim s.sync.1 r.sync.1 ∧ s.sync.2 = r.sync.2 := by
  unfold St.sync RS.sync
  rw [h.fails]
  by_cases hf : r.fails = true
  · rw [if_pos hf, if_pos hf]; exact ⟨h.tick, rfl⟩
  rw [if_neg hf, if_neg hf]
  have ht := h.tick
  have al := syncL_alike s.uns s.tick
  have hu : s.tick.uns = s.uns := rfl
  have hlen : r.tick.last.length = r.last.length := rfl
  obtain ⟨t1, t2, t3, t4, t5, t6, t7⟩ := syncTo_at r.tick ht.clen r.last.length (Nat.le_refl _)
  have hsl := syncTo_len r.tick r.last.length
  have hll : (syncL s.tick s.uns).last = (r.tick.syncTo r.last.length).last := by
    apply list_getD
    · rw [al.2.1, ht.last, hsl]
    · intro k hk
      rw [al.2.1, ht.last, hlen] at hk
      have := sync_at ht.wf k
      rw [hu] at this
      rw [this, t1, if_pos hk, ht.cach k, ht.last]
  refine ⟨⟨by rw [al.1, t4]; exact ht.size, hll, by rw [t3, hsl]; exact ht.clen, fun k => ?_, fun k _ => ?_, by rw [al.2.2.1, t6]; exact ht.ops, by rw [al.2.2.2.1, t7]; exact ht.wr, fun k hk => ?_, fun i hi => ?_, fun i bs hb => ?_⟩, rfl⟩
  · have := sync_none ht.wf (k : Int)
    rw [hu] at this
    rw [this, t2]
    split
    · rfl
    · rename_i hn
      exact (getD_beyond _ _ (by rw [ht.clen, hlen]; omega)).symm
  · have := sync_none ht.wf k
    rw [hu] at this
    exact this
  · rw [al.2.2.2.2.2.2, t5]
    rw [t6] at hk
    exact ht.plan k hk
  · rw [hsl] at hi
    show ((r.tick.syncTo r.last.length).last.getD i []).length = (r.tick.syncTo r.last.length).size
    rw [t1, if_pos (show i < r.last.length from hi), t4]
    exact lens_or ht i hi
  · rw [t2] at hb
    split at hb
    · cases hb
    · rename_i hn
      rw [getD_beyond _ _ (by rw [ht.clen, hlen]; omega)] at hb
      cases hb

theorem runsTo_at (r : RS) (k : Nat) (bs : List Int) (h : r.cach.getD k none = some bs) : ∀ n, k < n → (runsTo r n)[(runsTo r k).length]? = some (k : Int)
  | 0, hk => absurd hk (by omega)
  | n + 1, hk => by
    by_cases e : k = n
    · subst e
      rw [runsTo_some r k bs h]
      simp
    · have ih := runsTo_at r k bs h n (by omega)
      have hlt := (List.getElem?_eq_some_iff.1 ih).1
      cases ho : r.cach.getD n none with
      | none => rw [runsTo_none r n ho]; exact ih
      | some b => rw [runsTo_some r n b ho, List.getElem?_append_left hlt]; exact ih

/-- what a crash leaves of the first k sectors -/
theorem crashTo_at (r : RS) (ts : List (Int × List Int)) (hc : r.cach.length = r.last.length) : ∀ k, k ≤ r.last.length →
    (∀ i, (r.crashTo refLeft ts k).1.last.getD i [] = if i < k then (match r.cach.getD i none with | none => r.last.getD i [] | some bs => refLeft (r.last.getD i []) bs (ts.getD (runsTo r i).length (0, [])).1 (ts.getD (runsTo r i).length (0, [])).2) else r.last.getD i []) ∧
    (∀ i, (r.crashTo refLeft ts k).1.cach.getD i none = if i < k then none else r.cach.getD i none) ∧ (r.crashTo refLeft ts k).1.cach.length = r.cach.length ∧ (r.crashTo refLeft ts k).2 = (runsTo r k).length ∧
    (r.crashTo refLeft ts k).1.plans = r.plans ∧ (r.crashTo refLeft ts k).1.ops = r.ops ∧ (r.crashTo refLeft ts k).1.wr = r.wr
  | 0, _ => ⟨fun i => by simp [RS.crashTo], fun i => by simp [RS.crashTo], rfl, by simp [RS.crashTo, runsTo], rfl, rfl, rfl⟩
  | k + 1, hk => by
    obtain ⟨h1, h2, h3, h4, h5, h6, h7⟩ := crashTo_at r ts hc k (by omega)
    have hkk : (r.crashTo refLeft ts k).1.cach.getD k none = r.cach.getD k none := by rw [h2, if_neg (by omega)]
    have hlk : (r.crashTo refLeft ts k).1.last.getD k [] = r.last.getD k [] := by rw [h1, if_neg (by omega)]
    cases ho : r.cach.getD k none with
    | none =>
      rw [crashTo_none r ts k (by rw [hkk, ho])]
      refine ⟨fun i => ?_, fun i => ?_, h3, by rw [h4, runsTo_none r k ho], h5, h6, h7⟩
      · rw [h1]
        by_cases e : i = k
        · subst e; rw [if_neg (by omega), if_pos (by omega), ho]
        · by_cases hlt : i < k
          · rw [if_pos hlt, if_pos (by omega)]
          · rw [if_neg hlt, if_neg (by omega)]
      · rw [h2]
        by_cases e : i = k
        · subst e; rw [if_neg (by omega), if_pos (by omega), ho]
        · by_cases hlt : i < k
          · rw [if_pos hlt, if_pos (by omega)]
          · rw [if_neg hlt, if_neg (by omega)]
    | some bs =>
      rw [crashTo_some r ts k bs (by rw [hkk, ho]), hlk, h4]
      have hl := (crashTo_len r ts k).1
      refine ⟨fun i => ?_, fun i => ?_, by simpa [RS.settled] using h3, by rw [runsTo_some r k bs ho]; simp, h5, h6, h7⟩
      · show ((r.crashTo refLeft ts k).1.last.set k _).getD i [] = _
        rw [getD_settle _ _ _ _ (by omega), h1]
        by_cases e : k = i
        · subst e; rw [if_pos rfl, if_pos (by omega), ho]
        · rw [if_neg e]
          by_cases hlt : i < k
          · rw [if_pos hlt, if_pos (by omega)]
          · rw [if_neg hlt, if_neg (by omega)]
      · show ((r.crashTo refLeft ts k).1.cach.set k none).getD i none = _
        rw [getD_set _ _ _ _ _ (by rw [h3, hc]; omega), h2]
        by_cases e : k = i
        · subst e; rw [if_pos rfl, if_pos (by omega)]
        · rw [if_neg e]
          by_cases hlt : i < k
          · rw [if_pos hlt, if_pos (by omega)]
          · rw [if_neg hlt, if_neg (by omega)]

theorem Sim.crash (h : Sim s r) (ts : List (Int × List Int)) : Sim (s.crash ts) (r.crash ts) := by
  have al := crashL_alike s.uns s ts
  obtain ⟨t1, t2, t3, t4, t5, t6, t7⟩ := crashTo_at r ts h.clen r.last.length (Nat.le_refl _)
  obtain ⟨l1, l2, l3⟩ := crashTo_len r ts r.last.length
  have hat : ∀ k, k < r.last.length → (s.crash ts).last.getD k [] = (r.crash ts).last.getD k [] := by
    intro k hk
    show _ = (r.crashTo refLeft ts r.last.length).1.last.getD k []
    rw [t1, if_pos hk]
    cases ho : r.cach.getD k none with
    | none =>
      have hnot : (k : Int) ∉ s.uns := by
        rw [mem_uns, h.cach k, ho]; simp
      have := crashL_stays s.uns s ts (uns_range s) k hnot
      show (crashL s s.uns ts).last.getD k [] = _
      rw [this, h.last]
    | some bs =>
      have hj := runsTo_at r k bs ho r.last.length hk
      have hu : s.uns[(runsTo r k).length]? = some (k : Int) := by rw [h.uns]; exact hj
      have := crashL_at s.uns s ts (sorted_uns s) (uns_range s) _ k hu
      show (crashL s s.uns ts).last.getD k [] = _
      rw [this]
      unfold leftOf refLeft
      rw [h.cach k, ho, h.last, h.size, h.lens k hk]
      rfl
  have hll : (s.crash ts).last = (r.crash ts).last := by
    apply list_getD
    · show (crashL s s.uns ts).last.length = (r.crashTo refLeft ts r.last.length).1.last.length
      rw [al.2.1, h.last, l1]
    · intro k hk
      have hk' : k < r.last.length := by
        have : (crashL s s.uns ts).last.length = s.last.length := al.2.1
        have h2 : (s.crash ts).last.length = s.last.length := this
        rw [h2, h.last] at hk
        exact hk
      exact hat k hk'
  have e1 : (r.crash ts).last.length = r.last.length := l1
  refine ⟨?_, hll, ?_, fun k => ?_, fun k _ => crash_none h.wf ts k, ?_, ?_, fun k hk => ?_, fun i hi => ?_, fun i bs hb => ?_⟩
  · show (crashL s s.uns ts).size = (r.crashTo refLeft ts r.last.length).1.size
    rw [al.1, l3]; exact h.size
  · rw [e1]
    show (r.crashTo refLeft ts r.last.length).1.cach.length = _
    rw [t3]; exact h.clen
  · rw [crash_none h.wf ts]
    show none = (r.crashTo refLeft ts r.last.length).1.cach.getD k none
    rw [t2]
    split
    · rfl
    · exact (getD_beyond _ _ (by rw [h.clen]; omega)).symm
  · show (crashL s s.uns ts).ops = (r.crashTo refLeft ts r.last.length).1.ops
    rw [al.2.2.1, t6]; exact h.ops
  · show (crashL s s.uns ts).wr = (r.crashTo refLeft ts r.last.length).1.wr
    rw [al.2.2.2.1, t7]; exact h.wr
  · have hk : ((r.crashTo refLeft ts r.last.length).1.ops : Int) < k := hk
    show (crashL s s.uns ts).plan k = decide (k ∈ (r.crashTo refLeft ts r.last.length).1.plans)
    rw [al.2.2.2.2.2.2, t5]
    rw [t6] at hk
    exact h.plan k hk
  · rw [e1] at hi
    show ((r.crashTo refLeft ts r.last.length).1.last.getD i []).length = (r.crashTo refLeft ts r.last.length).1.size
    rw [t1, if_pos hi, l3]
    cases ho : r.cach.getD i none with
    | none => exact h.lens i hi
    | some bs => exact refLeft_length (h.lens i hi) (h.clens i bs ho)
  · have hb : (r.crashTo refLeft ts r.last.length).1.cach.getD i none = some bs := hb
    rw [t2] at hb
    split at hb
    · cases hb
    · rw [getD_beyond _ _ (by rw [h.clen]; omega)] at hb
      cases hb

theorem Sim.fail (h : Sim s r) (i : Int) (hi : 0 < i) : Sim (s.fail ((s.ops : Int) + i)) { r with plans := r.plans ++ [(r.ops : Int) + i] } := by
  unfold St.fail
  rw [if_neg (by omega)]
  refine ⟨h.size, h.last, h.clen, h.cach, h.neg, h.ops, h.wr, fun k hk => ?_, h.lens, h.clens⟩
  have hk : (r.ops : Int) < k := hk
  show (if k = (s.ops : Int) + i then true else s.plan k) = decide (k ∈ r.plans ++ [(r.ops : Int) + i])
  rw [h.ops, h.plan k hk]
  by_cases e : k = (r.ops : Int) + i
  · rw [if_pos e]; simp [e]
  · rw [if_neg e]; simp [e]

/-- an operation is answered alike, and leaves both alike -/
theorem Sim.act (h : Sim s r) (o : OpD) : Sim (act s o) (ract r o) ∧ said s o = rsaid r o := by
  unfold Go.Proofs.Ytconholnjhjhcaa.act ract said rsaid
  by_cases k0 : o.kind = 0
  · simp only [k0, if_true]
    have := h.write o.i o.b
    exact ⟨this.1, by rw [this.2]⟩
  by_cases k1 : o.kind = 1
  · simp only [k1]
    exact ⟨h.tick, h.read o.i⟩
  by_cases k2 : o.kind = 2
  · simp only [k2]
    have := h.sync
    exact ⟨this.1, by simp [this.2]⟩
  by_cases k3 : o.kind = 3
  · simp only [k3]
    exact ⟨h.crash o.tears, rfl⟩
  by_cases k4 : o.kind = 4
  · simp only [k4]
    refine ⟨?_, rfl⟩
    by_cases hi : 0 < o.i ∧ o.i < 1000
    · simp only [hi, and_self, if_true]
      exact h.fail o.i hi.1
    · simp only [hi, if_false]
      exact h
  · simp only [k0, k1, k2, k3, k4, if_false]
    exact ⟨h, trivial⟩
theorem sim_fresh (n m : Nat) : Sim (fresh n (List.replicate m (List.replicate n 0))) (rfresh n (List.replicate m (List.replicate n 0))) := by
  refine ⟨rfl, rfl, by simp [rfresh], fun k => ?_, fun _ _ => rfl, rfl, rfl, fun k _ => by simp [fresh, rfresh], fun i hi => ?_, fun i bs hb => ?_⟩
  · show none = ((List.replicate m (List.replicate n (0 : Int))).map fun _ => (none : Option (List Int))).getD k none
    simp only [List.getD, List.getElem?_map]
    cases (List.replicate m (List.replicate n (0 : Int)))[k]? <;> rfl
  · have hi : i < m := by simpa [rfresh] using hi
    show ((List.replicate m (List.replicate n (0 : Int))).getD i []).length = n
    simp [List.getD, hi]
  · have hb : ((List.replicate m (List.replicate n (0 : Int))).map fun _ => (none : Option (List Int))).getD i none = some bs := hb
    simp only [List.getD, List.getElem?_map] at hb
    cases he : (List.replicate m (List.replicate n (0 : Int)))[i]? with
    | none => rw [he] at hb; cases hb
    | some x => rw [he] at hb; cases hb
end
end Go.Proofs.Ytconholnjhjhcaa
