/-
  WHAT OPERATIONS DO TO THE COUNTS.
-/
import Derived.Test.YtconholnjhjhcaaAwake
namespace Go.Proofs.Ytconholnjhjhcaa
open Ks Go.RowKit

/-- all but what lasts, and is cached and planned -/
def Alike (s t : St) : Prop := t.size = s.size ∧ t.last.length = s.last.length ∧ t.ops = s.ops ∧ t.wr = s.wr ∧ t.cn = s.cn ∧ t.pn = s.pn ∧ t.plan = s.plan
theorem Alike.refl (s : St) : Alike s s := ⟨rfl, rfl, rfl, rfl, rfl, rfl, rfl⟩
theorem Alike.trans {a b c : St} (h : Alike a b) (k : Alike b c) : Alike a c :=
  ⟨k.1.trans h.1, k.2.1.trans h.2.1, k.2.2.1.trans h.2.2.1, k.2.2.2.1.trans h.2.2.2.1, k.2.2.2.2.1.trans h.2.2.2.2.1, k.2.2.2.2.2.1.trans h.2.2.2.2.2.1, k.2.2.2.2.2.2.trans h.2.2.2.2.2.2⟩
theorem settled_alike (s : St) (i : Int) (bs : List Int) : Alike s (s.settled i bs) := ⟨rfl, by simp [Ks.St.settled], rfl, rfl, rfl, rfl, rfl⟩
theorem syncL_alike : ∀ (us : List Int) (s : St), Alike s (syncL s us)
  | [], s => Alike.refl s
  | i :: us, s => (settled_alike s i _).trans (syncL_alike us _)
theorem crashL_alike : ∀ (us : List Int) (s : St) (ts : List (Int × List Int)), Alike s (crashL s us ts)
  | [], s, _ => Alike.refl s
  | i :: us, s, _ => (settled_alike s i _).trans (crashL_alike us _ _)

theorem act_size (s : St) (o : OpD) : (act s o).size = s.size ∧ (act s o).last.length = s.last.length := by
  unfold act
  split
  · unfold Ks.St.write
    repeat' split
    all_goals exact ⟨rfl, rfl⟩
  split
  · exact ⟨rfl, rfl⟩
  split
  · unfold Ks.St.sync
    split
    · exact ⟨rfl, rfl⟩
    · have h := syncL_alike s.uns s.tick
      exact ⟨h.1, h.2.1⟩
  split
  · have h := crashL_alike s.uns s o.tears
    exact ⟨h.1, h.2.1⟩
  split
  · split
    · unfold Ks.St.fail
      split
      · exact ⟨rfl, rfl⟩
      · exact ⟨rfl, rfl⟩
    · exact ⟨rfl, rfl⟩
  · exact ⟨rfl, rfl⟩

theorem act_ops (s : St) (o : OpD) (h0 : 0 ≤ o.kind) : (act s o).ops = s.ops + (if o.kind ≤ 2 then 1 else 0) := by
  unfold act
  split
  · rename_i h
    rw [if_pos (by omega)]
    unfold Ks.St.write
    repeat' split
    all_goals rfl
  split
  · rename_i h
    rw [if_pos (by omega)]
    rfl
  split
  · rename_i h
    rw [if_pos (by omega)]
    unfold Ks.St.sync
    split
    · rfl
    · have h := syncL_alike s.uns s.tick
      exact h.2.2.1
  rename_i h1 h2 h3
  rw [if_neg (show ¬ o.kind ≤ 2 by omega), Nat.add_zero]
  split
  · have h := crashL_alike s.uns s o.tears
    exact h.2.2.1
  split
  · split
    · unfold Ks.St.fail
      split
      · rfl
      · rfl
    · rfl
  · rfl

theorem act_wr (s : St) (o : OpD) : (act s o).wr = s.wr + (if o.kind = 0 ∧ (said s o).2 = 0 then 1 else 0) := by
  unfold act said
  split
  · rename_i h
    simp only [h, true_and]
    unfold Ks.St.write
    repeat' split
    all_goals first | rfl | simp_all
  rename_i h0
  have : ¬ (o.kind = 0 ∧ (if o.kind = 1 then St.read s o.i else if o.kind = 2 then (([] : List Int), s.sync.2) else ([], 0)).2 = 0) := fun h => h0 h.1
  rw [if_neg this]
  split
  · rfl
  split
  · unfold Ks.St.sync
    split
    · rfl
    · have h := syncL_alike s.uns s.tick
      exact h.2.2.2.1
  split
  · have h := crashL_alike s.uns s o.tears
    exact h.2.2.2.1
  split
  · split
    · unfold Ks.St.fail
      split
      · rfl
      · rfl
    · rfl
  · rfl

theorem act_cn (s : St) (o : OpD) : (act s o).cn ≤ s.cn + 1 ∧ (act s o).pn ≤ s.pn + 1 := by
  unfold act
  split
  · unfold Ks.St.write
    repeat' split
    all_goals (constructor <;> simp [Ks.St.tick, Ks.St.put])
  split
  · constructor <;> simp [Ks.St.tick]
  split
  · unfold Ks.St.sync
    split
    · constructor <;> simp [Ks.St.tick]
    · have h := syncL_alike s.uns s.tick
      have e1 : (syncL s.tick s.uns).cn = s.cn := h.2.2.2.2.1
      have e2 : (syncL s.tick s.uns).pn = s.pn := h.2.2.2.2.2.1
      constructor
      · show (syncL s.tick s.uns).cn ≤ _
        omega
      · show (syncL s.tick s.uns).pn ≤ _
        omega
  split
  · have h := crashL_alike s.uns s o.tears
    have e1 : (s.crash o.tears).cn = s.cn := h.2.2.2.2.1
    have e2 : (s.crash o.tears).pn = s.pn := h.2.2.2.2.2.1
    omega
  split
  · split
    · unfold Ks.St.fail
      split
      · omega
      · constructor
        · show s.cn ≤ _
          omega
        · exact Nat.le_refl _
    · omega
  · omega

theorem act_fits {s : St} {N : Nat} (h : s.fits N) (o : OpD) (h0 : 0 ≤ o.kind) : (act s o).fits (N + 1) := by
  obtain ⟨h1, h2, h3, h4, h5, h6⟩ := h
  have e1 := act_ops s o h0
  have e2 := act_wr s o
  have e3 := act_cn s o
  have e4 := act_size s o
  refine ⟨?_, ?_, by omega, by omega, by omega, by omega⟩
  · split at e1 <;> omega
  · split at e2 <;> omega
theorem fits_mono {s : St} {N M : Nat} (h : s.fits N) (hM : N ≤ M) : s.fits M := by
  obtain ⟨h1, h2, h3, h4, h5, h6⟩ := h
  exact ⟨by omega, by omega, by omega, by omega, h5, h6⟩

/-- what operations do, one behind the other -/
def acts (s : St) (l : List OpD) : St := l.foldl act s
theorem acts_take {s : St} {l : List OpD} {k : Nat} {x : OpD} (hx : l[k]? = some x) : acts s (l.take (k + 1)) = act (acts s (l.take k)) x := by
  unfold acts
  rw [List.take_add_one, hx]
  simp [List.foldl_append]
theorem acts_fits {s : St} {N : Nat} (h : s.fits N) : ∀ (l : List OpD), (∀ o ∈ l, o.ok) → (acts s l).fits (N + l.length) := by
  intro l
  induction l generalizing s N with
  | nil => intro _; exact h
  | cons o l ih =>
    intro hok
    have := ih (act_fits h o (hok o (by simp)).1) (fun o' ho' => hok o' (by simp [ho']))
    rw [List.length_cons]
    show (acts (act s o) l).fits _
    rw [show N + (l.length + 1) = N + 1 + l.length by omega]
    exact this
theorem acts_size (s : St) : ∀ (l : List OpD), (acts s l).size = s.size ∧ (acts s l).last.length = s.last.length := by
  intro l
  induction l generalizing s with
  | nil => exact ⟨rfl, rfl⟩
  | cons o l ih =>
    have := ih (act s o)
    have h2 := act_size s o
    exact ⟨this.1.trans h2.1, this.2.trans h2.2⟩

/-- eight sectors of four bytes -/
def eight : St := fresh 4 (List.replicate 8 (List.replicate 4 0))
theorem eight_fits : eight.fits 0 := ⟨by decide, by decide, by decide, by decide, by decide, by decide⟩
end Go.Proofs.Ytconholnjhjhcaa
