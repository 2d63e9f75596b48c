/-
  THE WALK OF THE REFERENCE's Left.
-/
import Derived.Test.YtconholnjhjhcaaMade
import Derived.Test.YtconholnjhjhcaaJoin
namespace Go.Proofs.Ytconholnjhjhcaa
open Ks Go.RowKit

def refLeft (old next : List Int) (kind : Int) (tb : List Int) : List Int := if kind = 1 then next else if kind = 2 then junk old.length tb else old
/-- the first k bytes of a junk -/
def jt (tb : List Int) (k : Nat) : List Int := (List.range k).map fun j => tb.getD j 0
theorem jt_succ (tb : List Int) (k : Nat) : jt tb (k + 1) = jt tb k ++ [tb.getD k 0] := by simp [jt, List.range_succ]
theorem jt_length (tb : List Int) (k : Nat) : (jt tb k).length = k := by simp [jt]
theorem jt_junk (tb : List Int) (n : Nat) : jt tb n = junk n tb := by
  apply List.ext_getElem
  · rw [jt_length, junk_length]
  · intro i h1 h2
    rw [jt_length] at h1
    simp only [jt, List.getElem_map, List.getElem_range, junk, List.getElem_append, List.length_take, List.getElem_take, List.getElem_replicate]
    split
    · rename_i h
      simp [List.getD, show i < tb.length by omega]
    · rename_i h
      simp [List.getD, show tb.length ≤ i by omega]

def LeftSays (w : World) (bs : List Int) (e : Ending) (w' : World) : Prop := ∃ v, e = .returned v ∧ Bys w' (fun _ => True) v bs ∧ Keeps No w w'

/-- what was there, what is next, or new memory -/
def LeftIs (w : World) (v0 v1 : Value) (old next bs : List Int) (e : Ending) (w' : World) : Prop :=
  ∃ v, e = .returned v ∧ ((v = v0 ∧ bs = old) ∨ (v = v1 ∧ bs = next) ∨ Byt w' (From w.heap.size) v bs) ∧ Keeps No w w'

theorem two_cells {w1 W : World} {p : Nat} {a b : Value} (hb : w1.heap[p]? = some (.cells #[a, b] 59 (0, 0))) (hk : Keeps No w1 W) :
    W.cell? ⟨p, 0, none⟩ = some a ∧ W.cell? ⟨p, 1, none⟩ = some b ∧ p < W.heap.size := by
  have h : W.heap[p]? = some (.cells #[a, b] 59 (0, 0)) := (hk.block p (lt_of_heap hb) (fun h => h)).trans hb
  exact ⟨cell_of_row _ _ _ _ _ _ h, cell_of_row _ _ _ _ _ _ h, lt_of_heap h⟩

/-- one byte more -/
theorem append_one (w0 wr : World) (v : Value) (k : Nat) (xs : List Int) (x : Int) (h : wr.ownsRow w0.heap.size 5 1 v k (xs.map (Value.int .u8))) (hk : Keeps No w0 wr) (hl : k ≤ 1000) :
    ∃ A c w', (Builtin.append_ #[31, 31] 31 #[v, .slice (some ⟨wr.heap.size, 0, none⟩) 1 1]).run Try.prog (wr.alloc (.cells #[.int .u8 x] 5)) = .ok (.slice A (k + 1) c) w' ∧ w'.ownsRow w0.heap.size 5 1 (.slice A (k + 1) c) (k + 1) ((xs ++ [x]).map (Value.int .u8)) ∧ Keeps No w0 w' := by
  obtain ⟨v', w', hr, h2, h3, _⟩ := append_bys (wr.alloc (.cells #[.int .u8 x] 5)) w0.heap.size 31 v k xs (h.alloc _) _ _ [x] (bys_one wr x) (by simp; omega) (by have := hk.size; simp; omega)
  have hk' : Keeps No w0 w' := (hk.alloc _).grown h3 (fun b hb => .inr (own_base h hb))
  rcases h2.2 with ⟨_, h0⟩ | ⟨g, cap, cur, rfl, _⟩
  · simp at h0
  · exact ⟨_, _, w', hr, h2, hk'⟩

set_option maxRecDepth 100000 in
set_option maxHeartbeats 4000000 in
theorem refLeft_is (w : World) (G0 G1 G2 : Nat → Prop) (v0 v1 tv : Value) (old next tb : List Int) (kind : Int) (h0 : Bys w G0 v0 old) (h1 : Bys w G1 v1 next) (h2 : Bys w G2 tv tb) (hl : old.length ≤ 1000) (htl : tb.length ≤ 1000) :
    Calls Try.prog 34 #[v0, v1, .agg #[.int .i64 kind, tv]] w (LeftIs w v0 v1 old next (refLeft old next kind tb)) := by
  obtain ⟨A0, c0, rfl⟩ := h0.form
  obtain ⟨A1, c1, rfl⟩ := h1.form
  obtain ⟨A2, c2, rfl⟩ := h2.form
  obtain ⟨w0, hw0⟩ : ∃ w0, w.alloc (.cells #[.int .i64 kind, .slice A2 tb.length c2] 59) = w0 := ⟨_, rfl⟩
  have hkw : Keeps No w w0 := by rw [← hw0]; exact (Keeps.refl No w).alloc _
  have HP := Lib.hid (show w0.heap[w.heap.size]? = some (.cells #[.int .i64 kind, .slice A2 tb.length c2] 59 (0, 0)) by rw [← hw0]; exact heap_alloc_new w _)
  have HKW := Lib.hid hkw
  have H0 := Lib.hid ((h0.keeps hkw (fun _ _ _ h => h)).mono (G := fun _ => True) fun _ _ => trivial)
  have H1 := Lib.hid ((h1.keeps hkw (fun _ _ _ h => h)).mono (G := fun _ => True) fun _ _ => trivial)
  have H2 := Lib.hid ((h2.keeps hkw (fun _ _ _ h => h)).mono (G := fun _ => True) fun _ _ => trivial)
  obtain ⟨y0, y1, ypl⟩ := two_cells HP.out (Keeps.refl No w0)
  clear h0 h1 h2 hkw
  by_cases k1 : kind = 1
  · subst k1
    have HE := Lib.hid (show refLeft old next 1 tb = next by simp [refLeft])
    go_enter Try.func34, Try.ntmps34
    go_wp2_with fail
    go_ret
    rw [HE.out]
    first
      | exact ⟨_, rfl, .inr (.inl ⟨rfl, rfl⟩), HKW.out⟩
      | (rw [hw0]; exact ⟨_, rfl, .inr (.inl ⟨rfl, rfl⟩), HKW.out⟩)
  by_cases k2 : kind = 2
  · subst k2
    have HE := Lib.hid (show refLeft old next 2 tb = jt tb old.length by rw [jt_junk]; simp [refLeft])
    have HOW := Lib.hid (show w0.ownsRow w0.heap.size 5 1 (.slice none 0 0) 0 ((jt tb 0).map (Value.int .u8)) from ⟨by simp [jt], .inl ⟨rfl, rfl⟩⟩)
    clear k1
    go_enter Try.func34, Try.ntmps34
    go_wp2_with fail
    try rw [hw0]
    clear hw0
    go_loopw [7, 8] (fun v i wr => ∃ k : Nat, k ≤ old.length ∧ i = .int .i64 k ∧ wr.ownsRow w0.heap.size 5 1 v k ((jt tb k).map (Value.int .u8)) ∧ Keeps No w0 wr ∧ ∃ Av cv, v = .slice Av k cv) (fun _ i _ => old.length - (intOf i).toNat)
    case atStart => exact ⟨0, Nat.zero_le _, rfl, HOW.out, Keeps.refl _ _, none, 0, rfl⟩
    case round =>
      obtain ⟨k, hk, rfl, hrow, hkk, Av, cv, rfl⟩ := hrel
      obtain ⟨z0, z1, hpl⟩ := two_cells HP.out hkk
      have HROW := Lib.hid hrow
      have HKK := Lib.hid hkk
      by_cases hlt : k < old.length
      · have hk0 : (0 : Int) ≤ (k : Int) := by omega
        have hk1 : (k : Int) < (old.length : Int) := by omega
        by_cases hkt : k < tb.length
        · obtain ⟨x, hx⟩ : ∃ x, tb.getD k 0 = x := ⟨_, rfl⟩
          obtain ⟨A', c', e', hc', hcell⟩ := H2.out.keeps hkk (fun _ _ _ h => h)
          obtain ⟨b, o, rfl, _, hcs⟩ := hcell (by omega)
          simp only [Value.slice.injEq, true_and] at e'
          obtain ⟨rfl, rfl⟩ := e'
          have hck := hcs k hkt
          rw [hx] at hck
          obtain ⟨A3, c3, w3, hr, h3, h4⟩ := append_one w0 wr _ k (jt tb k) x hrow hkk (by omega)
          have HR := Lib.hid hr
          have R := Lib.hid (show w3.ownsRow w0.heap.size 5 1 (.slice A3 (k + 1) c3) (k + 1) ((jt tb (k + 1)).map (Value.int .u8)) by rw [jt_succ, hx]; exact h3)
          have HK3 := Lib.hid h4
          have hkt1 : (k : Int) < (tb.length : Int) := by omega
          clear hcell hcs hx hrow hkk hr h3 h4
          go_wp2_with (at_builtin; refine Lib.wpList_append_run _ rfl _ _ _ _ rfl _ _ rfl rfl _ _ HR.out ?_)
          go_roundw
          case rel => exact ⟨k + 1, by omega, by go_num, R.out, HK3.out, _, _, rfl⟩
          case measure => simp [intOf]; omega
        · have hx : tb.getD k 0 = 0 := by simp [List.getD, show tb.length ≤ k by omega]
          obtain ⟨A3, c3, w3, hr, h3, h4⟩ := append_one w0 wr _ k (jt tb k) 0 hrow hkk (by omega)
          have HR := Lib.hid hr
          have R := Lib.hid (show w3.ownsRow w0.heap.size 5 1 (.slice A3 (k + 1) c3) (k + 1) ((jt tb (k + 1)).map (Value.int .u8)) by rw [jt_succ, hx]; exact h3)
          have HK3 := Lib.hid h4
          have hkt1 : (tb.length : Int) ≤ (k : Int) := by omega
          clear hx hrow hkk hr h3 h4
          go_wp2_with (at_builtin; refine Lib.wpList_append_run _ rfl _ _ _ _ rfl _ _ rfl rfl _ _ HR.out ?_)
          go_roundw
          case rel => exact ⟨k + 1, by omega, by go_num, R.out, HK3.out, _, _, rfl⟩
          case measure => simp [intOf]; omega
      · obtain rfl : k = old.length := by omega
        clear hrow hkk
        go_wp2_with fail
        go_ret
        rw [HE.out]
        have hb := Byt.of_own (bs := jt tb old.length) HROW.out
        exact ⟨_, rfl, .inr (.inr (hb.mono fun _ hb => Nat.le_trans HKW.out.size hb.1)), HKW.out.trans HKK.out⟩
  · have HE := Lib.hid (show refLeft old next kind tb = old by simp [refLeft, k1, k2])
    have b1 : (kind == 1) = false := by simpa using k1
    have b2 : (kind == 2) = false := by simpa using k2
    have b3 : (kind != 2) = true := by simpa using k2
    clear k1 k2
    go_enter Try.func34, Try.ntmps34
    go_wp2_with fail
    go_ret
    rw [HE.out]
    first
      | exact ⟨_, rfl, .inl ⟨rfl, rfl⟩, HKW.out⟩
      | (rw [hw0]; exact ⟨_, rfl, .inl ⟨rfl, rfl⟩, HKW.out⟩)

theorem refLeft_any (w : World) (G0 G1 G2 : Nat → Prop) (v0 v1 tv : Value) (old next tb : List Int) (kind : Int) (h0 : Bys w G0 v0 old) (h1 : Bys w G1 v1 next) (h2 : Bys w G2 tv tb) (hl : old.length ≤ 1000) (htl : tb.length ≤ 1000) :
    Calls Try.prog 34 #[v0, v1, .agg #[.int .i64 kind, tv]] w (LeftSays w (refLeft old next kind tb)) := by
  refine (refLeft_is w G0 G1 G2 v0 v1 tv old next tb kind h0 h1 h2 hl htl).mono ?_
  rintro e w' ⟨v, rfl, hv, hk⟩
  refine ⟨v, rfl, ?_, hk⟩
  rcases hv with ⟨rfl, e⟩ | ⟨rfl, e⟩ | hv
  · rw [e]; exact (h0.keeps hk (fun _ _ _ h => h)).mono fun _ _ => trivial
  · rw [e]; exact (h1.keeps hk (fun _ _ _ h => h)).mono fun _ _ => trivial
  · exact hv.bys.mono fun _ _ => trivial
end Go.Proofs.Ytconholnjhjhcaa
