/-
  THE WALK OF keepsakeref09.Same, where both lists are one.
-/
import Derived.Test.YtilaldojbgbegaaWRefRuns
namespace Go.Proofs.Ytilaldojbgbegaa
open Go.RowKit
set_option maxRecDepth 20000

/-- a slice of runs, as it reads -/
def RunsM (w : World) (B : Nat) (A : Option Addr) (n : Nat) (rs : List RunD) : Prop :=
  ∃ vs : List SlB, Many runE w B A n vs ∧ vs.length = rs.length ∧ ∀ (i : Nat) (x : SlB) (r : RunD), vs[i]? = some x → rs[i]? = some r → x.2 = r.2 ∧ Many boolE w B x.1.1 x.1.2.1 r.1
theorem RunsM.below {w w' : World} {B n : Nat} {A : Option Addr} {rs : List RunD} (h : RunsM w B A n rs) (hb : Below B w w') : RunsM w' B A n rs := by
  obtain ⟨vs, h1, h2, h3⟩ := h
  exact ⟨vs, h1.below hb, h2, fun i x r hx hr => ⟨(h3 i x r hx hr).1, (h3 i x r hx hr).2.below hb⟩⟩
theorem RunsM.mono {w : World} {B C n : Nat} {A : Option Addr} {rs : List RunD} (h : RunsM w B A n rs) (hb : B ≤ C) : RunsM w C A n rs := by
  obtain ⟨vs, h1, h2, h3⟩ := h
  exact ⟨vs, h1.mono hb, h2, fun i x r hx hr => ⟨(h3 i x r hx hr).1, (h3 i x r hx hr).2.mono hb⟩⟩
theorem RunsM.len {w : World} {B n : Nat} {A : Option Addr} {rs : List RunD} (h : RunsM w B A n rs) : n = rs.length := by
  obtain ⟨vs, h1, h2, _⟩ := h
  rw [← h2, h1.1]
theorem Shut_.reads {w : World} {base : Nat} {v : Value} {rs : List RunD} (h : Shut_ w base v rs) : ∃ A c, v = .slice A rs.length c ∧ RunsM w w.heap.size A rs.length rs := by
  obtain ⟨vs, h1, h2⟩ := h.out
  obtain ⟨A, c, e, _, _, hm⟩ := h1.many
  rw [h2.1] at e hm
  refine ⟨A, c, e, vs, hm, h2.1, fun i x r hx hr => ⟨(h2.2 i x r hx hr).1, ?_⟩⟩
  obtain ⟨A', c', e', _, _, hm'⟩ := (h2.2 i x r hx hr).2.1.many
  unfold sl at e'
  injection e' with e1 e2 e3
  rw [e1, e2]
  exact hm'
/-- one of the runs -/
theorem RunsM.at_ {w w' : World} {B n : Nat} {A : Option Addr} {rs : List RunD} (h : RunsM w B A n rs) (hb : Below B w w') (i : Nat) (r : RunD) (hi : rs[i]? = some r) : ∃ b o p c, A = some ⟨b, o, none⟩ ∧
    w'.cell? ⟨b, o + i * 2, none⟩ = some (.slice p r.1.length c) ∧ w'.cell? ⟨b, o + i * 2 + 1, none⟩ = some (.bool r.2) ∧ Many boolE w' B p r.1.length r.1 := by
  obtain ⟨vs, h1, h2, h3⟩ := h
  obtain ⟨x, hx⟩ : ∃ x, vs[i]? = some x := by
    have := (List.getElem?_eq_some_iff.1 hi).1
    exact ⟨vs[i], by simp [h2, this]⟩
  obtain ⟨h4, h5⟩ := h3 i x r hx hi
  obtain ⟨b, o, e, hc⟩ := h1.cell hb i x hx
  have hl := h5.1
  refine ⟨b, o, x.1.1, x.1.2.2, e, ?_, ?_, ?_⟩
  · rw [hl]
    exact hc 0 (sl x.1) rfl
  · rw [← h4]
    exact hc 1 (.bool x.2) rfl
  · rw [hl]
    exact h5.below hb

set_option maxRecDepth 100000 in
set_option maxHeartbeats 4000000 in
theorem runsSame_refl (w : World) (A1 A2 : Option Addr) (n c1 c2 B : Nat) (rs : List RunD) (ha : RunsM w B A1 n rs) (hb : RunsM w B A2 n rs) (hB : B ≤ w.heap.size) (hn : n ≤ 1000) (hl : ∀ x ∈ rs, x.1.length ≤ 1000) :
    Calls Try.prog 14 #[.slice A1 n c1, .slice A2 n c2] w fun e w' => e = .returned (.bool true) ∧ Below w.heap.size w w' := by
  have HA := Lib.hid ha
  have HB := Lib.hid hb
  have HL := Lib.hid hl
  have HN := Lib.hid ha.len
  have hne : ((n : Int) != (n : Int)) = false := by simp
  clear ha hb hl
  go_enter Try.func14, Try.ntmps14
  go_wp2_with fail
  go_loopw [5] (fun i wr => ∃ k : Nat, k ≤ n ∧ i = .int .i64 k ∧ Below w.heap.size w wr) (fun i _ => n - (intOf i).toNat)
  case atStart => exact ⟨0, Nat.zero_le _, rfl, Below.refl _ _⟩
  case round =>
    obtain ⟨k, hk, rfl, hbel⟩ := hrel
    have HBE := Lib.hid hbel
    clear hbel
    by_cases hlt : k < n
    · have hk0 : (0 : Int) ≤ (k : Int) := by omega
      have hkn : (k : Int) < (n : Int) := by omega
      obtain ⟨r, hr⟩ : ∃ r, rs[k]? = some r := ⟨rs[k]'(by have := HN.out; omega), by simp⟩
      obtain ⟨b1, o1, p1, d1, rfl, x1, y1, hm1⟩ := HA.out.at_ (HBE.out.mono hB) k r hr
      obtain ⟨b2, o2, p2, d2, rfl, x2, y2, hm2⟩ := HB.out.at_ (HBE.out.mono hB) k r hr
      have HRL := Lib.hid (HL.out r (List.mem_of_getElem? hr))
      have H1 := Lib.hid hm1
      have H2 := Lib.hid hm2
      obtain ⟨bits, st⟩ := r
      simp only at *
      obtain ⟨m, hm⟩ : ∃ m, bits.length = m := ⟨_, rfl⟩
      rw [hm] at x1 x2 H1 H2 HRL
      have hmm : ((m : Int) != (m : Int)) = false := by simp
      have hss : (st != st) = false := by simp
      have HX := Lib.hid (And.intro x1 x2)
      clear hm1 hm2 hr
      go_wp2_with fail
      go_quiet (fail)
      have HBD := Lib.hid (show Below w.heap.size w (wr.drewN nq) from below_drewN HBE.out nq)
      have H1D := Lib.hid (H1.out.below (w' := wr.drewN nq) (below_drewN (Below.refl B wr) nq))
      have H2D := Lib.hid (H2.out.below (w' := wr.drewN nq) (below_drewN (Below.refl B wr) nq))
      have HXD := Lib.hid (show (wr.drewN nq).cell? ⟨b1, o1 + k * 2, none⟩ = some (.slice p1 m d1) ∧ (wr.drewN nq).cell? ⟨b2, o2 + k * 2, none⟩ = some (.slice p2 m d2) from HX.out)
      have HR2 := Lib.hid (show b1 < B ∧ b2 < B by
        constructor
        · obtain ⟨_, h1, _⟩ := HA.out
          obtain ⟨b', o', e, hb', _⟩ := h1.2 (by omega)
          injection e with e; injection e with e1 e2; omega
        · obtain ⟨_, h1, _⟩ := HB.out
          obtain ⟨b', o', e, hb', _⟩ := h1.2 (by omega)
          injection e with e; injection e with e1 e2; omega)
      clear x1 x2 y1 y2 H1 H2 HX
      generalize wr.drewN nq = W at *
      have hmb : m ≤ 1000 := HRL.out
      go_wp2_with fail
      go_loopw [6] (fun i wx => ∃ j : Nat, j ≤ m ∧ i = .int .i64 j ∧ Below W.heap.size W wx) (fun i _ => m - (intOf i).toNat)
      case atStart => exact ⟨0, Nat.zero_le _, rfl, Below.refl _ _⟩
      case round =>
        obtain ⟨j, hj, rfl, hbel2⟩ := hrel
        have HB2 := Lib.hid hbel2
        clear hbel2
        have hBW : B ≤ W.heap.size := Nat.le_trans hB HBD.out.size
        have hBn := HB2.out.mono hBW
        have z1 : wr.cell? ⟨b1, o1 + k * 2, none⟩ = some (.slice p1 m d1) := (hBn.cell (p := ⟨b1, o1 + k * 2, none⟩) HR2.out.1).trans HXD.out.1
        have z2 : wr.cell? ⟨b2, o2 + k * 2, none⟩ = some (.slice p2 m d2) := (hBn.cell (p := ⟨b2, o2 + k * 2, none⟩) HR2.out.2).trans HXD.out.2
        have HB3 := Lib.hid (HBD.out.trans (HB2.out.mono HBD.out.size))
        by_cases hjm : j < m
        · have hj0 : (0 : Int) ≤ (j : Int) := by omega
          have hjn : (j : Int) < (m : Int) := by omega
          obtain ⟨x, hx⟩ : ∃ x, bits[j]? = some x := ⟨bits[j]'(by have := H1D.out.1; omega), by simp⟩
          obtain ⟨q1, r1, rfl, t1⟩ := H1D.out.cell hBn j x hx
          obtain ⟨q2, r2, rfl, t2⟩ := H2D.out.cell hBn j x hx
          have v1 : wr.cell? ⟨q1, r1 + j, none⟩ = some (.bool x) := by simpa [boolE] using t1 0 _ rfl
          have v2 : wr.cell? ⟨q2, r2 + j, none⟩ = some (.bool x) := by simpa [boolE] using t2 0 _ rfl
          have hxx : (x != x) = false := by simp
          clear t1 t2 hBn
          go_wp2_with fail
          go_quiet (fail)
          go_wp2_with fail
          go_roundw
          case rel => exact ⟨j + 1, by omega, by go_num, below_drewN HB2.out _⟩
          case measure => simp [intOf]; omega
        · have hj' : j = m := by omega
          subst hj'
          clear hBn
          go_wp2_with fail
          go_roundw
          case rel => exact ⟨k + 1, by omega, by go_num, HB3.out⟩
          case measure => simp [intOf]; omega
    · have hk' : k = n := by omega
      subst hk'
      go_wp2_with fail
      go_ret
      exact ⟨rfl, HBE.out⟩
end Go.Proofs.Ytilaldojbgbegaa
