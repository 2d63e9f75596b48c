/-
  THE WALKS OF THE REFERENCE's Unsynced, Bytes, New; AND OF told.
-/
import Derived.Test.YtconholnjhjhcaaRefSync
namespace Go.Proofs.Ytconholnjhjhcaa
open Ks Go.RowKit

theorem info3 : (Try.prog.info? 3).map (fun i => (i.zero, i.size, i.bytes)) = some (some (.int .i64 0), 1, 8) := by kernel_rfl

/-- one number more -/
theorem append_int (w0 wr : World) (v : Value) (k : Nat) (xs : List Int) (x : Int) (h : wr.ownsRow w0.heap.size 3 1 v k (xs.map (Value.int .i64))) (hk : Keeps No w0 wr) (hl : k ≤ 1000000) :
    ∃ A c w', (Builtin.append_ #[41, 41] 41 #[v, .slice (some ⟨wr.heap.size, 0, none⟩) 1 1]).run Try.prog (wr.alloc (.cells #[.int .i64 x] 3)) = .ok (.slice A (k + 1) c) w' ∧ w'.ownsRow w0.heap.size 3 1 (.slice A (k + 1) c) (k + 1) ((xs ++ [x]).map (Value.int .i64)) ∧ Keeps No w0 w' := by
  obtain ⟨i0, hi, hz0, hz1, hz2⟩ := info_parts info3
  obtain ⟨v', w', hr, h2, h3, _, h5⟩ := run_append_own_at (P := Try.prog) (wr.alloc (.cells #[.int .i64 x] 3)) w0.heap.size 41 41 3 i0 _ 1 8 Try.underlying41 hi hz0 hz1 hz2 rfl (by omega) v k _ (h.alloc _) ⟨wr.heap.size, 0, none⟩ 1 1 [.int .i64 x] rfl (World.news_of_block (cs := #[.int .i64 x]) (t := 3) (fr := (0, 0)) (heap_alloc_new wr _)) (by simp [Value.oneCell']) (by unfold maxLen; omega) (by omega) (by have := hk.size; simp; omega)
  have hk' : Keeps No w0 w' := (hk.alloc _).grown h3 (fun b hb => .inr (own_base h hb))
  rcases h2.2 with ⟨_, h0⟩ | ⟨g, cap, cur, rfl, _⟩
  · omega
  · exact ⟨_, _, w', hr, by simpa using h2, hk'⟩

/-- the first k sectors that are cached -/
def runsTo (s : RS) (k : Nat) : List Int := ((List.range k).filter fun i : Nat => (s.cach.getD i none).isSome).map fun i : Nat => (i : Int)
theorem runsTo_none (s : RS) (k : Nat) (h : s.cach.getD k none = none) : runsTo s (k + 1) = runsTo s k := by
  unfold runsTo
  rw [List.range_succ, List.filter_append, List.map_append, List.filter_cons, if_neg (by rw [h]; simp)]
  simp
theorem runsTo_some (s : RS) (k : Nat) (bs : List Int) (h : s.cach.getD k none = some bs) : runsTo s (k + 1) = runsTo s k ++ [(k : Int)] := by
  unfold runsTo
  rw [List.range_succ, List.filter_append, List.map_append, List.filter_cons, if_pos (by rw [h]; simp)]
  simp
theorem runsTo_len (s : RS) (k : Nat) : (runsTo s k).length ≤ k := by
  unfold runsTo
  rw [List.length_map]
  have := List.length_filter_le (fun i : Nat => (s.cach.getD i none).isSome) (List.range k)
  simpa using this
def _root_.Ks.RS.uns (s : RS) : List Int := runsTo s s.last.length

theorem ints_own {w : World} {base : Nat} {v : Value} {us : List Int} (h : w.ownsRow base 3 1 v us.length (us.map (Value.int .i64))) : Ints w (From base) v us := by
  rcases h.2 with ⟨rfl, h0⟩ | ⟨g, cap, cur, rfl, hb, hh, hn, _⟩
  · have : us = [] := List.eq_nil_of_length_eq_zero h0
    subst this
    exact ⟨none, 0, rfl, Nat.le_refl _, fun h => absurd h (by simp)⟩
  · refine ⟨_, _, rfl, hn, fun _ => ⟨g, rfl, hb, fun k hk => ?_⟩⟩
    have := h.cells (g := g) rfl k (.int .i64 (us.getD k 0)) (by simp [List.getD, hk])
    rw [Go.WideShapes.add_plain] at this
    simpa using this

set_option maxRecDepth 100000 in
set_option maxHeartbeats 2000000 in
theorem refUns_any (w : World) (q : Nat) (F : Nat → Prop) (s : RS) (h : RefAt w q F s) (hn : s.last.length ≤ 4096) : Calls Try.prog 22 #[.pointer (some ⟨q, 0, none⟩)] w (UnsPost w s.uns) := by
  have q31 : ∀ (w : World) (a : Option Addr) (n c : Nat), (binOp .neq 31 (.slice a n c) (.slice none 0 0)).run Try.prog w = .ok (.bool (!a.isNone)) w := fun w a n c => run_neq_slice_nil_any w _ _ a n c 0 0 Try.underlying31
  obtain ⟨lastV, lv, cachV, cv, planV, hin⟩ := h
  obtain ⟨AC, cC, rfl⟩ := row_slice hin.crow
  have HIN := Lib.hid hin
  clear hin
  go_enter Try.func22, Try.ntmps22
  go_wp2_with fail
  go_loopw [3, 4] (fun v i wr => ∃ k : Nat, k ≤ s.last.length ∧ i = .int .i64 k ∧ wr.ownsRow w.heap.size 3 1 v (runsTo s k).length ((runsTo s k).map (Value.int .i64)) ∧ Keeps No w wr ∧ ∃ A c, v = .slice A (runsTo s k).length c) (fun _ i _ => s.last.length - (intOf i).toNat)
  case atStart => exact ⟨0, Nat.zero_le _, rfl, ⟨by simp [runsTo], .inl ⟨rfl, by simp [runsTo]⟩⟩, Keeps.refl _ _, none, 0, by simp [runsTo]⟩
  case round =>
    obtain ⟨k, hk, rfl, hrow, hkk, A, c, rfl⟩ := hrel
    have hr := HIN.out.keep (w' := wr) (fun b hb => hkk.block b (HIN.out.there b hb) (fun h => h)) hkk.size
    have c2 := hr.c2
    have hlen := runsTo_len s k
    have HROW := Lib.hid hrow
    have HKK := Lib.hid hkk
    by_cases hlt : k < s.last.length
    · have hk0 : (0 : Int) ≤ (k : Int) := by omega
      have hk1 : (k : Int) < (s.last.length : Int) := by omega
      obtain ⟨g2, d2, cur2, e, hl2, hb2, hc2⟩ := row_cell_ hr.crow hlt
      simp only [Value.slice.injEq, true_and] at e
      obtain ⟨rfl, rfl⟩ := e
      have hcac := hr.csect k hlt
      cases ho : s.cach.getD k none with
      | none =>
        rw [ho] at hcac
        rw [show cv.getD k undef = .slice none 0 0 from hcac] at hc2
        have HS := Lib.hid (runsTo_none s k ho)
        obtain ⟨us, hus⟩ : ∃ us, runsTo s k = us := ⟨_, rfl⟩
        rw [hus] at HROW HS hlen ⊢
        clear hcac hr ho hb2 hrow hkk hus
        go_wp2_with fail
        go_roundw
        case rel => exact ⟨k + 1, by omega, by go_num, by rw [HS.out]; exact HROW.out, HKK.out, A, c, by rw [HS.out]⟩
        case measure => simp [intOf]; omega
      | some x =>
        rw [ho] at hcac
        obtain ⟨hbx, hx0⟩ := hcac
        obtain ⟨Ax, cx, hvx, hcx, hax⟩ := hbx
        obtain ⟨b, o, rfl, hB, hcs⟩ := hax hx0
        rw [hvx] at hc2
        have HS := Lib.hid (runsTo_some s k x ho)
        obtain ⟨us, hus⟩ : ∃ us, runsTo s k = us := ⟨_, rfl⟩
        rw [hus] at hrow HS hlen ⊢
        obtain ⟨A3, c3, w3, hr3, h3, h4⟩ := append_int w wr _ us.length us (k : Int) hrow hkk (by omega)
        have HR := Lib.hid hr3
        have R := Lib.hid (show w3.ownsRow w.heap.size 3 1 (.slice A3 (us.length + 1) c3) (runsTo s (k + 1)).length ((runsTo s (k + 1)).map (Value.int .i64)) by rw [HS.out]; simpa using h3)
        have HK3 := Lib.hid h4
        clear hr ho hb2 hrow hkk hus hr3 h3 h4 hax hcs hB hvx
        go_wp2_with (at_builtin; refine Lib.wpList_append_run _ rfl _ _ _ _ rfl _ _ rfl rfl _ _ HR.out ?_)
        go_roundw
        case rel => exact ⟨k + 1, by omega, by go_num, R.out, HK3.out, A3, c3, by rw [HS.out]; simp⟩
        case measure => simp [intOf]; omega
    · obtain rfl : k = s.last.length := by omega
      have R := Lib.hid (show UnsPost w s.uns (.returned (.slice A (runsTo s s.last.length).length c)) wr from ⟨_, rfl, ints_own (us := runsTo s s.last.length) hrow, hkk⟩)
      obtain ⟨us, hus⟩ : ∃ us, runsTo s s.last.length = us := ⟨_, rfl⟩
      rw [hus] at R hlen ⊢
      clear hr hrow hkk hus HROW
      go_wp2_with fail
      go_ret
      exact R.out

theorem flat_succ (l : List (List Int)) (k : Nat) (hk : k < l.length) : (l.take (k + 1)).flatten = (l.take k).flatten ++ l.getD k [] := by
  rw [List.take_add_one, List.flatten_append]
  simp [List.getD, hk]
theorem flat_bound (l : List (List Int)) (n : Nat) (h : ∀ i, i < l.length → (l.getD i []).length = n) : ∀ k, k ≤ l.length → (l.take k).flatten.length = k * n
  | 0, _ => by simp
  | k + 1, hk => by
    rw [flat_succ l k (by omega), List.length_append, flat_bound l n h k (by omega), h k (by omega), Nat.add_mul, Nat.one_mul]

set_option maxRecDepth 100000 in
set_option maxHeartbeats 2000000 in
theorem refBytes_any (w : World) (q : Nat) (F : Nat → Prop) (s : RS) (h : RefAt w q F s) (hn : s.last.length ≤ 4096) (hs : s.size ≤ 4096) : Calls Try.prog 24 #[.pointer (some ⟨q, 0, none⟩)] w (NewBys w s.last.flatten) := by
  obtain ⟨lastV, lv, cachV, cv, planV, hin⟩ := h
  obtain ⟨AL, cL, rfl⟩ := row_slice hin.row
  have HIN := Lib.hid hin
  clear hin
  go_enter Try.func24, Try.ntmps24
  go_wp2_with fail
  go_loopw [3, 4] (fun v i wr => ∃ k : Nat, k ≤ s.last.length ∧ i = .int .i64 k ∧ wr.ownsRow w.heap.size 5 1 v (s.last.take k).flatten.length ((s.last.take k).flatten.map (Value.int .u8)) ∧ Keeps No w wr ∧ ∃ A c, v = .slice A (s.last.take k).flatten.length c) (fun _ i _ => s.last.length - (intOf i).toNat)
  case atStart => exact ⟨0, Nat.zero_le _, rfl, ⟨by simp, .inl ⟨rfl, by simp⟩⟩, Keeps.refl _ _, none, 0, by simp⟩
  case round =>
    obtain ⟨k, hk, rfl, hrow, hkk, A, c, rfl⟩ := hrel
    have hr := HIN.out.keep (w' := wr) (fun b hb => hkk.block b (HIN.out.there b hb) (fun h => h)) hkk.size
    have c1 := hr.c1
    have HROW := Lib.hid hrow
    have HKK := Lib.hid hkk
    have hfl := flat_bound s.last s.size HIN.out.lens k hk
    by_cases hlt : k < s.last.length
    · have hk0 : (0 : Int) ≤ (k : Int) := by omega
      have hk1 : (k : Int) < (s.last.length : Int) := by omega
      obtain ⟨g1, d1, cur1, e, hl1, hb1, hc1⟩ := row_cell_ hr.row hlt
      simp only [Value.slice.injEq, true_and] at e
      obtain ⟨rfl, rfl⟩ := e
      have hsect := hr.sect k hlt
      have hlx := hr.lens k hlt
      have HS := Lib.hid (flat_succ s.last k hlt)
      obtain ⟨x, hx⟩ : ∃ x, s.last.getD k [] = x := ⟨_, rfl⟩
      rw [hx] at hsect hlx HS
      obtain ⟨us, hus⟩ : ∃ us, (s.last.take k).flatten = us := ⟨_, rfl⟩
      rw [hus] at hrow HS hfl ⊢
      have hle : k * s.size ≤ 4096 * 4096 := Nat.mul_le_mul (by omega) hs
      obtain ⟨Ax, cx, hvx⟩ := Bys.form hsect
      rw [hvx] at hc1 hsect
      obtain ⟨v', w3, hr3, h3, h4, _⟩ := append_bys wr w.heap.size 31 _ us.length us hrow _ _ x hsect.bys (by omega) hkk.size
      obtain ⟨A3, c3, rfl⟩ := row_slice h3
      have HR := Lib.hid hr3
      have R := Lib.hid (show w3.ownsRow w.heap.size 5 1 (.slice A3 (us.length + x.length) c3) (s.last.take (k + 1)).flatten.length ((s.last.take (k + 1)).flatten.map (Value.int .u8)) by rw [HS.out]; simpa using h3)
      have HK3 := Lib.hid (hkk.grown h4 (fun b hb => .inr (own_base hrow hb)))
      clear hr hb1 hrow hkk hus hr3 h3 h4 hvx hsect hlx hx hfl hle
      go_wp2_with (at_builtin; refine Lib.wpList_append_run _ rfl _ _ _ _ rfl _ _ rfl rfl _ _ HR.out ?_)
      go_roundw
      case rel => exact ⟨k + 1, by omega, by go_num, R.out, HK3.out, A3, c3, by rw [HS.out]; simp⟩
      case measure => simp [intOf]; omega
    · obtain rfl : k = s.last.length := by omega
      have R := Lib.hid (show NewBys w s.last.flatten (.returned (.slice A (s.last.take s.last.length).flatten.length c)) wr from ⟨_, rfl, by
        have := (Byt.of_own (bs := (s.last.take s.last.length).flatten) hrow).mono (G := From w.heap.size) fun b hb => hb.1
        rwa [List.take_length] at this ⊢, hkk⟩)
      obtain ⟨us, hus⟩ : ∃ us, (s.last.take s.last.length).flatten = us := ⟨_, rfl⟩
      rw [hus] at R ⊢
      clear hr hrow hkk hus HROW hfl
      go_wp2_with fail
      go_ret
      exact R.out

theorem refOpens_before {w w1 : World} {s : RS} {e : Ending} {w' : World} (h : RefOpens w1 s e w') (hk : Keeps No w w1) : RefOpens w s e w' := by
  obtain ⟨p, h1, h2, h3⟩ := h
  refine ⟨p, h1, h2.mono (fun b hb => ?_) (fun b hb => ?_), hk.trans h3⟩
  · rcases hb with hb | hb
    · exact .inl hb
    · exact .inr ⟨Nat.le_trans hk.size hb.1, hb.2⟩
  · rcases hb with hb | hb
    · exact hb.elim
    · exact hb.2

set_option maxRecDepth 100000 in
set_option maxHeartbeats 1000000 in
theorem refNew_ok (w : World) (m n : Nat) (hn0 : 1 ≤ n) (hn : n ≤ 4096) (hm : m ≤ 4096) :
    Calls Try.prog 14 #[.int .i64 m, .int .i64 n] w (RefOpens w (rfresh n (List.replicate m (List.replicate n 0)))) := by
  have hle : m * n ≤ 16777216 := Nat.mul_le_mul hm hn
  have hmk := run_make_row' (P := Try.prog) 31 5 (.int .u8 0) 1 Try.underlying31 info5 rfl .i64 .i64 (m * n) (by omega) (by omega)
  have HZ := Lib.hid (refOpen_ok (w.alloc (.cells (madeCells #[Value.int .u8 0] (m * n)) 5)) (From w.heap.size) n m _ _ (bys_zeros w (m * n)) hn0 hn (by simp) hm)
  rw [chunks_zero] at HZ
  have g1 : decide ((m : Int) < 0) = false := by simp
  have g2 : decide ((4096 : Int) < (m : Int)) = false := by simp; omega
  have g3 : decide ((n : Int) < 1) = false := by simp; omega
  have g4 : decide ((4096 : Int) < (n : Int)) = false := by simp; omega
  have hmul : ((m : Int) * (n : Int)) = ((m * n : Nat) : Int) := by rw [Int.natCast_mul]
  obtain ⟨k, hk⟩ : ∃ k, m * n = k := ⟨_, rfl⟩
  rw [hk] at hle hmk HZ hmul
  have hle2 : (k : Int) ≤ 16777216 := by omega
  clear hk
  go_enter Try.func14, Try.ntmps14
  go_wp2_with fail
  refine HZ.out.mono ?_
  rintro e w1 ⟨p, rfl, h1, h2⟩
  have HR := Lib.hid (refOpens_before ⟨p, rfl, h1, h2⟩ ((Keeps.refl No w).alloc _))
  clear h1 h2
  go_wp2_with fail
  go_ret
  exact HR.out
end Go.Proofs.Ytconholnjhjhcaa
