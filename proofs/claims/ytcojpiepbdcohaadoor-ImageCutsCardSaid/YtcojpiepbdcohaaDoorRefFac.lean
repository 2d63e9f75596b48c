/-
  THE WALK OF keepsakeref05.Factory.
-/
import Derived.Test.YtcojpiepbdcohaaDoorAwake
namespace Go.Proofs.YtcojpiepbdcohaaDoor
open Go.RowKit

theorem append_byte (wr : World) (base ty : Nat) (v : Value) (xs : List Int) (hown : Own base wr v xs) (x : Int) (hx : 0 ≤ x ∧ x ≤ 255) (hlen : xs.length + 1 ≤ 1000000) (hbase : base ≤ wr.heap.size) :
    ∃ v' w', (Builtin.append_ #[25, 25] ty #[v, .slice (some ⟨wr.heap.size, 0, none⟩) 1 1]).run Tryd.prog (wr.alloc (.cells #[.int .u8 x] 5)) = .ok v' w' ∧ Own base w' v' (xs ++ [x]) ∧ Below base wr w' := by
  have hR : Row (wr.alloc (.cells #[.int .u8 x] 5)) wr.heap.size [x] := heap_alloc_new wr _
  obtain ⟨v', w', h1, h2, h3⟩ := append_own (wr.alloc (.cells #[.int .u8 x] 5)) base ty v xs (hown.below (below_box wr _)) _ 1 1 _ [x] (hR.bytes (by simpa using hx) rfl) hlen (by simp; omega)
  exact ⟨v', w', h1, h2, ((below_box wr _).mono hbase).trans h3⟩
theorem refTotal_at (a b c v : Int) (w : World) (H : Tab w) (hv : total a b c = v) : Calls Tryd.prog 18 #[geoV a b c] w fun e w' => e = .returned (.int .i64 v) ∧ On w w' := refTotal_any a b c v w w (On.start H) hv
theorem refRight_at (a b c : Int) (r : Bool) (w : World) (H : Tab w) (hr : right a b c = r) : Calls Tryd.prog 17 #[geoV a b c] w fun e w' => e = .returned (.bool r) ∧ On w w' := refRight_any a b c r w w (On.start H) hr
theorem facAt_get (m n k : Nat) (hn : n ≤ m) (h : k < m) : (facAt m n).take (k + 1) = (facAt m n).take k ++ [if k < n then 255 else 0] := by
  rw [List.take_add_one]
  congr 1
  unfold facAt
  by_cases h1 : k < n
  · rw [List.getElem?_append_left (by simpa using h1)]
    simp [h1]
  · rw [List.getElem?_append_right (by simp; omega), List.length_replicate, List.getElem?_replicate, if_pos (by omega), if_neg h1]
    rfl

theorem refFactory_bad (a b c : Int) (w0 w : World) (H : On w0 w) (hr : right a b c = false) : Calls Tryd.prog 12 #[geoV a b c] w fun e w' => e = .returned (.tuple #[.slice none 0 0, .int .i64 9]) ∧ On w0 w' := by
  have HT := Lib.hid (fun o => H.next (below_box w o))
  have HR := Lib.hid hr
  clear H hr
  go_enter Tryd.func12, Tryd.ntmps12
  go_wp2_with fail
  refine (refRight_any a b c false _ _ (HT.out _) HR.out).mono ?_
  rintro e w1 ⟨rfl, hw1⟩
  have HW1 := Lib.hid hw1
  clear hw1
  go_wp2_with fail
  go_returns
  exact ⟨rfl, HW1.out⟩

/-- where the loop stands -/
structure RFac (w0 w : World) (a b c : Int) (m n k : Nat) (v : Value) (wr : World) : Prop where
  on : On w0 wr
  tri : Tri wr w.heap.size a b c
  own : Own (w.heap.size + 1) wr v ((facAt m n).take k)
  size : w.heap.size + 1 ≤ wr.heap.size
theorem RFac.next {w0 w wr w' : World} {a b c : Int} {m n k : Nat} {v : Value} (H : RFac w0 w a b c m n k v wr) (hb : Below wr.heap.size wr w') : RFac w0 w a b c m n k v w' :=
  ⟨H.on.next hb, H.tri.next hb, H.own.below hb, Nat.le_trans H.size hb.size⟩
theorem RFac.put {w0 w wr w' : World} {a b c : Int} {m n k : Nat} {v v' : Value} (H : RFac w0 w a b c m n k v wr) (h0 : w0.heap.size ≤ w.heap.size) (hn : n ≤ m) (hk : k < m) (x : Int) (hx : x = if k < n then 255 else 0) (ho : Own (w.heap.size + 1) w' v' ((facAt m n).take k ++ [x])) (hb : Below (w.heap.size + 1) wr w') : RFac w0 w a b c m n (k + 1) v' w' := by
  refine ⟨⟨tab_below H.on.tab hb (by omega), H.on.bel.trans (hb.mono (by omega))⟩, H.tri.below hb (by omega), ?_, Nat.le_trans H.size hb.size⟩
  rw [facAt_get m n k hn hk, ← hx]
  exact ho

theorem refFactory_ok (a b c : Int) (w0 w : World) (H : On w0 w) (hr : right a b c = true) :
    Calls Tryd.prog 12 #[geoV a b c] w fun e w' => ∃ v, e = .returned (.tuple #[v, .int .i64 0]) ∧ On w0 w' ∧ Own (w.heap.size + 1) w' v (fac a b c) := by
  obtain ⟨e1, e2, e3, e4, e5⟩ := fac_nums hr
  have HT := Lib.hid (fun o => H.next (below_box w o))
  have HR := Lib.hid hr
  have H0 := Lib.hid H
  unfold fac
  clear H hr
  obtain ⟨n, hn⟩ : ∃ n, facN a b = n := ⟨_, rfl⟩
  obtain ⟨m, hm⟩ : ∃ n, facM a b c = n := ⟨_, rfl⟩
  rw [hn, hm] at e3 ⊢
  rw [hm] at e2 e4
  rw [hn] at e1
  have HTot := Lib.hid e2.symm
  obtain ⟨x, hx⟩ : ∃ x, col a 0 = x := ⟨_, rfl⟩
  obtain ⟨y, hy⟩ : ∃ x, bytesOf b 64 256 = x := ⟨_, rfl⟩
  have hx0 := hx ▸ col0_bounds a
  have hy0 := hy ▸ bytesOf_bounds b 64 256 (by omega) (by omega) (by omega)
  have HX := Lib.hid hx
  have HY := Lib.hid hy
  rw [hx, hy] at e1
  have hxy : x + y = (n : Nat) := e1.symm
  obtain ⟨hx0, hx1⟩ := hx0
  obtain ⟨hy0, hy1⟩ := hy0
  clear e1 e2 e5 hx hy hn hm
  go_enter Tryd.func12, Tryd.ntmps12
  go_wp2_with fail
  refine (refRight_at a b c true _ (HT.out _).tab HR.out).mono ?_
  rintro e w1 ⟨rfl, hw1⟩
  have ht1 := (Tri.new w a b c 23).next hw1.bel
  have HW1 := Lib.hid (H0.out.next ((below_box w (.cells #[.int .i64 a, .int .i64 b, .int .i64 c] 23)).trans (hw1.bel.mono (by simp))))
  have HT1 := Lib.hid ht1
  clear hw1 ht1
  go_wp2_with fail
  go_loopw [5, 6] (fun v i wr => ∃ k : Nat, k ≤ m ∧ i = .int .i64 k ∧ RFac w0 w a b c m n k v wr) (fun _ i _ => m - (intOf i).toNat)
  case atStart => exact ⟨0, Nat.zero_le _, rfl, HW1.out, HT1.out, by unfold Own; simpa using World.ownsRow_nil _ _ _ _, HT1.out.lt⟩
  case round =>
    obtain ⟨k, hk, rfl, hat⟩ := hrel
    have HAT := Lib.hid hat
    obtain ⟨hc0, hc1, hc2⟩ := hat.tri
    clear hat
    by_cases hlt : k < m
    · go_wp2_with fail
      refine (refTotal_at a b c m _ HAT.out.on.tab HTot.out).mono ?_
      rintro e w2 ⟨rfl, hw2⟩
      have HA2 := Lib.hid (HAT.out.next hw2.bel)
      clear hw2 hc0 hc1 hc2
      obtain ⟨hc0, hc1, hc2⟩ := HA2.out.tri
      have hr0 := fun d os => cell_regrown hc0 d os
      have hr1 := fun d os => cell_regrown hc1 d os
      clear hc0 hc1 hc2
      go_wp2_with fail
      refine wp_region_quiet_below (by kernel_rfl) (by kernel_rfl) ?_
      iterate 3 go_big_quiet_step (fail)
      go_big_quiet_step ((refine refEeprom_in w2 _ a x HA2.out.on.tab HX.out))
      iterate 2 go_big_quiet_step (fail)
      go_big_quiet_step ((refine refFlash_in w2 _ b y HY.out))
      repeat (go_big_quiet_step (fail))
      refine wpQuiet_nil ?_
      rintro w' ⟨q, rfl⟩
      obtain ⟨V, hV⟩ : ∃ V, V = Go.Sort.grow (redrawn w2 q.d) q.os := ⟨_, rfl⟩
      have HA3 := Lib.hid (show RFac w0 w a b c m n k u5 V by rw [hV]; exact HA2.out.next (in_below w2 q))
      rw [← hV]
      clear hV hr0 hr1 HA2
      have hlen : ((facAt m n).take k).length + 1 ≤ 1000000 := by rw [List.length_take, facAt_len m n e3]; omega
      by_cases hkn : k < n
      · obtain ⟨v', w', hrun, hown, hbel⟩ := append_byte V (w.heap.size + 1) 25 u5 _ HA3.out.own 255 (by omega) hlen HA3.out.size
        have R := Lib.hid (HA3.out.put H0.out.bel.size e3 hlt 255 (by rw [if_pos hkn]) hown hbel)
        have HRUN := Lib.hid hrun
        clear hrun hown hbel hlen
        go_wp2_with (at_builtin; refine Lib.wpList_append_run _ rfl _ _ _ _ rfl _ _ rfl rfl _ _ HRUN.out ?_)
        go_roundw
        case rel => exact ⟨k + 1, by omega, by go_num, R.out⟩
        case measure => simp [intOf]; omega
      · obtain ⟨v', w', hrun, hown, hbel⟩ := append_byte V (w.heap.size + 1) 25 u5 _ HA3.out.own 0 (by omega) hlen HA3.out.size
        have R := Lib.hid (HA3.out.put H0.out.bel.size e3 hlt 0 (by rw [if_neg hkn]) hown hbel)
        have HRUN := Lib.hid hrun
        clear hrun hown hbel hlen
        go_wp2_with (at_builtin; refine Lib.wpList_append_run _ rfl _ _ _ _ rfl _ _ rfl rfl _ _ HRUN.out ?_)
        go_roundw
        case rel => exact ⟨k + 1, by omega, by go_num, R.out⟩
        case measure => simp [intOf]; omega
    · obtain rfl : k = m := by omega
      go_wp2_with fail
      refine (refTotal_at a b c k _ HAT.out.on.tab HTot.out).mono ?_
      rintro e w2 ⟨rfl, hw2⟩
      have HA2 := Lib.hid (HAT.out.next hw2.bel)
      clear hw2 hc0 hc1 hc2
      go_wp2_with fail
      go_returns
      exact ⟨_, rfl, HA2.out.on, by have := HA2.out.own; rwa [List.take_of_length_le (by rw [facAt_len k n e3]; exact Nat.le_refl _)] at this⟩
end Go.Proofs.YtcojpiepbdcohaaDoor
