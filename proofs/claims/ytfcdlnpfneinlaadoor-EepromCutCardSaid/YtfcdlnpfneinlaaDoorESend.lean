/-
  THE WALK OF (*Chip).send.
-/
import Derived.Test.YtfcdlnpfneinlaaDoorEColl
namespace Go.Proofs.YtfcdlnpfneinlaaDoor
open Go.RowKit
set_option maxRecDepth 20000

theorem fnV_await (p : Nat) : fnV p 6 = .func (.func 81) #[.pointer (some ⟨p, 0, none⟩)] #[] := rfl
set_option maxHeartbeats 4000000 in
theorem send_any (w : World) (p : Nat) (F : Nat → Prop) (s : Chip) (n e : Int) (line wp : Bool) (h : ChipAt w p F s) (hok : s.Ok n) (hn : n ≤ 1000000) (he : e = 2 ∨ e = 3 ∨ e = 4) :
    Calls Tryd.prog 65 #[.pointer (some ⟨p, 0, none⟩), nowV e line wp] w (Did p F (s.send e) w) := by
  have HT := Lib.hid h.tab
  obtain ⟨d, cap, l, cm, wm, hin⟩ := h
  have HI := Lib.hid hin
  have HK := Lib.hid hok
  have HBX := Lib.hid (below_box w (.cells #[.int .i64 e, .bool line, .bool wp] 72))
  have hct : 0 ≤ s.count ∧ s.count ≤ 1000000 := by have := hok.count; omega
  obtain ⟨hc0, hc1⟩ := hct
  have hsh := hok.shift
  obtain ⟨c, hc⟩ : ∃ c, s.count = c := ⟨_, rfl⟩
  obtain ⟨t, ht⟩ : ∃ t, s.shift = t := ⟨_, rfl⟩
  rw [ht] at hsh
  obtain ⟨hs0, hs1⟩ := hsh
  have HCE := Lib.hid hc
  have HTE := Lib.hid ht
  have hlt := hin.blk.lt
  have hne : w.heap.size ≠ p := by omega
  have f3 := hin.blk.frozen 3
  have f4 := hin.blk.frozen 4
  have f6 := hin.blk.frozen 6
  have f7 := hin.blk.frozen 7
  have f11 := hin.blk.frozen 11
  have c1 := hin.blk.cell 1
  have c3 := hin.blk.cell 3
  have c4 := hin.blk.cell 4
  have c6 := hin.blk.cell 6
  have c7 := hin.blk.cell 7
  have c11 := hin.blk.cell 11
  simp only [cellsOf, List.getElem?_toArray, List.getElem?_cons_zero, List.getElem?_cons_succ] at c1 c3 c4 c6 c7 c11
  rw [hc] at hc0 hc1 c7
  rw [ht] at c6
  have hst : ∀ (fn : Fn) (first cap : Array Value) (a : Addr) (w : World), (store a (.func fn first cap)).run Tryd.prog w = stored Tryd.prog w a (.func fn first cap) .plain := fun _ _ _ _ _ => run_store _ _ _ _ _ rfl
  have hmf : ∀ (fn : Fn) (first cap : Array Value) (w : World), (Instr.makeFunc fn first cap).run Tryd.prog w = .ok (.func fn first cap) w := fun _ _ _ _ => rfl
  unfold nowV
  by_cases he4 : e = 4
  · subst he4
    have ht' := HTE.out
    clear he hok hin ht
    by_cases h8 : c = 8
    · have HR := Lib.hid (show s.send 4 = { s with pulls := false, count := 0, nx := 6 } by unfold Chip.send; rw [if_pos rfl, if_pos (hc.trans h8)])
      have hb : (c == 8) = true := by simp [h8]
      clear h8 hc
      go_enter Tryd.func65, Tryd.ntmps65
      go_wp2_with fail
      go_end0
      rw [HR.out]
      exact ⟨rfl, (HI.out.sets (cm' := cm) [(3, .bool false), (7, .int .i64 0), (4, fnV p 6)] { s with pulls := false, count := 0, nx := 6 } rfl rfl rfl rfl (.inl ⟨rfl, rfl, rfl⟩)).box HT.out _⟩
    · have hb : (c == 8) = false := by simp [h8]
      by_cases h0 : c = 0
      · subst h0
        obtain ⟨x, hx⟩ : ∃ x, s.pointer = x := ⟨_, rfl⟩
        obtain ⟨z, hz⟩ : ∃ z, s.data.length = z := ⟨_, rfl⟩
        have hx01 := HK.out.ptr
        have hz01 := HK.out.pos
        unfold Chip.size at hz01 hx01
        rw [hx, hz] at hx01
        rw [hz] at hz01
        obtain ⟨hx0, hx1⟩ := hx01
        obtain ⟨hz0, hz1⟩ := hz01
        have hv01 := Chip.getD_in HK.out.byte x.toNat
        obtain ⟨v, hv⟩ : ∃ v, s.data.getD x.toNat 0 = v := ⟨_, rfl⟩
        rw [hv] at hv01
        obtain ⟨hv0, hv1⟩ := hv01
        have cd := HI.out.byte_at x.toNat (by omega)
        rw [hv] at cd
        have hdl := HI.out.there _ HI.out.fd
        have hdn : w.heap.size ≠ d := by omega
        have hdp := HI.out.p_ne_d
        rw [hx] at c11
        rw [hz] at c1
        have HR := Lib.hid (show s.send 4 = { s with shift := v * 2 % 256, pointer := (x + 1) % z, pulls := v / 128 == 0, count := 1 } by
          unfold Chip.send Chip.size
          rw [if_pos rfl, if_neg (by omega), if_pos (by omega), hx, hv, hz, Int.mul_comm]
          congr 1
          rw [Bool.eq_iff_iff]; simp; omega)
        clear h8 hb hc hx hz hv
        go_enter Tryd.func65, Tryd.ntmps65
        go_wp2_with fail
        go_region
        go_wp2_with fail
        go_region
        go_wp2_with fail
        go_end0
        rw [HR.out]
        exact ⟨rfl, (((HI.out.sets (cm' := cm) [(6, .int .u8 v), (11, .int .i64 ((x + 1) % z)), (3, .bool (v / 128 == 0)), (6, .int .u8 (v * 2 % 256)), (7, .int .i64 1)] { s with shift := v * 2 % 256, pointer := (x + 1) % z, pulls := v / 128 == 0, count := 1 } rfl rfl rfl rfl (.inl ⟨rfl, rfl, rfl⟩)).box HT.out _).calm (below_drew _) HT.out).calm (below_drew _) HT.out⟩
      · have hb0 : (c == 0) = false := by simp [h0]
        have HR := Lib.hid (show s.send 4 = { s with shift := t * 2 % 256, pulls := t / 128 == 0, count := c + 1 } by
          unfold Chip.send
          rw [if_pos rfl, if_neg (by omega), if_neg (by omega), ht', hc, Int.mul_comm]
          congr 1
          rw [Bool.eq_iff_iff]; simp; omega)
        clear h8 hc h0 ht'
        go_enter Tryd.func65, Tryd.ntmps65
        go_wp2_with fail
        go_end0
        rw [HR.out]
        exact ⟨rfl, (HI.out.sets (cm' := cm) [(3, .bool (t / 128 == 0)), (6, .int .u8 (t * 2 % 256)), (7, .int .i64 (c + 1))] { s with shift := t * 2 % 256, pulls := t / 128 == 0, count := c + 1 } rfl rfl rfl rfl (.inl ⟨rfl, rfl, rfl⟩)).box HT.out _⟩
  · have HR := Lib.hid (show s.send e = s by unfold Chip.send; rw [if_neg he4])
    have hb : (e != 4) = true := by simp [he4]
    clear he he4 hok hin hc ht
    go_enter Tryd.func65, Tryd.ntmps65
    go_wp2_with fail
    go_end0
    rw [HR.out]
    exact ⟨rfl, (HI.out.sets (cm' := cm) [] s rfl rfl rfl rfl (.inl ⟨rfl, rfl, rfl⟩)).box HT.out _⟩
end Go.Proofs.YtfcdlnpfneinlaaDoor
