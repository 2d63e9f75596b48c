/-
  THE WALK OF SramPlays.
-/
import Derived.Test.YtbpdajffkcgcgaaRAwake
import Derived.Test.YtbpdajffkcgcgaaRRef
import Derived.Test.YtbpdajffkcgcgaaBSame
import Derived.Deep.RegionHeld3
import Derived.IntWalk
namespace Go.Proofs.Ytbpdajffkcgcgaa
open Go.RowKit
set_option maxRecDepth 20000

theorem Nums.offs {k : IntKind} {w : World} {B n p d : Nat} {A : Option Addr} {l : List Int} (h : Nums k w B A n l) (hp : B ≤ p) (hd : B ≤ d) : Off (Its p d) A n := by
  intro b o e hn hb
  obtain ⟨b', o', e', hb', _⟩ := h.2.2 hn
  rw [e] at e'
  injection e' with e'
  injection e' with e'
  rcases hb with rfl | rfl <;> omega
set_option maxRecDepth 100000 in
set_option maxHeartbeats 4000000 in
theorem sramPlays_walk (w : World) (a : Int) (wa : (Lit.int .u8 a).wf = true) (A1 : Option Addr) (n1 c1 : Nat) (z1 : List Int) (r1 : IsRow .u8 w A1 n1 c1 z1) (A2 : Option Addr) (n2 c2 : Nat) (l : List Opn) (r2 : Many opE w w.heap.size A2 n2 l ∧ n2 ≤ c2 ∧ n2 ≤ maxLen) :
    Calls Try.prog 3 #[.int .u8 a, .slice A1 n1 c1, .slice A2 n2 c2] w fun e w' => e = .returned (.bool true) ∧ Below w.heap.size w w' := by
  have ha : 0 ≤ a ∧ a ≤ 255 := by simpa [Lit.wf, IntKind.min, IntKind.max, IntKind.signed, IntKind.bits] using wa
  have HN1 := Lib.hid r1.nums
  have hm1 := r1.len_le.2
  unfold maxLen at hm1
  obtain ⟨ha0, ha1⟩ := ha
  clear r1 wa
  obtain ⟨b, hl1⟩ : ∃ l, z1.take n1 = l := ⟨_, rfl⟩
  rw [hl1] at HN1
  clear hl1
  obtain ⟨k, hkr⟩ : ∃ k : Nat, 1 + a % 4 = (k : Int) := ⟨(1 + a % 4).toNat, by omega⟩
  have hk1 : 1 ≤ k := by omega
  have hk4 : k ≤ 4 := by omega
  have HK := Lib.hid (show 1 ≤ k ∧ k ≤ 128 by omega)
  obtain ⟨z, hz⟩ : ∃ z : Nat, 64 * k = z := ⟨_, rfl⟩
  have hzr : 64 * (k : Int) = (z : Int) := by omega
  have hz0 : 64 ≤ z := by omega
  have hz1 : z ≤ 256 := by omega
  have HZ := Lib.hid hz
  have HO0 := Lib.hid (show (made k b).Ok from made_ok HK.out HN1.out.byte)
  have HZL := Lib.hid (show (made k b).data.length = z by rw [← hz]; exact fillL_len _ _)
  have HFD := Lib.hid (show (made k b).data = fillL b z by rw [← hz]; rfl)
  have HOP0 := Lib.hid (show (made k b).op = false from rfl)
  obtain ⟨s0, hs0⟩ : ∃ s, made k b = s := ⟨_, rfl⟩
  have HS0 := Lib.hid hs0
  rw [hs0] at HO0 HZL HOP0 HFD
  clear hs0 hz
  have HL2 := Lib.hid r2.1
  have HLL2 := Lib.hid r2.1.1
  have hm2 := r2.2.2
  have hc2 := r2.2.1
  have HOF2 := Lib.hid (show ∀ p d : Nat, w.heap.size ≤ p → w.heap.size ≤ d → Off (Its p d) A2 n2 from fun p d hp hd => Off.below HL2.out hp hd)
  unfold maxLen at hm2
  clear r2
  by_cases hb0 : n1 ≤ 40
  · have hb0' : decide (40 < (n1 : Int)) = false := decide_eq_false (by omega)
    by_cases hb1 : n2 ≤ 60
    · have hb1' : decide (60 < (n2 : Int)) = false := decide_eq_false (by omega)
      go_enter Try.func3, Try.ntmps3
      go_wp2_with fail
      refine (awake_any w).mono ?_
      rintro e w1 ⟨rfl, hb⟩
      have HB1 := Lib.hid hb
      clear hb
      go_wp2_with fail
      refine (fill_any A1 n1 c1 w.heap.size z b w1 (HN1.out.below HB1.out) HB1.out.size (by omega) (by omega)).mono ?_
      rintro e w1' ⟨v, rfl, hv, hb⟩
      obtain ⟨A5, c5, rfl, _, hm5⟩ := hv.mine
      rw [fillL_len] at hm5 ⊢
      have HV := Lib.hid (show Nums .u8 w1' w1'.heap.size A5 z s0.data by rw [HFD.out]; exact hm5.nums fun x hx => byte_wf (fillL_in z HN1.out.byte x hx))
      have HB1' := Lib.hid (HB1.out.trans (hb.mono HB1.out.size))
      clear hv hb hm5
      go_wp2_with fail
      refine (made_any k A1 n1 c1 w.heap.size b w1' (HN1.out.below HB1'.out) HB1'.out.size (by omega) HK.out).mono ?_
      rintro e w2 ⟨v', rfl, p, d, cap, rfl, hc, hp, hd, hb⟩
      rw [HS0.out] at hc
      have HC := Lib.hid hc
      have HP := Lib.hid (show w.heap.size ≤ p by have := HB1'.out.size; omega)
      have HD := Lib.hid (show w.heap.size ≤ d by have := HB1'.out.size; omega)
      have HB2 := Lib.hid (HB1'.out.trans (hb.mono HB1'.out.size))
      have HLT := Lib.hid hc.lt
      have HV2 := Lib.hid ((HV.out.below hb).mono hb.size)
      have HOFV := Lib.hid (show Off (Its p d) A5 z from HV.out.offs hp hd)
      clear hc hp hd hb
      go_wp2_with fail
      have Z0 := Lib.hid HC.out.went
      have HLW := Lib.hid (show ∀ W', Keeps (Its p d) w2 W' → Many opE W' w.heap.size A2 n2 l from fun W' hk => (HL2.out.below HB2.out).off hk HB2.out.size (HOF2.out p d HP.out HD.out))
      have HVW := Lib.hid (show ∀ W', Keeps (Its p d) w2 W' → Nums .u8 W' w2.heap.size A5 z s0.data from fun W' hk => HV2.out.off hk (Nat.le_refl _) HOFV.out)
      clear HV HV2
      go_loopw [11, 12] (fun i _ wr => ∃ t : Nat, t ≤ n2 ∧ i = .int .i64 t ∧ Went p d cap (s0.plays (l.take t)) w2 wr) (fun i _ _ => n2 - (intOf i).toNat)
      case atStart => exact ⟨0, Nat.zero_le _, rfl, Z0.out⟩
      case round =>
        obtain ⟨t, ht, rfl, hz⟩ := hrel
        have Z := Lib.hid hz
        clear hz
        by_cases hlt : t < n2
        · obtain ⟨x, hx⟩ : ∃ x, l[t]? = some x := ⟨l[t]'(by have := HLL2.out; omega), by simp [show t < l.length by have := HLL2.out; omega]⟩
          have HX := Lib.hid (plays_take s0 l t x hx)
          have HOt := Lib.hid (plays_ok (l.take t) HO0.out)
          have HLt := Lib.hid (show (s0.plays (l.take t)).data.length = z from (plays_len s0 _).trans HZL.out)
          obtain ⟨b, o, rfl, hc⟩ := (HLW.out w2 (Keeps.refl _ _)).cell (Below.refl _ w2) t x hx
          have HCC := Lib.hid (show ∀ W', Keeps (Its p d) w2 W' → W'.cell? ⟨b, o + t * 3, none⟩ = some (.int .u8 x.k) ∧ W'.cell? ⟨b, o + t * 3 + 1, none⟩ = some (.int .i64 x.a) ∧ W'.cell? ⟨b, o + t * 3 + 2, none⟩ = some (.int .u8 x.v) from fun W' hk => by
            obtain ⟨b', o', e', hc'⟩ := (HLW.out W' hk).cell (Below.refl _ W') t x hx
            injection e' with e'
            injection e' with e1 e2
            subst e1 e2
            exact ⟨hc' 0 _ rfl, hc' 1 _ rfl, hc' 2 _ rfl⟩)
          obtain ⟨v0, v1, v2⟩ := HCC.out wr Z.out.2
          have HDO := Lib.hid (show ∀ s : Ram, s.does x = if x.k = 0 then s.write x.a x.v else if x.k = 1 then s.latch x.v else s from fun _ => rfl)
          have HK1 := Lib.hid (refLocked_any s0 (some ⟨b, o, none⟩) t c2 w.heap.size (l.take t) wr HOP0.out ((HLW.out wr Z.out.2).take t (by omega)) (by omega))
          have HK2 := Lib.hid (locked_any wr p d cap _ Z.out.1)
          obtain ⟨lk, hlk⟩ : ∃ lk, (!(s0.plays (l.take t)).op) = lk := ⟨_, rfl⟩
          have HLK := Lib.hid (show (s0.plays (l.take t)).op = !lk by rw [← hlk]; simp)
          rw [hlk] at HK1 HK2
          have u5 : (lk != lk) = false := by simp
          have u6 : ((!lk) == lk) = false := by cases lk <;> rfl
          have hk1 : (t : Int) < (n2 : Int) := by omega
          have hk0 : (0 : Int) ≤ (t : Int) := by omega
          have hkc : t ≤ c2 := by omega
          have hxa := x.ha
          obtain ⟨q, hq⟩ : ∃ q : Nat, max 0 x.a = q := ⟨(max 0 x.a).toNat, by omega⟩
          have hqb : (q : Int) ≤ 9223372036854775807 := by omega
          have hq0 : (0 : Int) ≤ (q : Int) := by omega
          obtain ⟨g, hg⟩ : ∃ g, q % z = g := ⟨_, rfl⟩
          have hgz : g < z := by rw [← hg]; exact Nat.mod_lt _ (by omega)
          have HTL := Lib.hid (show (s0.plays (l.take t)).tell x.a = (s0.plays (l.take t)).data.getD g 0 by
            unfold Ram.tell Ram.at_; rw [HLt.out, Int.max_comm, hq]; exact congrArg (fun i => (s0.plays (l.take t)).data.getD i 0) hg)
          have e1 : (q : Int).tmod (z : Int) = (g : Int) := by rw [Int.tmod_eq_emod_of_nonneg hq0, ← hg]; omega
          have e0 : IntKind.i64.wrap ((q : Int).tmod (z : Int)) = (g : Int) := by rw [e1]; exact IntWalk.i64_in _ (by omega)
          have hzz : (z : Int) ≠ 0 := by omega
          have HRQ := Lib.hid (show ∀ W, Went p d cap (s0.plays (l.take t)) w2 W → ∀ n, Calls Try.prog 15 #[.pointer (some ⟨p, 0, none⟩), .int .i64 x.a] (W.drewN n) (fun e w' => e = .returned (.int .u8 ((s0.plays (l.take t)).data.getD g 0)) ∧ ∃ n', w' = W.drewN n') from fun W hW n =>
            (read_any (W.drewN n) p d cap _ x.a (hW.drewN n).1 HOt.out).mono fun e w' ⟨he, m, hw⟩ => ⟨by rw [he, HTL.out], n + m, by rw [hw]; exact World.drewN_drewN _ _ _⟩)
          have HBQ := Lib.hid (show ∀ W, Went p d cap (s0.plays (l.take t)) w2 W → ∀ n, Calls Try.prog 16 #[.slice A5 z c5, .slice (some ⟨b, o, none⟩) t c2, .int .i64 ((q : Int) % (z : Int))] (W.drewN n) (fun e w' => e = .returned (.int .u8 ((s0.plays (l.take t)).data.getD g 0)) ∧ ∃ n', w' = W.drewN n') from fun W hW n => by
            rw [show (q : Int) % (z : Int) = (g : Int) by rw [← hg]; omega]
            exact (refByte_any s0 (some ⟨b, o, none⟩) A5 t c2 z c5 g w2.heap.size (l.take t) (W.drewN n) HO0.out HOP0.out
              (((HLW.out _ (hW.drewN n).2).take t (by omega)).mono HB2.out.size) (HVW.out _ (hW.drewN n).2) (hW.drewN n).2.size (by omega) hkc hgz).mono fun e w' ⟨he, hw⟩ => ⟨he, n, hw.symm⟩)
          clear hc hx hlk hg e1 hxa
          generalize (s0.plays (l.take t)).data.getD g 0 = y at *
          have u7 : (y != y) = false := by simp
          generalize x.a = xa at *
          generalize x.v = xv at *
          generalize x.k = xk at *
          have u1 : ((0 : Int) == 1) = false := rfl
          have u2 : ((0 : Int) == 2) = false := rfl
          have u3 : ((1 : Int) == 2) = false := rfl
          have u4 : ((1 : Int) == 0) = false := rfl
          have u8 : ((2 : Int) == 0) = false := rfl
          have u9 : ((2 : Int) == 1) = false := rfl
          have Zd := Lib.hid Z.out.drew
          by_cases h0 : xk = 0
          · subst h0
            go_wp2_with fail
            refine HK1.out.mono ?_
            rintro e w3 ⟨rfl, rfl⟩
            go_wp2_with fail
            refine HK2.out.mono ?_
            rintro e w3 ⟨rfl, rfl⟩
            clear HK1 HK2
            go_wp2_with fail
            go_region_held3 (fun w' => w'.cell? ⟨b, o + t * 3, none⟩ = some (.int .u8 0) ∧ w'.cell? ⟨b, o + t * 3 + 1, none⟩ = some (.int .i64 xa) ∧ w'.cell? ⟨b, o + t * 3 + 2, none⟩ = some (.int .u8 xv)) (first | (with_reducible exact CA.out) | go_keep) (first
              | (go_at_call 13; refine (write_any _ p d cap _ xa xv Zd.out.1 HOt.out).mono ?_; rintro e' wa ⟨rfl, hz⟩; rw [HLK.out]
                 have Za := Lib.hid (Zd.out.then_ hz)
                 have CA := Lib.hid (HCC.out wa Za.out.2)
                 clear hz))
            obtain ⟨v0, v1, v2⟩ := CA.out
            go_wp2_with fail
            go_quiet (fail)
            go_wp2_with fail
            exact ⟨⟨t + 1, by omega, by go_num, by rw [HX.out, HDO.out, if_pos trivial]; exact Za.out.drewN _⟩, by simp [intOf]; omega⟩
          · have w0 : (xk == 0) = false := by simp [h0]
            by_cases h1 : xk = 1
            · subst h1
              go_wp2_with fail
              refine HK1.out.mono ?_
              rintro e w3 ⟨rfl, rfl⟩
              go_wp2_with fail
              refine HK2.out.mono ?_
              rintro e w3 ⟨rfl, rfl⟩
              clear HK1 HK2
              go_wp2_with fail
              go_quiet (fail)
              have Zq := Lib.hid (Z.out.drewN nq)
              obtain ⟨v0, v1, v2⟩ := HCC.out _ Zq.out.2
              generalize wr.drewN nq = wq at *
              go_wp2_with fail
              have Ze := Lib.hid Zq.out.drew
              go_region_held3 (fun w' => w'.cell? ⟨b, o + t * 3, none⟩ = some (.int .u8 1) ∧ w'.cell? ⟨b, o + t * 3 + 1, none⟩ = some (.int .i64 xa) ∧ w'.cell? ⟨b, o + t * 3 + 2, none⟩ = some (.int .u8 xv)) (first | (with_reducible exact CA.out) | go_keep) (first
                | (go_at_call 14; refine (latch_any _ p d cap _ xv Ze.out.1).mono ?_; rintro e' wa ⟨rfl, hz⟩
                   have Za := Lib.hid (Ze.out.then_ hz)
                   have CA := Lib.hid (HCC.out wa Za.out.2)
                   clear hz))
              obtain ⟨v0, v1, v2⟩ := CA.out
              go_wp2_with fail
              go_quiet (fail)
              go_wp2_with fail
              exact ⟨⟨t + 1, by omega, by go_num, by rw [HX.out, HDO.out, if_neg (by trivial), if_pos trivial]; exact Za.out.drewN _⟩, by simp [intOf]; omega⟩
            · have w1' : (xk == 1) = false := by simp [h1]
              have HST := Lib.hid (show s0.plays (l.take (t + 1)) = s0.plays (l.take t) by rw [HX.out, HDO.out, if_neg h0, if_neg h1])
              by_cases h2 : xk = 2
              · subst h2
                go_wp2_with fail
                refine HK1.out.mono ?_
                rintro e w3 ⟨rfl, rfl⟩
                go_wp2_with fail
                refine HK2.out.mono ?_
                rintro e w3 ⟨rfl, rfl⟩
                clear HK1 HK2
                go_wp2_with fail
                go_quiet (fail)
                have Zq := Lib.hid (Z.out.drewN nq)
                obtain ⟨v0, v1, v2⟩ := HCC.out _ Zq.out.2
                generalize wr.drewN nq = wq at *
                have HRQ1 := Lib.hid (HRQ.out wq Zq.out)
                have HBQ1 := Lib.hid (HBQ.out wq Zq.out)
                clear HRQ HBQ
                go_wp2_with fail
                go_quiet (first | (go_at_call 15; exact HRQ1.out _) | (go_at_call 16; exact HBQ1.out _))
                go_wp2_with fail
                exact ⟨⟨t + 1, by omega, by go_num, by rw [HST.out]; exact Zq.out.drewN _⟩, by simp [intOf]; omega⟩
              · have w2' : (xk == 2) = false := by simp [h2]
                go_wp2_with fail
                refine HK1.out.mono ?_
                rintro e w3 ⟨rfl, rfl⟩
                go_wp2_with fail
                refine HK2.out.mono ?_
                rintro e w3 ⟨rfl, rfl⟩
                clear HK1 HK2
                go_wp2_with fail
                go_quiet (fail)
                go_wp2_with fail
                go_quiet (fail)
                go_wp2_with fail
                exact ⟨⟨t + 1, by omega, by go_num, by rw [HST.out]; exact Z.out.drewN _⟩, by simp [intOf]; omega⟩
        · obtain rfl : t = n2 := by omega
          have HR := Lib.hid (show l.take t = l by rw [← HLL2.out]; exact List.take_of_length_le (Nat.le_refl _))
          rw [HR.out] at Z
          have HO1 := Lib.hid (plays_ok l HO0.out)
          have HZ1 := Lib.hid (show (s0.plays l).data.length = z from (plays_len s0 l).trans HZL.out)
          have HD2 := Lib.hid HB2.out.size
          go_wp2_with fail
          refine (bytes_new wr p d cap _ Z.out.1 HO1.out).mono ?_
          rintro e w7 ⟨g, cg, rfl, hg1, hg2, hv, hb⟩
          have HW7 := Lib.hid (hv.nums_at fun x hx => byte_wf (HO1.out.byte x hx)).1
          have Z7 := Lib.hid (Z.out.calm hb)
          rw [HZ1.out] at HW7 ⊢
          clear hg1 hg2 hv hb
          go_wp2_with fail
          refine (refBytes_any s0 A2 A5 t c2 z c5 w2.heap.size l w7 HO0.out HOP0.out ((HLW.out w7 Z7.out.2).mono HD2.out) (HVW.out w7 Z7.out.2) Z7.out.2.size (by omega) hc2).mono ?_
          rintro e w8 ⟨v8, rfl, hv8, hb8⟩
          obtain ⟨A8, c8, rfl, _, hm8⟩ := hv8.mine
          have HM8 := Lib.hid (hm8.nums fun x hx => byte_wf (HO1.out.byte x hx))
          have Z8 := Lib.hid (Z7.out.calm hb8)
          have HW8 := Lib.hid ((HW7.out.below hb8).mono hb8.size)
          rw [HZ1.out] at HM8 ⊢
          clear hv8 hm8 hb8
          go_wp2_with fail
          refine (same_refl (some ⟨g, 0, none⟩) A8 z cg c8 w8.heap.size (s0.plays l).data w8 (by unfold maxLen; omega) HW8.out HM8.out (Nat.le_refl _)).mono ?_
          rintro e w9 ⟨rfl, hb⟩
          have Z9 := Lib.hid (Z8.out.calm hb)
          clear hb
          go_wp2_with fail
          go_ret
          exact ⟨rfl, HB2.out.trans (Z9.out.far HP.out HD.out HB2.out.size)⟩
    · have hb1' : decide (60 < (n2 : Int)) = true := decide_eq_true (by omega)
      go_enter Try.func3, Try.ntmps3
      go_wp2_with fail
      refine (awake_any w).mono ?_
      rintro e w1 ⟨rfl, hb⟩
      have HB1 := Lib.hid hb
      clear hb
      go_wp2_with fail
      go_ret
      exact ⟨rfl, HB1.out⟩
  · have hb0' : decide (40 < (n1 : Int)) = true := decide_eq_true (by omega)
    go_enter Try.func3, Try.ntmps3
    go_wp2_with fail
    refine (awake_any w).mono ?_
    rintro e w1 ⟨rfl, hb⟩
    have HB1 := Lib.hid hb
    clear hb
    go_wp2_with fail
    go_ret
    exact ⟨rfl, HB1.out⟩
end Go.Proofs.Ytbpdajffkcgcgaa
