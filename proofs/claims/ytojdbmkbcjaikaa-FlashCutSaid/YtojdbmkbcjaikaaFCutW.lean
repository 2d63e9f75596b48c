/-
  THE WALK OF FlashCut.
-/
import Derived.Test.YtojdbmkbcjaikaaFAwake
import Derived.Test.YtojdbmkbcjaikaaFVals
import Derived.Test.YtojdbmkbcjaikaaBSame
import Derived.Deep.RegionHeld3
import Derived.IntWalk
import Derived.Test.YtojdbmkbcjaikaaCApart
namespace Go.Proofs.Ytojdbmkbcjaikaa
open Go.RowKit
set_option maxRecDepth 20000

/-- what operations do but reads -/
def Flash.act (s : Flash) (o : Opn) : Flash := if o.k = 0 then s.write o.a o.v else if o.k = 2 then s.ticks o.v.toNat else s
def Flash.acts (s : Flash) (l : List Opn) : Flash := l.foldl Flash.act s
theorem acts_take (s : Flash) (l : List Opn) (k : Nat) (x : Opn) (h : l[k]? = some x) : s.acts (l.take (k + 1)) = (s.acts (l.take k)).act x := by
  unfold Flash.acts
  rw [List.take_add_one, h]
  simp
theorem act_ok {s : Flash} (x : Opn) (h : s.Ok) : (s.act x).Ok := by
  unfold Flash.act
  split
  · exact h.write x.a x.hv
  · split
    · exact ticks_ok _ h
    · exact h
theorem acts_ok {s : Flash} (l : List Opn) (h : s.Ok) : (s.acts l).Ok := by
  unfold Flash.acts
  induction l generalizing s with
  | nil => exact h
  | cons x l ih => exact ih (act_ok x h)
theorem act_len (s : Flash) (x : Opn) : (s.act x).data.length = s.data.length := by
  have hput : ∀ (s : Flash) (a v : Int), (s.write a v).data = s.data := by
    intro s a v
    unfold Flash.write Flash.put Flash.command Flash.erase Flash.exact
    repeat' split
    all_goals rfl
  have ht : ∀ (s : Flash), s.tick.data.length = s.data.length := by
    intro s
    unfold Flash.tick
    split
    · rfl
    · split
      · exact Flash.doneTo_len _ _
      · rfl
  have hts : ∀ n, (s.ticks n).data.length = s.data.length := by
    intro n
    induction n with
    | zero => rfl
    | succ n ih => exact (ht _).trans ih
  unfold Flash.act
  split
  · rw [hput]
  · split
    · exact hts _
    · rfl
theorem acts_len (s : Flash) (l : List Opn) : (s.acts l).data.length = s.data.length := by
  unfold Flash.acts
  induction l generalizing s with
  | nil => rfl
  | cons x l ih => exact (ih (s.act x)).trans (act_len s x)
theorem rowL_in {a t v : Int} (h0 : 0 ≤ a) (h1 : a ≤ 100000) (h2 : t ≤ 100000) (h : v ∈ rowL a t) : a ≤ v ∧ v < a + t := by
  obtain ⟨i, hi, rfl⟩ := List.mem_map.1 h
  have := List.mem_range.1 hi
  omega
theorem Flash.Ok.kinds {s : Flash} (h : s.Ok) : (s.wk = 0 ∧ s.left = 0) ∨ ((s.wk = 1 ∧ s.wm = 1 ∨ s.wk = 2) ∧ 0 < s.left ∧ 0 ≤ s.wf ∧ 0 < s.wm ∧ s.wf + s.wm ≤ s.data.length) := by
  have hl := h.left
  by_cases h0 : s.left = 0
  · exact .inl ⟨(h.rest h0).1, h0⟩
  · have := h.works (by omega)
    exact .inr ⟨by rcases this.1 with h1 | h1; exact .inl h1; exact .inr h1.1, by omega, this.2⟩
theorem Flash.cut_in {s : Flash} (h : s.Ok) (ps : List Int) (hp : ∀ v ∈ ps, 0 ≤ v ∧ v ≤ 255) : ∀ v ∈ s.cut ps, 0 ≤ v ∧ v ≤ 255 := by
  unfold Flash.cut
  split
  · exact cellsL_in h.byte hp
  · split
    · unfold progL
      split
      · intro v hv
        rcases List.mem_or_eq_of_mem_set hv with h1 | h1
        · exact h.byte v h1
        · rw [h1]; exact band_in (Flash.getD_in h.byte _) (Flash.getD_in hp _)
      · exact h.byte
    · exact h.byte
theorem Flash.cut_nil (s : Flash) : s.cut [] = s.data := by
  unfold Flash.cut
  split
  · exact cellsL_none _ _
  · rw [if_neg (by simp)]
theorem Flash.cut_apart {s : Flash} (h : s.Ok) (ps : List Int) (hp : ∀ v ∈ ps, 0 ≤ v ∧ v ≤ 255) (q : Nat) (hq : q < s.data.length) (hne : s.data.getD q 0 ≠ (s.cut ps).getD q 0) :
    s.wf ≤ (q : Int) ∧ (q : Int) < s.wf + s.wm ∧ (s.wk = 1 → bits .and .u8 ((s.cut ps).getD q 0) (s.data.getD q 0) = (s.cut ps).getD q 0) := by
  have hlen := h.len
  rcases h.kinds with ⟨h0, _⟩ | ⟨hk, _, hf, hm, hx⟩
  · exact absurd (show s.data.getD q 0 = (s.cut ps).getD q 0 by unfold Flash.cut; rw [if_neg (by omega), if_neg (by omega)]) hne
  · unfold Flash.cut at hne ⊢
    by_cases h2 : s.wk = 2
    · rw [if_pos h2] at hne ⊢
      by_cases hin : (q : Int) ∈ rowL s.wf s.wm
      · have := rowL_in hf (by omega) (by omega) hin
        exact ⟨this.1, this.2, fun e => by omega⟩
      · exact absurd (cellsL_else _ _ _ _ hq hin).symm hne
    · rw [if_neg h2] at hne ⊢
      have h1 : s.wk = 1 ∧ s.wm = 1 := by omega
      by_cases h0 : s.wk = 1 ∧ 0 < ps.length
      · rw [if_pos h0] at hne ⊢
        rw [progL_get _ _ _ _ hq] at hne ⊢
        by_cases e : s.wf = q
        · rw [if_pos e]
          exact ⟨by omega, by omega, fun _ => band_left (Flash.getD_in h.byte _) (Flash.getD_in hp _)⟩
        · rw [if_neg e] at hne
          exact absurd rfl hne
      · rw [if_neg h0] at hne
        exact absurd rfl hne
set_option maxRecDepth 100000 in
set_option maxHeartbeats 4000000 in
theorem flashCut_walk (w : World) (a : Int) (wa : (Lit.int .u8 a).wf = true) (A1 : Option Addr) (n1 c1 : Nat) (z1 : List Int) (r1 : IsRow .u8 w A1 n1 c1 z1) (A2 : Option Addr) (n2 c2 : Nat) (l : List Opn) (r2 : Many opE w w.heap.size A2 n2 l ∧ n2 ≤ c2 ∧ n2 ≤ maxLen) (A3 : Option Addr) (n3 c3 : Nat) (z3 : List Int) (r3 : IsRow .u8 w A3 n3 c3 z3) :
    Calls Try.prog 9 #[.int .u8 a, .slice A1 n1 c1, .slice A2 n2 c2, .slice A3 n3 c3] w fun e w' => e = .returned (.bool true) ∧ Below w.heap.size w w' := by
  have ha : 0 ≤ a ∧ a ≤ 255 := by simpa [Lit.wf, IntKind.min, IntKind.max, IntKind.signed, IntKind.bits] using wa
  have HN1 := Lib.hid r1.nums
  have hm1 := r1.len_le.2
  unfold maxLen at hm1
  obtain ⟨ha0, ha1⟩ := ha
  clear r1 wa
  obtain ⟨b, hl1⟩ : ∃ l, z1.take n1 = l := ⟨_, rfl⟩
  rw [hl1] at HN1
  clear hl1
  obtain ⟨k, hkr⟩ : ∃ k : Nat, 1 + a % 4 = (k : Int) := ⟨(1 + a % 4).toNat, by omega⟩
  have hk1 : 1 ≤ k := by omega
  have hk4 : k ≤ 4 := by omega
  have HK := Lib.hid (show 1 ≤ k ∧ k ≤ 64 by omega)
  obtain ⟨z, hz⟩ : ∃ z : Nat, 256 * k = z := ⟨_, rfl⟩
  have hzr : 256 * (k : Int) = (z : Int) := by omega
  have hz0 : 256 ≤ z := by omega
  have hz1 : z ≤ 1024 := by omega
  have HZ := Lib.hid hz
  have HO0 := Lib.hid (show (made k b).Ok from made_ok HK.out HN1.out.byte)
  obtain ⟨D, hDD⟩ : ∃ D, (made k b).data = D := ⟨_, rfl⟩
  have HSD := Lib.hid hDD
  have HDL := Lib.hid (show D.length = z by rw [← hDD, ← hz]; exact fillL_len _ _)
  have HDB := Lib.hid (show ∀ v ∈ D, 0 ≤ v ∧ v ≤ 255 by rw [← hDD]; exact HO0.out.byte)
  have hsize : (made k b).data.length = z := by rw [hDD]; exact HDL.out
  obtain ⟨s0, hs0⟩ : ∃ s, made k b = s := ⟨_, rfl⟩
  have HS0 := Lib.hid hs0
  have hs0l : s0.left = 0 := by rw [← hs0]; rfl
  have hs0k : s0.k = 0 := by rw [← hs0]; rfl
  have hs0n : s0.named = false := by rw [← hs0]; rfl
  rw [hs0] at HO0 HSD hsize
  have HSZ := Lib.hid hsize
  clear hs0 hz hDD
  have HL := Lib.hid r2.1
  have HLL := Lib.hid r2.1.1
  have hm2 := r2.2.2
  have HOP := Lib.hid (show ∀ p d : Nat, w.heap.size ≤ p → w.heap.size ≤ d → Off (Its p d) A2 n2 from fun p d hp hd => Off.below HL.out hp hd)
  unfold maxLen at hm2
  clear r2
  have HN3 := Lib.hid r3.nums
  have HC3 := Lib.hid (And.intro r3.len_le.1 r3.cap_le)
  have hm3 := r3.len_le.2
  unfold maxLen at hm3
  clear r3
  obtain ⟨ps, hps⟩ : ∃ l, z3.take n3 = l := ⟨_, rfl⟩
  rw [hps] at HN3
  clear hps hs0l hs0k hs0n
  by_cases hb1 : n1 ≤ 40
  · have hb1' : decide (40 < (n1 : Int)) = false := decide_eq_false (by omega)
    by_cases hb2 : n2 ≤ 120
    · have hb2' : decide (120 < (n2 : Int)) = false := decide_eq_false (by omega)
      by_cases hb3 : n3 ≤ 300
      · have hb3' : decide (300 < (n3 : Int)) = false := decide_eq_false (by omega)
        have HPB := Lib.hid HN3.out.byte
        go_enter Try.func9, Try.ntmps9
        go_wp2_with fail
        refine (awake_any w).mono ?_
        rintro e w1 ⟨rfl, hb⟩
        have HB1 := Lib.hid hb
        clear hb
        go_wp2_with fail
        refine (made_any k A1 n1 c1 w.heap.size b w1 (HN1.out.below HB1.out) HB1.out.size (by omega) HK.out).mono ?_
        rintro e w2 ⟨v, rfl, p, d, cap, rfl, hc, hp, hd, hb⟩
        rw [HS0.out] at hc
        have HC := Lib.hid hc
        have HP := Lib.hid (show w.heap.size ≤ p by have := HB1.out.size; omega)
        have HD := Lib.hid (show w.heap.size ≤ d by have := HB1.out.size; omega)
        have HB2 := Lib.hid (HB1.out.trans (hb.mono HB1.out.size))
        have HLT := Lib.hid hc.lt
        clear hc hp hd hb
        have Z0 := Lib.hid HC.out.went
        go_wp2_with fail
        go_loopw [12, 13] (fun i _ wr => ∃ t : Nat, t ≤ n2 ∧ i = .int .i64 t ∧ Went p d cap (s0.acts (l.take t)) w2 wr) (fun i _ _ => n2 - (intOf i).toNat)
        case atStart => exact ⟨0, Nat.zero_le _, rfl, Z0.out⟩
        case round =>
          obtain ⟨t, ht, rfl, hz⟩ := hrel
          have Z := Lib.hid hz
          clear hz
          by_cases hlt : t < n2
          · have ht1 : (t : Int) < (n2 : Int) := by omega
            have ht0 : (0 : Int) ≤ (t : Int) := by omega
            obtain ⟨x, hx⟩ : ∃ x, l[t]? = some x := ⟨l[t]'(by have := HLL.out; omega), by simp [show t < l.length by have := HLL.out; omega]⟩
            obtain ⟨bb, oo, rfl, hbb, hcc⟩ := HL.out.2 (by omega)
            have HBBL := Lib.hid hbb
            have hcc := hcc t x hx
            have HAA := Lib.hid (fun (W' : World) (hk : Keeps (Its p d) w2 W') (o' : Nat) => (hk.cell (b := bb) (o := o') (by have := HB2.out.size; omega) (HOP.out p d HP.out HD.out bb oo rfl (by omega))).trans (HB2.out.cell (p := ⟨bb, o', none⟩) HBBL.out))
            have HCC := Lib.hid (show ∀ W', Keeps (Its p d) w2 W' → W'.cell? ⟨bb, oo + t * 3, none⟩ = some (.int .u8 x.k) ∧ W'.cell? ⟨bb, oo + t * 3 + 1, none⟩ = some (.int .i64 x.a) ∧ W'.cell? ⟨bb, oo + t * 3 + 2, none⟩ = some (.int .u8 x.v) from fun W' hk =>
              ⟨(HAA.out W' hk (oo + t * 3)).trans (hcc 0 _ rfl), (HAA.out W' hk (oo + t * 3 + 1)).trans (hcc 1 _ rfl), (HAA.out W' hk (oo + t * 3 + 2)).trans (hcc 2 _ rfl)⟩)
            have HSN := Lib.hid (acts_take s0 l t x hx)
            obtain ⟨c0, c1, c2⟩ := HCC.out wr Z.out.2
            have HXK := Lib.hid x.hk
            have HXA := Lib.hid x.ha
            have HXV := Lib.hid x.hv
            clear hcc
            obtain ⟨xk, xa, xv, _, _, _⟩ := x
            simp only at c0 c1 c2 HCC HXA HXV HXK
            have HOS := Lib.hid (acts_ok (l.take t) HO0.out)
            obtain ⟨s, hs⟩ : ∃ s, s0.acts (l.take t) = s := ⟨_, rfl⟩
            rw [hs] at HOS Z HSN
            have HNEXT := Lib.hid (show ∀ (W' : World) (s' : Flash), s0.acts (l.take (t + 1)) = s' → Went p d cap s' w2 W' → ∃ t' : Nat, t' ≤ n2 ∧ Value.int .i64 ((t : Int) + 1) = .int .i64 t' ∧ Went p d cap (s0.acts (l.take t')) w2 W' from fun W' s' he h => ⟨t + 1, by omega, by go_num, by rw [he]; exact h⟩)
            clear hx hs
            by_cases hk0 : xk = 0
            · subst hk0
              have u2 : ((0 : Int) == 2) = false := rfl
              have HST := Lib.hid (show s0.acts (l.take (t + 1)) = s.write xa xv from HSN.out.trans (if_pos rfl))
              go_wp2_with fail
              have Zd := Lib.hid Z.out.drew
              go_region_held3 (fun w' => w'.cell? ⟨bb, oo + t * 3, none⟩ = some (.int .u8 0) ∧ w'.cell? ⟨bb, oo + t * 3 + 1, none⟩ = some (.int .i64 xa) ∧ w'.cell? ⟨bb, oo + t * 3 + 2, none⟩ = some (.int .u8 xv)) (first | (with_reducible exact CA.out) | go_keep) (first
                | (go_at_call 15; refine (write_any _ p d cap s xa xv Zd.out.1 HOS.out HXV.out).mono ?_; rintro e' wa ⟨rfl, hz⟩
                   have Za := Lib.hid (Zd.out.then_ hz)
                   have CA := Lib.hid (HCC.out wa Za.out.2)
                   clear hz))
              obtain ⟨c0, c1, c2⟩ := CA.out
              go_wp2_with fail
              go_loopw [13] (fun i wr' => i = .int .i64 0 ∧ Below wa.heap.size wa wr') (fun _ _ => 0)
              case atStart => exact ⟨rfl, Below.refl _ _⟩
              case round =>
                obtain ⟨rfl, hbl⟩ := hrel
                have HBL := Lib.hid hbl
                obtain ⟨c0, c1, c2⟩ := HCC.out _ ((Za.out.calm hbl).2)
                have ZL := Lib.hid (Za.out.calm hbl)
                clear hbl
                go_wp2_with fail
                exact ⟨HNEXT.out _ _ HST.out ZL.out, by simp [intOf]; omega⟩
            · have u0 : (xk == 0) = false := by simp [hk0]
              by_cases hk2 : xk = 2
              · subst hk2
                obtain ⟨m, rfl⟩ := Int.eq_ofNat_of_zero_le HXV.out.1
                have hm8 : (m : Int) ≤ 255 := HXV.out.2
                have HST := Lib.hid (show s0.acts (l.take (t + 1)) = s.ticks m from HSN.out.trans (by unfold Flash.act; rw [if_neg (by show ¬ (2 : Int) = 0; decide), if_pos rfl]; rfl))
                go_wp2_with fail
                go_loopw [13] (fun i wr' => ∃ q : Nat, q ≤ m ∧ i = .int .i64 q ∧ Went p d cap (s.ticks q) w2 wr') (fun i _ => m - (intOf i).toNat)
                case atStart => exact ⟨0, Nat.zero_le _, rfl, Z.out⟩
                case round =>
                  obtain ⟨q, hq, rfl, hz⟩ := hrel
                  have ZL := Lib.hid hz
                  obtain ⟨c0, c1, c2⟩ := HCC.out _ hz.2
                  have HOQ := Lib.hid (ticks_ok q HOS.out)
                  clear hz
                  have hq0 : (0 : Int) ≤ (q : Int) := by omega
                  by_cases hqm : q < m
                  · have hqm1 : (q : Int) < (m : Int) := by omega
                    go_wp2_with fail
                    refine (tick_any _ p d cap _ ZL.out.1 HOQ.out).mono ?_
                    rintro e' wt ⟨rfl, hz⟩
                    have ZM := Lib.hid (ZL.out.then_ hz)
                    clear hz
                    go_wp2_with fail
                    go_roundw
                    case rel => exact ⟨q + 1, by omega, by go_num, ZM.out⟩
                    case measure => simp [intOf]; omega
                  · obtain rfl : q = m := by omega
                    have hqq : decide ((q : Int) < (q : Int)) = false := decide_eq_false (by omega)
                    go_wp2_with fail
                    exact ⟨HNEXT.out _ _ HST.out ZL.out, by simp [intOf]; omega⟩
              · have u2 : (xk == 2) = false := by simp [hk2]
                have HST := Lib.hid (show s0.acts (l.take (t + 1)) = s from HSN.out.trans (by unfold Flash.act; rw [if_neg hk0, if_neg hk2]))
                go_wp2_with fail
                go_loopw [13] (fun i wr' => i = .int .i64 0 ∧ Below wr.heap.size wr wr') (fun _ _ => 0)
                case atStart => exact ⟨rfl, Below.refl _ _⟩
                case round =>
                  obtain ⟨rfl, hbl⟩ := hrel
                  obtain ⟨c0, c1, c2⟩ := HCC.out _ ((Z.out.calm hbl).2)
                  have ZL := Lib.hid (Z.out.calm hbl)
                  clear hbl
                  go_wp2_with fail
                  exact ⟨HNEXT.out _ _ HST.out ZL.out, by simp [intOf]; omega⟩
          · obtain rfl : t = n2 := by omega
            have HOS := Lib.hid (acts_ok (l.take t) HO0.out)
            have HSL := Lib.hid (show (s0.acts (l.take t)).data.length = z by rw [acts_len]; exact HSZ.out)
            obtain ⟨s, hs⟩ : ∃ s, s0.acts (l.take t) = s := ⟨_, rfl⟩
            rw [hs] at HOS Z HSL
            clear hs
            have HKD := Lib.hid HOS.out.kinds
            have HCA := Lib.hid (fun q hq hne => Flash.cut_apart HOS.out ps HPB.out q hq hne)
            have HCI := Lib.hid (Flash.cut_in HOS.out ps HPB.out)
            have HCN := Lib.hid (Flash.cut_nil s)
            have HBY := Lib.hid HOS.out.byte
            obtain ⟨E, hE⟩ : ∃ E, s.data = E := ⟨_, rfl⟩
            obtain ⟨C, hC⟩ : ∃ C, s.cut ps = C := ⟨_, rfl⟩
            have HE := Lib.hid hE
            have HCC := Lib.hid hC
            have HCL := Lib.hid (show C.length = z by rw [← hC, Flash.cut_len]; exact HSL.out)
            rw [hE] at HCA HCN HBY HSL
            rw [hC] at HCA HCI
            have hwf : 0 ≤ s.wf ∧ 0 ≤ s.wm ∧ s.wf + s.wm ≤ 16384 := by
              have hl := HOS.out.len
              rcases HKD.out with ⟨_, h0⟩ | ⟨_, _, h1, h2, h3⟩
              · have := HOS.out.rest h0; omega
              · omega
            obtain ⟨hw0, hw1, hw2⟩ := hwf
            have HKL := Lib.hid (show (s.wk == 0) = (s.left == 0) by
              rcases HKD.out with ⟨h1, h2⟩ | ⟨h1, h2, _⟩
              · rw [h1, h2]
              · have e1 : (s.wk == 0) = false := by simp; omega
                have e2 : (s.left == 0) = false := by simp; omega
                rw [e1, e2])
            have ZE := Lib.hid Z.out
            clear hE hC
            go_wp2_with fail
            refine (waits_any wr p d cap s ZE.out.1).mono ?_
            rintro e w20 ⟨rfl, hb⟩
            have ZF := Lib.hid (ZE.out.calm hb)
            clear hb
            unfold Flash.waits
            go_wp2_with fail
            have hbx := below_box w20 (.cells #[.int .i64 s.wk, .int .i64 s.wf, .int .i64 s.wm, .int .u8 s.wv] 39)
            have hwb := Blk.new w20 39 #[.int .i64 s.wk, .int .i64 s.wf, .int .i64 s.wm, .int .u8 s.wv]
            have ZG := Lib.hid (ZF.out.calm hbx)
            obtain ⟨wb, hwbe⟩ : ∃ b, w20.heap.size = b := ⟨_, rfl⟩
            rw [hwbe] at hwb ⊢
            obtain ⟨W, hWW⟩ : ∃ W, w20.alloc (.cells #[.int .i64 s.wk, .int .i64 s.wf, .int .i64 s.wm, .int .u8 s.wv] 39) = W := ⟨_, rfl⟩
            rw [hWW] at hwb ZG ⊢
            have HWB := Lib.hid hwb
            have HWC := Lib.hid (show ∀ W', Below W.heap.size W W' → W'.cell? ⟨wb, 0, none⟩ = some (.int .i64 s.wk) ∧ W'.cell? ⟨wb, 1, none⟩ = some (.int .i64 s.wf) ∧ W'.cell? ⟨wb, 2, none⟩ = some (.int .i64 s.wm) from fun W' hb =>
              ⟨(hb.cell (p := ⟨wb, 0, none⟩) hwb.lt).trans (hwb.cell 0), (hb.cell (p := ⟨wb, 1, none⟩) hwb.lt).trans (hwb.cell 1), (hb.cell (p := ⟨wb, 2, none⟩) hwb.lt).trans (hwb.cell 2)⟩)
            have HB2W := Lib.hid (HB2.out.trans (ZG.out.far (N := w.heap.size) HP.out HD.out HB2.out.size))
            clear hbx hwb hwbe hWW
            refine (bytes_any W p d cap s ZG.out.1 HOS.out).mono ?_
            rintro e w22 ⟨vv, rfl, hv, hb⟩
            rw [HE.out] at hv
            obtain ⟨Ba, cba, rfl, _, hn⟩ := hv.nums fun x hx => byte_wf (HBY.out x hx)
            rw [HSL.out] at hn ⊢
            have HNa := Lib.hid hn
            have HB22 := Lib.hid hb
            have C22 := Lib.hid (ZG.out.1.below hb)
            clear hv hb hn
            go_wp2_with fail
            refine (cut_any w22 p d cap s A3 n3 c3 w.heap.size ps C22.out HOS.out (HN3.out.below (HB2W.out.trans (HB22.out.mono HB2W.out.size))) (Nat.le_trans HB2W.out.size HB22.out.size) HC3.out.1 HC3.out.2).mono ?_
            rintro e w23 ⟨Bc, cbc, rfl, _, hm, hb⟩
            rw [HCC.out] at hm
            rw [show s.data.length = z by rw [HE.out]; exact HSL.out] at hm ⊢
            have HNc := Lib.hid (hm.nums fun x hx => byte_wf (HCI.out x hx))
            have HB23 := Lib.hid (HB22.out.trans (hb.mono HB22.out.size))
            have HNa := Lib.hid ((HNa.out.below hb).mono hb.size)
            have C23 := Lib.hid (C22.out.below hb)
            clear hb hm
            obtain ⟨lb, hlb⟩ : ∃ lb, (s.left == 0) = lb := ⟨_, rfl⟩
            have hkb : (s.wk == 0) = lb := HKL.out.trans hlb
            have hbn : (lb != lb) = false := by simp
            obtain ⟨d0, d1, d2⟩ := HWC.out w23 HB23.out
            go_wp2_with fail
            have Cd := Lib.hid (C23.out.below (below_drew w23))
            have D0 := Lib.hid (show w23.drew.cell? ⟨wb, 0, none⟩ = some (.int .i64 s.wk) from d0)
            have hzz : ((z : Int) != (z : Int)) = false := by simp
            have hzy : (z != z) = false := by simp
            have e0 : IntKind.i64.wrap (256 * (k : Int)) = (z : Int) := by rw [hzr]; exact IntWalk.i64_in _ (by omega)
            have e1 : IntKind.i64.wrap (z : Int) = (z : Int) := IntWalk.i64_in _ (by omega)
            have e2 : ((z : Int) != 256 * (k : Int)) = false := by rw [hzr]; simp
            have e3 : (z != 256 * k) = false := by rw [HZ.out]; simp
            go_region_held3 (fun w' => w'.cell? ⟨wb, 0, none⟩ = some (.int .i64 s.wk)) (first | (with_reducible exact D0.out) | go_keep) (first
              | (go_at_call 21; refine (left_any _ p d cap s Cd.out).mono ?_; rintro e' wl ⟨rfl, rfl⟩))
            go_wp2_with fail
            have HNa := Lib.hid (HNa.out.below (below_drew w23))
            have HNc := Lib.hid (HNc.out.below (below_drew w23))
            have HB24 := Lib.hid (HB23.out.trans ((below_drew w23).mono HB23.out.size))
            clear e0 e1 e2 e3 d0 d1 d2 hzz hzy
            obtain ⟨W4, hW4⟩ : ∃ W', w23.drew = W' := ⟨_, rfl⟩
            rw [show w23.heap.size = w23.drew.heap.size from rfl] at HNa HNc
            rw [hW4] at HNa HNc HB24 Cd ⊢
            clear hW4 D0
            refine (apart_any Ba Bc z cba z cbc W4.heap.size E C W4 HNa.out HNc.out (Nat.le_refl _) (by omega) (by omega)).mono ?_
            rintro e w25 ⟨vv, rfl, hv, hb⟩
            obtain ⟨q, hq⟩ : ∃ q, (apartL E C).length = q := ⟨_, rfl⟩
            have HQL := Lib.hid hq
            have hqz : q ≤ z := by rw [← hq, ← HSL.out]; exact apartL_len E C (by rw [HCL.out, HSL.out])
            have HMEM := Lib.hid (show ∀ i : Nat, i < q → ∃ x : Nat, x < z ∧ (apartL E C).getD i 0 = (x : Int) ∧ E.getD x 0 ≠ C.getD x 0 from fun i hi => by
              have hm : (apartL E C).getD i 0 ∈ apartL E C := by
                rw [show (apartL E C).getD i 0 = (apartL E C)[i]'(by omega) by simp [List.getD, show i < (apartL E C).length by omega]]
                exact List.getElem_mem _
              obtain ⟨x, h1, h2, h3⟩ := (apartL_mem E C (by rw [HCL.out, HSL.out]) _).1 hm
              exact ⟨x, by rw [← HSL.out]; exact h1, h2, h3⟩)
            obtain ⟨Bx, cbx, rfl, _, hn⟩ := hv.nums fun x hx => by
              obtain ⟨i, h1, rfl, _⟩ := (apartL_mem E C (by rw [HCL.out, HSL.out]) _).1 hx
              rw [HSL.out] at h1
              exact int_wf.2 (by omega)
            rw [hq] at hn ⊢
            have HNx := Lib.hid hn
            have HNa := Lib.hid ((HNa.out.below hb).mono hb.size)
            have HNc := Lib.hid ((HNc.out.below hb).mono hb.size)
            have HB25 := Lib.hid (HB24.out.trans (hb.mono HB24.out.size))
            have C25 := Lib.hid (Cd.out.below hb)
            clear hq hv hb hn
            go_wp2_with fail
            go_loopw [18] (fun i wr' => ∃ u : Nat, u ≤ q ∧ i = .int .i64 u ∧ Below w25.heap.size w25 wr') (fun i _ => q - (intOf i).toNat)
            case atStart => exact ⟨0, Nat.zero_le _, rfl, Below.refl _ _⟩
            case round =>
              obtain ⟨u, hu, rfl, hbl⟩ := hrel
              have HBL := Lib.hid hbl
              clear hbl
              by_cases hlu : u < q
              · have hu1 : (u : Int) < (q : Int) := by omega
                have hu0 : (0 : Int) ≤ (u : Int) := by omega
                obtain ⟨x, hxz, hxe, hxn⟩ := HMEM.out u hlu
                obtain ⟨bx, ox, rfl, cx⟩ := HNx.out.cell HBL.out u hlu
                rw [hxe] at cx
                obtain ⟨ba, oa, rfl, ca⟩ := HNa.out.cell HBL.out x hxz
                obtain ⟨bc, oc, rfl, cc⟩ := HNc.out.cell HBL.out x hxz
                obtain ⟨d0, d1, d2⟩ := HWC.out _ (HB25.out.trans (HBL.out.mono HB25.out.size))
                obtain ⟨g1, g2, g3⟩ := HCA.out x (by rw [HSL.out]; exact hxz) hxn
                have HG3 := Lib.hid g3
                generalize E.getD x 0 = ex at *
                generalize C.getD x 0 = cxv at *
                generalize s.wf = wf at *
                generalize s.wm = wm at *
                clear hxn hxe g3
                have i0 : (0 : Int) ≤ (x : Int) := by omega
                have i1 : (x : Int) < (z : Int) := by omega
                have e0 : IntKind.i64.wrap (wf + wm) = wf + wm := IntWalk.i64_in _ (by omega)
                have e1 : decide ((x : Int) < wf) = false := decide_eq_false (by omega)
                have e2 : decide (wf + wm ≤ (x : Int)) = false := decide_eq_false (by omega)
                have e3 : decide ((z : Int) ≤ (x : Int)) = false := decide_eq_false (by omega)
                have e4 : decide (z ≤ x) = false := decide_eq_false (by omega)
                by_cases hw1' : s.wk = 1
                · have HBB := Lib.hid (HG3.out hw1')
                  have e5 : (bits .and .u8 cxv ex != cxv) = false := by rw [HBB.out]; simp
                  rw [hw1'] at d0
                  go_wp2_with fail
                  go_quiet (fail)
                  go_wp2_with fail
                  go_roundw
                  case rel => exact ⟨u + 1, by omega, by go_num, below_drewN HBL.out _⟩
                  case measure => simp [intOf]; omega
                · have e5 : (s.wk == 1) = false := by simp [hw1']
                  generalize s.wk = wk at *
                  go_wp2_with fail
                  go_quiet (fail)
                  go_wp2_with fail
                  go_roundw
                  case rel => exact ⟨u + 1, by omega, by go_num, below_drewN HBL.out _⟩
                  case measure => simp [intOf]; omega
              · obtain rfl : u = q := by omega
                have C26 := Lib.hid (C25.out.below HBL.out)
                have HB26 := Lib.hid (HB25.out.trans (HBL.out.mono HB25.out.size))
                have HNa := Lib.hid ((HNa.out.below HBL.out).mono HBL.out.size)
                clear HNc HNx
                go_wp2_with fail
                refine (bytes_any wr p d cap s C26.out HOS.out).mono ?_
                rintro e w27 ⟨vv, rfl, hv, hb⟩
                rw [HE.out] at hv
                obtain ⟨By, cby, rfl, _, hn⟩ := hv.nums fun x hx => byte_wf (HBY.out x hx)
                rw [HSL.out] at hn ⊢
                have HNy := Lib.hid hn
                have HNa := Lib.hid ((HNa.out.below hb).mono hb.size)
                have HB27 := Lib.hid (HB26.out.trans (hb.mono HB26.out.size))
                have C27 := Lib.hid (C26.out.below hb)
                clear hv hb hn
                go_wp2_with fail
                refine (same_refl By Ba z cby cba w27.heap.size E w27 (by unfold maxLen; omega) HNy.out HNa.out (Nat.le_refl _)).mono ?_
                rintro e w28 ⟨rfl, hb⟩
                have HNa := Lib.hid ((HNa.out.below hb).mono hb.size)
                have HB28 := Lib.hid (HB27.out.trans (hb.mono HB27.out.size))
                have C28 := Lib.hid (C27.out.below hb)
                clear hb HNy
                go_wp2_with fail
                refine (cut_any w28 p d cap s none 0 0 w28.heap.size [] C28.out HOS.out (Nums.nil _ _ _ _) (Nat.le_refl _) (Nat.le_refl _) (Nat.zero_le _)).mono ?_
                rintro e w29 ⟨Bz, cbz, rfl, _, hm, hb⟩
                rw [HCN.out] at hm
                rw [show s.data.length = z by rw [HE.out]; exact HSL.out] at hm ⊢
                have HNz := Lib.hid (hm.nums fun x hx => byte_wf (HBY.out x hx))
                have HNa := Lib.hid ((HNa.out.below hb).mono hb.size)
                have HB29 := Lib.hid (HB28.out.trans (hb.mono HB28.out.size))
                clear hb hm
                go_wp2_with fail
                refine (same_refl Bz Ba z cbz cba w29.heap.size E w29 (by unfold maxLen; omega) HNz.out HNa.out (Nat.le_refl _)).mono ?_
                rintro e w30 ⟨rfl, hb⟩
                have HB30 := Lib.hid (HB29.out.trans (hb.mono HB29.out.size))
                clear hb
                go_wp2_with fail
                go_ret
                exact ⟨rfl, HB2W.out.trans (HB30.out.mono HB2W.out.size)⟩
      · have hb3' : decide (300 < (n3 : Int)) = true := decide_eq_true (by omega)
        go_enter Try.func9, Try.ntmps9
        go_wp2_with fail
        refine (awake_any w).mono ?_
        rintro e w1 ⟨rfl, hb⟩
        have HB1 := Lib.hid hb
        clear hb
        go_wp2_with fail
        go_ret
        exact ⟨rfl, HB1.out⟩
    · have hb2' : decide (120 < (n2 : Int)) = true := decide_eq_true (by omega)
      go_enter Try.func9, Try.ntmps9
      go_wp2_with fail
      refine (awake_any w).mono ?_
      rintro e w1 ⟨rfl, hb⟩
      have HB1 := Lib.hid hb
      clear hb
      go_wp2_with fail
      go_ret
      exact ⟨rfl, HB1.out⟩
  · have hb1' : decide (40 < (n1 : Int)) = true := decide_eq_true (by omega)
    go_enter Try.func9, Try.ntmps9
    go_wp2_with fail
    refine (awake_any w).mono ?_
    rintro e w1 ⟨rfl, hb⟩
    have HB1 := Lib.hid hb
    clear hb
    go_wp2_with fail
    go_ret
    exact ⟨rfl, HB1.out⟩
end Go.Proofs.Ytojdbmkbcjaikaa
