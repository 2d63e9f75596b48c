/-
  THE WALKS OF keepsakelaw10.steps, put, get, waits.
-/
import Derived.Test.YtfcdlnpfneinlaaDoorEStep
import Derived.Test.YtfcdlnpfneinlaaDoorEPut
namespace Go.Proofs.YtfcdlnpfneinlaaDoor
open Go.RowKit
set_option maxRecDepth 20000

/-- levels, one behind the other -/
def Chip.steps (s : Chip) (wp : Bool) (l : List Lev) : Chip := l.foldl (fun s x => s.step x.1 x.2 wp) s
theorem steps_snoc (s : Chip) (wp : Bool) (l : List Lev) (x : Lev) : s.steps wp (l ++ [x]) = (s.steps wp l).step x.1 x.2 wp := by simp [Chip.steps]
theorem steps_append (s : Chip) (wp : Bool) (l m : List Lev) : s.steps wp (l ++ m) = (s.steps wp l).steps wp m := by simp [Chip.steps]
theorem steps_take (s : Chip) (wp : Bool) (l : List Lev) (k : Nat) (x : Lev) (h : l[k]? = some x) : s.steps wp (l.take (k + 1)) = (s.steps wp (l.take k)).step x.1 x.2 wp := by
  rw [← steps_snoc]
  congr 1
  rw [List.take_add_one, h]
  rfl
theorem steps_ok {s : Chip} {n : Int} (wp : Bool) (l : List Lev) (h : s.Ok n) (hn : 0 ≤ n) : (s.steps wp l).Ok (n + l.length) := by
  induction l using snoc_rec with
  | h0 => simpa [Chip.steps] using h
  | h1 l x ih =>
    rw [steps_snoc]
    have := ih.step (by omega) x.1 x.2 wp
    rw [List.length_append]
    simpa [Int.add_assoc] using this
theorem steps_ok6 {s : Chip} {n : Int} (wp : Bool) (l : List Lev) (h : s.Ok n) (hn : 0 ≤ n) (hl : n + l.length ≤ 1000000) (k : Nat) : (s.steps wp (l.take k)).Ok 1000000 :=
  (steps_ok wp (l.take k) h hn).mono (by have h9 : (l.take k).length ≤ l.length := by { rw [List.length_take]; omega }; omega)
theorem steps_join {s : Chip} (wp : Bool) (l : List Lev) (h : s.join = false) : (s.steps wp l).join = false := by
  induction l using snoc_rec with
  | h0 => exact h
  | h1 l x ih => rw [steps_snoc]; exact Chip.step_join _ _ _ _ ih
/-- a row of levels lies beside the chip's -/
theorem own_keeps {w w1 : World} {F : Nat → Prop} {t base : Nat} {v : Value} {l : List Lev} (h : OwnM levE t base w v l) (hF : ∀ g, v.ownBlock = some g → ¬ F g) (hk : Keeps F w w1) : OwnM levE t base w1 v l := h.keeps hk hF

set_option maxRecDepth 100000 in
set_option maxHeartbeats 4000000 in
theorem stepsLaw_any (w : World) (p : Nat) (F : Nat → Prop) (s : Chip) (n : Int) (A : Option Addr) (m c : Nat) (t base : Nat) (l : List Lev) (wp : Bool) (h : ChipAt w p F s) (hok : s.Ok n) (hj : s.join = false) (hn0 : 0 ≤ n)
    (hl : OwnM levE t base w (.slice A m c) l) (hF : ∀ g, (Value.slice A m c).ownBlock = some g → ¬ F g) (hm : m = l.length) (hn : n + l.length ≤ 1000000) :
    Calls Tryd.prog 27 #[.pointer (some ⟨p, 0, none⟩), .slice A m c, .bool wp] w (Did p F (s.steps wp l) w) := by
  have HT := Lib.hid h.tab
  have HW := Lib.hid h.went
  have HO := Lib.hid hok
  have HJ := Lib.hid hj
  have HL := Lib.hid hl
  have HF := Lib.hid hF
  have HM := Lib.hid hm
  have HN := Lib.hid hn
  have hmm : m ≤ 1000000 := by omega
  clear h hok hj hl hF hm hn
  go_enter Tryd.func27, Tryd.ntmps27
  go_wp2_with fail
  go_loopw [6] (fun i wr => ∃ k : Nat, k ≤ m ∧ i = .int .i64 k ∧ Went p F (s.steps wp (l.take k)) w wr) (fun i _ => m - (intOf i).toNat)
  case atStart => exact ⟨0, Nat.zero_le _, rfl, HW.out⟩
  case round =>
    obtain ⟨k, hk, rfl, hz⟩ := hrel
    have Z := Lib.hid hz
    clear hz
    by_cases hlt : k < m
    · obtain ⟨x, hx⟩ : ∃ x, l[k]? = some x := ⟨l[k]'(by have := HM.out; omega), by simp [show k < l.length by have := HM.out; omega]⟩
      obtain ⟨g, c', e, hg1, hg2, _, hc⟩ := (own_keeps HL.out HF.out Z.out.2).cell k x hx
      injection e with e1 e2 e3
      subst e1
      clear e2 e3
      have c0 : wr.cell? ⟨g, k * 2, none⟩ = some (.bool x.1) := (hc 0 (.bool x.1) rfl).1
      have c1 : wr.cell? ⟨g, k * 2 + 1, none⟩ = some (.bool x.2) := (hc 1 (.bool x.2) rfl).1
      have HX := Lib.hid (steps_take s wp l k x hx)
      have HO1 := Lib.hid (steps_ok6 wp l HO.out hn0 HN.out k)
      have HJ1 := Lib.hid (steps_join wp (l.take k) HJ.out)
      have hk1 : (k : Int) < (m : Int) := by omega
      have hk0 : (0 : Int) ≤ (k : Int) := by omega
      have Z1 := Lib.hid (Z.out.calm (below_drew _) HT.out)
      obtain ⟨x0, x1⟩ := x
      clear hc hx
      go_wp2_with fail
      go_region_with (go_at_call 15; refine (chipStep_any _ p _ _ 1000000 x0 x1 wp Z1.out.1 HO1.out HJ1.out (Int.le_refl _)).mono ?_; rintro e' w3 ⟨rfl, hz⟩)
      all_goals
        have Z2 := Lib.hid (Z1.out.then_ hz HT.out)
        clear hz c0 c1
        go_wp2_with fail
        go_roundw
        case rel => exact ⟨k + 1, by omega, by go_num, by rw [HX.out]; exact Z2.out⟩
        case measure => simp [intOf]; omega
    · obtain rfl : k = m := by omega
      have HR := Lib.hid (show l.take k = l by rw [HM.out]; exact List.take_of_length_le (Nat.le_refl _))
      go_wp2_with fail
      go_end0
      rw [HR.out] at Z
      exact ⟨rfl, Z.out⟩
/-- is a byte acknowledged? -/
def Chip.acks (s : Chip) (b : Int) : Int := if (s.steps false ((putLv b true).take 26)).pulls then 1 else 0
def lowAt (s : Chip) (l : List Lev) (k : Nat) : Int := if 26 ≤ k ∧ (s.steps false (l.take 26)).pulls = true then 1 else 0
theorem lowAt_next (s : Chip) (l : List Lev) (k : Nat) (h : k ≠ 25) : lowAt s l (k + 1) = lowAt s l k := by
  unfold lowAt
  by_cases h1 : 26 ≤ k
  · have : 26 ≤ k + 1 := by omega
    simp [h1, this]
  · have : ¬ 26 ≤ k + 1 := by omega
    simp [h1, this]
theorem lowAt_yes (s : Chip) (l : List Lev) (h : (s.steps false (l.take 26)).pulls = true) : lowAt s l 26 = 1 := by simp [lowAt, h]
theorem lowAt_no (s : Chip) (l : List Lev) (h : (s.steps false (l.take 26)).pulls = false) : lowAt s l 26 = lowAt s l 25 := by simp [lowAt, h]
theorem lowAt_end (s : Chip) (l : List Lev) : lowAt s l 27 = if (s.steps false (l.take 26)).pulls then 1 else 0 := by simp [lowAt]
theorem lowAt_start (s : Chip) (l : List Lev) : lowAt s l 0 = 0 := by simp [lowAt]
def Chip.put (s : Chip) (b : Int) : Chip := s.steps false (putLv b true)
theorem putLv_25 (b : Int) (a : Bool) : (putLv b a)[25]? = some (true, a) := by
  unfold putLv
  rw [List.getElem?_append_right (by rw [bitsTo_len]; omega), bitsTo_len]
  rfl
set_option maxRecDepth 100000 in
set_option maxHeartbeats 4000000 in
theorem put_any (w : World) (p : Nat) (F : Nat → Prop) (s : Chip) (n b : Int) (h : ChipAt w p F s) (hok : s.Ok n) (hj : s.join = false) (hn0 : 0 ≤ n) (hn : n + 27 ≤ 1000000) (hb0 : 0 ≤ b) (hb1 : b ≤ 255) :
    Calls Tryd.prog 26 #[.pointer (some ⟨p, 0, none⟩), .int .u8 b] w fun e w' => e = .returned (.int .i64 (s.acks b)) ∧ Went p F (s.put b) w w' := by
  have HT := Lib.hid h.tab
  have HH := Lib.hid h
  have HO := Lib.hid hok
  have HJ := Lib.hid hj
  obtain ⟨l, hl⟩ : ∃ l, putLv b true = l := ⟨_, rfl⟩
  have hlen : l.length = 27 := by rw [← hl]; exact putLv_len b true
  have h25 : l[25]? = some (true, true) := by rw [← hl]; exact putLv_25 b true
  have HLE := Lib.hid hl
  have HLEN := Lib.hid hlen
  have H25 := Lib.hid h25
  have HA := Lib.hid (show s.acks b = if (s.steps false (l.take 26)).pulls then 1 else 0 by unfold Chip.acks; rw [hl])
  have HP := Lib.hid (show s.put b = s.steps false l by unfold Chip.put; rw [hl])
  have HN := Lib.hid (show n + l.length ≤ 1000000 by rw [hlen]; exact hn)
  clear h hok hj hl hlen h25 hn
  go_enter Tryd.func26, Tryd.ntmps26
  go_wp2_with fail
  refine (putLv_any w b true hb0 hb1).mono ?_
  rintro e w1 ⟨v, rfl, ho, hb⟩
  rw [HLE.out] at ho
  obtain ⟨A, c, rfl⟩ := ho.form
  rw [HLEN.out] at ho ⊢
  have HL := Lib.hid ho
  have HC1 := Lib.hid (HH.out.below hb)
  have HB := Lib.hid hb
  have HF := Lib.hid (show ∀ g, (Value.slice A 27 c).ownBlock = some g → ¬ F g from fun g hg hFg => by have := (ho.lt hg).1; have := HH.out.there g hFg; omega)
  have HT1 := Lib.hid HC1.out.tab
  have HW1 := Lib.hid HC1.out.went
  clear ho hb
  go_wp2_with fail
  go_loopw [6, 7, 8] (fun q i _ wr => ∃ k : Nat, k ≤ 27 ∧ i = .int .i64 k ∧ q = .int .i64 (lowAt s l k) ∧ Went p F (s.steps false (l.take k)) w1 wr) (fun _ i _ _ => 27 - (intOf i).toNat)
  case atStart => exact ⟨0, Nat.zero_le _, rfl, by rw [lowAt_start], HW1.out⟩
  case round =>
    obtain ⟨k, hk, rfl, rfl, hz⟩ := hrel
    have Z := Lib.hid hz
    clear hz
    by_cases hlt : k < 27
    · obtain ⟨x, hx⟩ : ∃ x, l[k]? = some x := ⟨l[k]'(by have := HLEN.out; omega), by simp [show k < l.length by have := HLEN.out; omega]⟩
      obtain ⟨g, c', e, hg1, hg2, _, hc⟩ := (own_keeps HL.out HF.out Z.out.2).cell k x hx
      injection e with e1 e2 e3
      subst e1
      clear e2 e3
      have c0 : wr.cell? ⟨g, k * 2, none⟩ = some (.bool x.1) := (hc 0 (.bool x.1) rfl).1
      have c1 : wr.cell? ⟨g, k * 2 + 1, none⟩ = some (.bool x.2) := (hc 1 (.bool x.2) rfl).1
      have HX := Lib.hid (steps_take s false l k x hx)
      have HXX := Lib.hid hx
      have HO1 := Lib.hid (steps_ok6 false l HO.out hn0 HN.out k)
      have HJ1 := Lib.hid (steps_join false (l.take k) HJ.out)
      have hk1 : (k : Int) < 27 := by omega
      have hk0 : (0 : Int) ≤ (k : Int) := by omega
      have Z1 := Lib.hid (Z.out.calm (below_drew _) HT1.out)
      by_cases h25 : k = 25
      · subst h25
        obtain rfl : x = (true, true) := by have := HXX.out.symm.trans H25.out; injection this
        obtain ⟨s', hs'⟩ : ∃ s', (s.steps false (l.take 25)).step true true false = s' := ⟨_, rfl⟩
        have HS' := Lib.hid hs'
        rw [hs'] at HX
        obtain ⟨q, hq⟩ : ∃ q, s'.pulls = q := ⟨_, rfl⟩
        have HQ := Lib.hid (show (s.steps false (l.take 26)).pulls = q by rw [HX.out]; exact hq)
        have HQ2 := Lib.hid (show s'.out true = !q by rw [out_true, hq])
        clear hc hx hs' hq
        cases q
        · have HLO := Lib.hid (lowAt_no s l HQ.out)
          go_wp2_with fail
          go_region_with (go_at_call 15; refine (chipStep_any _ p _ _ 1000000 true true false Z1.out.1 HO1.out HJ1.out (Int.le_refl _)).mono ?_; rintro e' w3 ⟨rfl, hz⟩; rw [HS'.out, HQ2.out]; rw [HS'.out] at hz)
          all_goals
            have Z2 := Lib.hid (Z1.out.then_ hz HT1.out)
            clear hz c0 c1
            go_wp2_with fail
            go_roundw
            case rel => exact ⟨26, by omega, rfl, by rw [HLO.out], by rw [HX.out]; exact Z2.out⟩
            case measure => simp [intOf]
        · have HLO := Lib.hid (lowAt_yes s l HQ.out)
          go_wp2_with fail
          go_region_with (go_at_call 15; refine (chipStep_any _ p _ _ 1000000 true true false Z1.out.1 HO1.out HJ1.out (Int.le_refl _)).mono ?_; rintro e' w3 ⟨rfl, hz⟩; rw [HS'.out, HQ2.out]; rw [HS'.out] at hz)
          all_goals
            have Z2 := Lib.hid (Z1.out.then_ hz HT1.out)
            clear hz c0 c1
            go_wp2_with fail
            go_roundw
            case rel => exact ⟨26, by omega, rfl, by rw [HLO.out], by rw [HX.out]; exact Z2.out⟩
            case measure => simp [intOf]
      · have HLO := Lib.hid (lowAt_next s l k h25)
        have h25' : ((k : Int) == 25) = false := by simp; omega
        obtain ⟨x0, x1⟩ := x
        clear hc hx h25
        go_wp2_with fail
        go_region_with (go_at_call 15; refine (chipStep_any _ p _ _ 1000000 x0 x1 false Z1.out.1 HO1.out HJ1.out (Int.le_refl _)).mono ?_; rintro e' w3 ⟨rfl, hz⟩)
        all_goals
          have Z2 := Lib.hid (Z1.out.then_ hz HT1.out)
          clear hz c0 c1
          go_wp2_with fail
          go_roundw
          case rel => exact ⟨k + 1, by omega, by go_num, by rw [HLO.out], by rw [HX.out]; exact Z2.out⟩
          case measure => simp [intOf]; omega
    · obtain rfl : k = 27 := by omega
      have HR := Lib.hid (show l.take 27 = l by rw [← HLEN.out]; exact List.take_of_length_le (Nat.le_refl _))
      go_wp2_with fail
      go_ret
      rw [HR.out] at Z
      rw [HA.out, HP.out, ← lowAt_end]
      exact ⟨rfl, Went.after HB.out Z.out HT.out⟩
end Go.Proofs.YtfcdlnpfneinlaaDoor
