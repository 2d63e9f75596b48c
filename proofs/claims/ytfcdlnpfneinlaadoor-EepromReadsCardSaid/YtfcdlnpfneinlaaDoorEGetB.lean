/-
  THE WALK OF keepsakelaw10.get.
-/
import Derived.Test.YtfcdlnpfneinlaaDoorELaw
namespace Go.Proofs.YtfcdlnpfneinlaaDoor
open Go.RowKit
set_option maxRecDepth 20000

/-- the number that the bits are, as far as they were read -/
def getN (s : Chip) (l : List Lev) : Nat → Int
  | 0 => 0
  | k + 1 => if k % 3 = 1 ∧ k < 24 then 2 * getN s l k + (if (s.steps false (l.take (k + 1))).pulls then 0 else 1) else getN s l k
theorem getN_bound (s : Chip) (l : List Lev) (k : Nat) : 0 ≤ getN s l k ∧ getN s l k + 1 ≤ 2 ^ k := by
  induction k with
  | zero => simp [getN]
  | succ k ih =>
    rw [getN, Int.pow_succ]
    have : (1 : Int) ≤ 2 ^ k := by omega
    generalize (2 : Int) ^ k = x at *
    split
    · split <;> omega
    · omega
theorem getN_small (s : Chip) (l : List Lev) (k : Nat) (h : k ≤ 27) : 0 ≤ getN s l k ∧ getN s l k ≤ 134217728 := by
  have h1 := getN_bound s l k
  have h2 : ∀ k : Nat, k < 28 → (2 : Int) ^ k ≤ 134217728 := by decide
  have h3 := h2 k (by omega)
  omega
theorem ones (a : Bool) (k : Nat) (h : k < 24) (x : Lev) (hx : (putLv 255 a)[k]? = some x) : x.2 = true := by
  unfold putLv at hx
  rw [List.getElem?_append_left (by rw [bitsTo_len]; omega)] at hx
  have : ∀ k, k < 24 → ((bitsTo 255 8)[k]?).map (·.2) = some true := by decide
  have := this k h
  rw [hx] at this
  simpa using this
/-- what is read, of eight bits; and the chip behind it -/
def Chip.gets (s : Chip) (ack : Bool) : Int := getN s (putLv 255 (!ack)) 27
def Chip.get (s : Chip) (ack : Bool) : Chip := s.steps false (putLv 255 (!ack))
set_option maxRecDepth 100000 in
set_option maxHeartbeats 4000000 in
theorem get_any (w : World) (p : Nat) (F : Nat → Prop) (s : Chip) (n : Int) (a : Bool) (h : ChipAt w p F s) (hok : s.Ok n) (hj : s.join = false) (hn0 : 0 ≤ n) (hn : n + 27 ≤ 1000000) :
    Calls Tryd.prog 33 #[.pointer (some ⟨p, 0, none⟩), .bool a] w fun e w' => e = .returned (.int .i64 (s.gets a)) ∧ Went p F (s.get a) w w' := by
  have HT := Lib.hid h.tab
  have HH := Lib.hid h
  have HO := Lib.hid hok
  have HJ := Lib.hid hj
  obtain ⟨l, hl⟩ : ∃ l, putLv 255 (!a) = l := ⟨_, rfl⟩
  have hlen : l.length = 27 := by rw [← hl]; exact putLv_len 255 _
  have HLE := Lib.hid hl
  have HLEN := Lib.hid hlen
  have HON := Lib.hid (show ∀ k, k < 24 → ∀ x, l[k]? = some x → x.2 = true from fun k hk x hx => ones (!a) k hk x (by rw [hl]; exact hx))
  have HA := Lib.hid (show s.gets a = getN s l 27 by unfold Chip.gets; rw [hl])
  have HP := Lib.hid (show s.get a = s.steps false l by unfold Chip.get; rw [hl])
  have HN := Lib.hid (show n + l.length ≤ 1000000 by rw [hlen]; exact hn)
  clear h hok hj hl hlen hn
  go_enter Tryd.func33, Tryd.ntmps33
  go_wp2_with fail
  refine (putLv_any w 255 (!a) (by omega) (by omega)).mono ?_
  rintro e w1 ⟨v, rfl, ho, hb⟩
  rw [HLE.out] at ho
  obtain ⟨A, c, rfl⟩ := ho.form
  rw [HLEN.out] at ho ⊢
  have HL := Lib.hid ho
  have HC1 := Lib.hid (HH.out.below hb)
  have HB := Lib.hid hb
  have HF := Lib.hid (show ∀ g, (Value.slice A 27 c).ownBlock = some g → ¬ F g from fun g hg hFg => by have := (ho.lt hg).1; have := HH.out.there g hFg; omega)
  have HT1 := Lib.hid HC1.out.tab
  have HW1 := Lib.hid HC1.out.went
  clear ho hb
  go_wp2_with fail
  go_loopw [6, 7, 8] (fun q i _ wr => ∃ k : Nat, k ≤ 27 ∧ i = .int .i64 k ∧ q = .int .i64 (getN s l k) ∧ Went p F (s.steps false (l.take k)) w1 wr) (fun _ i _ _ => 27 - (intOf i).toNat)
  case atStart => exact ⟨0, Nat.zero_le _, rfl, rfl, HW1.out⟩
  case round =>
    obtain ⟨k, hk, rfl, rfl, hz⟩ := hrel
    have Z := Lib.hid hz
    clear hz
    have hgb := getN_small s l k hk
    by_cases hlt : k < 27
    · obtain ⟨x, hx⟩ : ∃ x, l[k]? = some x := ⟨l[k]'(by have := HLEN.out; omega), by simp [show k < l.length by have := HLEN.out; omega]⟩
      obtain ⟨g, c', e, hg1, hg2, _, hc⟩ := (own_keeps HL.out HF.out Z.out.2).cell k x hx
      injection e with e1 e2 e3
      subst e1
      clear e2 e3
      have c0 : wr.cell? ⟨g, k * 2, none⟩ = some (.bool x.1) := (hc 0 (.bool x.1) rfl).1
      have c1 : wr.cell? ⟨g, k * 2 + 1, none⟩ = some (.bool x.2) := (hc 1 (.bool x.2) rfl).1
      have HX := Lib.hid (steps_take s false l k x hx)
      have hone := fun h => HON.out k h x hx
      have HO1 := Lib.hid (steps_ok6 false l HO.out hn0 HN.out k)
      have HJ1 := Lib.hid (steps_join false (l.take k) HJ.out)
      have hk1 : (k : Int) < 27 := by omega
      have hk0 : (0 : Int) ≤ (k : Int) := by omega
      have Z1 := Lib.hid (Z.out.calm (below_drew _) HT1.out)
      by_cases h3 : k % 3 = 1
      · have h3' : ((k : Int) % 3 == 1) = true := by simp; omega
        by_cases h24 : k < 24
        · obtain ⟨x0, x1⟩ := x
          obtain rfl : x1 = true := hone h24
          have hk24 : (k : Int) < 24 := by omega
          obtain ⟨s', hs'⟩ : ∃ s', (s.steps false (l.take k)).step x0 true false = s' := ⟨_, rfl⟩
          have HS' := Lib.hid hs'
          rw [show ((x0, true) : Lev).1 = x0 from rfl, show ((x0, true) : Lev).2 = true from rfl, hs'] at HX
          obtain ⟨q, hq⟩ : ∃ q, s'.pulls = q := ⟨_, rfl⟩
          have HQ := Lib.hid (show getN s l (k + 1) = 2 * getN s l k + (if q then 0 else 1) by rw [getN, if_pos ⟨h3, h24⟩, HX.out, hq])
          have HQ2 := Lib.hid (show s'.out true = !q by rw [out_true, hq])
          obtain ⟨v, hv⟩ : ∃ v, getN s l k = v := ⟨_, rfl⟩
          rw [hv] at HQ hgb ⊢
          obtain ⟨hg0, hgm⟩ := hgb
          clear hc hx hs' hq hone h3 hv h24
          cases q
          all_goals
            go_wp2_with fail
            go_region_with (go_at_call 15; refine (chipStep_any _ p _ _ 1000000 x0 true false Z1.out.1 HO1.out HJ1.out (Int.le_refl _)).mono ?_; rintro e' w3 ⟨rfl, hz⟩; rw [HS'.out, HQ2.out]; rw [HS'.out] at hz)
            all_goals
              have Z2 := Lib.hid (Z1.out.then_ hz HT1.out)
              clear hz c0 c1
              go_wp2_with fail
              go_roundw
              case rel => exact ⟨k + 1, by omega, by go_num, (by rw [HQ.out]; try simp), by rw [HX.out]; exact Z2.out⟩
              case measure => simp [intOf]; omega
        · have hk24 : ¬ (k : Int) < 24 := by omega
          have HQ := Lib.hid (show getN s l (k + 1) = getN s l k by rw [getN, if_neg (by omega)])
          obtain ⟨x0, x1⟩ := x
          clear hc hx hone h3 h24
          go_wp2_with fail
          go_region_with (go_at_call 15; refine (chipStep_any _ p _ _ 1000000 x0 x1 false Z1.out.1 HO1.out HJ1.out (Int.le_refl _)).mono ?_; rintro e' w3 ⟨rfl, hz⟩)
          all_goals
            have Z2 := Lib.hid (Z1.out.then_ hz HT1.out)
            clear hz c0 c1
            go_wp2_with fail
            go_roundw
            case rel => exact ⟨k + 1, by omega, by go_num, by rw [HQ.out], by rw [HX.out]; exact Z2.out⟩
            case measure => simp [intOf]; omega
      · have h3' : ((k : Int) % 3 == 1) = false := by simp; omega
        have HQ := Lib.hid (show getN s l (k + 1) = getN s l k by rw [getN, if_neg (by omega)])
        obtain ⟨x0, x1⟩ := x
        clear hc hx hone h3
        go_wp2_with fail
        go_region_with (go_at_call 15; refine (chipStep_any _ p _ _ 1000000 x0 x1 false Z1.out.1 HO1.out HJ1.out (Int.le_refl _)).mono ?_; rintro e' w3 ⟨rfl, hz⟩)
        all_goals
          have Z2 := Lib.hid (Z1.out.then_ hz HT1.out)
          clear hz c0 c1
          go_wp2_with fail
          go_roundw
          case rel => exact ⟨k + 1, by omega, by go_num, by rw [HQ.out], by rw [HX.out]; exact Z2.out⟩
          case measure => simp [intOf]; omega
    · obtain rfl : k = 27 := by omega
      have HR := Lib.hid (show l.take 27 = l by rw [← HLEN.out]; exact List.take_of_length_le (Nat.le_refl _))
      go_wp2_with fail
      go_ret
      rw [HR.out] at Z
      rw [HA.out, HP.out]
      exact ⟨rfl, Went.after HB.out Z.out HT.out⟩
end Go.Proofs.YtfcdlnpfneinlaaDoor
