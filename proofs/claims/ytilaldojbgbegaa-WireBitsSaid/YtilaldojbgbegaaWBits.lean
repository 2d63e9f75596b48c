/-
  THE WALK OF WireBits.
-/
import Derived.Test.YtilaldojbgbegaaWOpenL
namespace Go.Proofs.Ytilaldojbgbegaa
open Go.RowKit
set_option maxRecDepth 20000

def bitsTo (bits : List Bool) (k : Nat) : List Lev := beginL ++ (bits.take k).flatMap clockL
theorem bitsTo_succ (bits : List Bool) (k : Nat) (x : Bool) (h : bits[k]? = some x) : bitsTo bits (k + 1) = bitsTo bits k ++ clockL x := by
  unfold bitsTo
  rw [List.take_add_one, h, List.flatMap_append, List.append_assoc]
  simp
theorem bitsTo_len (bits : List Bool) (k : Nat) : (bitsTo bits k).length ≤ 4 + 3 * k := by
  have h : ∀ l : List Bool, (l.flatMap clockL).length = 3 * l.length := by
    intro l
    induction l with
    | nil => rfl
    | cons x l ih => rw [List.flatMap_cons, List.length_append, ih]; simp [clockL]; omega
  unfold bitsTo
  rw [List.length_append, h]
  simp [beginL]
  omega

/-- from a level on: all runs behind what is already there -/
def macF (a : Lev) (m : List (RunD × Bool)) : List Lev → List (RunD × Bool)
  | [] => m
  | x :: l => macF x (m.map (cs (tell a x) x.2) ++ (if tell a x = 1 then [(([], false), true)] else [])) l
theorem was_append (l : List Lev) (x : Lev) (i : Nat) (h : i ≤ l.length) : was (l ++ [x]) i = was l i := by
  cases i with
  | zero => rfl
  | succ i => simp [was, at_, List.getD, List.getElem?_append_left (show i < l.length by omega)]
theorem mac_append (l r : List Lev) : ∀ k, k ≤ l.length → mac (l ++ r) k = mac l k
  | 0, _ => rfl
  | k + 1, h => by
    have hat : ∀ i, i < l.length → at_ (l ++ r) i = at_ l i := fun i hi => by simp [at_, List.getD, List.getElem?_append_left hi]
    have hw : was (l ++ r) k = was l k := by
      cases k with
      | zero => rfl
      | succ k => exact hat k (by omega)
    have hev : ev (l ++ r) k = ev l k := by unfold ev; rw [hw, hat k (by omega)]
    rw [mac, mac, mac_append l r k (by omega), hev, hat k (by omega)]
def lastL (l : List Lev) : Lev := was l l.length
theorem lastL_snoc (l : List Lev) (x : Lev) : lastL (l ++ [x]) = x := by
  unfold lastL
  simp [was, at_, List.getD]
theorem mac_snoc (l : List Lev) (x : Lev) : mac (l ++ [x]) (l ++ [x]).length = (mac l l.length).map (cs (tell (lastL l) x) x.2) ++ (if tell (lastL l) x = 1 then [(([], false), true)] else []) := by
  have h1 : at_ (l ++ [x]) l.length = x := by simp [at_, List.getD]
  have h2 : was (l ++ [x]) l.length = lastL l := was_append l x _ (Nat.le_refl _)
  rw [List.length_append, List.length_singleton, mac, mac_append l [x] _ (Nat.le_refl _), ev, h1, h2]
theorem mac_more (r : List Lev) : ∀ l : List Lev, mac (l ++ r) (l ++ r).length = macF (lastL l) (mac l l.length) r := by
  induction r with
  | nil => intro l; simp [macF]
  | cons x r ih =>
    intro l
    have := ih (l ++ [x])
    rw [List.append_assoc] at this
    simp only [List.singleton_append] at this
    rw [this, macF, lastL_snoc, mac_snoc]
theorem lastL_more (r : List Lev) (l : List Lev) (x : Lev) (h : r.getLast? = some x) : lastL (l ++ r) = x := by
  rcases List.eq_nil_or_concat r with rfl | ⟨r', y, rfl⟩
  · simp at h
  · rw [List.concat_eq_append] at h ⊢
    rw [← List.append_assoc, lastL_snoc]
    simpa using h
theorem runs_bits (bits : List Bool) : ∀ k, k ≤ bits.length → mac (bitsTo bits k) (bitsTo bits k).length = [((bits.take k, false), true)] ∧ (lastL (bitsTo bits k)).1 = false
  | 0, _ => by
    constructor
    · have h0 : mac beginL 4 = [(([], false), true)] := by decide
      have h1 : bitsTo bits 0 = beginL := by simp [bitsTo]
      rw [h1]
      exact h0
    · have h1 : bitsTo bits 0 = beginL := by simp [bitsTo]
      rw [h1]
      rfl
  | k + 1, h => by
    obtain ⟨h1, h2⟩ := runs_bits bits k (by omega)
    obtain ⟨x, hx⟩ : ∃ x, bits[k]? = some x := ⟨bits[k]'(by omega), by simp⟩
    rw [bitsTo_succ bits k x hx]
    constructor
    · rw [mac_more, h1, List.take_add_one, hx]
      generalize lastL (bitsTo bits k) = y at *
      obtain ⟨y1, y2⟩ := y
      simp only at h2
      subst h2
      cases y2 <;> cases x <;> simp [clockL, macF, tell, cs]
    · rw [lastL_more (clockL x) _ (false, x) (by simp [clockL])]
theorem runs_all (bits : List Bool) : runs (bitsTo bits bits.length ++ endL) = [(bits ++ [false], true)] := by
  obtain ⟨h1, h2⟩ := runs_bits bits bits.length (Nat.le_refl _)
  unfold runs runsTo
  rw [mac_more, h1, List.take_length]
  generalize lastL (bitsTo bits bits.length) = y at *
  obtain ⟨y1, y2⟩ := y
  simp only at h2
  subst h2
  cases y2 <;> simp [endL, macF, tell, cs]

set_option maxRecDepth 100000 in
set_option maxHeartbeats 4000000 in
theorem wireBits_walk (w : World) (A : Option Addr) (n c : Nat) (bits : List Bool) (h : Many boolE w w.heap.size A n bits ∧ n ≤ c ∧ n ≤ maxLen) :
    Calls Try.prog 5 #[.slice A n c] w fun e w' => e = .returned (.bool true) ∧ Below w.heap.size w w' := by
  have H := Lib.hid h.1
  have HL := Lib.hid h.1.1
  clear h
  go_enter Try.func5, Try.ntmps5
  go_wp2_with fail
  refine (awake_any w).mono ?_
  rintro e w1 ⟨rfl, hb1⟩
  have HB1 := Lib.hid hb1
  clear hb1
  by_cases g0 : 60 < n
  · have g0' : (60 : Int) < (n : Int) := by omega
    go_wp2_with fail
    go_ret
    exact ⟨rfl, HB1.out⟩
  have g0' : ¬ (60 : Int) < (n : Int) := by omega
  go_wp2_with fail
  refine (begin_any w1).mono ?_
  rintro e w2 ⟨v2, rfl, ho, hb⟩
  have HO2 := Lib.hid ho
  have HB2 := Lib.hid hb
  clear ho hb
  go_wp2_with fail
  go_loopw [4, 5] (fun v i wr => ∃ k : Nat, k ≤ n ∧ i = .int .i64 k ∧ OwnM levE 30 w1.heap.size wr v (bitsTo bits k) ∧ Below w1.heap.size w1 wr) (fun _ i _ => n - (intOf i).toNat)
  case atStart => exact ⟨0, Nat.zero_le _, rfl, HO2.out, HB2.out⟩
  case round =>
    obtain ⟨k, hk, rfl, hown, hbel⟩ := hrel
    have HO := Lib.hid hown
    have HB := Lib.hid hbel
    clear hown hbel
    by_cases hlt : k < n
    · have hkn : (k : Int) < (n : Int) := by omega
      have hk0 : (0 : Int) ≤ (k : Int) := by omega
      obtain ⟨x, hx⟩ : ∃ x, bits[k]? = some x := ⟨bits[k]'(by have := HL.out; omega), by simp⟩
      obtain ⟨b, o, rfl, hc⟩ := H.out.cell (HB1.out.trans (HB.out.mono HB1.out.size)) k x hx
      have c0 : wr.cell? ⟨b, o + k, none⟩ = some (.bool x) := by simpa [boolE] using hc 0 _ rfl
      have HX := Lib.hid (bitsTo_succ bits k x hx)
      have HLB := Lib.hid (bitsTo_len bits k)
      clear hc hx
      go_wp2_with fail
      refine (clock_any wr x).mono ?_
      rintro e w4 ⟨v4, rfl, ho4, hb4⟩
      have HO4 := Lib.hid (HO.out.below hb4)
      have HB4 := Lib.hid (HB.out.trans (hb4.mono HB.out.size))
      obtain ⟨A4, c4, rfl, _, _, hm4⟩ := ho4.many
      obtain ⟨v', w', hrun, ho', hb', _⟩ := append_many elemLev w4 w1.heap.size 22 _ _ HO4.out A4 3 c4 w4.heap.size (clockL x) hm4 (by have := HLB.out; omega) HB4.out.size
      have R := Lib.hid (And.intro (show OwnM levE 30 w1.heap.size w' v' (bitsTo bits (k + 1)) by rw [HX.out]; exact ho') (HB4.out.trans hb'))
      have HRUN := Lib.hid hrun
      rw [show (clockL x).length = 3 from rfl]
      clear ho4 hb4 hm4 hrun ho' hb' c0
      go_wp2_with (at_builtin; refine Lib.wpList_append_run _ rfl _ _ _ _ rfl _ _ rfl rfl _ _ HRUN.out ?_)
      go_roundw
      case rel => exact ⟨k + 1, by omega, by go_num, R.out.1, R.out.2⟩
      case measure => simp [intOf]; omega
    · have hk' : k = n := by omega
      subst hk'
      have HRA := Lib.hid (runs_all bits)
      have HLB := Lib.hid (bitsTo_len bits k)
      rw [HL.out] at HRA
      have hk1 : k ≤ 60 := by omega
      go_wp2_with fail
      refine (end_any wr).mono ?_
      rintro e w4 ⟨v4, rfl, ho4, hb4⟩
      have HO4 := Lib.hid (HO.out.below hb4)
      have HB4 := Lib.hid (HB.out.trans (hb4.mono HB.out.size))
      obtain ⟨A4, c4, rfl, _, _, hm4⟩ := ho4.many
      obtain ⟨v', w', hrun, ho', hb', _⟩ := append_many elemLev w4 w1.heap.size 22 _ _ HO4.out A4 3 c4 w4.heap.size endL hm4 (by have := HLB.out; omega) HB4.out.size
      have R := Lib.hid (And.intro ho' (HB4.out.trans hb'))
      have HRUN := Lib.hid hrun
      rw [show endL.length = 3 from rfl]
      clear ho4 hb4 hm4 hrun ho' hb'
      go_wp2_with (at_builtin; refine Lib.wpList_append_run _ rfl _ _ _ _ rfl _ _ rfl rfl _ _ HRUN.out ?_)
      obtain ⟨A5, c5, rfl, _, _, hm5⟩ := R.out.1.many
      obtain ⟨n5, hn5⟩ : ∃ n5, (bitsTo bits k ++ endL).length = n5 := ⟨_, rfl⟩
      have HN5 := Lib.hid (show n5 ≤ 1000 by rw [← hn5, List.length_append]; have := HLB.out; simp [endL]; omega)
      rw [hn5] at hm5 ⊢
      have HM5 := Lib.hid hm5
      have HB5 := Lib.hid R.out.2
      clear hm5 hn5
      refine (runs_any w' A5 n5 c5 w'.heap.size _ HM5.out (Nat.le_refl _) HN5.out).mono ?_
      intro e w6 ht
      obtain ⟨A6, d6, rfl, hm, hb⟩ := ht.reads
      rw [HRA.out] at hm ⊢
      have HR6 := Lib.hid (show RunsM w6 w6.heap.size A6 1 [(bits ++ [false], true)] from hm)
      have HB6 := Lib.hid (HB5.out.trans (hb.mono HB5.out.size))
      rw [show [(bits ++ [false], true)].length = 1 from rfl]
      clear ht hm hb
      have ho7 := own_new boolE w6 4 [] #[] rfl (by decide)
      have hb7 := below_box w6 (.cells #[] 4)
      obtain ⟨v7, w7, hr7, hq7, hl7, _⟩ := append_many elemBool (w6.alloc (.cells #[] 4)) w6.heap.size 36 _ [] ho7 A k c w.heap.size bits (H.out.below ((HB1.out.trans (HB6.out.mono HB1.out.size)).trans (hb7.mono (HB1.out.trans (HB6.out.mono HB1.out.size)).size))) (by simp; omega) (by simp)
      rw [List.nil_append] at hq7
      obtain ⟨v8, w8, hr8, hq8, hl8, _⟩ := append_onem elemBool w7 w6.heap.size 36 v7 bits hq7 false #[.bool false] rfl (by have := HL.out; omega) (hb7.trans hl7).size
      obtain ⟨A8, c8, hv8⟩ := hq8.form
      subst hv8
      have hl89 : (bits ++ [false]).length = k + 1 := by simp [HL.out]
      rw [hl89] at hr8 hq8
      have hm9 := many_new runE w8 40 [((A8, k + 1, c8), true)] #[.slice A8 (k + 1) c8, .bool true] rfl
      have hb9 := below_box w8 (.cells #[.slice A8 (k + 1) c8, .bool true] 40)
      obtain ⟨A8', c8', e8, _, _, hmb⟩ := hq8.many
      injection e8 with e8 e9 e10
      subst e8 e10
      clear e9
      rw [hl89] at hmb
      have HR9 := Lib.hid (show RunsM (w8.alloc (.cells #[.slice A8 (k + 1) c8, .bool true] 40)) (w8.heap.size + 1) (some ⟨w8.heap.size, 0, none⟩) 1 [(bits ++ [false], true)] from
        ⟨_, hm9, rfl, fun i x r hx hr => by
          have hi : i = 0 := by
            have := (List.getElem?_eq_some_iff.1 hx).1
            simp at this
            omega
          subst hi
          simp at hx hr
          subst hx hr
          exact ⟨rfl, (hmb.below hb9).mono (Nat.le_succ _)⟩⟩)
      have HB68 := Lib.hid (show Below w6.heap.size w6 (w8.alloc (.cells #[.slice A8 (k + 1) c8, .bool true] 40)) from ((hb7.trans hl7).trans hl8).trans (hb9.mono ((hb7.trans hl7).trans hl8).size))
      have HSZ := Lib.hid (show (w8.alloc (.cells #[.slice A8 (k + 1) c8, .bool true] 40)).heap.size = w8.heap.size + 1 by simp)
      have HR69 := Lib.hid ((HR6.out.below HB68.out).mono (show w6.heap.size ≤ w8.heap.size + 1 by have := HB68.out.size; have := HSZ.out; omega))
      have HB9 := Lib.hid (HB1.out.trans ((HB6.out.trans (HB68.out.mono HB6.out.size)).mono HB1.out.size))
      have HR7 := Lib.hid hr7
      have HR8 := Lib.hid hr8
      have hlb : ∀ x ∈ [(bits ++ [false], true)], (x : RunD).1.length ≤ 1000 := fun x hx => by
        simp at hx
        rw [hx]
        show (bits ++ [false]).length ≤ 1000
        omega
      have HLB2 := Lib.hid hlb
      clear ho7 hb7 hr7 hq7 hl7 hr8 hq8 hl8 hm9 hb9 hmb hlb hl89
      go_wp2_with (at_builtin; first
        | (refine append_wanted _ (by rfl) _ _ _ _ rfl _ _ rfl rfl _ _ HR7.out ?_)
        | (refine append_wanted _ (by rfl) _ _ _ _ rfl _ _ rfl rfl _ _ HR8.out ?_))
      refine (runsSame_refl _ A6 (some ⟨w8.heap.size, 0, none⟩) 1 d6 1 (w8.heap.size + 1) _ HR69.out HR9.out (by have := HSZ.out; omega) (by decide) HLB2.out).mono ?_
      rintro e w9 ⟨rfl, hb⟩
      have HB10 := Lib.hid (HB9.out.trans (hb.mono HB9.out.size))
      clear hb
      go_wp2_with fail
      go_ret
      exact ⟨rfl, HB10.out⟩
end Go.Proofs.Ytilaldojbgbegaa
