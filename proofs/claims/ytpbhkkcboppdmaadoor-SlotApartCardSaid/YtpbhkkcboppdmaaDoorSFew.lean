/-
  WHAT COMES IN: operations; the walk of few.
-/
import Derived.Test.YtpbhkkcboppdmaaDoorDCrash
import Derived.Test.YtpbhkkcboppdmaaDoorHBase
import Derived.WalkLawsBesides
namespace Go.Proofs.YtpbhkkcboppdmaaDoor
open Ks Go.RowKit Dsk
set_option maxRecDepth 20000

/-- an operation -/
structure OpD where
  kind : Int
  which : Int
  seq : Int
  b : List Int
  num : Int
  tears : List (Int × List Int)

/-- numbers that are lengths, and kinds of their types -/
structure OpD.ok (o : OpD) : Prop where
  kind : 0 ≤ o.kind ∧ o.kind ≤ 255
  which : -9223372036854775808 ≤ o.which ∧ o.which ≤ 9223372036854775807
  seq : 0 ≤ o.seq ∧ o.seq < 18446744073709551616
  num : 0 ≤ o.num ∧ o.num ≤ 255
  blen : o.b.length ≤ maxLen
  b8 : ∀ z ∈ o.b, 0 ≤ z ∧ z ≤ 255
  tlen : o.tears.length ≤ maxLen
  tears : ∀ t ∈ o.tears, t.2.length ≤ maxLen ∧ ∀ z ∈ t.2, 0 ≤ z ∧ z ≤ 255
/-- an operation's values -/
def OpVals (w : World) (G : Nat → Prop) (bv tv : Value) (o : OpD) : Prop := Bys w G bv o.b ∧ Tears w G tv o.tears
def OpsAt (w : World) (G : Nat → Prop) (v : Value) (l : List OpD) : Prop :=
  ∃ A c, v = .slice A l.length c ∧ l.length ≤ c ∧ (0 < l.length → ∃ b o, A = some ⟨b, o, none⟩ ∧ G b ∧ ∀ (k : Nat) (x : OpD), l[k]? = some x → w.cell? ⟨b, o + k * 6, none⟩ = some (.int .u8 x.kind) ∧ w.cell? ⟨b, o + k * 6 + 1, none⟩ = some (.int .i64 x.which) ∧
    w.cell? ⟨b, o + k * 6 + 2, none⟩ = some (.int .u64 x.seq) ∧ w.cell? ⟨b, o + k * 6 + 4, none⟩ = some (.int .u8 x.num) ∧ ∃ bv tv, w.cell? ⟨b, o + k * 6 + 3, none⟩ = some bv ∧ w.cell? ⟨b, o + k * 6 + 5, none⟩ = some tv ∧ OpVals w G bv tv x)

theorem OpVals.keeps {w w' : World} {G S : Nat → Prop} {bv tv : Value} {o : OpD} (h : OpVals w G bv tv o) (hk : Keeps S w w') (hS : ∀ b, G b → b < w.heap.size → ¬ S b) : OpVals w' G bv tv o :=
  ⟨h.1.keeps hk hS, h.2.keeps hk hS⟩
theorem OpsAt.keeps {w w' : World} {G S : Nat → Prop} {v : Value} {l : List OpD} (h : OpsAt w G v l) (hk : Keeps S w w') (hS : ∀ b, G b → b < w.heap.size → ¬ S b) : OpsAt w' G v l := by
  obtain ⟨A, c, rfl, hc, h⟩ := h
  refine ⟨A, c, rfl, hc, fun h0 => ?_⟩
  obtain ⟨b, o, rfl, hG, hcell⟩ := h h0
  refine ⟨b, o, rfl, hG, fun k x hx => ?_⟩
  obtain ⟨h1, h2, h6, h7, bv, tv, h3, h4, h5⟩ := hcell k x hx
  have hl := block_lt_of_cell h1
  exact ⟨(hk.cell hl (hS b hG hl)).trans h1, (hk.cell hl (hS b hG hl)).trans h2, (hk.cell hl (hS b hG hl)).trans h6, (hk.cell hl (hS b hG hl)).trans h7, bv, tv, (hk.cell hl (hS b hG hl)).trans h3, (hk.cell hl (hS b hG hl)).trans h4, h5.keeps hk hS⟩

theorem Dsk.Tears.form {w : World} {F : Nat → Prop} {v : Value} {ts : List (Int × List Int)} (h : Tears w F v ts) : ∃ A c, v = .slice A ts.length c := by
  obtain ⟨A, c, e, _⟩ := h
  exact ⟨A, c, e⟩
theorem OpsAt.form {w : World} {F : Nat → Prop} {v : Value} {l : List OpD} (h : OpsAt w F v l) : ∃ A c, v = .slice A l.length c := by
  obtain ⟨A, c, e, _⟩ := h
  exact ⟨A, c, e⟩
/-- the k-th operation's cells -/
theorem OpsAt.at_ {w : World} {G : Nat → Prop} {A : Option Addr} {n c : Nat} {l : List OpD} (h : OpsAt w G (.slice A n c) l) {k : Nat} {x : OpD} (hx : l[k]? = some x) :
    ∃ b o A1 c1 A2 c2, A = some ⟨b, o, none⟩ ∧ G b ∧ n ≤ c ∧ w.cell? ⟨b, o + k * 6, none⟩ = some (.int .u8 x.kind) ∧ w.cell? ⟨b, o + k * 6 + 1, none⟩ = some (.int .i64 x.which) ∧ w.cell? ⟨b, o + k * 6 + 2, none⟩ = some (.int .u64 x.seq) ∧
      w.cell? ⟨b, o + k * 6 + 3, none⟩ = some (.slice A1 x.b.length c1) ∧ w.cell? ⟨b, o + k * 6 + 4, none⟩ = some (.int .u8 x.num) ∧ w.cell? ⟨b, o + k * 6 + 5, none⟩ = some (.slice A2 x.tears.length c2) ∧ OpVals w G (.slice A1 x.b.length c1) (.slice A2 x.tears.length c2) x := by
  obtain ⟨A', c', e, hc, hcs⟩ := h
  simp only [Value.slice.injEq] at e
  obtain ⟨rfl, rfl, rfl⟩ := e
  have hk := (List.getElem?_eq_some_iff.1 hx).1
  obtain ⟨b, o, rfl, hG, hcells⟩ := hcs (by omega)
  obtain ⟨hc1, hc2, hc5, hc6, bv, tv, hc3, hc4, hv⟩ := hcells k x hx
  obtain ⟨A1, c1, rfl⟩ := hv.1.form
  obtain ⟨A2, c2, rfl⟩ := hv.2.form
  exact ⟨b, o, A1, c1, A2, c2, rfl, hG, hc, hc1, hc2, hc5, hc3, hc6, hc4, hv⟩
/-- the k-th tear's cells -/
theorem Dsk.Tears.at_ {w : World} {G : Nat → Prop} {A : Option Addr} {n c : Nat} {ts : List (Int × List Int)} (h : Tears w G (.slice A n c) ts) {k : Nat} {x : Int × List Int} (hx : ts[k]? = some x) :
    ∃ b o A1 c1, A = some ⟨b, o, none⟩ ∧ G b ∧ n ≤ c ∧ w.cell? ⟨b, o + k * 2, none⟩ = some (.int .i64 x.1) ∧ w.cell? ⟨b, o + k * 2 + 1, none⟩ = some (.slice A1 x.2.length c1) ∧ Bys w G (.slice A1 x.2.length c1) x.2 := by
  obtain ⟨A', c', e, hc, hcs⟩ := h
  simp only [Value.slice.injEq] at e
  obtain ⟨rfl, rfl, rfl⟩ := e
  have hk := (List.getElem?_eq_some_iff.1 hx).1
  obtain ⟨b, o, rfl, hG, hcells⟩ := hcs (by omega)
  obtain ⟨hc1, tv, hc2, hv⟩ := hcells k hk
  have e : ts.getD k (0, []) = x := by simp [List.getD, hx]
  rw [e] at hc1 hv
  obtain ⟨A1, c1, rfl⟩ := hv.form
  exact ⟨b, o, A1, c1, rfl, hG, hc, hc1, hc2, hv⟩

/-- are operations of a size that is looked at? -/
def smallT (l : List (Int × List Int)) : Bool := l.all fun t => decide (t.2.length ≤ 100)
def smallO (o : OpD) : Bool := decide (o.b.length ≤ 600) && (decide (o.tears.length ≤ 40) && smallT o.tears)
def few (l : List OpD) : Bool := l.all smallO && decide (l.length ≤ 12)

theorem all_take {α : Type} (p : α → Bool) (l : List α) (k : Nat) (x : α) (hx : l[k]? = some x) (h : (l.take k).all p = true) (hp : p x = true) : (l.take (k + 1)).all p = true := by
  rw [List.take_add_one, hx, List.all_append, h]
  simp [hp]
theorem all_not {α : Type} (p : α → Bool) (l : List α) (k : Nat) (x : α) (hx : l[k]? = some x) (hp : p x = false) : l.all p = false := by
  rw [List.all_eq_false]
  exact ⟨x, List.mem_of_getElem? hx, by simp [hp]⟩

set_option maxRecDepth 100000 in
set_option maxHeartbeats 2000000 in
theorem fewOps_any (w : World) (G : Nat → Prop) (v : Value) (l : List OpD) (h : OpsAt w G v l) (hl : l.length ≤ maxLen) (hok : ∀ o ∈ l, o.ok) :
    Calls Tryd.prog 27 #[v] w fun e w' => e = .returned (.bool (few l)) ∧ w = w' := by
  have H := Lib.hid h
  have HOK := Lib.hid hok
  obtain ⟨A, c, rfl⟩ := h.form
  unfold maxLen at hl
  clear hok h
  go_enter Tryd.func27, Tryd.ntmps27
  go_wp2_with fail
  go_loop [3, 4] (fun i _ => ∃ k : Nat, k ≤ l.length ∧ i = .int .i64 k ∧ (l.take k).all smallO = true) (fun i _ => l.length - (intOf i).toNat)
  case atStart => exact ⟨0, Nat.zero_le _, rfl, by simp⟩
  case round =>
    obtain ⟨k, hk, rfl, hall⟩ := hrel
    have HALL := Lib.hid hall
    clear hall
    by_cases hlt : k < l.length
    · have hx : l[k]? = some l[k] := List.getElem?_eq_getElem hlt
      have hox := HOK.out _ (List.getElem_mem hlt)
      obtain ⟨x, hxx⟩ : ∃ x, l[k] = x := ⟨_, rfl⟩
      rw [hxx] at hx hox
      have HX := Lib.hid hx
      obtain ⟨b, o, A1, c1, A2, c2, rfl, hG, hcap, hc1, hc2, hc5, hc3, hc6, hc4, hv⟩ := H.out.at_ hx
      have HV := Lib.hid hv
      have HB7 := Lib.hid (fun t ht => (hox.tears t ht).1)
      have hb5 := hox.blen
      have hb6 := hox.tlen
      unfold maxLen at hb5 hb6
      have hk0 : (0 : Int) ≤ (k : Int) := by omega
      have hk1 : (k : Int) < (l.length : Int) := by omega
      clear hx hxx hox hv hG hc1 hc2 hc5 hc6
      by_cases h1 : (600 : Int) < (x.b.length : Int)
      · have HR := Lib.hid (show few l = false by
          unfold few
          rw [all_not smallO l k x HX.out (by unfold smallO; rw [decide_eq_false (by omega)]; rfl)]
          rfl)
        go_wp2_with fail
        go_ret
        exact ⟨by rw [HR.out]; rfl, rfl⟩
      have g1 : decide ((600 : Int) < (x.b.length : Int)) = false := by simp; omega
      by_cases h2 : (40 : Int) < (x.tears.length : Int)
      · have HR := Lib.hid (show few l = false by
          unfold few
          rw [all_not smallO l k x HX.out (by unfold smallO; rw [decide_eq_false (p := x.tears.length ≤ 40) (by omega)]; simp)]
          rfl)
        clear h1
        go_wp2_with fail
        go_ret
        exact ⟨by rw [HR.out]; rfl, rfl⟩
      have g2 : decide ((40 : Int) < (x.tears.length : Int)) = false := by simp; omega
      have HS := Lib.hid (show smallT x.tears = true → smallO x = true by
        intro h
        unfold smallO
        rw [h, decide_eq_true (show x.b.length ≤ 600 by omega), decide_eq_true (show x.tears.length ≤ 40 by omega)]
        rfl)
      clear h1 h2
      go_wp2_with fail
      go_loop [4] (fun i => ∃ j : Nat, j ≤ x.tears.length ∧ i = .int .i64 j ∧ (x.tears.take j).all (fun t => decide (t.2.length ≤ 100)) = true) (fun i => x.tears.length - (intOf i).toNat)
      case atStart => exact ⟨0, Nat.zero_le _, rfl, by simp⟩
      case round =>
        obtain ⟨j, hj, rfl, hall2⟩ := hrel
        have HALL2 := Lib.hid hall2
        clear hall2
        by_cases hjt : j < x.tears.length
        · have hy : x.tears[j]? = some x.tears[j] := List.getElem?_eq_getElem hjt
          have hyo := HB7.out _ (List.getElem_mem hjt)
          obtain ⟨y, hyy⟩ : ∃ y, x.tears[j] = y := ⟨_, rfl⟩
          rw [hyy] at hy hyo
          have HY := Lib.hid hy
          obtain ⟨b2, o2, A3, c3, rfl, _, hcap2, hd1, hd2, _⟩ := HV.out.2.at_ hy
          unfold maxLen at hyo
          have hj0 : (0 : Int) ≤ (j : Int) := by omega
          have hj1 : (j : Int) < (x.tears.length : Int) := by omega
          clear hy hyy
          by_cases h3 : (100 : Int) < (y.2.length : Int)
          · have HR := Lib.hid (show few l = false by
              unfold few
              rw [all_not smallO l k x HX.out (by
                unfold smallO smallT
                rw [all_not (fun t : Int × List Int => decide (t.2.length ≤ 100)) x.tears j y HY.out (decide_eq_false (by omega))]
                simp)]
              rfl)
            go_wp2_with fail
            go_ret
            exact ⟨by rw [HR.out]; rfl, rfl⟩
          · have g3 : decide ((100 : Int) < (y.2.length : Int)) = false := by simp; omega
            have R := Lib.hid (all_take (fun t : Int × List Int => decide (t.2.length ≤ 100)) x.tears j y HY.out HALL2.out (decide_eq_true (by omega)))
            clear h3
            go_wp2_with fail
            go_round
            case rel => exact ⟨j + 1, by omega, by go_num, R.out⟩
            case measure => simp [intOf]; omega
        · obtain rfl : j = x.tears.length := by omega
          have R := Lib.hid (all_take smallO l k x HX.out HALL.out (HS.out (by
            have := HALL2.out
            rw [List.take_length] at this
            exact this)))
          go_wp2_with fail
          go_round
          case rel => exact ⟨k + 1, by omega, by go_num, R.out⟩
          case measure => simp [intOf]; omega
    · obtain rfl : k = l.length := by omega
      have HR := Lib.hid (show few l = decide (l.length ≤ 12) by
        have := HALL.out
        rw [List.take_length] at this
        unfold few
        rw [this]
        rfl)
      go_wp2_with fail
      go_ret
      exact ⟨ret_bool (by rw [HR.out]; exact decide_eq_decide.2 (by omega)), rfl⟩
end Go.Proofs.YtpbhkkcboppdmaaDoor
