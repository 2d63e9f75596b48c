/-
  WHAT COMES IN: operations; the walk of few.
  WHAT COMES IN, AS IT IS READ: bytes, tears.
  THE WALK OF SlotApart.
-/
import Derived.Test.YtpbhkkcboppdmaaDoorDCrash
import Derived.Test.YtpbhkkcboppdmaaDoorHBase
import Derived.WalkLawsBesides
import Derived.OpenShut
import Derived.Deep.Slices
import Derived.Deep.Fields
import Derived.ChangeSame
import Derived.Test.YtpbhkkcboppdmaaDoorSMore
namespace Go.Proofs.YtpbhkkcboppdmaaDoor
open Ks Go.RowKit Dsk
set_option maxRecDepth 20000

/-- an operation -/
structure OpD where
  kind : Int
  which : Int
  seq : Int
  b : List Int
  num : Int
  tears : List (Int × List Int)

/-- numbers that are lengths, and kinds of their types -/
structure OpD.ok (o : OpD) : Prop where
  kind : 0 ≤ o.kind ∧ o.kind ≤ 255
  which : -9223372036854775808 ≤ o.which ∧ o.which ≤ 9223372036854775807
  seq : 0 ≤ o.seq ∧ o.seq < 18446744073709551616
  num : 0 ≤ o.num ∧ o.num ≤ 255
  blen : o.b.length ≤ maxLen
  b8 : ∀ z ∈ o.b, 0 ≤ z ∧ z ≤ 255
  tlen : o.tears.length ≤ maxLen
  tears : ∀ t ∈ o.tears, t.2.length ≤ maxLen ∧ ∀ z ∈ t.2, 0 ≤ z ∧ z ≤ 255
/-- an operation's values -/
def OpVals (w : World) (G : Nat → Prop) (bv tv : Value) (o : OpD) : Prop := Bys w G bv o.b ∧ Tears w G tv o.tears
def OpsAt (w : World) (G : Nat → Prop) (v : Value) (l : List OpD) : Prop :=
  ∃ A c, v = .slice A l.length c ∧ l.length ≤ c ∧ (0 < l.length → ∃ b o, A = some ⟨b, o, none⟩ ∧ G b ∧ ∀ (k : Nat) (x : OpD), l[k]? = some x → w.cell? ⟨b, o + k * 6, none⟩ = some (.int .u8 x.kind) ∧ w.cell? ⟨b, o + k * 6 + 1, none⟩ = some (.int .i64 x.which) ∧
    w.cell? ⟨b, o + k * 6 + 2, none⟩ = some (.int .u64 x.seq) ∧ w.cell? ⟨b, o + k * 6 + 4, none⟩ = some (.int .u8 x.num) ∧ ∃ bv tv, w.cell? ⟨b, o + k * 6 + 3, none⟩ = some bv ∧ w.cell? ⟨b, o + k * 6 + 5, none⟩ = some tv ∧ OpVals w G bv tv x)

theorem OpVals.keeps {w w' : World} {G S : Nat → Prop} {bv tv : Value} {o : OpD} (h : OpVals w G bv tv o) (hk : Keeps S w w') (hS : ∀ b, G b → b < w.heap.size → ¬ S b) : OpVals w' G bv tv o :=
  ⟨h.1.keeps hk hS, h.2.keeps hk hS⟩
theorem OpsAt.keeps {w w' : World} {G S : Nat → Prop} {v : Value} {l : List OpD} (h : OpsAt w G v l) (hk : Keeps S w w') (hS : ∀ b, G b → b < w.heap.size → ¬ S b) : OpsAt w' G v l := by
  obtain ⟨A, c, rfl, hc, h⟩ := h
  refine ⟨A, c, rfl, hc, fun h0 => ?_⟩
  obtain ⟨b, o, rfl, hG, hcell⟩ := h h0
  refine ⟨b, o, rfl, hG, fun k x hx => ?_⟩
  obtain ⟨h1, h2, h6, h7, bv, tv, h3, h4, h5⟩ := hcell k x hx
  have hl := block_lt_of_cell h1
  exact ⟨(hk.cell hl (hS b hG hl)).trans h1, (hk.cell hl (hS b hG hl)).trans h2, (hk.cell hl (hS b hG hl)).trans h6, (hk.cell hl (hS b hG hl)).trans h7, bv, tv, (hk.cell hl (hS b hG hl)).trans h3, (hk.cell hl (hS b hG hl)).trans h4, h5.keeps hk hS⟩

theorem Dsk.Tears.form {w : World} {F : Nat → Prop} {v : Value} {ts : List (Int × List Int)} (h : Tears w F v ts) : ∃ A c, v = .slice A ts.length c := by
  obtain ⟨A, c, e, _⟩ := h
  exact ⟨A, c, e⟩
theorem OpsAt.form {w : World} {F : Nat → Prop} {v : Value} {l : List OpD} (h : OpsAt w F v l) : ∃ A c, v = .slice A l.length c := by
  obtain ⟨A, c, e, _⟩ := h
  exact ⟨A, c, e⟩
/-- the k-th operation's cells -/
theorem OpsAt.at_ {w : World} {G : Nat → Prop} {A : Option Addr} {n c : Nat} {l : List OpD} (h : OpsAt w G (.slice A n c) l) {k : Nat} {x : OpD} (hx : l[k]? = some x) :
    ∃ b o A1 c1 A2 c2, A = some ⟨b, o, none⟩ ∧ G b ∧ n ≤ c ∧ w.cell? ⟨b, o + k * 6, none⟩ = some (.int .u8 x.kind) ∧ w.cell? ⟨b, o + k * 6 + 1, none⟩ = some (.int .i64 x.which) ∧ w.cell? ⟨b, o + k * 6 + 2, none⟩ = some (.int .u64 x.seq) ∧
      w.cell? ⟨b, o + k * 6 + 3, none⟩ = some (.slice A1 x.b.length c1) ∧ w.cell? ⟨b, o + k * 6 + 4, none⟩ = some (.int .u8 x.num) ∧ w.cell? ⟨b, o + k * 6 + 5, none⟩ = some (.slice A2 x.tears.length c2) ∧ OpVals w G (.slice A1 x.b.length c1) (.slice A2 x.tears.length c2) x := by
  obtain ⟨A', c', e, hc, hcs⟩ := h
  simp only [Value.slice.injEq] at e
  obtain ⟨rfl, rfl, rfl⟩ := e
  have hk := (List.getElem?_eq_some_iff.1 hx).1
  obtain ⟨b, o, rfl, hG, hcells⟩ := hcs (by omega)
  obtain ⟨hc1, hc2, hc5, hc6, bv, tv, hc3, hc4, hv⟩ := hcells k x hx
  obtain ⟨A1, c1, rfl⟩ := hv.1.form
  obtain ⟨A2, c2, rfl⟩ := hv.2.form
  exact ⟨b, o, A1, c1, A2, c2, rfl, hG, hc, hc1, hc2, hc5, hc3, hc6, hc4, hv⟩
/-- the k-th tear's cells -/
theorem Dsk.Tears.at_ {w : World} {G : Nat → Prop} {A : Option Addr} {n c : Nat} {ts : List (Int × List Int)} (h : Tears w G (.slice A n c) ts) {k : Nat} {x : Int × List Int} (hx : ts[k]? = some x) :
    ∃ b o A1 c1, A = some ⟨b, o, none⟩ ∧ G b ∧ n ≤ c ∧ w.cell? ⟨b, o + k * 2, none⟩ = some (.int .i64 x.1) ∧ w.cell? ⟨b, o + k * 2 + 1, none⟩ = some (.slice A1 x.2.length c1) ∧ Bys w G (.slice A1 x.2.length c1) x.2 := by
  obtain ⟨A', c', e, hc, hcs⟩ := h
  simp only [Value.slice.injEq] at e
  obtain ⟨rfl, rfl, rfl⟩ := e
  have hk := (List.getElem?_eq_some_iff.1 hx).1
  obtain ⟨b, o, rfl, hG, hcells⟩ := hcs (by omega)
  obtain ⟨hc1, tv, hc2, hv⟩ := hcells k hk
  have e : ts.getD k (0, []) = x := by simp [List.getD, hx]
  rw [e] at hc1 hv
  obtain ⟨A1, c1, rfl⟩ := hv.form
  exact ⟨b, o, A1, c1, rfl, hG, hc, hc1, hc2, hv⟩

/-- are operations of a size that is looked at? -/
def smallT (l : List (Int × List Int)) : Bool := l.all fun t => decide (t.2.length ≤ 100)
def smallO (o : OpD) : Bool := decide (o.b.length ≤ 600) && (decide (o.tears.length ≤ 40) && smallT o.tears)
def few (l : List OpD) : Bool := l.all smallO && decide (l.length ≤ 12)

theorem all_take {α : Type} (p : α → Bool) (l : List α) (k : Nat) (x : α) (hx : l[k]? = some x) (h : (l.take k).all p = true) (hp : p x = true) : (l.take (k + 1)).all p = true := by
  rw [List.take_add_one, hx, List.all_append, h]
  simp [hp]
theorem all_not {α : Type} (p : α → Bool) (l : List α) (k : Nat) (x : α) (hx : l[k]? = some x) (hp : p x = false) : l.all p = false := by
  rw [List.all_eq_false]
  exact ⟨x, List.mem_of_getElem? hx, by simp [hp]⟩

set_option maxRecDepth 100000 in
set_option maxHeartbeats 2000000 in
theorem fewOps_any (w : World) (G : Nat → Prop) (v : Value) (l : List OpD) (h : OpsAt w G v l) (hl : l.length ≤ maxLen) (hok : ∀ o ∈ l, o.ok) :
    Calls Tryd.prog 27 #[v] w fun e w' => e = .returned (.bool (few l)) ∧ w = w' := by
  have H := Lib.hid h
  have HOK := Lib.hid hok
  obtain ⟨A, c, rfl⟩ := h.form
  unfold maxLen at hl
  clear hok h
  go_enter Tryd.func27, Tryd.ntmps27
  go_wp2_with fail
  go_loop [3, 4] (fun i _ => ∃ k : Nat, k ≤ l.length ∧ i = .int .i64 k ∧ (l.take k).all smallO = true) (fun i _ => l.length - (intOf i).toNat)
  case atStart => exact ⟨0, Nat.zero_le _, rfl, by simp⟩
  case round =>
    obtain ⟨k, hk, rfl, hall⟩ := hrel
    have HALL := Lib.hid hall
    clear hall
    by_cases hlt : k < l.length
    · have hx : l[k]? = some l[k] := List.getElem?_eq_getElem hlt
      have hox := HOK.out _ (List.getElem_mem hlt)
      obtain ⟨x, hxx⟩ : ∃ x, l[k] = x := ⟨_, rfl⟩
      rw [hxx] at hx hox
      have HX := Lib.hid hx
      obtain ⟨b, o, A1, c1, A2, c2, rfl, hG, hcap, hc1, hc2, hc5, hc3, hc6, hc4, hv⟩ := H.out.at_ hx
      have HV := Lib.hid hv
      have HB7 := Lib.hid (fun t ht => (hox.tears t ht).1)
      have hb5 := hox.blen
      have hb6 := hox.tlen
      unfold maxLen at hb5 hb6
      have hk0 : (0 : Int) ≤ (k : Int) := by omega
      have hk1 : (k : Int) < (l.length : Int) := by omega
      clear hx hxx hox hv hG hc1 hc2 hc5 hc6
      by_cases h1 : (600 : Int) < (x.b.length : Int)
      · have HR := Lib.hid (show few l = false by
          unfold few
          rw [all_not smallO l k x HX.out (by unfold smallO; rw [decide_eq_false (by omega)]; rfl)]
          rfl)
        go_wp2_with fail
        go_ret
        exact ⟨by rw [HR.out]; rfl, rfl⟩
      have g1 : decide ((600 : Int) < (x.b.length : Int)) = false := by simp; omega
      by_cases h2 : (40 : Int) < (x.tears.length : Int)
      · have HR := Lib.hid (show few l = false by
          unfold few
          rw [all_not smallO l k x HX.out (by unfold smallO; rw [decide_eq_false (p := x.tears.length ≤ 40) (by omega)]; simp)]
          rfl)
        clear h1
        go_wp2_with fail
        go_ret
        exact ⟨by rw [HR.out]; rfl, rfl⟩
      have g2 : decide ((40 : Int) < (x.tears.length : Int)) = false := by simp; omega
      have HS := Lib.hid (show smallT x.tears = true → smallO x = true by
        intro h
        unfold smallO
        rw [h, decide_eq_true (show x.b.length ≤ 600 by omega), decide_eq_true (show x.tears.length ≤ 40 by omega)]
        rfl)
      clear h1 h2
      go_wp2_with fail
      go_loop [4] (fun i => ∃ j : Nat, j ≤ x.tears.length ∧ i = .int .i64 j ∧ (x.tears.take j).all (fun t => decide (t.2.length ≤ 100)) = true) (fun i => x.tears.length - (intOf i).toNat)
      case atStart => exact ⟨0, Nat.zero_le _, rfl, by simp⟩
      case round =>
        obtain ⟨j, hj, rfl, hall2⟩ := hrel
        have HALL2 := Lib.hid hall2
        clear hall2
        by_cases hjt : j < x.tears.length
        · have hy : x.tears[j]? = some x.tears[j] := List.getElem?_eq_getElem hjt
          have hyo := HB7.out _ (List.getElem_mem hjt)
          obtain ⟨y, hyy⟩ : ∃ y, x.tears[j] = y := ⟨_, rfl⟩
          rw [hyy] at hy hyo
          have HY := Lib.hid hy
          obtain ⟨b2, o2, A3, c3, rfl, _, hcap2, hd1, hd2, _⟩ := HV.out.2.at_ hy
          unfold maxLen at hyo
          have hj0 : (0 : Int) ≤ (j : Int) := by omega
          have hj1 : (j : Int) < (x.tears.length : Int) := by omega
          clear hy hyy
          by_cases h3 : (100 : Int) < (y.2.length : Int)
          · have HR := Lib.hid (show few l = false by
              unfold few
              rw [all_not smallO l k x HX.out (by
                unfold smallO smallT
                rw [all_not (fun t : Int × List Int => decide (t.2.length ≤ 100)) x.tears j y HY.out (decide_eq_false (by omega))]
                simp)]
              rfl)
            go_wp2_with fail
            go_ret
            exact ⟨by rw [HR.out]; rfl, rfl⟩
          · have g3 : decide ((100 : Int) < (y.2.length : Int)) = false := by simp; omega
            have R := Lib.hid (all_take (fun t : Int × List Int => decide (t.2.length ≤ 100)) x.tears j y HY.out HALL2.out (decide_eq_true (by omega)))
            clear h3
            go_wp2_with fail
            go_round
            case rel => exact ⟨j + 1, by omega, by go_num, R.out⟩
            case measure => simp [intOf]; omega
        · obtain rfl : j = x.tears.length := by omega
          have R := Lib.hid (all_take smallO l k x HX.out HALL.out (HS.out (by
            have := HALL2.out
            rw [List.take_length] at this
            exact this)))
          go_wp2_with fail
          go_round
          case rel => exact ⟨k + 1, by omega, by go_num, R.out⟩
          case measure => simp [intOf]; omega
    · obtain rfl : k = l.length := by omega
      have HR := Lib.hid (show few l = decide (l.length ≤ 12) by
        have := HALL.out
        rw [List.take_length] at this
        unfold few
        rw [this]
        rfl)
      go_wp2_with fail
      go_ret
      exact ⟨ret_bool (by rw [HR.out]; exact decide_eq_decide.2 (by omega)), rfl⟩
end Go.Proofs.YtpbhkkcboppdmaaDoor
namespace Go.Proofs.YtpbhkkcboppdmaaDoor
open Ks Go.RowKit Go.ChangeShapes Go.WideShapes Go.Deep Dsk
set_option maxRecDepth 20000

theorem cells5 : Tryd.prog.cellsOf 5 = 1 := by kernel_rfl
theorem cells3 : Tryd.prog.cellsOf 3 = 1 := by kernel_rfl
theorem cells27 : Tryd.prog.cellsOf 27 = 1 := by kernel_rfl
theorem cells52 : Tryd.prog.cellsOf 52 = 1 := by kernel_rfl
theorem cells100 : Tryd.prog.cellsOf 100 = 2 := by kernel_rfl

theorem len_two {α : Type} : ∀ {l : List α}, l.length = 2 → ∃ a b, l = [a, b]
  | [a, b], _ => ⟨a, b, rfl⟩

/-- below a number -/
def Lower (n : Nat) : Nat → Prop := fun b => b < n

section
variable {H : Type} {enc : TypeId × Value → H} {w : World} {base : Nat} {spare : Nat → Bool} {held : Bool} {fuel : Nat}

theorem open_bytes {v : Value} {x : DataW H × List MemPlace} (h : DataW.trod enc Tryd.prog w base spare held fuel 27 [v] = some x) : ∃ bs, Bys w (Lower w.heap.size) v bs ∧ bs.length ≤ maxLen ∧ ∀ z ∈ bs, 0 ≤ z ∧ z ≤ 255 := by
  rcases open_ints Tryd.underlying27 Tryd.underlying5 cells5 h with ⟨hcs, _⟩ | ⟨a, l, c, zs, hcs, _, hl, hm, hz, _, hcell, hwz⟩
  · simp at hcs
    subst hcs
    exact ⟨[], Bys.nil _ _, Nat.zero_le _, by simp⟩
  · simp at hcs
    subst hcs
    have hlz : l ≤ zs.length := by rw [hz]; split <;> omega
    have htl : (zs.take l).length = l := by rw [List.length_take]; omega
    refine ⟨zs.take l, ⟨some a, c, by rw [htl], by rw [htl]; exact hl, fun h0 => ?_⟩, by rw [htl]; omega, fun z hzm => ?_⟩
    · rw [htl] at h0
      obtain ⟨b, o, rfl, hc⟩ := ints_at hcell (by omega)
      refine ⟨b, o, rfl, block_lt_of_cell (hc 0 (by omega)), fun k hk => ?_⟩
      rw [htl] at hk
      rw [hc k (by omega)]
      simp [List.getD, hk]
    · have := hwz z (List.mem_of_mem_take hzm)
      simpa [Lit.wf, IntKind.min, IntKind.max, IntKind.signed, IntKind.bits] using this

theorem spot_none {a : Addr} {v : Value} (h : w.cell? a = some v) : a = ⟨a.block, a.off, none⟩ := by
  obtain ⟨b, o, s⟩ := a
  have hs : s = none := by simpa using World.cell?_spot h
  subst hs
  rfl
theorem cell_at {a : Addr} {b o j : Nat} {v : Value} (ha : a = ⟨b, o, none⟩) (h : w.cell? (a.add j) = some v) : w.cell? ⟨b, o + j, none⟩ = some v := by
  subst ha
  rw [Go.WideShapes.add_plain] at h
  exact h
theorem add_two (a : Addr) (i j : Nat) : (a.add i).add j = a.add (i + j) := by
  unfold Addr.add
  by_cases hi : i = 0 <;> by_cases hj : j = 0 <;> simp [hi, hj, Nat.add_assoc]

theorem field_at {fs : Array Field} {n : Nat} {cs : List Value} {xs : List (DataW H × List MemPlace)} (hone : oneCellFields Tryd.prog fs = true)
    (hf : ∀ (i : Nat) (f : Field), fs[i]? = some f → DataW.trod enc Tryd.prog w base spare held n f.type ((cs.drop f.offset).take (Tryd.prog.cellsOf f.type)) = xs[i]?) (i : Nat) (f : Field) (hi : fs[i]? = some f) :
    DataW.trod enc Tryd.prog w base spare held n f.type ((cs.drop i).take 1) = xs[i]? := by
  obtain ⟨o, k⟩ := hone_of hone i f hi
  have := hf i f hi
  rw [o, k] at this
  exact this

/-- one tear -/
theorem open_tear {cs : List Value} {x : DataW H × List MemPlace} (h : DataW.trod enc Tryd.prog w base spare held fuel 100 cs = some x) :
    ∃ (k : Int) (tv : Value) (bs : List Int), cs = [.int .i64 k, tv] ∧ Bys w (Lower w.heap.size) tv bs ∧ bs.length ≤ maxLen ∧ ∀ z ∈ bs, 0 ≤ z ∧ z ≤ 255 := by
  obtain ⟨xs, n, _, _, hlen, hx, hf⟩ := DataW.trod_struct Tryd.underlying100 h
  rw [cells100] at hlen
  have h0 : DataW.trod enc Tryd.prog w base spare held n 3 ((cs.drop 0).take 1) = xs[0]? := field_at (by kernel_rfl) hf 0 _ rfl
  have h1 : DataW.trod enc Tryd.prog w base spare held n 27 ((cs.drop 1).take 1) = xs[1]? := field_at (by kernel_rfl) hf 1 _ rfl
  obtain ⟨c0, c1, rfl⟩ := len_two hlen
  obtain ⟨x0, x1, rfl⟩ := len_two (show xs.length = 2 from hx)
  have h0 : DataW.trod enc Tryd.prog w base spare held n 3 [c0] = some x0 := h0
  have h1 : DataW.trod enc Tryd.prog w base spare held n 27 [c1] = some x1 := h1
  obtain ⟨k, hk, _, _⟩ := DataW.trod_int Tryd.underlying3 h0
  obtain ⟨bs, hb, hl, h8⟩ := open_bytes h1
  injection hk with hk _
  exact ⟨k, c1, bs, by rw [hk], hb, hl, h8⟩

theorem open_tears {v : Value} {x : DataW H × List MemPlace} (h : DataW.trod enc Tryd.prog w base spare held fuel 52 [v] = some x) :
    ∃ ts, Tears w (Lower w.heap.size) v ts ∧ ts.length ≤ maxLen ∧ ∀ t ∈ ts, t.2.length ≤ maxLen ∧ ∀ z ∈ t.2, 0 ≤ z ∧ z ≤ 255 := by
  rcases open_slice Tryd.underlying52 h with ⟨hcs, _⟩ | ⟨a, len, cap, m, n, D, Pl, hcs, _, hl, hm, hmm, _, hi⟩
  · simp at hcs
    subst hcs
    exact ⟨[], ⟨none, 0, rfl, Nat.le_refl _, fun h => absurd h (by simp)⟩, Nat.zero_le _, by simp⟩
  · simp at hcs
    subst hcs
    have hlm : len ≤ m := by rw [hmm]; split <;> omega
    rw [cells100] at hi
    have hall : ∀ i, ∃ t : Int × List Int, i < len → (t.2.length ≤ maxLen ∧ ∀ z ∈ t.2, 0 ≤ z ∧ z ≤ 255) ∧ w.cell? (a.add (i * 2)) = some (.int .i64 t.1) ∧ ∃ tv, w.cell? (a.add (i * 2 + 1)) = some tv ∧ Bys w (Lower w.heap.size) tv t.2 := by
      intro i
      by_cases hil : i < len
      · obtain ⟨cs', hc, ht⟩ := hi i (by omega)
        obtain ⟨k, tv, bs, rfl, hb, hbl, hb8⟩ := open_tear ht
        obtain ⟨_, _, hat⟩ := World.cells?_some hc
        refine ⟨(k, bs), fun _ => ⟨⟨hbl, hb8⟩, ?_, tv, ?_, hb⟩⟩
        · have := hat 0 (by omega)
          rw [add_two] at this
          simpa using this
        · have := hat 1 (by omega)
          rw [add_two] at this
          simpa using this
      · exact ⟨(0, []), fun h => absurd h hil⟩
    obtain ⟨f, hf⟩ := Classical.axiomOfChoice hall
    have hlen : ((List.range len).map f).length = len := by simp
    have hget : ∀ k, k < len → ((List.range len).map f).getD k (0, []) = f k := fun k hk => by simp [List.getD, hk]
    refine ⟨(List.range len).map f, ⟨some a, cap, by rw [hlen], by rw [hlen]; exact hl, fun h0 => ?_⟩, by rw [hlen]; omega, fun t ht => ?_⟩
    · rw [hlen] at h0
      have ha := spot_none (hf 0 h0).2.1
      simp only [Nat.zero_mul] at ha
      have ha' : a = ⟨a.block, a.off, none⟩ := by simpa [Addr.add] using ha
      refine ⟨a.block, a.off, by rw [← ha'], ?_, fun k hk => ?_⟩
      · exact Ks.block_lt_of_cell (b := a.block) (o := a.off + 0 * 2) (cell_at ha' (hf 0 h0).2.1)
      · rw [hlen] at hk
        rw [hget k hk]
        obtain ⟨_, h1, tv, h2, h3⟩ := hf k hk
        exact ⟨cell_at ha' h1, tv, by have := cell_at ha' h2; rwa [← Nat.add_assoc] at this, h3⟩
    · obtain ⟨i, hi', rfl⟩ := List.mem_map.1 ht
      exact (hf i (List.mem_range.1 hi')).1
end
end Go.Proofs.YtpbhkkcboppdmaaDoor
namespace Go.Proofs.YtpbhkkcboppdmaaDoor
open Ks Go.RowKit
set_option maxRecDepth 20000

/-- a slot's sectors -/
def In_ (first sp : Int) : Int → Prop := fun j => first ≤ j ∧ j < first + sp
theorem put_part {s s' : St} {which a b c er z0 : Int} {l : List Int} {R : Int → Prop} (h : put_ s which a b c l = (s', er)) (hz : (s.size : Int) = z0) (hR : ∀ j, which * spanOf z0 a b c ≤ j → j < which * spanOf z0 a b c + spanOf z0 a b c → ¬ R j) (h4 : s.size ≤ 4096) : Part R s s' := by
  unfold put_ at h
  split at h
  · rw [show s' = _ from (congrArg Prod.fst h).symm]
    exact Part.refl R s
  · rename_i he
    have he : forErr s which a b c l.length = 0 := by omega
    obtain ⟨q1, q2, q3, q4, q5, q6, q7⟩ := forErr_ok he
    have hsp := span_eq q3 q5 h4 q2
    rw [hz] at hsp
    rw [hz] at h
    rw [show s' = _ from (congrArg Prod.fst h).symm]
    exact Part.stores s _ _ _ (fun j h1 h2 => hR j (by omega) (by omega))
theorem laid_part {s s' : St} {which a b c q er z0 : Int} {l : List Int} {R : Int → Prop} (h : laid s which a b c q l = (s', er)) (hz : (s.size : Int) = z0) (hR : ¬ R (which * spanOf z0 a b c)) : Part R s s' := by
  unfold laid at h
  split at h
  · rw [show s' = _ from (congrArg Prod.fst h).symm]
    exact Part.refl R s
  · rw [show s' = _ from (congrArg Prod.fst h).symm, hz]
    exact Part.write s _ _ hR
theorem wiped_part {s s' : St} {which a b c er z0 : Int} {R : Int → Prop} (h : wiped s which a b c = (s', er)) (hz : (s.size : Int) = z0) (hR : ¬ R (which * spanOf z0 a b c)) : Part R s s' := by
  unfold wiped at h
  split at h
  · rw [show s' = _ from (congrArg Prod.fst h).symm]
    exact Part.refl R s
  · rw [show s' = _ from (congrArg Prod.fst h).symm, hz]
    exact Part.write s _ _ hR
theorem put_one {s s' : St} {which a b c er : Int} {l : List Int} (h : put_ s which a b c l = (s', er)) (h1 : One s) : One s' := by
  unfold put_ at h
  split at h
  · rw [show s' = _ from (congrArg Prod.fst h).symm]; exact h1
  · rw [show s' = _ from (congrArg Prod.fst h).symm]; exact h1.stores _ _ _
theorem laid_one {s s' : St} {which a b c q er : Int} {l : List Int} (h : laid s which a b c q l = (s', er)) (h1 : One s) : One s' := by
  unfold laid at h
  split at h
  · rw [show s' = _ from (congrArg Prod.fst h).symm]; exact h1
  · rw [show s' = _ from (congrArg Prod.fst h).symm]; exact h1.write _ _
theorem wiped_one {s s' : St} {which a b c er : Int} (h : wiped s which a b c = (s', er)) (h1 : One s) : One s' := by
  unfold wiped at h
  split at h
  · rw [show s' = _ from (congrArg Prod.fst h).symm]; exact h1
  · rw [show s' = _ from (congrArg Prod.fst h).symm]; exact h1.write _ _
theorem fail_part (R : Int → Prop) (s : St) (n : Int) : Part R s (s.fail n) := by
  unfold St.fail
  split
  · exact Part.refl R s
  · exact ⟨rfl, rfl, fun _ _ => rfl, fun _ _ => rfl⟩
/-- all that SlotApart does, of disks as values -/
theorem apart_plan {a b c n0 : Int} {l l' : List Int} {z k : Nat} {ts : List (Int × List Int)} (second : Bool) (hz : 32 ≤ z) (hz2 : z ≤ 4096) (hr : right a b c = true) (hn : (l.length : Int) = total a b c) (hl' : l'.length = l.length) (h5 : l.length ≤ 500) (hk : 2 * spanOf z a b c = k) (h8 : In8 l) (h8' : In8 l') (ht8 : ∀ t ∈ ts, In8 t.2) :
    ∃ s1 s2 s3, put_ (Dsk.fresh z (List.replicate k (List.replicate z 0))) (whOf second) a b c l = (s1, 0) ∧ laid s1 (whOf second) a b c 5 l = (s2, 0) ∧ s2.sync = (s3, 0) ∧
      ∀ s4, s3.fail ((s3.ops : Int) + 1 + n0) = s4 → ∃ s5 e5 s6 e6 s7 e7, put_ s4 (whOf (!second)) a b c l' = (s5, e5) ∧ laid s5 (whOf (!second)) a b c 6 l' = (s6, e6) ∧ wiped s6 (whOf (!second)) a b c = (s7, e7) ∧
      ∃ s9, ((readOf (s7.crash ts) (whOf second) a b c = (s9, ⟨2, 0, 5, l⟩, 0)) ∨ (readOf (s7.crash ts) (whOf second) a b c = (s9, ⟨0, 0, 0, []⟩, 3) ∧ ∃ s10, readOf s9 (whOf second) a b c = (s10, ⟨2, 0, 5, l⟩, 0))) ∧
      (Ok 0 (Dsk.fresh z (List.replicate k (List.replicate z 0))) ∧ Ok 10000 s1 ∧ Ok 10000 s2 ∧ Ok 10000 s3 ∧ Ok 10000 s4 ∧ Ok 10000 s5 ∧ Ok 10000 s6 ∧ Ok 10000 s7 ∧ Ok 10000 (s7.crash ts) ∧ Ok 10000 s9) ∧ (s4.size = z ∧ (s7.crash ts).size = z ∧ s9.size = z) := by
  obtain ⟨hk4, hfe⟩ := fresh_room hz hz2 hr hn h5 hk
  have he := hfe second
  have hb := many_bounds l.length z (by omega) hz2
  have ht : (total a b c).toNat = l.length := by omega
  have hsp := span_eq hr hz hz2 hn
  obtain ⟨s0, hs0⟩ : ∃ s0, Dsk.fresh z (List.replicate k (List.replicate z 0)) = s0 := ⟨_, rfl⟩
  have hz0 : s0.size = z := by rw [← hs0]; rfl
  have hl0 : s0.last.length = k := by rw [← hs0]; simp [Dsk.fresh]
  have hf0 : NoFail s0 := by rw [← hs0]; exact nofail_fresh _ _
  have hO0 : Ok 0 s0 := by rw [← hs0]; exact ok_fresh z _ 0 (new_in8 k z) (by simpa using hk4) hz2
  rw [hs0] at he ⊢
  have hp := forErr_place hz0 hz2 he
  obtain ⟨first, hfi⟩ : ∃ f, whOf second * spanOf z a b c = f := ⟨_, rfl⟩
  obtain ⟨s1, p1, S1⟩ := put_has hf0 hz0 hz2 he
  rw [hfi] at hp S1
  have z1 : s1.size = z := S1.size.trans hz0
  have e1 : forErr s1 (whOf second) a b c l.length = 0 := by rw [forErr_of S1.size S1.last]; exact he
  have p2 := laid_fine (q := 5) S1.fine z1 hz2 e1
  rw [hfi] at p2
  obtain ⟨X, hX⟩ : ∃ X, padded (enc a b c l.length 5 (sumOf l)) z = X := ⟨_, rfl⟩
  rw [hX] at p2
  obtain ⟨s2, hs2⟩ : ∃ s2, s1.put first X = s2 := ⟨_, rfl⟩
  rw [hs2] at p2
  have H2 : Has s2 first X z l := by rw [← hs2]; exact laid_Has S1.imgs
  have f2 : NoFail s2 := by rw [← hs2]; exact S1.fine.put _ _
  have z2 : s2.size = z := by rw [← hs2]; exact z1
  have l2 : s2.last = s0.last := by rw [← hs2]; exact S1.last
  obtain ⟨y1, y2, y3⟩ := sync_fine f2
  obtain ⟨s3, hs3⟩ : ∃ s3, s2.sync.1 = s3 := ⟨_, rfl⟩
  have O1 := put_ok hO0 h8 p1
  rw [hz0] at O1
  have O2 := laid_ok O1 p2
  have O3 := O2.sync
  rw [hs3] at y2 y3 O3
  have z3 : s3.size = z := y2.size.trans z2
  have l3 : s3.last.length = k := by rw [y2.len]; show s2.last.length = k; rw [l2, hl0]
  have hkk : (k : Int) = 2 * spanOf z a b c := hk.symm
  have hfk : first + spanOf z a b c ≤ (k : Int) := by
    rw [← hfi, hkk]
    rcases whOf_in second with h | h <;> rw [h] <;> omega
  have hR3 : ∀ j, In_ first (spanOf z a b c) j → s3.cach j = none ∧ view s3 j = view s2 j := fun j hj => by
    have h1 : j < (s2.tick.last.length : Int) := by show j < (s2.last.length : Int); rw [l2, hl0]; have := hj.2; omega
    have h0 : 0 ≤ j := by have := hj.1; omega
    exact ⟨y2.cach j h0 h1, (y2.view j h0 h1).trans ((Alike.tick s2).view j)⟩
  refine ⟨s1, s2, s3, p1, p2, Prod.ext hs3 y1, fun s4 hs4 => ?_⟩
  have P4 : Part (In_ first (spanOf z a b c)) s3 s4 := hs4 ▸ fail_part _ s3 _
  have one4 : One s4 := hs4 ▸ One.fail y3 _
  have O4 : Ok (0 + many l.length z + 1 + 1 + 1) s4 := hs4 ▸ O3.fail _
  have z4 : s4.size = z := P4.size.trans z3
  obtain ⟨s5, hs5⟩ : ∃ s5, (put_ s4 (whOf (!second)) a b c l').1 = s5 := ⟨_, rfl⟩
  obtain ⟨e5, he5⟩ : ∃ e5, (put_ s4 (whOf (!second)) a b c l').2 = e5 := ⟨_, rfl⟩
  have p5 : put_ s4 (whOf (!second)) a b c l' = (s5, e5) := Prod.ext hs5 he5
  obtain ⟨s6, hs6⟩ : ∃ s6, (laid s5 (whOf (!second)) a b c 6 l').1 = s6 := ⟨_, rfl⟩
  obtain ⟨e6, he6⟩ : ∃ e6, (laid s5 (whOf (!second)) a b c 6 l').2 = e6 := ⟨_, rfl⟩
  have p6 : laid s5 (whOf (!second)) a b c 6 l' = (s6, e6) := Prod.ext hs6 he6
  obtain ⟨s7, hs7⟩ : ∃ s7, (wiped s6 (whOf (!second)) a b c).1 = s7 := ⟨_, rfl⟩
  obtain ⟨e7, he7⟩ : ∃ e7, (wiped s6 (whOf (!second)) a b c).2 = e7 := ⟨_, rfl⟩
  have p7 : wiped s6 (whOf (!second)) a b c = (s7, e7) := Prod.ext hs7 he7
  have hap : ∀ j, whOf (!second) * spanOf z a b c ≤ j → j < whOf (!second) * spanOf z a b c + spanOf z a b c → ¬ In_ first (spanOf z a b c) j := fun j h1 h2 h3 => by
    have h4 := h3.1
    have h5 := h3.2
    rw [← hfi] at h4 h5
    cases second <;> simp only [whOf, Bool.not_true, Bool.not_false] at h1 h2 h4 h5 <;> omega
  have hap0 : ¬ In_ first (spanOf z a b c) (whOf (!second) * spanOf z a b c) := hap _ (by omega) (by omega)
  have P5 := P4.trans (put_part p5 (by rw [z4]) hap (by omega))
  have z5 : s5.size = z := P5.size.trans z3
  have P6 := P5.trans (laid_part p6 (by rw [z5]) hap0)
  have z6 : s6.size = z := P6.size.trans z3
  have P7 := P6.trans (wiped_part p7 (by rw [z6]) hap0)
  have hR0 : ∀ j, In_ first (spanOf z a b c) j → 0 ≤ j := fun j hj => by have := hj.1; omega
  have P8 := P7.trans (Part.crash s7 ts (fun j hj => (P7.cach j hj).trans (hR3 j hj).1) hR0)
  have one8 : One (s7.crash ts) := (wiped_one p7 (laid_one p6 (put_one p5 one4))).plan (crashL_plan _ _ _)
  have O5 := put_ok O4 h8' p5
  rw [hl', z4] at O5
  have O6 := laid_ok O5 p6
  have O7 := wiped_ok O6 p7
  have O8 := O7.crash ht8
  have z8 : (s7.crash ts).size = z := P8.size.trans z3
  have H8 : Has (s7.crash ts) first X z l := H2.of_view (fun j h0 h1 => by
    have hj : In_ first (spanOf z a b c) j := ⟨h0, by omega⟩
    exact (P8.view j hj).trans (hR3 j hj).2)
  rw [← hX] at H8
  have e8 : forErr (s7.crash ts) (whOf second) a b c l.length = 0 := by
    have : forErr (s7.crash ts) (whOf second) a b c l.length = forErr s0 (whOf second) a b c l.length := by
      unfold forErr findErr
      rw [z8, hz0, P8.len, l3, hl0]
    rw [this]; exact he
  obtain ⟨s9, hs9⟩ : ∃ s9, (readOf (s7.crash ts) (whOf second) a b c).1 = s9 := ⟨_, rfl⟩
  have A9 : Alike (s7.crash ts) s9 := hs9 ▸ readOf_alike _ _ a b c
  have O9 := O8.readOf (whOf second) a b c
  rw [hs9, ht, z8] at O9
  refine ⟨s5, e5, s6, e6, s7, e7, p5, p6, p7, s9, ?_, ⟨hO0, O1.mono (by omega), O2.mono (by omega), O3.mono (by omega), O4.mono (by omega), O5.mono (by omega), O6.mono (by omega), O7.mono (by omega), O8.mono (by omega), O9.mono (by omega)⟩, z4, z8, A9.size.trans z8⟩
  rcases read_one one8 (q := 5) z8 hz2 e8 (by omega) (by rw [hfi]; exact H8) with r | ⟨r, f9⟩
  · exact .inl (Prod.ext hs9 r)
  · refine .inr ⟨Prod.ext hs9 r, _, Prod.ext rfl (read_good (hs9 ▸ f9) (q := 5) (A9.size.trans z8) hz2 ?_ (by omega) ?_)⟩
    · rw [forErr_of A9.size A9.last]; exact e8
    · rw [hfi]
      exact H8.of_view (fun j _ _ => A9.view j)
theorem _root_.Go.Proofs.YtpbhkkcboppdmaaDoor.Dsk.Tears.mono {w : World} {G G' : Nat → Prop} {v : Value} {ts : List (Int × List Int)} (h : Dsk.Tears w G v ts) (hG : ∀ b, G b → G' b) : Dsk.Tears w G' v ts := by
  obtain ⟨A, c, rfl, hc, h⟩ := h
  refine ⟨A, c, rfl, hc, fun h0 => ?_⟩
  obtain ⟨b, o, rfl, hb, hcell⟩ := h h0
  refine ⟨b, o, rfl, hG b hb, fun k hk => ?_⟩
  obtain ⟨h1, tv, h2, h3⟩ := hcell k hk
  exact ⟨h1, tv, h2, h3.mono hG⟩
theorem tears_below {w w' : World} {B : Nat} {v : Value} {ts : List (Int × List Int)} (h : Dsk.Tears w (Lower B) v ts) (hb : Below B w w') (_hB : B ≤ w.heap.size) : Dsk.Tears w' (Lower B) v ts :=
  h.keeps (S := fun b => B ≤ b) ⟨hb.os, hb.tape, hb.output, hb.size, fun k _ hs => hb.block k (by omega)⟩ (fun b h1 _ h2 => by unfold Lower at h1; omega)
/-- one operation, as the law builds it -/
abbrev opCells (At : Option Addr) (nt ct : Nat) : Array Value := #[.int .u8 0, .int .i64 0, .int .u64 0, .slice none 0 0, .int .u8 0, .slice At nt ct]
theorem op_one (w : World) (At : Option Addr) (nt ct : Nat) (ts : List (Int × List Int)) (h : Dsk.Tears w (Lower w.heap.size) (.slice At nt ct) ts) :
    OpsAt (w.alloc (.cells (opCells At nt ct) 55)) (Lower (w.heap.size + 1)) (.slice (some ⟨w.heap.size, 0, none⟩) 1 1) [⟨0, 0, 0, [], 0, ts⟩] := by
  have hb := Blk.new w 55 (opCells At nt ct)
  refine ⟨_, 1, rfl, Nat.le_refl _, fun _ => ⟨w.heap.size, 0, rfl, by unfold Lower; omega, fun k x hx => ?_⟩⟩
  have hk : k = 0 := by
    have := (List.getElem?_eq_some_iff.1 hx).1
    simpa using this
  subst hk
  obtain rfl : (⟨0, 0, 0, [], 0, ts⟩ : OpD) = x := by simpa using hx
  refine ⟨hb.cell 0, hb.cell 1, hb.cell 2, hb.cell 4, _, _, hb.cell 3, hb.cell 5, Bys.nil _ _, ?_⟩
  exact (tears_below h (below_box w _) (Nat.le_refl _)).mono (fun b hb => Nat.lt_succ_of_lt hb)
theorem op_ok {ts : List (Int × List Int)} (h1 : ts.length ≤ maxLen) (h2 : ∀ t ∈ ts, t.2.length ≤ maxLen ∧ ∀ z ∈ t.2, 0 ≤ z ∧ z ≤ 255) : (⟨0, 0, 0, [], 0, ts⟩ : OpD).ok :=
  ⟨by show (0 : Int) ≤ 0 ∧ (0 : Int) ≤ 255; omega, by show (-9223372036854775808 : Int) ≤ 0 ∧ (0 : Int) ≤ 9223372036854775807; omega, by show (0 : Int) ≤ 0 ∧ (0 : Int) < 18446744073709551616; omega, by show (0 : Int) ≤ 0 ∧ (0 : Int) ≤ 255; omega, Nat.zero_le _, (fun z hz => by cases hz), h1, h2⟩
theorem crash_is {w : World} {p m : Nat} {F G : Nat → Prop} {s s' : St} {tv : Value} {ts : List (Int × List Int)} (h : DiskAt Tryd.prog w p F s) (ht : Dsk.Tears w G tv ts) (hG : ∀ b, G b → b < w.heap.size ∧ ¬ F b) (hO : Ok m s) (hm : m < 1000000) (htl : ts.length ≤ 1000000) (hc : s.crash ts = s') :
    Calls Tryd.prog 30 #[.pointer (some ⟨p, 0, none⟩), tv] w (Dsk.Does p F s' w) := by
  have := Dsk.crash_any w p F G s tv ts h ht hG (by have := hO.cn; omega) hO.len hO.size htl
  rw [hc] at this
  exact this
theorem fail_is {w : World} {p m : Nat} {F : Nat → Prop} {s s' : St} {n : Int} (h : DiskAt Tryd.prog w p F s) (hO : Ok m s) (hm : m < 1000000) (hn0 : -2000000 ≤ n) (hn1 : n ≤ 2000000) (hc : s.fail n = s') :
    Calls Tryd.prog 28 #[.pointer (some ⟨p, 0, none⟩), .int .i64 n] w (Dsk.Does p F s' w) := by
  have := Dsk.fail_any w p F s n h (by have := hO.ops; omega) (by have := hO.pn; omega) hn0 hn1
  rw [hc] at this
  exact this
theorem Dk.does {N : Nat} {w W w' : World} {p : Nat} {F : Nat → Prop} {s s' : St} {e : Ending} (H : Dk N w W p F s) (h : Dsk.Does p F s' W e w') : Dk N w w' p (Dsk.Grow F W w') s' := by
  obtain ⟨_, hd, hk⟩ := h
  have hb : Below N W w' := hk.below H.ge H.le
  exact ⟨hd, fun b hg => by rcases hg with hg | hg; exact H.ge b hg; exact Nat.le_trans H.le hg.1, H.bel.trans hb, tab_below H.tab hb H.two, H.two, Nat.le_trans H.le hk.size⟩
set_option maxHeartbeats 4000000 in
theorem slotApart_walk (w : World) (a b c sz fl : Int) (A : Option Addr) (n cap : Nat) (l : List Int) (A' : Option Addr) (n' cap' : Nat) (l' : List Int) (second : Bool) (At : Option Addr) (nt ct : Nat) (ts : List (Int × List Int)) (hT : Tab w) (hl : Bytes w w.heap.size A n l) (hl' : Bytes w w.heap.size A' n' l') (hs : 0 ≤ sz ∧ sz ≤ 255) (hf : 0 ≤ fl ∧ fl ≤ 255)
    (ht : Dsk.Tears w (Lower w.heap.size) (.slice At nt ct) ts) (htl : ts.length ≤ maxLen) (htt : ∀ t ∈ ts, t.2.length ≤ maxLen ∧ ∀ z ∈ t.2, 0 ≤ z ∧ z ≤ 255) (hnm : n ≤ maxLen ∧ n' ≤ maxLen) :
    Calls Tryd.prog 6 #[geoV a b c, .slice A n cap, .slice A' n' cap', .int .u8 sz, .bool second, .int .u8 fl, .slice At nt ct] w fun e w' => e = .returned (.bool true) ∧ Below w.heap.size w w' := by
  obtain ⟨g0, g1, g2⟩ := boxed w (.int .i64 a) (.int .i64 b) (.int .i64 c) 23
  have HGE := Lib.hid (And.intro g0 (And.intro g1 g2))
  have HB := Lib.hid (below_box w (.cells #[.int .i64 a, .int .i64 b, .int .i64 c] 23))
  have HT := Lib.hid (tab_below hT HB.out (tab_pos hT))
  have HL := Lib.hid (bytes_mono (bytes_below hl HB.out) HB.out.size)
  have HL' := Lib.hid (bytes_mono (bytes_below hl' HB.out) HB.out.size)
  have HTS := Lib.hid ((tears_below ht HB.out (Nat.le_refl _)).mono (G' := Lower (w.alloc (.cells #[.int .i64 a, .int .i64 b, .int .i64 c] 23)).heap.size) (fun b hb => Nat.lt_of_lt_of_le hb HB.out.size))
  have HTK := Lib.hid (And.intro htl htt)
  have HS := Lib.hid hs
  have HF := Lib.hid hf
  have HLEN := Lib.hid (And.intro hl.1 hl'.1)
  have hnm1 := hnm.1
  have hnm2 := hnm.2
  unfold maxLen at hnm1 hnm2
  have HNT := Lib.hid (show ts.length = nt by
    obtain ⟨_, _, e, _⟩ := ht
    simp only [Value.slice.injEq] at e
    exact e.2.1.symm)
  clear hT hl hl' hs hf ht htl htt g0 g1 g2 hnm
  obtain ⟨x1, hx1⟩ : ∃ x, few500 a b c = x := ⟨_, rfl⟩
  obtain ⟨x2, hx2⟩ : ∃ x, right a b c = x := ⟨_, rfl⟩
  obtain ⟨t, ht⟩ : ∃ t, total a b c = t := ⟨_, rfl⟩
  obtain ⟨x3, hx3⟩ : ∃ x, few [⟨0, 0, 0, [], 0, ts⟩] = x := ⟨_, rfl⟩
  have HX1 := Lib.hid hx1
  have HX2 := Lib.hid hx2
  have HX3 := Lib.hid hx3
  have HTT := Lib.hid ht
  clear hx1 hx2 hx3 ht
  go_enter Tryd.func6, Tryd.ntmps6
  go_wp2_with fail
  generalize w.alloc (.cells #[.int .i64 a, .int .i64 b, .int .i64 c] 23) = W at *
  refine (awake_any W HT.out).mono ?_
  rintro e w1 ⟨rfl, hb1⟩
  have O1 := Lib.hid (show On W w1 from ⟨tab_below HT.out hb1 (tab_pos HT.out), hb1⟩)
  obtain ⟨g0, g1, g2⟩ := geo_below HGE.out O1.out.bel
  clear hb1
  go_wp2_with fail
  refine (few_any a b c x1 _ _ O1.out HX1.out).mono ?_
  rintro e w2 ⟨rfl, hw2⟩
  have O2 := Lib.hid hw2
  clear hw2 g0 g1 g2 O1
  obtain ⟨g0, g1, g2⟩ := geo_below HGE.out O2.out.bel
  go_wp2_with fail
  refine (refRight_any a b c x2 _ _ O2.out HX2.out).mono ?_
  rintro e w3 ⟨rfl, hw3⟩
  have O3 := Lib.hid hw3
  clear hw3 g0 g1 g2 O2
  cases x1
  · have HE := Lib.hid (HB.out.trans (O3.out.bel.mono HB.out.size))
    go_wp2_with fail
    go_ret
    exact ⟨rfl, HE.out⟩
  cases x2
  · have HE := Lib.hid (HB.out.trans (O3.out.bel.mono HB.out.size))
    go_wp2_with fail
    go_ret
    exact ⟨rfl, HE.out⟩
  obtain ⟨g0, g1, g2⟩ := geo_below HGE.out O3.out.bel
  go_wp2_with fail
  refine (refTotal_any a b c t _ _ O3.out HTT.out).mono ?_
  rintro e w4 ⟨rfl, hw4⟩
  have O4 := Lib.hid hw4
  clear hw4 g0 g1 g2 O3
  by_cases hn : (n : Int) ≠ t
  · have hnb : ((n : Int) != t) = true := by simpa using hn
    have HE := Lib.hid (HB.out.trans (O4.out.bel.mono HB.out.size))
    go_wp2_with fail
    go_ret
    exact ⟨rfl, HE.out⟩
  have hn : (n : Int) = t := by omega
  have hnb : ((n : Int) != t) = false := by simpa using hn
  by_cases hn' : n' ≠ n
  · have hnb' : ((n' : Int) != (n : Int)) = true := by simp; omega
    have HE := Lib.hid (HB.out.trans (O4.out.bel.mono HB.out.size))
    go_wp2_with fail
    go_ret
    exact ⟨rfl, HE.out⟩
  obtain rfl : n' = n := by omega
  have hnb' : ((n' : Int) != (n' : Int)) = false := by simp
  have HT4 := Lib.hid (op_one w4 At nt ct ts ((tears_below HTS.out O4.out.bel (Nat.le_refl _)).mono (fun b hb => Nat.lt_of_lt_of_le hb O4.out.bel.size)))
  have O5 := Lib.hid (O4.out.next (below_box w4 (.cells (opCells At nt ct) 55)))
  go_wp2_with fail
  refine (fewOps_any _ _ _ _ HT4.out (by simp [maxLen]) (fun o ho => by
    obtain rfl : o = ⟨0, 0, 0, [], 0, ts⟩ := by simpa using ho
    exact op_ok HTK.out.1 HTK.out.2)).mono ?_
  rw [HX3.out]
  rintro e w5 ⟨rfl, rfl⟩
  generalize w4.alloc (.cells (opCells At nt ct) 55) = w5 at *
  clear O4 HT4
  obtain ⟨z, hz, hz1, hz2⟩ : ∃ z : Nat, 32 + sz % 100 = z ∧ 32 ≤ z ∧ z ≤ 131 := ⟨(32 + sz % 100).toNat, by have := HS.out; omega, by omega, by omega⟩
  obtain ⟨k, hk⟩ : ∃ k : Nat, 2 * spanOf z a b c = k := by
    have := spanOf_bounds z a b c
    exact ⟨(2 * spanOf z a b c).toNat, by omega⟩
  have h5 : n' ≤ 500 := by
    have := HX1.out
    unfold few500 at this
    rw [HX2.out, HTT.out] at this
    simp at this
    omega
  have hln := HLEN.out.1
  have hln' := HLEN.out.2
  obtain ⟨s1, s2, s3, p1, p2, p3, hfail⟩ := apart_plan (n0 := fl) (l := l) (l' := l') (ts := ts) second hz1 (by omega) HX2.out (by rw [hln, HTT.out]; exact hn) (by omega) (by omega) hk HL.out.2.1 HL'.out.2.1 (fun t ht => (HTK.out.2 t ht).2)
  obtain ⟨s4, hs4⟩ : ∃ s4, s3.fail ((s3.ops : Int) + 1 + fl) = s4 := ⟨_, rfl⟩
  obtain ⟨s5, e5, s6, e6, s7, e7, p5, p6, p7, s9, p9, ⟨o0, o1, o2, o3, o4, o5, o6, o7, o8, o9⟩, z4, z8, z9⟩ := hfail s4 hs4
  have HK4 := Lib.hid (fresh_room hz1 (by omega) HX2.out (by rw [HTT.out]; exact hn) h5 hk).1
  have HP1 := Lib.hid p1
  have HP2 := Lib.hid p2
  have HP3 := Lib.hid p3
  have HP4 := Lib.hid hs4
  have HP5 := Lib.hid p5
  have HP6 := Lib.hid p6
  have HP7 := Lib.hid p7
  obtain ⟨s8, hs8⟩ : ∃ s8, s7.crash ts = s8 := ⟨_, rfl⟩
  rw [hs8] at p9 o8 z8
  have HP8 := Lib.hid hs8
  have HP9 := Lib.hid p9
  have HO := Lib.hid (show Ok 0 _ ∧ Ok 10000 s1 ∧ Ok 10000 s2 ∧ Ok 10000 s3 ∧ Ok 10000 s4 ∧ Ok 10000 s5 ∧ Ok 10000 s6 ∧ Ok 10000 s7 ∧ Ok 10000 s8 ∧ Ok 10000 s9 from ⟨o0, o1, o2, o3, o4, o5, o6, o7, o8, o9⟩)
  have hmb := (many_bounds n' z (by omega) (by omega)).2.2
  have HM := Lib.hid (show ∀ s : St, s.size = z → 10000 + 1 + many (total a b c).toNat s.size < 1000000 from fun s hs => by
    have e : (total a b c).toNat = n' := by rw [HTT.out]; omega
    rw [hs, e]; omega)
  have HZ := Lib.hid (show s4.size = z ∧ s8.size = z ∧ s9.size = z from ⟨z4, z8, z9⟩)
  have HZK := Lib.hid (And.intro hz hk)
  have HNM := Lib.hid hmb
  clear p1 p2 p3 hs4 p5 p6 p7 p9 hs8 o0 o1 o2 o3 o4 o5 o6 o7 o8 o9 z4 z8 z9 hz hk hmb hln hln' hfail
  obtain ⟨g0, g1, g2⟩ := geo_below HGE.out O5.out.bel
  go_wp2_with fail
  refine (fresh_any sz a b c z k _ O5.out.tab HS.out HZK.out.1 HZK.out.2 HK4.out).mono ?_
  rintro e w6 ⟨p, rfl, hd6, hk6⟩
  have D6 := Lib.hid (Dk.start O5.out.tab hk6 hd6)
  have B5 := Lib.hid O5.out.bel
  clear hd6 hk6 g0 g1 g2 O5
  generalize Dsk.Grow No w5 w6 = F6 at *
  cases x3
  · have HE := Lib.hid (HB.out.trans ((B5.out.trans (D6.out.bel.mono B5.out.size)).mono HB.out.size))
    go_wp2_with fail
    go_ret
    exact ⟨rfl, HE.out⟩
  have HT40 := Lib.hid (show ts.length ≤ 40 by
    have := HX3.out
    unfold few smallO at this
    simp at this
    omega)
  have HG5 := Lib.hid (geo_below HGE.out B5.out)
  have HL5 := Lib.hid (bytes_mono (bytes_below HL.out B5.out) B5.out.size)
  have HL5' := Lib.hid (bytes_mono (bytes_below HL'.out B5.out) B5.out.size)
  have HT5 := Lib.hid ((tears_below HTS.out B5.out (Nat.le_refl _)).mono (G' := Lower w5.heap.size) (fun b hb => Nat.lt_of_lt_of_le hb B5.out.size))
  obtain ⟨one, hone⟩ : ∃ wh, whOf second = wh := ⟨_, rfl⟩
  obtain ⟨two, htwo⟩ : ∃ wh, whOf (!second) = wh := ⟨_, rfl⟩
  rw [hone] at HP1 HP2 HP9
  rw [htwo] at HP5 HP6 HP7
  obtain ⟨fl0, fl1⟩ := HF.out
  cases second <;> (first | (obtain rfl : one = 0 := hone.symm; obtain rfl : two = 1 := htwo.symm) | (obtain rfl : one = 1 := hone.symm; obtain rfl : two = 0 := htwo.symm))
  all_goals
    clear hone htwo
    obtain ⟨g0, g1, g2⟩ := geo_below HG5.out D6.out.bel
    go_wp2_with fail
    refine (data_any w6 p 0 n' cap F6 _ s1 _ a b c 0 A l D6.out.tab D6.out.disk HO.out.1 (by show 0 + many n' z < 1000000; have := HNM.out; omega) (bytes_mono (bytes_below HL5.out D6.out.bel) D6.out.le) (by omega) HP1.out).mono ?_
    rintro e w7 ht
    have D7 := Lib.hid (D6.out.tells ht)
    obtain ⟨rfl, _⟩ := ht
    clear g0 g1 g2 D6
    generalize Dsk.Grow F6 w6 w7 = F7 at *
    obtain ⟨g0, g1, g2⟩ := geo_below HG5.out D7.out.bel
    go_wp2_with fail
    refine (seal_any w7 p 10000 n' cap F7 s1 s2 _ a b c 5 0 A l D7.out.tab D7.out.disk HO.out.2.1 (by omega) (bytes_mono (bytes_below HL5.out D7.out.bel) D7.out.le) (by omega) HP2.out).mono ?_
    rintro e w8 ht
    have D8 := Lib.hid (D7.out.tells ht)
    obtain ⟨rfl, _⟩ := ht
    clear g0 g1 g2 D7
    generalize Dsk.Grow F7 w7 w8 = F8 at *
    go_wp2_with fail
    refine (sync_is D8.out.disk HO.out.2.2.1 (by omega) HP3.out).mono ?_
    rintro e w9 ht
    have D9 := Lib.hid (D8.out.tells ht)
    obtain ⟨rfl, _⟩ := ht
    clear D8
    generalize Dsk.Grow F8 w8 w9 = F9 at *
    go_wp2_with fail
    refine (Dsk.ops_any w9 p F9 s3 D9.out.disk).mono ?_
    rintro e w10 ⟨rfl, rfl⟩
    have hops := HO.out.2.2.2.1.ops
    obtain ⟨ops, hopsE⟩ : ∃ ops : Int, (s3.ops : Int) = ops := ⟨_, rfl⟩
    have hops0 : 0 ≤ ops ∧ ops ≤ 10000 := by omega
    obtain ⟨hops1, hops2⟩ := hops0
    rw [hopsE] at HP4 ⊢
    clear hops hopsE
    go_wp2_with fail
    refine (fail_is D9.out.disk HO.out.2.2.2.1 (by omega) (by omega) (by omega) HP4.out).mono ?_
    rintro e w10 ht
    have D10 := Lib.hid (D9.out.does ht)
    obtain ⟨rfl, _⟩ := ht
    clear D9
    generalize Dsk.Grow F9 w9 w10 = F10 at *
    obtain ⟨g0, g1, g2⟩ := geo_below HG5.out D10.out.bel
    go_wp2_with fail
    refine (data_any w10 p 10000 n' cap' F10 s4 s5 _ a b c e5 A' l' D10.out.tab D10.out.disk HO.out.2.2.2.2.1 (by rw [HZ.out.1]; have := HNM.out; omega) (bytes_mono (bytes_below HL5'.out D10.out.bel) D10.out.le) (by omega) HP5.out).mono ?_
    rintro e w11 ht
    have D11 := Lib.hid (D10.out.tells ht)
    obtain ⟨rfl, _⟩ := ht
    clear g0 g1 g2 D10
    generalize Dsk.Grow F10 w10 w11 = F11 at *
    obtain ⟨g0, g1, g2⟩ := geo_below HG5.out D11.out.bel
    go_wp2_with fail
    refine (seal_any w11 p 10000 n' cap' F11 s5 s6 _ a b c 6 e6 A' l' D11.out.tab D11.out.disk HO.out.2.2.2.2.2.1 (by omega) (bytes_mono (bytes_below HL5'.out D11.out.bel) D11.out.le) (by omega) HP6.out).mono ?_
    rintro e w12 ht
    have D12 := Lib.hid (D11.out.tells ht)
    obtain ⟨rfl, _⟩ := ht
    clear g0 g1 g2 D11
    generalize Dsk.Grow F11 w11 w12 = F12 at *
    obtain ⟨g0, g1, g2⟩ := geo_below HG5.out D12.out.bel
    go_wp2_with fail
    refine (wipe_any w12 p 10000 F12 s6 s7 _ a b c e7 D12.out.tab D12.out.disk HO.out.2.2.2.2.2.2.1 (by omega) HP7.out).mono ?_
    rintro e w13 ht
    have D13 := Lib.hid (D12.out.tells ht)
    obtain ⟨rfl, _⟩ := ht
    clear g0 g1 g2 D12
    generalize Dsk.Grow F12 w12 w13 = F13 at *
    go_wp2_with fail
    refine (crash_is D13.out.disk (tears_below HT5.out D13.out.bel (Nat.le_refl _)) (fun b hb => ⟨Nat.lt_of_lt_of_le hb D13.out.le, fun hf => by have := D13.out.ge b hf; unfold Lower at hb; omega⟩) HO.out.2.2.2.2.2.2.2.1 (by omega) (by have := HT40.out; omega) HP8.out).mono ?_
    rintro e w14 ht
    have D14 := Lib.hid (D13.out.does ht)
    obtain ⟨rfl, _⟩ := ht
    clear D13
    generalize Dsk.Grow F13 w13 w14 = F14 at *
    obtain ⟨g0, g1, g2⟩ := geo_below HG5.out D14.out.bel
    go_wp2_with fail
    rcases HP9.out with p9 | ⟨p9, s10, p10⟩
    · have HR9 := Lib.hid p9
      clear p9
      refine (read_is D14.out.tab (fun b hb => Nat.le_trans D14.out.two (D14.out.ge b hb)) D14.out.disk HO.out.2.2.2.2.2.2.2.2.1 (HM.out _ HZ.out.2.1) HR9.out).mono ?_
      rintro e w15 hrd
      have D15 := Lib.hid (D14.out.reads hrd)
      obtain ⟨_, _, v, rfl, ivv, rfl, hown⟩ := hrd
      obtain ⟨Ay, cy, rfl, hcy, _⟩ := Own.bytes hown HL5.out.2.1
      have I15 := Lib.hid (Img.of_read hown D14.out.disk)
      rw [HLEN.out.1] at I15 hcy ⊢
      clear hown g0 g1 g2 D14
      have b16 := below_box w15 (.cells #[.int .i64 2, .int .i64 0, .int .u64 5, .slice Ay n' cy] 37)
      have D16 := Lib.hid (D15.out.below b16)
      have Y16 := Blk.new w15 37 #[.int .i64 2, .int .i64 0, .int .u64 5, .slice Ay n' cy]
      have I16 := Lib.hid (I15.out.below b16)
      clear D15 I15 b16
      obtain ⟨v0, _, v2, v3⟩ := Y16.c4
      clear Y16
      obtain ⟨A2, c2, hA2, _, hby⟩ := I16.out.bytes HL5.out.2.1
      rw [HLEN.out.1] at hA2 hby
      injection hA2 with hA21 hA22 hA23
      subst hA21
      have HBY := Lib.hid (And.intro hby (bytes_mono (bytes_below HL5.out D16.out.bel) D16.out.le))
      have HE := Lib.hid (HB.out.trans ((B5.out.trans (D16.out.bel.mono B5.out.size)).mono HB.out.size))
      clear hby hA22 hA23
      go_wp2_with fail
      refine (same_refl _ _ n' _ _ _ l _ (by unfold maxLen; omega) HBY.out.1 HBY.out.2 (Nat.le_refl _)).mono ?_
      rintro e w17 ⟨rfl, hb17⟩
      have HE2 := Lib.hid (HE.out.trans (hb17.mono HE.out.size))
      clear hb17
      go_wp2_with fail
      go_ret
      exact ⟨rfl, HE2.out⟩
    · have HR9 := Lib.hid p9
      have HR10 := Lib.hid p10
      clear p9 p10
      refine (read_is D14.out.tab (fun b hb => Nat.le_trans D14.out.two (D14.out.ge b hb)) D14.out.disk HO.out.2.2.2.2.2.2.2.2.1 (HM.out _ HZ.out.2.1) HR9.out).mono ?_
      rintro e w15 hrd
      have D15 := Lib.hid (D14.out.reads hrd)
      obtain ⟨_, _, v, rfl, ivv, rfl, hown⟩ := hrd
      obtain ⟨Ax, nx, cx, rfl⟩ : ∃ A n c, ivv = .slice A n c := by
        rcases hown.2 with ⟨rfl, _⟩ | ⟨g, cap, cur, rfl, _⟩ <;> exact ⟨_, _, _, rfl⟩
      clear hown g0 g1 g2 D14
      have b16 := below_box w15 (.cells #[.int .i64 0, .int .i64 0, .int .u64 0, .slice Ax nx cx] 37)
      have D16 := Lib.hid (D15.out.below b16)
      have Y16 := Lib.hid (And.intro (Aside.new D15.out.disk (.cells #[.int .i64 0, .int .i64 0, .int .u64 0, .slice Ax nx cx] 37)) (Blk.new w15 37 #[.int .i64 0, .int .i64 0, .int .u64 0, .slice Ax nx cx]))
      have hxb5 := Lib.hid (show w5.heap.size ≤ w15.heap.size from D15.out.le)
      clear D15 b16
      obtain ⟨g0, g1, g2⟩ := geo_below HG5.out D16.out.bel
      go_wp2_with fail
      generalize hxb : w15.heap.size = xb at *
      clear hxb
      generalize w15.alloc (.cells #[.int .i64 0, .int .i64 0, .int .u64 0, .slice Ax nx cx] 37) = w16 at *
      refine (read_is D16.out.tab (fun b hb => Nat.le_trans D16.out.two (D16.out.ge b hb)) D16.out.disk HO.out.2.2.2.2.2.2.2.2.2 (HM.out _ HZ.out.2.2) HR10.out).mono ?_
      rintro e w17 hrd
      have D17 := Lib.hid (D16.out.reads hrd)
      have Y17 := Lib.hid (And.intro (Y16.out.1.keeps hrd.1) (Y16.out.1.blk hrd.1 Y16.out.2))
      obtain ⟨_, _, v, rfl, ivv, rfl, hown⟩ := hrd
      obtain ⟨Ay, cy, rfl, hcy, _⟩ := Own.bytes hown HL5.out.2.1
      have I17 := Lib.hid (Img.of_read hown D16.out.disk)
      rw [HLEN.out.1] at I17 hcy ⊢
      clear hown g0 g1 g2 D16 Y16
      have fr := Y17.out.2.frozen
      obtain ⟨c0, c1, c2, c3⟩ := Y17.out.2.four (.int .i64 2) (.int .i64 0) (.int .u64 5)
      go_upto_region 28 with fail
      have HB18 := Lib.hid (show Blk ((((w17.setCell ⟨xb, 0, none⟩ (.int .i64 2)).setCell ⟨xb, 1, none⟩ (.int .i64 0)).setCell ⟨xb, 2, none⟩ (.int .u64 5)).setCell ⟨xb, 3, none⟩ (.slice Ay n' cy)) xb 37 #[.int .i64 2, .int .i64 0, .int .u64 5, .slice Ay n' cy] from Y17.out.2.sets4 (.int .i64 2) (.int .i64 0) (.int .u64 5) (.slice Ay n' cy))
      have HI18 := Lib.hid (show Own 0 ((((w17.setCell ⟨xb, 0, none⟩ (.int .i64 2)).setCell ⟨xb, 1, none⟩ (.int .i64 0)).setCell ⟨xb, 2, none⟩ (.int .u64 5)).setCell ⟨xb, 3, none⟩ (.slice Ay n' cy)) (.slice Ay n' cy) l from own_keeps I17.out.1 (sets4_one w17 xb (.int .i64 2) (.int .i64 0) (.int .u64 5) (.slice Ay n' cy)) (own_ne I17.out.1 Y17.out.2 (by decide)))
      have HE18 := Lib.hid (show Below w5.heap.size w5 ((((w17.setCell ⟨xb, 0, none⟩ (.int .i64 2)).setCell ⟨xb, 1, none⟩ (.int .i64 0)).setCell ⟨xb, 2, none⟩ (.int .u64 5)).setCell ⟨xb, 3, none⟩ (.slice Ay n' cy)) from
        (((D17.out.bel.setCell (p := ⟨xb, 0, none⟩) hxb5.out _).setCell (p := ⟨xb, 1, none⟩) hxb5.out _).setCell (p := ⟨xb, 2, none⟩) hxb5.out _).setCell (p := ⟨xb, 3, none⟩) hxb5.out _)
      clear c0 c1 c2 c3 fr
      generalize ((((w17.setCell ⟨xb, 0, none⟩ (.int .i64 2)).setCell ⟨xb, 1, none⟩ (.int .i64 0)).setCell ⟨xb, 2, none⟩ (.int .u64 5)).setCell ⟨xb, 3, none⟩ (.slice Ay n' cy)) = w18 at *
      obtain ⟨v0, _, v2, v3⟩ := HB18.out.c4
      obtain ⟨A2, c2, hA2, _, hby⟩ := Own.bytes HI18.out HL5.out.2.1
      rw [HLEN.out.1] at hA2 hby
      injection hA2 with hA21 hA22 hA23
      subst hA21
      have HBY := Lib.hid (And.intro hby (bytes_mono (bytes_below HL5.out HE18.out) HE18.out.size))
      have HE := Lib.hid (HB.out.trans ((B5.out.trans (HE18.out.mono B5.out.size)).mono HB.out.size))
      clear hby hA22 hA23
      go_wp2_with fail
      refine (same_refl _ _ n' _ _ _ l _ (by unfold maxLen; omega) HBY.out.1 HBY.out.2 (Nat.le_refl _)).mono ?_
      rintro e w19 ⟨rfl, hb19⟩
      have HE2 := Lib.hid (HE.out.trans (hb19.mono HE.out.size))
      clear hb19
      go_wp2_with fail
      go_ret
      exact ⟨rfl, HE2.out⟩
theorem slotApart_law (w : World) (a : Int) (_ha : (Lit.int .i64 a).wf = true) (b : Int) (_hb : (Lit.int .i64 b).wf = true) (c : Int) (_hc : (Lit.int .i64 c).wf = true) (A : Option Addr) (n cap : Nat) (zs : List Int) (hr : IsRow .u8 w A n cap zs) (A' : Option Addr) (n' cap' : Nat) (zs' : List Int) (hr' : IsRow .u8 w A' n' cap' zs')
    (sz : Int) (hs : (Lit.int .u8 sz).wf = true) (second : Bool) (fl : Int) (hf : (Lit.int .u8 fl).wf = true) (At : Option Addr) (nt ct : Nat) (ts : List (Int × List Int))
    (ht : Dsk.Tears w (Lower w.heap.size) (.slice At nt ct) ts ∧ ts.length ≤ maxLen ∧ ∀ t ∈ ts, t.2.length ≤ maxLen ∧ ∀ z ∈ t.2, 0 ≤ z ∧ z ≤ 255) (hT : Tab w) :
    Calls Tryd.prog 6 #[geoV a b c, .slice A n cap, .slice A' n' cap', .int .u8 sz, .bool second, .int .u8 fl, .slice At nt ct] w fun e w' => e = .returned (.bool true) ∧ Below w.heap.size w w' :=
  slotApart_walk w a b c sz fl A n cap _ A' n' cap' _ second At nt ct ts hT hr.bytes hr'.bytes (by simp [Lit.wf, IntKind.min, IntKind.max, IntKind.signed, IntKind.bits] at hs; omega) (by simp [Lit.wf, IntKind.min, IntKind.max, IntKind.signed, IntKind.bits] at hf; omega) ht.1 ht.2.1 ht.2.2 ⟨hr.len_le.2, hr'.len_le.2⟩
end Go.Proofs.YtpbhkkcboppdmaaDoor
