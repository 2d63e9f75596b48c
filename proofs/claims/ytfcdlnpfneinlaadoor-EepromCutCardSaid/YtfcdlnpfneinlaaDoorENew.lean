/-
  THE WALKS OF (*Chip).Cut, eeprom.New.
-/
import Derived.Test.YtfcdlnpfneinlaaDoorEGet
namespace Go.Proofs.YtfcdlnpfneinlaaDoor
open Go.RowKit
set_option maxRecDepth 20000

set_option maxRecDepth 100000 in
set_option maxHeartbeats 4000000 in
theorem cut_any (w : World) (p : Nat) (F : Nat → Prop) (s : Chip) (n : Int) (P : Option Addr) (m cp B : Nat) (ps : List Int) (h : ChipAt w p F s) (hok : s.Ok n) (hn : n ≤ 1000000) (hp : Nums .u8 w B P m ps) (hB : B ≤ w.heap.size) (hcp : m ≤ cp) (hcx : cp ≤ maxLen) :
    Calls Tryd.prog 23 #[.pointer (some ⟨p, 0, none⟩), .slice P m cp] w (Gives w s.data.length (cellsL s.data s.places ps)) := by
  have HH := Lib.hid h
  have HO := Lib.hid hok
  have HP := Lib.hid hp
  have HC := Lib.hid hcp
  have HX := Lib.hid hcx
  have hpos := hok.pos
  unfold Chip.size at hpos
  have HN := Lib.hid (show s.data.length ≤ 100000 by omega)
  have hkl := keysL_len s.data.length s.wait
  have HK := Lib.hid (show s.places.length ≤ maxLen by unfold Chip.places maxLen; omega)
  clear h hok hp hcp hcx hpos hkl
  go_enter Tryd.func23, Tryd.ntmps23
  go_wp2_with fail
  refine (waits_any w p F s n HH.out HO.out hn).mono ?_
  rintro e w1 ⟨u, v, rfl, hu, hv, hb⟩
  obtain ⟨A1, c1, rfl, _, hz⟩ := hu.nums fun x hx => int_wf.2 (by have := (mem_keysL _ _ _).1 hx; have h2 := HN.out; omega)
  have HZ := Lib.hid hz
  have HB := Lib.hid hb
  obtain ⟨d, cap, l, cm, wm, hin⟩ := HH.out.below hb
  have c1 := hin.blk.cell 1
  simp only [cellsOf, List.getElem?_toArray, List.getElem?_cons_zero, List.getElem?_cons_succ] at c1
  have HD := Lib.hid (hin.nums HO.out.byte)
  clear hu hv hb hin hz
  go_wp2_with fail
  refine (cells_any _ A1 P s.data.length cap s.places.length _ m cp w1.heap.size s.data s.places ps w1 HD.out HZ.out ((HP.out.below (HB.out.mono hB)).mono (Nat.le_trans hB HB.out.size)) (Nat.le_refl _) HN.out HK.out HC.out HX.out).mono ?_
  rintro e w2 ⟨A2, c2, rfl, h1, h2, h3⟩
  have R := Lib.hid (And.intro h1 (And.intro (show Mine .u8 w.heap.size w2 A2 s.data.length _ from h2.mono HB.out.size) (HB.out.trans (h3.mono HB.out.size))))
  clear h1 h2 h3
  go_wp2_with fail
  go_ret
  exact ⟨_, _, rfl, R.out.1, R.out.2.1, R.out.2.2⟩

/-- a chip that is new -/
def fresh (kind : Int) (bs : List Int) : Chip := { kind := kind, data := bs, lev := up, pulls := false, nx := 0, bh := 0, shift := 0, count := 0, block := 0, address := 0, missing := 0, pointer := 0, coll := [], wait := [], left := 0, join := false }
theorem fresh_ok (kind : Int) (bs : List Int) (hk : 1 ≤ kind ∧ kind ≤ 10) (hl : (bs.length : Int) = gcol kind 0) (hb : ∀ v ∈ bs, 0 ≤ v ∧ v ≤ 255) : Chip.Ok 0 (fresh kind bs) := by
  have := kind_size hk
  exact { kind := hk, size := hl, byte := hb, ptr := ⟨Int.le_refl _, by show (0 : Int) < bs.length; omega⟩, shift := ⟨Int.le_refl _, by show (0 : Int) ≤ 255; omega⟩, count := ⟨Int.le_refl _, Int.le_refl _⟩, block := ⟨Int.le_refl _, by show (0 : Int) ≤ 7; omega⟩,
          addr := ⟨Int.le_refl _, by show (0 : Int) ≤ 65535; omega⟩, hears := fun e => by simp [fresh] at e, miss := ⟨Int.le_refl _, by show (0 : Int) ≤ 2; omega⟩, coll := fun x hx => (by cases hx), wait := fun x hx => (by cases hx), colls := Int.le_refl _, waits := Int.le_refl _,
          left := ⟨Int.le_refl _, by show (0 : Int) ≤ 50; omega⟩, busy := ⟨fun e => absurd e (by show ¬ (0 : Int) < 0; omega), fun e => absurd rfl e⟩, nx := Nat.zero_le _, bh := fun e => by simp [fresh] at e }
set_option maxHeartbeats 2000000 in
theorem turn_raw (w : World) (p k : Nat) (t : TypeId) (cs : Array Value) (hb : Blk w p t cs) (v3 v4 v7 v12 : Value) (h3 : cs[3]? = some v3) (h4 : cs[4]? = some v4) (h7 : cs[7]? = some v7) (h12 : cs[12]? = some v12) :
    Calls Tryd.prog 42 #[.pointer (some ⟨p, 0, none⟩), fnV p k] w fun e w' => e = .returned (.tuple #[]) ∧ (((w.setCell ⟨p, 4, none⟩ (fnV p k)).setCell ⟨p, 3, none⟩ (.bool false)).setCell ⟨p, 7, none⟩ (.int .i64 0)).setCell ⟨p, 12, none⟩ (.map none) = w' := by
  have f3 := hb.frozen 3
  have f4 := hb.frozen 4
  have f7 := hb.frozen 7
  have f12 := hb.frozen 12
  have hst : ∀ (fn : Fn) (first cap : Array Value) (a : Addr) (w : World), (store a (.func fn first cap)).run Tryd.prog w = stored Tryd.prog w a (.func fn first cap) .plain := fun _ _ _ _ _ => run_store _ _ _ _ _ rfl
  have c3 := (hb.cell 3).trans h3
  have c4 := (hb.cell 4).trans h4
  have c7 := (hb.cell 7).trans h7
  have c12 := (hb.cell 12).trans h12
  clear hb h3 h4 h7 h12
  unfold fnV
  go_enter Tryd.func42, Tryd.ntmps42
  go_wp2_with fail
  go_end0
  exact ⟨rfl, rfl⟩
set_option maxHeartbeats 2000000 in
theorem rest_raw (w : World) (p : Nat) (t : TypeId) (cs : Array Value) (hb : Blk w p t cs) (v3 v4 v7 v12 : Value) (h3 : cs[3]? = some v3) (h4 : cs[4]? = some v4) (h7 : cs[7]? = some v7) (h12 : cs[12]? = some v12) :
    Calls Tryd.prog 40 #[.pointer (some ⟨p, 0, none⟩)] w fun e w' => e = .returned (.tuple #[]) ∧ (((w.setCell ⟨p, 4, none⟩ (fnV p 0)).setCell ⟨p, 3, none⟩ (.bool false)).setCell ⟨p, 7, none⟩ (.int .i64 0)).setCell ⟨p, 12, none⟩ (.map none) = w' := by
  have hmf : ∀ (fn : Fn) (first cap : Array Value) (w : World), (Instr.makeFunc fn first cap).run Tryd.prog w = .ok (.func fn first cap) w := fun _ _ _ _ => rfl
  have HB := Lib.hid hb
  clear hb
  go_enter Tryd.func40, Tryd.ntmps40
  go_wp2_with fail
  refine (turn_raw w p 0 t cs HB.out v3 v4 v7 v12 h3 h4 h7 h12).mono ?_
  rintro e w' ⟨rfl, rfl⟩
  go_wp2_with fail
  go_end0
  exact ⟨rfl, rfl⟩
/-- what is new -/
def NewF (w w' : World) : Nat → Prop := fun b => w.heap.size ≤ b ∧ b < w'.heap.size
set_option maxRecDepth 100000 in
set_option maxHeartbeats 4000000 in
theorem newChip_ok (kind : Int) (A : Option Addr) (n c B : Nat) (bs : List Int) (w : World) (hT : Tab w) (hl : Nums .u8 w B A n bs) (hB : B ≤ w.heap.size) (hk : 1 ≤ kind ∧ kind ≤ 10) (hn : (n : Int) = gcol kind 0) :
    Calls Tryd.prog 13 #[.int .i64 kind, .slice A n c] w fun e w' => ∃ p, e = .returned (.tuple #[.pointer (some ⟨p, 0, none⟩), .int .i64 0]) ∧ ChipAt w' p (NewF w w') (fresh kind bs) ∧ Below w.heap.size w w' := by
  have HT := Lib.hid hT
  have HL := Lib.hid hl
  have hks := kind_size hk
  have HK := Lib.hid hk
  obtain ⟨z, hz⟩ : ∃ z, gcol kind 0 = z := ⟨_, rfl⟩
  have HZ := Lib.hid hz
  have HN := Lib.hid (show (n : Int) = gcol kind 0 from hn)
  rw [hz] at hks hn
  have h0 : (z == 0) = false := by simp; omega
  have h1 : ((n : Int) != z) = false := by simp [hn]
  have hn6 : n ≤ 1000000 := by omega
  have HQ := Lib.hid hn6
  clear hT hl hk hz hks hn
  go_enter Tryd.func13, Tryd.ntmps13
  go_wp2_with fail
  refine (eeprom_any kind z w w (On.start HT.out) HZ.out).mono ?_
  rintro e w1 ⟨rfl, ho⟩
  have HON := Lib.hid ho
  clear ho
  go_wp2_with fail
  refine (clone_any w1 A n c B bs (HL.out.below (HON.out.bel.mono hB)) (Nat.le_trans hB HON.out.bel.size) HQ.out).mono ?_
  rintro e w2 ⟨v, rfl, hv, hb2⟩
  have HV := Lib.hid hv
  have HB2 := Lib.hid hb2
  obtain ⟨A2, c2, rfl, _, _⟩ := hv.mine
  clear hv hb2
  go_wp2_with fail
  refine (new_any w2).mono ?_
  rintro e w3 ⟨l, rfl, hl0, hwl, hb3⟩
  have HW := Lib.hid hwl
  have HB3 := Lib.hid hb3
  have HL0 := Lib.hid hl0
  clear hwl hb3 hl0
  go_wp2_with fail
  have hbk := Blk.new w3 70 #[.int .i64 kind, .slice A2 bs.length c2, .pointer (some ⟨l, 0, none⟩), .bool false, .nilFunc, .nilFunc, .int .u8 0, .int .i64 0, .int .i64 0, .int .i64 0, .int .i64 0, .int .i64 0, .map none, .map none, .int .i64 0]
  have HBK := Lib.hid hbk
  have hb4 : Below w.heap.size w (w3.alloc (.cells #[.int .i64 kind, .slice A2 bs.length c2, .pointer (some ⟨l, 0, none⟩), .bool false, .nilFunc, .nilFunc, .int .u8 0, .int .i64 0, .int .i64 0, .int .i64 0, .int .i64 0, .int .i64 0, .map none, .map none, .int .i64 0] 70)) :=
    (HON.out.bel.trans (HB2.out.mono HON.out.bel.size)).trans ((HB3.out.mono (Nat.le_trans HON.out.bel.size HB2.out.size)).trans ((below_box w3 _).mono (Nat.le_trans (Nat.le_trans HON.out.bel.size HB2.out.size) HB3.out.size)))
  have HB4 := Lib.hid hb4
  clear hbk hb4
  refine (rest_raw _ w3.heap.size _ _ HBK.out _ _ _ _ rfl rfl rfl rfl).mono ?_
  rintro e w5 ⟨rfl, hw5⟩
  have HW5 := Lib.hid hw5
  clear hw5
  go_wp2_with fail
  go_ret2
  have hk5 : Keeps (fun b => b = w3.heap.size) (w3.alloc (.cells #[.int .i64 kind, .slice A2 bs.length c2, .pointer (some ⟨l, 0, none⟩), .bool false, .nilFunc, .nilFunc, .int .u8 0, .int .i64 0, .int .i64 0, .int .i64 0, .int .i64 0, .int .i64 0, .map none, .map none, .int .i64 0] 70)) w5 := by
    rw [← HW5.out]
    exact ((((Keeps.refl (fun b => b = w3.heap.size) _).set_ (p := ⟨w3.heap.size, 4, none⟩) (.inl rfl) _).set_ (p := ⟨w3.heap.size, 3, none⟩) (.inl rfl) _).set_ (p := ⟨w3.heap.size, 7, none⟩) (.inl rfl) _).set_ (p := ⟨w3.heap.size, 12, none⟩) (.inl rfl) _
  have h45 : Below w3.heap.size (w3.alloc (.cells #[.int .i64 kind, .slice A2 bs.length c2, .pointer (some ⟨l, 0, none⟩), .bool false, .nilFunc, .nilFunc, .int .u8 0, .int .i64 0, .int .i64 0, .int .i64 0, .int .i64 0, .int .i64 0, .map none, .map none, .int .i64 0] 70)) w5 := hk5.below (fun b e => by rw [e]; exact Nat.le_refl _) (by simp)
  have h35 : Below w3.heap.size w3 w5 := (below_box w3 _).trans h45
  have s1 := HON.out.bel.size
  have s2 := HB2.out.size
  have s3 := HB3.out.size
  have s5 : w3.heap.size + 1 ≤ w5.heap.size := by have := hk5.size; simpa using this
  have hB5 : Below w.heap.size w w5 := HB4.out.trans (h45.mono (by omega))
  refine ⟨w3.heap.size, rfl, ?_, hB5⟩
  have hlen : bs.length = n := HL.out.1
  have hpos : 0 < bs.length := by have := HN.out; have h2 := (kind_size HK.out).1; omega
  obtain ⟨A', c', e, _, hm⟩ := HV.out.mine
  injection e with e1 e2 e3
  subst e1
  clear e2 e3
  obtain ⟨d, rfl, hd1, hd2, _⟩ := hm.2 hpos
  refine ⟨d, c2, l, none, none, ⟨?_, ?_, ?_, MapIs.nil, MapIs.nil, (fun _ b e => by cases e), tab_below HT.out hB5 (tab_pos HT.out), ⟨by omega, by omega⟩, ⟨by omega, by omega⟩, ⟨by have := HL0.out; omega, by have := HW.out.lt; omega⟩, (fun b e => by cases e), (fun b e => by cases e), (fun e => by have := tab_pos HT.out; have := e.1; omega), fun b e => e.2⟩⟩
  · have h := (((HBK.out.set_ 4 (fnV w3.heap.size 0)).set_ 3 (.bool false)).set_ 7 (.int .i64 0)).set_ 12 (.map none)
    rw [HW5.out] at h
    exact h
  · have h2 : OwnK .u8 5 0 w2 (.slice (some ⟨d, 0, none⟩) bs.length c2) bs := OwnK.of_row HV.out (Nat.zero_le _)
    exact (h2.below HB3.out).below h35
  · exact HW.out.below h35
set_option maxRecDepth 100000 in
set_option maxHeartbeats 4000000 in
theorem newChip_no (kind : Int) (A : Option Addr) (n c : Nat) (w : World) (hT : Tab w) (hn : gcol kind 0 = 0 ∨ (n : Int) ≠ gcol kind 0) :
    Calls Tryd.prog 13 #[.int .i64 kind, .slice A n c] w fun e w' => e = .returned (.tuple #[.pointer none, .int .i64 1]) ∧ Below w.heap.size w w' := by
  have HT := Lib.hid hT
  obtain ⟨z, hz⟩ : ∃ z, gcol kind 0 = z := ⟨_, rfl⟩
  have HZ := Lib.hid hz
  rw [hz] at hn
  by_cases h0 : z = 0
  · have h0' : (z == 0) = true := by simp [h0]
    clear hT hz hn h0
    go_enter Tryd.func13, Tryd.ntmps13
    go_wp2_with fail
    refine (eeprom_any kind z w w (On.start HT.out) HZ.out).mono ?_
    rintro e w1 ⟨rfl, ho⟩
    have HON := Lib.hid ho
    clear ho
    go_wp2_with fail
    go_ret2
    exact ⟨rfl, HON.out.bel⟩
  · have h0' : (z == 0) = false := by simp [h0]
    have h1 : ((n : Int) != z) = true := by
      rcases hn with h | h
      · exact absurd h h0
      · simp [h]
    clear hT hz hn h0
    go_enter Tryd.func13, Tryd.ntmps13
    go_wp2_with fail
    refine (eeprom_any kind z w w (On.start HT.out) HZ.out).mono ?_
    rintro e w1 ⟨rfl, ho⟩
    have HON := Lib.hid ho
    clear ho
    go_wp2_with fail
    go_ret2
    exact ⟨rfl, HON.out.bel⟩
end Go.Proofs.YtfcdlnpfneinlaaDoor
