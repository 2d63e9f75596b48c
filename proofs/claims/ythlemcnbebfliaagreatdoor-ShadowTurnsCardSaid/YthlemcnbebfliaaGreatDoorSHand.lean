/-
  A SLOT's FUNCTIONS: the walks of slot.find's closures and of slot.bad; a list that is read sector by sector.
-/
import Derived.Test.YthlemcnbebfliaaGreatDoorSBase
namespace Go.Proofs.YthlemcnbebfliaaGreatDoor
open Ks Go.RowKit
set_option maxRecDepth 20000

/-- block a holds the disk's address, block c where the slot begins -/
structure Hand (w : World) (a c p : Nat) (first : Int) : Prop where
  disk : w.cell? ⟨a, 0, none⟩ = some (.pointer (some ⟨p, 0, none⟩))
  first : w.cell? ⟨c, 0, none⟩ = some (.int .i64 first)
theorem Hand.keep {w w' : World} {a c p : Nat} {first : Int} {S : Nat → Prop} (h : Hand w a c p first) (hk : Keeps S w w') (ha : ¬ S a) (hc : ¬ S c) : Hand w' a c p first :=
  ⟨(hk.cell (block_lt_of_cell h.disk) ha).trans h.disk, (hk.cell (block_lt_of_cell h.first) hc).trans h.first⟩
/-- a slot's place, as a value -/
abbrev fnV (f a c : Nat) : Value := .func (.func f) #[] #[.pointer (some ⟨a, 0, none⟩), .pointer (some ⟨c, 0, none⟩)]
abbrev placeV (size : Int) (a c : Nat) : Value := .agg #[.int .i64 size, fnV 110 a c, fnV 112 a c]

theorem readC_any (w : World) (p a c m : Nat) (F : Nat → Prop) (s : St) (i first j : Int) (h : DiskAt Tryz.prog w p F s) (hH : Hand w a c p first) (hO : Ok m s) (hm : m < 1000000) (hj : first + i = j) (hj0 : 0 ≤ j) (hj1 : j ≤ 1000000) :
    Calls Tryz.prog 110 #[.int .i64 i, .pointer (some ⟨a, 0, none⟩), .pointer (some ⟨c, 0, none⟩)] w (Dsk.Answers p F s.tick w (Dsk.St.read s j).1 (Dsk.St.read s j).2) := by
  have H := Lib.hid h
  have HO := Lib.hid hO
  obtain ⟨h1, h2⟩ := hH
  clear h hO
  go_enter Tryz.func110, Tryz.ntmps110
  go_wp2_with fail
  refine (Dsk.read_any w p F s j H.out (by have := HO.out.ops; omega) HO.out.len HO.out.size).mono ?_
  rintro e w' ⟨v, rfl, hA⟩
  have HA := Lib.hid hA
  go_wp2_with fail
  go_ret2
  exact ⟨v, rfl, HA.out⟩
theorem writeC_any (w : World) (p a c m : Nat) (F G : Nat → Prop) (s : St) (i first j : Int) (v : Value) (bs : List Int) (h : DiskAt Tryz.prog w p F s) (hH : Hand w a c p first) (hO : Ok m s) (hm : m < 1000000) (hv : Bys w G v bs) (hG : ∀ b, G b → b < w.heap.size → ¬ F b) (hj : first + i = j) (hj0 : 0 ≤ j) (hj1 : j ≤ 1000000) :
    Calls Tryz.prog 112 #[.int .i64 i, v, .pointer (some ⟨a, 0, none⟩), .pointer (some ⟨c, 0, none⟩)] w (Dsk.Tells p F (s.write j bs).1 w (s.write j bs).2) := by
  have H := Lib.hid h
  have HO := Lib.hid hO
  obtain ⟨A, cc, rfl, hv⟩ := hv
  have HV := Lib.hid (show Bys w G (.slice A bs.length cc) bs from ⟨A, cc, rfl, hv⟩)
  have HG := Lib.hid hG
  obtain ⟨h1, h2⟩ := hH
  clear h hO hv hG
  generalize bs.length = n at *
  go_enter Tryz.func112, Tryz.ntmps112
  go_wp2_with fail
  refine (Dsk.write_any w p F G s j _ bs H.out HV.out HG.out (by have := HO.out.ops; omega) (by have := HO.out.wr; omega) (by have := HO.out.cn; omega) HO.out.len HO.out.size).mono ?_
  rintro e w' ⟨rfl, hA⟩
  have HA := Lib.hid hA
  go_wp2_with fail
  go_ret
  exact ⟨rfl, HA.out⟩
/-- a slot that was read, as a value -/
abbrev slotV (st why q : Int) (img : Value) : Value := .agg #[.int .i64 st, .int .i64 why, .int .u64 q, img]
theorem bad_any (why : Int) (w : World) : Calls Tryz.prog 124 #[.int .i64 why] w fun e w' => e = .returned (slotV 0 why 0 (.slice none 0 0)) ∧ Keeps No w w' := by
  go_enter Tryz.func124, Tryz.ntmps124
  go_wp2_with fail
  go_returns
  exact ⟨rfl, (Keeps.refl _ _).alloc _⟩
end Go.Proofs.YthlemcnbebfliaaGreatDoor
