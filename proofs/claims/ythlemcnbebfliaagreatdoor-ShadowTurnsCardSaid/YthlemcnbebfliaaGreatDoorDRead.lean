/-
  THE WALKS OF Read, settle.
-/
import Derived.Test.YthlemcnbebfliaaGreatDoorDSmall
namespace Go.Proofs.YthlemcnbebfliaaGreatDoor.Dsk
open Ks Go.RowKit
set_option maxRecDepth 20000

theorem zero31 (w : World) : (zeroValue 33).run Tryz.prog w = .ok (.slice none 0 0) w := by kernel_rfl

section
set_option maxRecDepth 20000
variable {w : World} {p : Nat} {F : Nat → Prop} {s : St} {lastV : Value} {lv : List Value} {cb : Nat} {pm : Option Nat} {D : DataW Value}
theorem look_some (h : DiskIn Tryz.prog w p F s lastV lv cb pm D) {i : Int} {bs : List Int} (hi0 : -9223372036854775808 ≤ i) (hi1 : i ≤ 9223372036854775807) (hc : s.cach i = some bs) :
    ∃ v, Byt w F v bs ∧ (Instr.lookup 98 (.map (some cb)) (.int .i64 i) true).run Tryz.prog w = .ok (.tuple #[v, .bool true]) w ∧ (Instr.lookup 98 (.map (some cb)) (.int .i64 i) false).run Tryz.prog w = .ok v w := by
  have hh := h.cache i
  rw [hc] at hh
  obtain ⟨v, h1, h2⟩ := hh
  have hkey := key3 i hi0 hi1
  clear hi0 hi1
  refine ⟨v, h2, ?_, ?_⟩
  · obtain ⟨v', ps, hr, hv⟩ := h.own.look_ok law3 Tryz.underlying98 (zero31 w) (zd := .held (.slice none 0 0)) rfl hkey
    have := heldR_inv hv
    rw [h1] at this
    injection this with this
    subst this
    rw [hr, Maps.has_true_of_atKey h1]
  · obtain ⟨v', ps, hr, hv⟩ := h.own.lookup law3 Tryz.underlying98 (zero31 w) (zd := .held (.slice none 0 0)) rfl hkey
    have := heldR_inv hv
    rw [h1] at this
    injection this with this
    subst this
    exact hr
theorem look_none (h : DiskIn Tryz.prog w p F s lastV lv cb pm D) {i : Int} (hi0 : -9223372036854775808 ≤ i) (hi1 : i ≤ 9223372036854775807) (hc : s.cach i = none) :
    (Instr.lookup 98 (.map (some cb)) (.int .i64 i) true).run Tryz.prog w = .ok (.tuple #[.slice none 0 0, .bool false]) w := by
  have hh := h.cache i
  rw [hc] at hh
  have hh : Maps.has D (K i) = false := hh
  have hkey := key3 i hi0 hi1
  clear hi0 hi1
  obtain ⟨v', ps, hr, hv⟩ := h.own.look_ok law3 Tryz.underlying98 (zero31 w) (zd := .held (.slice none 0 0)) rfl hkey
  have := heldR_inv hv
  rw [Maps.atKey_of_not_has hh] at this
  injection this with this
  subst this
  rw [hr, hh]
/-- a sector's place in the row -/
theorem row_cell (h : DiskIn Tryz.prog w p F s lastV lv cb pm D) {i : Nat} (hi : i < s.last.length) :
    ∃ g c cur, lastV = .slice (some ⟨g, 0, none⟩) s.last.length c ∧ s.last.length ≤ c ∧ Blk w g 33 cur ∧ cur.size = c ∧ w.cell? ⟨g, i, none⟩ = some (lv.getD i undef) ∧ F g := by
  have hf := h.frow
  rcases h.row.2 with ⟨rfl, h0⟩ | ⟨g, cap, cur, rfl, hb, hg, h1, h2, h3, h4⟩
  · omega
  · refine ⟨g, cap, cur, rfl, h1, hg, by simpa using h3, ?_, hf g rfl⟩
    have hl : lv.length = s.last.length := by have := h.row.1; simpa using this
    have := h.row.cells (g := g) rfl i (lv.getD i undef) (by simp [List.getD, hl, hi])
    rw [Go.WideShapes.add_plain] at this
    simpa using this
end

/-- what a Read answers -/
def St.read (s : St) (i : Int) : List Int × Int :=
  if s.fails then ([], 3) else if i < 0 ∨ (s.last.length : Int) ≤ i then ([], 2) else ((s.cach i).getD (s.last.getD i.toNat []), 0)

/-- bytes in new memory, and an error's number; the disk is as told -/
def Answers (p : Nat) (F : Nat → Prop) (s : St) (w : World) (bs : List Int) (err : Int) (e : Ending) (w' : World) : Prop :=
  ∃ v, e = .returned (.tuple #[v, .int .i64 err]) ∧ Byt w' (From w.heap.size) v bs ∧ DiskAt Tryz.prog w' p F s ∧ Keeps F w w'

theorem Byt.nil (w : World) (F : Nat → Prop) : Byt w F (.slice none 0 0) [] := Bys.nil _ _

set_option maxRecDepth 100000 in
set_option maxHeartbeats 1000000 in
theorem read_any (w : World) (p : Nat) (F : Nat → Prop) (s : St) (i : Int) (h : DiskAt Tryz.prog w p F s) (hops : s.ops < 1000000) (hn : s.last.length ≤ 4096) (hs : s.size ≤ 4096) :
    Calls Tryz.prog 111 #[.pointer (some ⟨p, 0, none⟩), .int .i64 i] w (Answers p F s.tick w (St.read s i).1 (St.read s i).2) := by
  have H := Lib.hid h
  clear h
  cases hf : s.fails
  · have HF := Lib.hid hf
    go_enter Tryz.func111, Tryz.ntmps111
    go_wp2_with fail
    refine (nextFails_any w p F s H.out hops).mono ?_
    rintro e w1 ⟨rfl, hd, hk⟩
    rw [HF.out]
    obtain ⟨lastV, lv, cb, pm, D, hin⟩ := hd
    have HK := Lib.hid hk
    have HD := Lib.hid hin
    have c1 := hin.c1
    have c2 := hin.c2
    obtain ⟨A, c, rfl⟩ := row_slice hin.row
    clear hk hin hf
    have hl : s.tick.last.length = s.last.length := rfl
    rw [hl] at c1
    clear hl
    by_cases h0 : i < 0
    · have HR := Lib.hid (show St.read s i = ([], 2) by simp [St.read, HF.out, h0])
      go_wp2_with fail
      go_ret2
      rw [HR.out]
      exact ⟨_, rfl, Byt.nil _ _, ⟨_, _, _, _, _, HD.out⟩, HK.out⟩
    by_cases h1 : (s.last.length : Int) ≤ i
    · have HR := Lib.hid (show St.read s i = ([], 2) by simp [St.read, HF.out, h1])
      go_wp2_with fail
      go_ret2
      rw [HR.out]
      exact ⟨_, rfl, Byt.nil _ _, ⟨_, _, _, _, _, HD.out⟩, HK.out⟩
    have HR := Lib.hid (show St.read s i = ((s.cach i).getD (s.last.getD i.toNat []), 0) by simp [St.read, HF.out, h0, h1])
    have g0 : 0 ≤ i := by omega
    have g1 : i < (s.last.length : Int) := by omega
    cases hc : s.cach i with
    | some bs =>
      have HC := Lib.hid hc
      have hlen := (HD.out.keys i bs hc).2.2
      obtain ⟨v, hv, hl1, hl2⟩ := look_some HD.out (i := i) (by omega) (by omega) (show s.tick.cach i = some bs from hc)
      have HV := Lib.hid hv
      have HL := Lib.hid (show bs.length ≤ 1000000 by have : bs.length = s.size := hlen; omega)
      clear hc hv hl2 hlen
      go_wp2_with fail
      refine (clone_any w1 _ v bs HV.out HL.out).mono ?_
      rintro e w2 ⟨v2, rfl, hb2, hk2⟩
      have HB := Lib.hid hb2
      have HK2 := Lib.hid hk2
      clear hb2 hk2
      go_wp2_with fail
      go_ret2
      rw [HR.out, HC.out]
      refine ⟨_, rfl, HB.out.mono fun b hb => Nat.le_trans HK.out.size hb, ?_, HK.out.then HK2.out (fun b hb => hb.elim)⟩
      exact DiskAt.keeps ⟨_, _, _, _, _, HD.out⟩ HK2.out (fun _ _ h => h)
    | none =>
      have HC := Lib.hid hc
      have hl1 := look_none HD.out (i := i) (by omega) (by omega) (show s.tick.cach i = none from hc)
      obtain ⟨g, c', cur, he, hlc, hblk, hcs, hcell, hFg⟩ := row_cell HD.out (i := i.toNat) (show i.toNat < s.last.length by omega)
      have hv := HD.out.sect i.toNat (show i.toNat < s.last.length by omega)
      have hlen := HD.out.lens i.toNat (show i.toNat < s.last.length by omega)
      generalize hvv : lv.getD i.toNat undef = v at *
      have HV := Lib.hid (show Byt w1 F v (s.last.getD i.toNat []) from hv)
      have HL := Lib.hid (show (s.last.getD i.toNat []).length ≤ 1000000 by have : (s.last.getD i.toNat []).length = s.size := hlen; omega)
      simp only [Value.slice.injEq] at he
      obtain ⟨rfl, _, rfl⟩ := he
      clear hc hv hlen hvv hblk hcs hFg
      go_wp2_with fail
      refine (clone_any w1 _ v _ HV.out HL.out).mono ?_
      rintro e w2 ⟨v2, rfl, hb2, hk2⟩
      have HB := Lib.hid hb2
      have HK2 := Lib.hid hk2
      clear hb2 hk2
      go_wp2_with fail
      go_ret2
      rw [HR.out, HC.out]
      refine ⟨_, rfl, HB.out.mono fun b hb => Nat.le_trans HK.out.size hb, ?_, HK.out.then HK2.out (fun b hb => hb.elim)⟩
      exact DiskAt.keeps ⟨_, _, _, _, _, HD.out⟩ HK2.out (fun _ _ h => h)
  · have HF := Lib.hid hf
    have HR := Lib.hid (show St.read s i = ([], 3) by simp [St.read, hf])
    clear hf
    go_enter Tryz.func111, Tryz.ntmps111
    go_wp2_with fail
    refine (nextFails_any w p F s H.out hops).mono ?_
    rintro e w1 ⟨rfl, hd, hk⟩
    rw [HF.out]
    have HK := Lib.hid hk
    have HD := Lib.hid hd
    clear hk hd
    go_wp2_with fail
    go_ret2
    rw [HR.out]
    exact ⟨_, rfl, Byt.nil _ _, HD.out, HK.out⟩
end Go.Proofs.YthlemcnbebfliaaGreatDoor.Dsk
