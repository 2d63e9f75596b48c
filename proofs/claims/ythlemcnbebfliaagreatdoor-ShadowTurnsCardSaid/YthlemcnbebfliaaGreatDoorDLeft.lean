/-
  THE WALK OF left.
-/
import Derived.Test.YthlemcnbebfliaaGreatDoorDSettle
import Derived.WalkSpells
namespace Go.Proofs.YthlemcnbebfliaaGreatDoor.Dsk
open Ks Go.RowKit
set_option maxRecDepth 20000

/-- bytes, cut to n, or filled with 0 -/
def junk (n : Nat) (bs : List Int) : List Int := bs.take n ++ List.replicate (n - bs.length) 0
theorem junk_length (n : Nat) (bs : List Int) : (junk n bs).length = n := by simp [junk]; omega
/-- what a tear leaves -/
def leftOf (s : St) (i : Int) (kind : Int) (tb : List Int) : List Int :=
  if kind = 1 then (s.cach i).getD [] else if kind = 2 then junk s.size tb else s.last.getD i.toNat []

def LeftPost (F : Nat → Prop) (w : World) (bs : List Int) (e : Ending) (w' : World) : Prop :=
  ∃ v, e = .returned v ∧ Byt w' (Or F (From w.heap.size)) v bs ∧ Keeps No w w'

theorem made_cells (n : Nat) : (madeCells #[Value.int .u8 0] n).toList = List.replicate n (.int .u8 0) := by
  apply List.ext_getElem
  · simp [madeCells]
  · intro i h1 h2
    simp [madeCells, Nat.mod_one]

/-- copy of bytes onto a new row of zeros -/
theorem copy_junk (w : World) (n ty : Nat) (F : Nat → Prop) (u : Value) (tb : List Int) (hu : Bys w F u tb) (hn : n ≤ 1000000) :
    ∃ w' x, (Builtin.copy_ #[33, 33] ty #[.slice (some ⟨w.heap.size, 0, none⟩) n n, u]).run Tryz.prog (w.alloc (.cells (madeCells #[.int .u8 0] n) 5)) = .ok (.int .i64 x) w' ∧ Keeps No w w' ∧
      Byt w' (From w.heap.size) (.slice (some ⟨w.heap.size, 0, none⟩) n n) (junk n tb) := by
  have hz : (Tryz.prog.info? 5).map (·.size) = some 1 := by kernel_rfl
  have key : ∀ w' : World, w'.heap[w.heap.size]? = some (.cells (((junk n tb).map (Value.int .u8)).toArray) 5 (0, 0)) → Byt w' (From w.heap.size) (.slice (some ⟨w.heap.size, 0, none⟩) n n) (junk n tb) := by
    intro w' hb
    refine ⟨_, _, by rw [junk_length], by rw [junk_length]; exact Nat.le_refl _, fun _ => ⟨w.heap.size, 0, rfl, ⟨Nat.le_refl _, _, hb⟩, fun k hk => ?_⟩⟩
    rw [Nat.zero_add, cell_of_row _ _ _ _ _ _ hb]
    simp [List.getD, hk]
  have hheap := heap_alloc_new w (.cells (madeCells #[Value.int .u8 0] n) 5)
  obtain ⟨A, c, rfl, hc, hcell⟩ := hu
  by_cases h0 : Nat.min tb.length n = 0
  · refine ⟨_, 0, run_copy_none _ 33 33 ty 5 _ _ n n tb.length c Tryz.underlying33 hz h0, (Keeps.refl _ _).alloc _, key _ ?_⟩
    rw [hheap]
    have hj : junk n tb = List.replicate n 0 := by
      unfold junk
      rcases Nat.eq_zero_or_pos n with rfl | hn
      · simp
      · have : tb = [] := List.eq_nil_of_length_eq_zero (by have h0' : min tb.length n = 0 := h0; omega)
        subst this
        simp
    rw [hj]
    have : madeCells #[Value.int .u8 0] n = ((List.replicate n (0 : Int)).map (Value.int .u8)).toArray := by
      apply Array.ext'
      rw [made_cells]
      simp
    rw [this]
  · have hpos : 0 < tb.length := by
      have h0' : ¬ min tb.length n = 0 := h0
      omega
    obtain ⟨b, o, rfl, hF, hcs⟩ := hcell hpos
    have hb : b < w.heap.size := block_lt_of_cell (hcs 0 hpos)
    have hl : ((tb.take n).map (Value.int .u8)).length = Nat.min tb.length n := by simp [Nat.min_comm]
    have hr := run_copy_row (P := Tryz.prog) (w.alloc (.cells (madeCells #[.int .u8 0] n) 5)) 33 33 ty 5 w.heap.size 0 n n ⟨b, o, none⟩ tb.length c _ 5 ((tb.take n).map (Value.int .u8)) Tryz.underlying33 hz hheap hl (fun j v hj => by
      rw [Go.WideShapes.add_plain]
      show World.cell? _ ⟨b, o + j, none⟩ = _
      rw [World.cell?_alloc_lt _ _ _ hb]
      have hjl : j < (tb.take n).length := by have := (List.getElem?_eq_some_iff.1 hj).1; simpa using this
      have hj2 : j < tb.length := by simp at hjl; omega
      rw [hcs j hj2]
      simp at hjl
      simp [hjl] at hj
      simp [List.getD, hj2, hj]) (by simp [madeCells]; omega) (ints_one _)
    refine ⟨_, _, hr, ((Keeps.refl No w).alloc _).then (T := fun x => x = w.heap.size) ⟨rfl, rfl, rfl, by simp [World.setRow], fun k _ hk => setRow_other _ _ _ _ hk⟩ (fun x hx => .inr (by omega)), key _ ?_⟩
    rw [setRow_heap _ _ _ _ _ _ hheap]
    have e : List.take 0 (madeCells #[Value.int .u8 0] n).toList ++ (tb.take n).map (Value.int .u8) ++ List.drop (0 + ((tb.take n).map (Value.int .u8)).length) (madeCells #[Value.int .u8 0] n).toList = (junk n tb).map (Value.int .u8) := by
      rw [made_cells, hl, List.take_zero, List.nil_append, Nat.zero_add, List.drop_replicate]
      unfold junk
      rw [List.map_append, List.map_replicate]
      have e2 : n - Nat.min tb.length n = n - tb.length := by
        show n - min tb.length n = _
        omega
      rw [e2]
    rw [e]

set_option maxRecDepth 100000 in
set_option maxHeartbeats 1000000 in
theorem left_any (w : World) (p : Nat) (F G : Nat → Prop) (s : St) (i kind : Int) (tv : Value) (tb : List Int) (h : DiskAt Tryz.prog w p F s) (ht : Bys w G tv tb) (bs : List Int) (hc : s.cach i = some bs) (hs : s.size ≤ 4096) (hn : s.last.length ≤ 4096) :
    Calls Tryz.prog 63 #[.pointer (some ⟨p, 0, none⟩), .int .i64 i, .agg #[.int .i64 kind, tv]] w (LeftPost F w (leftOf s i kind tb)) := by
  obtain ⟨lastV, lv, cb, pm, D, hin⟩ := h
  obtain ⟨hi0, hi1, hlen⟩ := hin.keys i bs hc
  have hlt := hin.blk.lt
  have HI := Lib.hid hin
  have hin1 : DiskIn Tryz.prog (w.alloc (.cells #[.int .i64 kind, tv] 82)) p F s lastV lv cb pm D := hin.keep (fun b hb => Below.heap_alloc _ _ _ (hin.there b hb)) (by simp)
  have c0 := hin1.c0
  have c1 := hin1.c1
  have c2 := hin1.c2
  by_cases h1 : kind = 1
  · subst h1
    have HR := Lib.hid (show leftOf s i 1 tb = bs by simp [leftOf, hc])
    obtain ⟨v, hv, _, hl2⟩ := look_some hin1 (i := i) (by omega) (by omega) hc
    have HV := Lib.hid hv
    clear hc hv hin hin1 c0 c1 ht
    go_enter Tryz.func63, Tryz.ntmps63
    go_wp2_with fail
    go_ret
    rw [HR.out]
    exact ⟨_, rfl, HV.out.mono fun b hb => .inl hb, (Keeps.refl _ _).alloc _⟩
  · by_cases h2 : kind = 2
    · subst h2
      have HR := Lib.hid (show leftOf s i 2 tb = junk s.size tb by simp [leftOf])
      have ht1 : Bys (w.alloc (.cells #[.int .i64 2, tv] 82)) G tv tb := ht.keeps ((Keeps.refl No w).alloc _) (fun _ _ _ h => h)
      obtain ⟨A, c, rfl, _, _⟩ := ht
      obtain ⟨w', x, hcopy, hk, hb⟩ := copy_junk _ s.size 3 G _ tb ht1 (by omega)
      have hmake := run_make_row' (P := Tryz.prog) 33 5 (.int .u8 0) 1 Tryz.underlying33 info5 rfl .i64 .i64 s.size (by omega) (by omega)
      have e1 : (w.alloc (.cells #[.int .i64 2, .slice A tb.length c] 82)).heap.size = w.heap.size + 1 := by simp
      rw [e1] at hcopy hb
      have HB := Lib.hid hb
      have HK := Lib.hid hk
      clear hc hin hin1 c1 c2 ht1 hb hk e1
      go_enter Tryz.func63, Tryz.ntmps63
      go_wp2_with fail
      go_ret
      rw [HR.out]
      exact ⟨_, rfl, HB.out.mono fun b hb => .inr (Nat.le_of_succ_le hb), ((Keeps.refl No w).alloc _).trans HK.out⟩
    · have b1 : (kind == 1) = false := by simpa using h1
      have b2 : (kind == 2) = false := by simpa using h2
      have HR := Lib.hid (show leftOf s i kind tb = s.last.getD i.toNat [] by simp [leftOf, h1, h2])
      obtain ⟨g, c', cur, rfl, hlc, hblk, hcs, hcell, hFg⟩ := row_cell hin1 (i := i.toNat) (show i.toNat < s.last.length by omega)
      have hv := hin1.sect i.toNat (show i.toNat < s.last.length by omega)
      have HV := Lib.hid hv
      clear hc hin hin1 c0 c2 ht hv h1 h2 hblk hcs
      go_enter Tryz.func63, Tryz.ntmps63
      go_wp2_with fail
      go_ret
      rw [HR.out]
      exact ⟨_, rfl, HV.out.mono fun b hb => .inl hb, (Keeps.refl _ _).alloc _⟩
end Go.Proofs.YthlemcnbebfliaaGreatDoor.Dsk
