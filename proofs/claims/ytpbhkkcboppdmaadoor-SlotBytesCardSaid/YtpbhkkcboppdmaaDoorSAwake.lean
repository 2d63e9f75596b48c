/-
  A DISK IN A LAW'S MEMORY; THE WALK OF keepsakelaw06.awake.
-/
import Derived.Test.YtpbhkkcboppdmaaDoorSMath
import Derived.Test.YtpbhkkcboppdmaaDoorDNew
namespace Go.Proofs.YtpbhkkcboppdmaaDoor
open Ks Go.RowKit
set_option maxRecDepth 20000

/-- a disk in memory that a law made: its blocks are from N on, and nothing below N was changed since w -/
structure Dk (N : Nat) (w W : World) (p : Nat) (F : Nat → Prop) (s : St) : Prop where
  disk : DiskAt Tryd.prog W p F s
  ge : ∀ b, F b → N ≤ b
  bel : Below N w W
  tab : Tab W
  two : 2 ≤ N
  le : N ≤ W.heap.size
section
variable {N : Nat} {w W w' : World} {p : Nat} {F : Nat → Prop} {s s' : St}
theorem Dk.keeps (H : Dk N w W p F s) (hk : Keeps F W w') (hd : DiskAt Tryd.prog w' p F s') : Dk N w w' p F s' := by
  have hb : Below N W w' := hk.below H.ge H.le
  exact ⟨hd, H.ge, H.bel.trans hb, tab_below H.tab hb H.two, H.two, Nat.le_trans H.le hk.size⟩
theorem Dk.reads {x : Slt} {er : Int} {e : Ending} (H : Dk N w W p F s) (h : Reads W p F s' x er e w') : Dk N w w' p F s' := H.keeps h.1 h.2.1
theorem Dk.tells {er : Int} {e : Ending} (H : Dk N w W p F s) (h : Dsk.Tells p F s' W er e w') : Dk N w w' p (Dsk.Grow F W w') s' := by
  obtain ⟨_, hd, hk⟩ := h
  have hb : Below N W w' := hk.below H.ge H.le
  exact ⟨hd, fun b hg => by rcases hg with hg | hg; exact H.ge b hg; exact Nat.le_trans H.le hg.1, H.bel.trans hb, tab_below H.tab hb H.two, H.two, Nat.le_trans H.le hk.size⟩
theorem Dk.below (H : Dk N w W p F s) (hb : Below W.heap.size W w') : Dk N w w' p F s := H.keeps (Keeps.of_below hb).no (H.disk.below_ hb)
theorem Dk.start (hT : Tab w) (hk : Keeps No w W) (hd : DiskAt Tryd.prog W p (Dsk.Grow No w W) s) : Dk w.heap.size w W p (Dsk.Grow No w W) s := by
  have hb : Below w.heap.size w W := hk.below (fun b hb => hb.elim) (Nat.le_refl _)
  exact ⟨hd, fun b hg => by rcases hg with hg | hg; exact hg.elim; exact hg.1, hb, tab_below hT hb (tab_pos hT), tab_pos hT, hk.size⟩
end
theorem ok_fresh (n : Nat) (l : List (List Int)) (m : Nat) (h8 : ∀ x ∈ l, In8 x) (h1 : l.length ≤ 4096) (h2 : n ≤ 4096) : Ok m (Dsk.fresh n l) := ⟨h8, (fun _ _ h => by cases h), Nat.zero_le _, Nat.zero_le _, Nat.zero_le _, Nat.zero_le _, h1, h2⟩
theorem in8_zeros (n : Nat) : In8 (List.replicate n 0) := fun v hv => by rw [List.eq_of_mem_replicate hv]; omega
theorem new_in8 (m n : Nat) : ∀ x ∈ List.replicate m (List.replicate n (0 : Int)), In8 x := fun x hx => by rw [List.eq_of_mem_replicate hx]; exact in8_zeros n
theorem nofail_fresh (n : Nat) (l : List (List Int)) : NoFail (Dsk.fresh n l) := fun _ => rfl
theorem put_ok {m : Nat} {s s2 : St} {which a b c er : Int} {l : List Int} (h : Ok m s) (h8 : In8 l) (hp : put_ s which a b c l = (s2, er)) : Ok (m + many l.length s.size) s2 := by
  unfold put_ at hp
  split at hp
  · rw [show s2 = _ from (congrArg Prod.fst hp).symm]
    exact h.mono (by omega)
  · rw [show s2 = _ from (congrArg Prod.fst hp).symm]
    exact (stores_ok h _ _ (secs_in h8) _).1
theorem padded_in {l : List Int} (h : In8 l) (z : Nat) : In8 (padded l z) := by
  intro v hv
  unfold padded at hv
  rcases List.mem_append.1 hv with h1 | h1
  · exact h v h1
  · exact in8_zeros _ v h1
theorem laid_ok {m : Nat} {s s2 : St} {which a b c q er : Int} {l : List Int} (h : Ok m s) (hp : laid s which a b c q l = (s2, er)) : Ok (m + 1) s2 := by
  unfold laid at hp
  split at hp
  · rw [show s2 = _ from (congrArg Prod.fst hp).symm]
    exact h.mono (by omega)
  · rw [show s2 = _ from (congrArg Prod.fst hp).symm]
    exact h.write _ _ (padded_in (enc_in _ _ _ _ _ _) _)
theorem wiped_ok {m : Nat} {s s2 : St} {which a b c er : Int} (h : Ok m s) (hp : wiped s which a b c = (s2, er)) : Ok (m + 1) s2 := by
  unfold wiped at hp
  split at hp
  · rw [show s2 = _ from (congrArg Prod.fst hp).symm]
    exact h.mono (by omega)
  · rw [show s2 = _ from (congrArg Prod.fst hp).symm]
    exact h.write _ _ (padded_in (fun v hv => by cases hv) _)
abbrev Z64 : Array Value := madeCells #[Value.int .u8 0] 64
theorem make64 (w : World) : (Instr.makeSlice 27 (.int .i64 64) (.int .i64 64)).run Tryd.prog w = .ok (.slice (some ⟨w.heap.size, 0, none⟩) 64 64) (w.alloc (.cells Z64 5)) := make_bytes 64 (by omega) w
theorem bytes64 (w : World) : Bytes (w.alloc (.cells Z64 5)) (w.alloc (.cells Z64 5)).heap.size (some ⟨w.heap.size, 0, none⟩) 64 (List.replicate 64 0) := (row_made w 64).bytes (in8_zeros 64) (by simp)
set_option maxHeartbeats 1000000 in
theorem awake_any (w : World) (hT : Tab w) : Calls Tryd.prog 8 #[] w fun e w' => e = .returned (.bool true) ∧ Below w.heap.size w w' := by
  have hfe : forErr (Dsk.fresh 32 (List.replicate 6 (List.replicate 32 0))) 1 0 0 1 (List.replicate 64 (0 : Int)).length = 0 := by decide
  obtain ⟨s1, s2, hp, hl, hf1, hf2, hz1, hz2, hl1, hl2, hhas, hvw⟩ := laid_has (q := 9) (nofail_fresh 32 (List.replicate 6 (List.replicate 32 0))) (z := 32) rfl (by omega) hfe
  have hgood := read_good hf2 (q := 9) hz2 (by omega) (by rw [forErr_of (s := Dsk.fresh 32 (List.replicate 6 (List.replicate 32 0))) hz2 hl2]; exact hfe) (by omega) hhas
  have hO0 := ok_fresh 32 (List.replicate 6 (List.replicate 32 0)) 0 (new_in8 6 32) (by simp) (by omega)
  have hO1 := put_ok hO0 (in8_zeros 64) hp
  have hO2 := laid_ok hO1 hl
  have hm2 : many (List.replicate 64 (0 : Int)).length (Dsk.fresh 32 (List.replicate 6 (List.replicate 32 0))).size = 2 := by decide
  rw [hm2] at hO1 hO2
  have HP := Lib.hid hp
  have HL := Lib.hid hl
  have HG := Lib.hid hgood
  have HO0 := Lib.hid hO0
  have HO1 := Lib.hid hO1
  have HO2 := Lib.hid hO2
  have HZ1 := Lib.hid hz1
  have HZ2 := Lib.hid hz2
  have HSP := Lib.hid (show spanOf 32 0 0 1 = 3 by decide)
  have hmk := make64
  obtain ⟨g0, g1, g2⟩ := boxed w (.int .i64 0) (.int .i64 0) (.int .i64 1) 23
  have HB := Lib.hid (below_box w (.cells #[.int .i64 0, .int .i64 0, .int .i64 1] 23))
  have HT := Lib.hid (tab_below hT HB.out (tab_pos hT))
  have HW := Lib.hid (show w.heap.size < (w.alloc (.cells #[.int .i64 0, .int .i64 0, .int .i64 1] 23)).heap.size by simp)
  clear hfe hhas hgood hO0 hO1 hO2 hm2 hp hl hf1 hf2 hz1 hz2 hl1 hl2 hT hvw
  go_enter Tryd.func8, Tryd.ntmps8
  go_wp2_with fail
  generalize w.alloc (.cells #[.int .i64 0, .int .i64 0, .int .i64 1] 23) = W at *
  refine (Dsk.new_ok W 6 32 (by omega) (by omega) (by omega)).mono ?_
  rintro e w1 ⟨p, rfl, hd1, hk1⟩
  have D1 := Lib.hid (Dk.start HT.out hk1 hd1)
  clear hd1 hk1
  generalize Dsk.Grow No W w1 = F1 at *
  have HGE := Lib.hid (And.intro g0 (And.intro g1 g2))
  have HC1 := Lib.hid (geo_below HGE.out (D1.out.bel))
  clear g0 g1 g2
  obtain ⟨g0, g1, g2⟩ := HC1.out
  go_upto_region 5 with fail
  have b2 := below_box w1 (.cells Z64 5)
  have D2 := Lib.hid (D1.out.below b2.drew)
  have hY := bytes64 w1
  have HY := Lib.hid (show Bytes (w1.alloc (.cells Z64 5)).drew (w1.alloc (.cells Z64 5)).drew.heap.size (some ⟨w1.heap.size, 0, none⟩) 64 (List.replicate 64 0) from hY)
  clear b2 hY
  go_region_held3 (fun w' => w'.cell? ⟨w.heap.size, 0, none⟩ = some (.int .i64 0) ∧ w'.cell? ⟨w.heap.size, 1, none⟩ = some (.int .i64 0) ∧ w'.cell? ⟨w.heap.size, 2, none⟩ = some (.int .i64 1)) (first | (with_reducible exact Z4.out) | go_keep) (first
    | (go_at_call 23; refine (data_any (w1.alloc (.cells Z64 5)).drew p 0 64 64 F1 _ s1 1 0 0 1 0 _ (List.replicate 64 0) D2.out.tab D2.out.disk HO0.out (by decide) HY.out (by omega) HP.out).mono ?_; rintro e w3 ht
       have D3 := Lib.hid (D2.out.tells ht)
       have Z4 := Lib.hid (geo_below HGE.out D3.out.bel)
       obtain ⟨rfl, _⟩ := ht))
  generalize Dsk.Grow F1 (w1.alloc (.cells Z64 5)).drew w3 = F3 at *
  clear D1 D2 HY HC1 g0 g1 g2
  obtain ⟨g0, g1, g2⟩ := Z4.out
  go_upto_region 6 with fail
  have b4 := below_box w3 (.cells Z64 5)
  have D4 := Lib.hid (D3.out.below b4.drew)
  have hY := bytes64 w3
  have HY := Lib.hid (show Bytes (w3.alloc (.cells Z64 5)).drew (w3.alloc (.cells Z64 5)).drew.heap.size (some ⟨w3.heap.size, 0, none⟩) 64 (List.replicate 64 0) from hY)
  clear b4 hY
  go_region_held3 (fun w' => w'.cell? ⟨w.heap.size, 0, none⟩ = some (.int .i64 0) ∧ w'.cell? ⟨w.heap.size, 1, none⟩ = some (.int .i64 0) ∧ w'.cell? ⟨w.heap.size, 2, none⟩ = some (.int .i64 1)) (first | (with_reducible exact Z6.out) | go_keep) (first
    | (go_at_call 24; refine (seal_any (w3.alloc (.cells Z64 5)).drew p (0 + 2) 64 64 F3 s1 s2 1 0 0 1 9 0 _ (List.replicate 64 0) D4.out.tab D4.out.disk HO1.out (by omega) HY.out (by omega) HL.out).mono ?_; rintro e w5 ht
       have D5 := Lib.hid (D4.out.tells ht)
       have Z6 := Lib.hid (geo_below HGE.out D5.out.bel)
       obtain ⟨rfl, _⟩ := ht))
  generalize Dsk.Grow F3 (w3.alloc (.cells Z64 5)).drew w5 = F5 at *
  clear D3 D4 HY Z4 g0 g1 g2
  obtain ⟨g0, g1, g2⟩ := Z6.out
  go_wp2_with fail
  obtain ⟨r, hr⟩ : ∃ r, readOf s2 1 0 0 1 = r := ⟨_, rfl⟩
  refine (read_any w5 p (0 + 2 + 1) F5 s2 1 0 0 1 D5.out.tab (fun b hb => Nat.le_trans D5.out.two (D5.out.ge b hb)) D5.out.disk HO2.out (by rw [HZ2.out]; decide)).mono ?_
  have hg := HG.out
  rw [hr] at hg ⊢
  obtain ⟨rs, rx, re⟩ := r
  injection hg with hg1 hg2
  subst hg1 hg2
  rintro e w6 hrd
  have D6 := Lib.hid (D5.out.reads hrd)
  obtain ⟨_, _, v, rfl, ivv, rfl, hown⟩ := hrd
  obtain ⟨Av, nv, cv, rfl⟩ : ∃ A n c, ivv = .slice A n c := by
    rcases hown.2 with ⟨rfl, _⟩ | ⟨g, cap, cur, rfl, _⟩ <;> exact ⟨_, _, _, rfl⟩
  clear hown hr
  have b7 := below_box w6 (.cells #[.int .i64 2, .int .i64 0, .int .u64 9, .slice Av nv cv] 37)
  have D7 := Lib.hid (D6.out.below b7)
  have hn7 := Blk.new w6 37 #[.int .i64 2, .int .i64 0, .int .u64 9, .slice Av nv cv]
  have k0 := hn7.c4.1
  have k2 := hn7.c4.2.2.1
  have HN7 := Lib.hid hn7
  have HC7 := Lib.hid (geo_below HGE.out D7.out.bel)
  clear b7 hn7 g0 g1 g2 D5 D6
  obtain ⟨g0, g1, g2⟩ := HC7.out
  go_wp2_with fail
  clear k0 k2
  generalize w6.alloc (.cells #[.int .i64 2, .int .i64 0, .int .u64 9, .slice Av nv cv] 37) = w7 at *
  refine (span_any 32 0 0 1 3 _ _ (On.start D7.out.tab) HSP.out).mono ?_
  rintro e w8 ⟨rfl, hw8⟩
  have D8 := Lib.hid (D7.out.below hw8.bel)
  have HC8 := Lib.hid (geo_below HGE.out D8.out.bel)
  clear hw8 g0 g1 g2 D7
  obtain ⟨g0, g1, g2⟩ := HC8.out
  go_wp2_with fail
  refine (room_any 32 0 0 1 6 _ _ (On.start D8.out.tab) (by rw [HSP.out]; rfl)).mono ?_
  rintro e w9 ⟨rfl, hw9⟩
  have D9 := Lib.hid (D8.out.below hw9.bel)
  clear hw9
  go_wp2_with fail
  go_ret
  exact ⟨rfl, HB.out.trans (D9.out.bel.mono HB.out.size)⟩
end Go.Proofs.YtpbhkkcboppdmaaDoor
