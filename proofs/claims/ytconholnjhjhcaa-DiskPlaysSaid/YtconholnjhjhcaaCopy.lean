/-
  THE WALK OF Copy.
-/
import Derived.Test.YtconholnjhjhcaaCopyMem
import Derived.Deep.RegionHeld3
import Derived.Deep.RegionLaw
namespace Go.Proofs.Ytconholnjhjhcaa
open Ks Go.RowKit

set_option maxRecDepth 100000 in
set_option maxHeartbeats 8000000 in
theorem copy_none (w : World) (p : Nat) (F : Nat → Prop) (s : St) {lastV : Value} {lv : List Value} {cb : Nat} {D : DataW Value} (hin : DiskIn Try.prog w p F s lastV lv cb none D) (hf : s.last.length ≤ 4096) (hs : s.size ≤ 4096) (hcn : s.cn < 1000000) :
    Calls Try.prog 33 #[.pointer (some ⟨p, 0, none⟩)] w (Copied w s) := by
  obtain ⟨A, c, rfl⟩ := row_slice hin.row
  have c0 := hin.c0
  have c1 := hin.c1
  have c2 := hin.c2
  have c3 := hin.c3
  have c4 := hin.c4
  have c5 := hin.c5
  have hmm := @run_makeMap Try.prog
  have hlt := hin.blk.lt
  have H := Lib.hid hin
  have cC := fun W => AnyW.maps_Clone_nil Try.cloneA W
  clear hin
  go_enter Try.func33, Try.ntmps33
  go_wp2_with fail
  go_region_held3 (fun w' => w'.cell? ⟨p, 0, none⟩ = some (.int .i64 s.size) ∧ w'.cell? ⟨p, 3, none⟩ = some (.map none) ∧ w'.cell? ⟨p, 4, none⟩ = some (.int .i64 s.ops) ∧ w'.cell? ⟨p, 5, none⟩ = some (.int .i64 s.wr))
    (go_keep)
    (first | (go_at_call 49; refine (cC _).mono ?_; rintro e w' ⟨rfl, rfl⟩))
  all_goals
    have HSTART := Lib.hid (copy_start_none w s (H.out.plan))
    clear hmm cC c0 c3 c4 c5
    go_wp2_with fail
    go_loopw [33] (fun i wr => ∃ k : Nat, k ≤ s.last.length ∧ i = .int .i64 k ∧ CopyAt w s (w.heap.size + 1) (w.heap.size) (none) k wr) (fun i _ => s.last.length - (intOf i).toNat)
    case atStart => exact ⟨0, Nat.zero_le _, rfl, HSTART.out⟩
    case round =>
      obtain ⟨k, hk, rfl, lastV', lv', h1, h2, h3, h4, h5, h6, h7, h8⟩ := hrel
      have H1 := Lib.hid h1
      have H2 := Lib.hid h2
      have H3 := Lib.hid h3
      have H4 := Lib.hid h4
      have H5 := Lib.hid h5
      have H6 := Lib.hid h6
      have H7 := Lib.hid h7
      have H8 := Lib.hid h8
      by_cases hlt2 : k < s.last.length
      · obtain ⟨g0, c', cur, e, hlc, hblk, _, hcell, _⟩ := row_cell H.out hlt2
        simp only [Value.slice.injEq, true_and] at e
        obtain ⟨rfl, rfl⟩ := e
        have hcl : wr.cell? ⟨g0, k, none⟩ = some (lv.getD k undef) := (h4.cell hblk.lt (fun h => h)).trans hcell
        have hvb := (H.out.sect k hlt2).keeps h4 (fun _ _ h => h)
        have hln := H.out.lens k hlt2
        obtain ⟨v0, hv0⟩ : ∃ v0, lv.getD k undef = v0 := ⟨_, rfl⟩
        rw [hv0] at hcl hvb
        have HVB := Lib.hid hvb.bys
        have HLN := Lib.hid hln
        obtain ⟨A0, cc0, rfl⟩ : ∃ A0 cc0, v0 = .slice A0 s.size cc0 := (by obtain ⟨A, c, e⟩ := Bys.form hvb; exact ⟨A, c, by rw [e, hln]⟩)
        have d1 := h1.cell 1
        have f1 := h1.frozen 1
        have hpl := h1.lt
        simp only [List.getElem?_toArray, List.getElem?_cons_succ, List.getElem?_cons_zero] at d1
        obtain ⟨i0, hi, hz0, hz1, hz2⟩ := info_parts info31
        have hk0 : (0 : Int) ≤ (k : Int) := by omega
        have hk1 : (k : Int) < (s.last.length : Int) := by omega
        clear h1 h2 h3 h4 h5 h6 h7 h8 hvb hln hv0 hblk hcell
        go_wp2_with fail
        go_region_law (first
          | (refine step_append_lies _ (by rfl) _ _ _ (by rfl) w.heap.size 31 i0 _ 1 24 Try.underlying40 hi hz0 hz1 hz2 rfl (by omega) _ k lv' (by rfl) HROW.out
              ⟨w2.heap.size, 0, none⟩ 1 1 [.slice A2 s.size c2'] (by rfl) (by rfl) (World.news_of_block (cs := #[.slice A2 s.size c2']) (t := 31) (fr := (0, 0)) (heap_alloc_new w2 _)) HONE.out
              (by omega) (by unfold maxLen; omega) (by omega) HBASE.out (w2.heap.size + 1) (by simp) ?_; intro g cap w4 hown4 hgrow4 hat4 hlt4
             have HO4 := Lib.hid hown4
             have HG4 := Lib.hid hgrow4
             have hB4 := open_blk H1.out H2.out HK2.out HG4.out
             have Z4 := hB4.cell 1
             have F4 := hB4.frozen 1
             simp only [List.getElem?_toArray, List.getElem?_cons_succ, List.getElem?_cons_zero] at Z4
             clear hown4 hgrow4 hat4 hlt4 hB4)
          | (go_simp; go_at_call 45; refine (clone_any wr.drew F _ (s.last.getD k []) HVB.out (by have := HLN.out; omega)).mono ?_; rintro e w2 ⟨v2, rfl, hb2, hk2⟩
             obtain ⟨A2, c2', rfl⟩ : ∃ A2 c2', v2 = .slice A2 s.size c2' := (by obtain ⟨A, c, e, _⟩ := hb2; exact ⟨A, c, by rw [e, HLN.out]⟩)
             have HB2 := Lib.hid hb2
             have HK2 := Lib.hid hk2.of_drew
             have hB2 : Blk w2 (w.heap.size + 1) 70 _ := H1.out.of_eq (HK2.out.block _ H1.out.lt (fun h => h))
             have Z2 := hB2.cell 1
             have ZL := hB2.lt
             simp only [List.getElem?_toArray, List.getElem?_cons_succ, List.getElem?_cons_zero] at Z2
             have HROW := Lib.hid ((ownsRow_of_eq (w' := w2) H2.out (fun g hg => HK2.out.block g (own_lt H2.out hg) (fun h => h))).alloc (.cells #[.slice A2 s.size c2'] 31))
             have HONE := Lib.hid (byt_one hb2)
             have HBASE := Lib.hid (show w.heap.size ≤ (w2.alloc (.cells #[.slice A2 s.size c2'] 31)).heap.size by have h1 := H4.out.size; have h2 := HK2.out.size; simp; omega)
             clear hb2 hk2 hB2))
        all_goals
          have R := Lib.hid (copy_step H1.out H2.out H3.out H4.out H5.out H6.out H7.out H8.out HK2.out HB2.out HO4.out HG4.out)
          clear Z2 Z4 F4 d1 f1 hcl
          go_wp2_with fail
          go_roundw
          case rel => exact ⟨k + 1, by omega, by go_num, R.out⟩
          case measure => simp [intOf]; omega
      · obtain rfl : k = s.last.length := by omega
        have hownS := ownsMap_of_eq H.out.own (h4.block cb H.out.own.lt (fun h => h))
        have HOWNS := Lib.hid hownS
        have e2 : wr.cell? ⟨p, 2, none⟩ = some (.map (some cb)) := (h4.cell hlt (fun h => h)).trans c2
        have hge : decide ((s.last.length : Int) < (s.last.length : Int)) = false := by simp
        have hge2 : decide (s.last.length < s.last.length) = false := by simp
        clear h1 h2 h3 h4 h5 h6 h7 h8 hownS
        go_wp2_with (first
          | (at_range; refine wpList_range_own _ rfl _ 67 rfl 3 31 law3 Try.underlying67 _ cb s.cn D rfl HOWNS.out ?_; intro w0 hrg0 hg0 hs0))
        go_frame
        have HST2 := Lib.hid (copy_range H.out H1.out H2.out H3.out H4.out H5.out H6.out H7.out H8.out hrg0 hg0)
        obtain ⟨r0, hr0⟩ : ∃ r, wr.heap.size = r := ⟨_, rfl⟩
        rw [hr0] at HST2 ⊢
        clear hrg0 hg0 hs0 hr0
        go_loopw [6] (fun _ wr2 => CopyAt2 w s cb (w.heap.size + 1) (w.heap.size) r0 (none) D wr2) (fun _ wr2 => wr2.rangeLeft cb r0)
        case atStart => exact HST2.out
        case round =>
          obtain ⟨lastV2, lv2, left, cnt, D', r1, r2, r3, r4, r5, r6, r7, r8, r9, r10, r11, r12, r13⟩ := hrel
          have R1 := Lib.hid r1
          have R3 := Lib.hid r3
          have R4 := Lib.hid r4
          have R5 := Lib.hid r5
          have R6 := Lib.hid r6
          have R7 := Lib.hid r7
          have R8 := Lib.hid r8
          have R13 := Lib.hid r13
          clear r1 r3 r4 r5 r6 r7 r8 r13 e2 hge hge2
          go_wp2_with (first
            | (at_next; refine wpList_next_ranges _ rfl _ rfl 3 law3 heldR (Value.int .i64) (id : Value → Value) (fun key kl hkey => by obtain ⟨x, hx, _⟩ := Maps.keyOf_int_inv Try.underlying3 hkey; exact ⟨x, hx⟩) (fun v _ _ => ⟨v, rfl⟩) cb r0 s.cn _ _ _ rfl R1.out ?_ ?_))
          · intro hc0 hl0
            have HDONE := Lib.hid (copy_done H.out (w := w) (cb := cb) hl0 H.out.own.size_le (by rw [hc0] at R3; exact R3.out) R4.out R5.out R6.out R7.out r9 r10 R13.out)
            clear hl0
            go_wp2_with fail
            go_ret
            exact ⟨_, rfl, HDONE.out, R8.out⟩
          · intro x cv kl yd yp w5 cnt5 hkey hlk hv hat hrg5 hlt5 hg5 hs5 hen
            obtain ⟨x', ex, rfl, hxw⟩ := Maps.keyOf_int_inv Try.underlying3 hkey
            obtain rfl : x = x' := by simpa using ex
            have hyd := heldR_inv hv
            subst hyd
            have hbx : -9223372036854775808 ≤ x ∧ x ≤ 9223372036854775807 := by simpa [Lit.wf, IntKind.min, IntKind.max, IntKind.signed, IntKind.bits] using hxw
            obtain ⟨bs, hbs, hbyt, hbl⟩ := copy_entry H.out hat R8.out hg5 r11
            have HBS := Lib.hid hbs
            have HBY := Lib.hid hbyt
            have HBL := Lib.hid hbl
            have HRG5 := Lib.hid hrg5
            have HG5 := Lib.hid hg5
            have HKEY := Lib.hid hkey
            have hB5 : Blk w5 (w.heap.size + 1) 70 _ := R5.out.of_eq (hg5.block _ R5.out.lt (fun e => blk_ne_iter R5.out R1.out (Option.some.inj e)))
            have d2 := hB5.cell 2
            simp only [List.getElem?_toArray, List.getElem?_cons_succ, List.getElem?_cons_zero] at d2
            have HB5 := Lib.hid hB5
            have HD2 := Lib.hid d2
            have HSZ := Lib.hid H.out.own.size_le
            clear hkey hlk hv hat hrg5 hg5 hs5 hbs hbyt hbl hB5 ex hxw
            go_wp2_with fail
            go_region_held3 (fun w' => w'.cell? ⟨w.heap.size + 1, 2, none⟩ = some (.map (some (w.heap.size)))) (first | exact Z7.out | exact Z6.out | go_keep)
              (first | (go_at_call 45; refine (clone_any w5.drew F _ bs HBY.out (by have := HBL.out; omega)).mono ?_; rintro e w6 ⟨v6, rfl, hb6, hk6⟩
                        have Z6 := Lib.hid ((hk6.cell (w := w5.drew) HB5.out.lt (fun h => h)).trans HD2.out)
                        have HO6 := Lib.hid (ownsMap_of_eq (w' := w6) R3.out (by rw [hk6.of_drew.block _ (Nat.lt_of_lt_of_le R3.out.lt HG5.out.size) (fun h => h), HG5.out.block _ R3.out.lt (fun e => r12 (by simpa using e.symm))]))
                        obtain ⟨w7, hupd, hown7, hturn7⟩ := HO6.out.store law3 Try.underlying67 (by unfold maxLen; have := HSZ.out; omega) HKEY.out (show heldR v6 = some (.held v6, []) from rfl)
                        have Z7 := Lib.hid (((Keeps.of_grown hturn7.grown).cell (b := w.heap.size + 1) (o := 2) (Nat.lt_of_lt_of_le HB5.out.lt hk6.of_drew.size) (fun e => blk_ne_map R5.out R3.out (Option.some.inj e))).trans Z6.out)
                        have HB6 := Lib.hid hb6
                        have HK6 := Lib.hid hk6.of_drew
                        have HO7 := Lib.hid hown7
                        have HT7 := Lib.hid hturn7
                        clear hb6 hk6 hown7 hturn7))
            all_goals
              have R := Lib.hid (copy2_step R1.out r2 R3.out R4.out R5.out R6.out R7.out R8.out r9 r10 r11 r12 R13.out H.out.own.lt HG5.out HRG5.out hlt5 HK6.out HB6.out HBS.out HO7.out HT7.out)
              clear Z6 Z7 hen d2
              go_wp2_with fail
              go_roundw
              case rel => exact R.out.2
              case measure => rw [R.out.1.left_eq, R1.out.left_eq]; exact hlt5

theorem three_cell {w : World} {p k : Nat} {o1 o2 o3 : Obj} (h : p < w.heap.size) : (((w.alloc o1).alloc o2).alloc o3).drew.cell? ⟨p, k, none⟩ = w.cell? ⟨p, k, none⟩ := by
  show (((w.alloc o1).alloc o2).alloc o3).cell? ⟨p, k, none⟩ = _
  rw [World.cell?_alloc_lt _ _ _ (show p < ((w.alloc o1).alloc o2).heap.size by simp; omega), World.cell?_alloc_lt _ _ _ (show p < (w.alloc o1).heap.size by simp; omega), World.cell?_alloc_lt _ _ _ h]

set_option maxRecDepth 100000 in
set_option maxHeartbeats 8000000 in
theorem copy_some (w : World) (p : Nat) (F : Nat → Prop) (s : St) {lastV : Value} {lv : List Value} {cb pb : Nat} {D : DataW Value} (hin : DiskIn Try.prog w p F s lastV lv cb (some pb) D) (hf : s.last.length ≤ 4096) (hs : s.size ≤ 4096) (hcn : s.cn < 1000000) :
    Calls Try.prog 33 #[.pointer (some ⟨p, 0, none⟩)] w (Copied w s) := by
  obtain ⟨A, c, rfl⟩ := row_slice hin.row
  have c0 := hin.c0
  have c1 := hin.c1
  have c2 := hin.c2
  have c3 := hin.c3
  have c4 := hin.c4
  have c5 := hin.c5
  have hmm := @run_makeMap Try.prog
  have hlt := hin.blk.lt
  have H := Lib.hid hin
  obtain ⟨es, clock, hpb⟩ := (hin.plan_map rfl).2.2
  have HPB := Lib.hid hpb
  have HPB1 := Lib.hid ((Below.heap_alloc w (.map #[] 0) pb (lt_of_heap hpb)).trans hpb)
  have cC := fun W hb => AnyW.maps_Clone Try.cloneA pb es clock W hb
  have KK := Lib.hid (fun (o1 o2 o3 : Obj) => (show (((w.alloc o1).alloc o2).alloc o3).drew.cell? ⟨p, 0, none⟩ = some (.int .i64 s.size) ∧ (((w.alloc o1).alloc o2).alloc o3).drew.cell? ⟨p, 3, none⟩ = some (.map (some pb)) ∧ (((w.alloc o1).alloc o2).alloc o3).drew.cell? ⟨p, 4, none⟩ = some (.int .i64 s.ops) ∧ (((w.alloc o1).alloc o2).alloc o3).drew.cell? ⟨p, 5, none⟩ = some (.int .i64 s.wr) from
    ⟨(three_cell hlt).trans c0, (three_cell hlt).trans c3, (three_cell hlt).trans c4, (three_cell hlt).trans c5⟩))
  clear hin hpb
  go_enter Try.func33, Try.ntmps33
  go_wp2_with fail
  go_region_held3 (fun w' => w'.cell? ⟨p, 0, none⟩ = some (.int .i64 s.size) ∧ w'.cell? ⟨p, 3, none⟩ = some (.map (some pb)) ∧ w'.cell? ⟨p, 4, none⟩ = some (.int .i64 s.ops) ∧ w'.cell? ⟨p, 5, none⟩ = some (.int .i64 s.wr))
    (first | exact KK.out _ _ _ | go_keep)
    (first | (go_at_call 49; refine (cC w.drew HPB.out).mono ?_; rintro e w' ⟨rfl, rfl⟩) | (go_at_call 49; refine (cC (w.alloc (.map #[] 0)).drew HPB1.out).mono ?_; rintro e w' ⟨rfl, rfl⟩))
  · have HSTART := Lib.hid (copy_start_a H.out HPB.out)
    have q1 := (three_cell (k := 1) (o1 := (.map #[] 0)) (o2 := (.map es clock)) (o3 := (.cells #[.int .i64 s.size, .slice none 0 0, .map (some w.heap.size), .map (some (w.heap.size + 1)), .int .i64 s.ops, .int .i64 s.wr] 70)) hlt).trans c1
    generalize (((w.alloc (.map #[] 0)).alloc (.map es clock)).alloc (.cells #[.int .i64 s.size, .slice none 0 0, .map (some w.heap.size), .map (some (w.heap.size + 1)), .int .i64 s.ops, .int .i64 s.wr] 70)).drew = W1 at HSTART q1 ⊢
    clear KK HPB HPB1
    clear hmm cC c0 c3 c4 c5
    go_wp2_with fail
    go_loopw [33] (fun i wr => ∃ k : Nat, k ≤ s.last.length ∧ i = .int .i64 k ∧ CopyAt w s (w.heap.size + 1 + 1) (w.heap.size) (some (w.heap.size + 1)) k wr) (fun i _ => s.last.length - (intOf i).toNat)
    case atStart => exact ⟨0, Nat.zero_le _, rfl, HSTART.out⟩
    case round =>
      obtain ⟨k, hk, rfl, lastV', lv', h1, h2, h3, h4, h5, h6, h7, h8⟩ := hrel
      have H1 := Lib.hid h1
      have H2 := Lib.hid h2
      have H3 := Lib.hid h3
      have H4 := Lib.hid h4
      have H5 := Lib.hid h5
      have H6 := Lib.hid h6
      have H7 := Lib.hid h7
      have H8 := Lib.hid h8
      by_cases hlt2 : k < s.last.length
      · obtain ⟨g0, c', cur, e, hlc, hblk, _, hcell, _⟩ := row_cell H.out hlt2
        simp only [Value.slice.injEq, true_and] at e
        obtain ⟨rfl, rfl⟩ := e
        have hcl : wr.cell? ⟨g0, k, none⟩ = some (lv.getD k undef) := (h4.cell hblk.lt (fun h => h)).trans hcell
        have hvb := (H.out.sect k hlt2).keeps h4 (fun _ _ h => h)
        have hln := H.out.lens k hlt2
        obtain ⟨v0, hv0⟩ : ∃ v0, lv.getD k undef = v0 := ⟨_, rfl⟩
        rw [hv0] at hcl hvb
        have HVB := Lib.hid hvb.bys
        have HLN := Lib.hid hln
        obtain ⟨A0, cc0, rfl⟩ : ∃ A0 cc0, v0 = .slice A0 s.size cc0 := (by obtain ⟨A, c, e⟩ := Bys.form hvb; exact ⟨A, c, by rw [e, hln]⟩)
        have d1 := h1.cell 1
        have f1 := h1.frozen 1
        have hpl := h1.lt
        simp only [List.getElem?_toArray, List.getElem?_cons_succ, List.getElem?_cons_zero] at d1
        obtain ⟨i0, hi, hz0, hz1, hz2⟩ := info_parts info31
        have hk0 : (0 : Int) ≤ (k : Int) := by omega
        have hk1 : (k : Int) < (s.last.length : Int) := by omega
        clear h1 h2 h3 h4 h5 h6 h7 h8 hvb hln hv0 hblk hcell
        go_wp2_with fail
        go_region_law (first
          | (refine step_append_lies _ (by rfl) _ _ _ (by rfl) w.heap.size 31 i0 _ 1 24 Try.underlying40 hi hz0 hz1 hz2 rfl (by omega) _ k lv' (by rfl) HROW.out
              ⟨w2.heap.size, 0, none⟩ 1 1 [.slice A2 s.size c2'] (by rfl) (by rfl) (World.news_of_block (cs := #[.slice A2 s.size c2']) (t := 31) (fr := (0, 0)) (heap_alloc_new w2 _)) HONE.out
              (by omega) (by unfold maxLen; omega) (by omega) HBASE.out (w2.heap.size + 1) (by simp) ?_; intro g cap w4 hown4 hgrow4 hat4 hlt4
             have HO4 := Lib.hid hown4
             have HG4 := Lib.hid hgrow4
             have hB4 := open_blk H1.out H2.out HK2.out HG4.out
             have Z4 := hB4.cell 1
             have F4 := hB4.frozen 1
             simp only [List.getElem?_toArray, List.getElem?_cons_succ, List.getElem?_cons_zero] at Z4
             clear hown4 hgrow4 hat4 hlt4 hB4)
          | (go_simp; go_at_call 45; refine (clone_any wr.drew F _ (s.last.getD k []) HVB.out (by have := HLN.out; omega)).mono ?_; rintro e w2 ⟨v2, rfl, hb2, hk2⟩
             obtain ⟨A2, c2', rfl⟩ : ∃ A2 c2', v2 = .slice A2 s.size c2' := (by obtain ⟨A, c, e, _⟩ := hb2; exact ⟨A, c, by rw [e, HLN.out]⟩)
             have HB2 := Lib.hid hb2
             have HK2 := Lib.hid hk2.of_drew
             have hB2 : Blk w2 (w.heap.size + 1 + 1) 70 _ := H1.out.of_eq (HK2.out.block _ H1.out.lt (fun h => h))
             have Z2 := hB2.cell 1
             have ZL := hB2.lt
             simp only [List.getElem?_toArray, List.getElem?_cons_succ, List.getElem?_cons_zero] at Z2
             have HROW := Lib.hid ((ownsRow_of_eq (w' := w2) H2.out (fun g hg => HK2.out.block g (own_lt H2.out hg) (fun h => h))).alloc (.cells #[.slice A2 s.size c2'] 31))
             have HONE := Lib.hid (byt_one hb2)
             have HBASE := Lib.hid (show w.heap.size ≤ (w2.alloc (.cells #[.slice A2 s.size c2'] 31)).heap.size by have h1 := H4.out.size; have h2 := HK2.out.size; simp; omega)
             clear hb2 hk2 hB2))
        all_goals
          have R := Lib.hid (copy_step H1.out H2.out H3.out H4.out H5.out H6.out H7.out H8.out HK2.out HB2.out HO4.out HG4.out)
          clear Z2 Z4 F4 d1 f1 hcl
          go_wp2_with fail
          go_roundw
          case rel => exact ⟨k + 1, by omega, by go_num, R.out⟩
          case measure => simp [intOf]; omega
      · obtain rfl : k = s.last.length := by omega
        have hownS := ownsMap_of_eq H.out.own (h4.block cb H.out.own.lt (fun h => h))
        have HOWNS := Lib.hid hownS
        have e2 : wr.cell? ⟨p, 2, none⟩ = some (.map (some cb)) := (h4.cell hlt (fun h => h)).trans c2
        have hge : decide ((s.last.length : Int) < (s.last.length : Int)) = false := by simp
        have hge2 : decide (s.last.length < s.last.length) = false := by simp
        clear h1 h2 h3 h4 h5 h6 h7 h8 hownS
        go_wp2_with (first
          | (at_range; refine wpList_range_own _ rfl _ 67 rfl 3 31 law3 Try.underlying67 _ cb s.cn D rfl HOWNS.out ?_; intro w0 hrg0 hg0 hs0))
        go_frame
        have HST2 := Lib.hid (copy_range H.out H1.out H2.out H3.out H4.out H5.out H6.out H7.out H8.out hrg0 hg0)
        obtain ⟨r0, hr0⟩ : ∃ r, wr.heap.size = r := ⟨_, rfl⟩
        rw [hr0] at HST2 ⊢
        clear hrg0 hg0 hs0 hr0
        go_loopw [6] (fun _ wr2 => CopyAt2 w s cb (w.heap.size + 1 + 1) (w.heap.size) r0 (some (w.heap.size + 1)) D wr2) (fun _ wr2 => wr2.rangeLeft cb r0)
        case atStart => exact HST2.out
        case round =>
          obtain ⟨lastV2, lv2, left, cnt, D', r1, r2, r3, r4, r5, r6, r7, r8, r9, r10, r11, r12, r13⟩ := hrel
          have R1 := Lib.hid r1
          have R3 := Lib.hid r3
          have R4 := Lib.hid r4
          have R5 := Lib.hid r5
          have R6 := Lib.hid r6
          have R7 := Lib.hid r7
          have R8 := Lib.hid r8
          have R13 := Lib.hid r13
          clear r1 r3 r4 r5 r6 r7 r8 r13 e2 hge hge2
          go_wp2_with (first
            | (at_next; refine wpList_next_ranges _ rfl _ rfl 3 law3 heldR (Value.int .i64) (id : Value → Value) (fun key kl hkey => by obtain ⟨x, hx, _⟩ := Maps.keyOf_int_inv Try.underlying3 hkey; exact ⟨x, hx⟩) (fun v _ _ => ⟨v, rfl⟩) cb r0 s.cn _ _ _ rfl R1.out ?_ ?_))
          · intro hc0 hl0
            have HDONE := Lib.hid (copy_done H.out (w := w) (cb := cb) hl0 H.out.own.size_le (by rw [hc0] at R3; exact R3.out) R4.out R5.out R6.out R7.out r9 r10 R13.out)
            clear hl0
            go_wp2_with fail
            go_ret
            exact ⟨_, rfl, HDONE.out, R8.out⟩
          · intro x cv kl yd yp w5 cnt5 hkey hlk hv hat hrg5 hlt5 hg5 hs5 hen
            obtain ⟨x', ex, rfl, hxw⟩ := Maps.keyOf_int_inv Try.underlying3 hkey
            obtain rfl : x = x' := by simpa using ex
            have hyd := heldR_inv hv
            subst hyd
            have hbx : -9223372036854775808 ≤ x ∧ x ≤ 9223372036854775807 := by simpa [Lit.wf, IntKind.min, IntKind.max, IntKind.signed, IntKind.bits] using hxw
            obtain ⟨bs, hbs, hbyt, hbl⟩ := copy_entry H.out hat R8.out hg5 r11
            have HBS := Lib.hid hbs
            have HBY := Lib.hid hbyt
            have HBL := Lib.hid hbl
            have HRG5 := Lib.hid hrg5
            have HG5 := Lib.hid hg5
            have HKEY := Lib.hid hkey
            have hB5 : Blk w5 (w.heap.size + 1 + 1) 70 _ := R5.out.of_eq (hg5.block _ R5.out.lt (fun e => blk_ne_iter R5.out R1.out (Option.some.inj e)))
            have d2 := hB5.cell 2
            simp only [List.getElem?_toArray, List.getElem?_cons_succ, List.getElem?_cons_zero] at d2
            have HB5 := Lib.hid hB5
            have HD2 := Lib.hid d2
            have HSZ := Lib.hid H.out.own.size_le
            clear hkey hlk hv hat hrg5 hg5 hs5 hbs hbyt hbl hB5 ex hxw
            go_wp2_with fail
            go_region_held3 (fun w' => w'.cell? ⟨w.heap.size + 1 + 1, 2, none⟩ = some (.map (some (w.heap.size)))) (first | exact Z7.out | exact Z6.out | go_keep)
              (first | (go_at_call 45; refine (clone_any w5.drew F _ bs HBY.out (by have := HBL.out; omega)).mono ?_; rintro e w6 ⟨v6, rfl, hb6, hk6⟩
                        have Z6 := Lib.hid ((hk6.cell (w := w5.drew) HB5.out.lt (fun h => h)).trans HD2.out)
                        have HO6 := Lib.hid (ownsMap_of_eq (w' := w6) R3.out (by rw [hk6.of_drew.block _ (Nat.lt_of_lt_of_le R3.out.lt HG5.out.size) (fun h => h), HG5.out.block _ R3.out.lt (fun e => r12 (by simpa using e.symm))]))
                        obtain ⟨w7, hupd, hown7, hturn7⟩ := HO6.out.store law3 Try.underlying67 (by unfold maxLen; have := HSZ.out; omega) HKEY.out (show heldR v6 = some (.held v6, []) from rfl)
                        have Z7 := Lib.hid (((Keeps.of_grown hturn7.grown).cell (b := w.heap.size + 1 + 1) (o := 2) (Nat.lt_of_lt_of_le HB5.out.lt hk6.of_drew.size) (fun e => blk_ne_map R5.out R3.out (Option.some.inj e))).trans Z6.out)
                        have HB6 := Lib.hid hb6
                        have HK6 := Lib.hid hk6.of_drew
                        have HO7 := Lib.hid hown7
                        have HT7 := Lib.hid hturn7
                        clear hb6 hk6 hown7 hturn7))
            all_goals
              have R := Lib.hid (copy2_step R1.out r2 R3.out R4.out R5.out R6.out R7.out R8.out r9 r10 r11 r12 R13.out H.out.own.lt HG5.out HRG5.out hlt5 HK6.out HB6.out HBS.out HO7.out HT7.out)
              clear Z6 Z7 hen d2
              go_wp2_with fail
              go_roundw
              case rel => exact R.out.2
              case measure => rw [R.out.1.left_eq, R1.out.left_eq]; exact hlt5
  · have HSTART := Lib.hid (copy_start_b H.out HPB.out)
    have q1 := (three_cell (k := 1) (o1 := (.map es clock)) (o2 := (.map #[] 0)) (o3 := (.cells #[.int .i64 s.size, .slice none 0 0, .map (some (w.heap.size + 1)), .map (some w.heap.size), .int .i64 s.ops, .int .i64 s.wr] 70)) hlt).trans c1
    generalize (((w.alloc (.map es clock)).alloc (.map #[] 0)).alloc (.cells #[.int .i64 s.size, .slice none 0 0, .map (some (w.heap.size + 1)), .map (some w.heap.size), .int .i64 s.ops, .int .i64 s.wr] 70)).drew = W1 at HSTART q1 ⊢
    clear KK HPB HPB1
    clear hmm cC c0 c3 c4 c5
    go_wp2_with fail
    go_loopw [33] (fun i wr => ∃ k : Nat, k ≤ s.last.length ∧ i = .int .i64 k ∧ CopyAt w s (w.heap.size + 1 + 1) (w.heap.size + 1) (some w.heap.size) k wr) (fun i _ => s.last.length - (intOf i).toNat)
    case atStart => exact ⟨0, Nat.zero_le _, rfl, HSTART.out⟩
    case round =>
      obtain ⟨k, hk, rfl, lastV', lv', h1, h2, h3, h4, h5, h6, h7, h8⟩ := hrel
      have H1 := Lib.hid h1
      have H2 := Lib.hid h2
      have H3 := Lib.hid h3
      have H4 := Lib.hid h4
      have H5 := Lib.hid h5
      have H6 := Lib.hid h6
      have H7 := Lib.hid h7
      have H8 := Lib.hid h8
      by_cases hlt2 : k < s.last.length
      · obtain ⟨g0, c', cur, e, hlc, hblk, _, hcell, _⟩ := row_cell H.out hlt2
        simp only [Value.slice.injEq, true_and] at e
        obtain ⟨rfl, rfl⟩ := e
        have hcl : wr.cell? ⟨g0, k, none⟩ = some (lv.getD k undef) := (h4.cell hblk.lt (fun h => h)).trans hcell
        have hvb := (H.out.sect k hlt2).keeps h4 (fun _ _ h => h)
        have hln := H.out.lens k hlt2
        obtain ⟨v0, hv0⟩ : ∃ v0, lv.getD k undef = v0 := ⟨_, rfl⟩
        rw [hv0] at hcl hvb
        have HVB := Lib.hid hvb.bys
        have HLN := Lib.hid hln
        obtain ⟨A0, cc0, rfl⟩ : ∃ A0 cc0, v0 = .slice A0 s.size cc0 := (by obtain ⟨A, c, e⟩ := Bys.form hvb; exact ⟨A, c, by rw [e, hln]⟩)
        have d1 := h1.cell 1
        have f1 := h1.frozen 1
        have hpl := h1.lt
        simp only [List.getElem?_toArray, List.getElem?_cons_succ, List.getElem?_cons_zero] at d1
        obtain ⟨i0, hi, hz0, hz1, hz2⟩ := info_parts info31
        have hk0 : (0 : Int) ≤ (k : Int) := by omega
        have hk1 : (k : Int) < (s.last.length : Int) := by omega
        clear h1 h2 h3 h4 h5 h6 h7 h8 hvb hln hv0 hblk hcell
        go_wp2_with fail
        go_region_law (first
          | (refine step_append_lies _ (by rfl) _ _ _ (by rfl) w.heap.size 31 i0 _ 1 24 Try.underlying40 hi hz0 hz1 hz2 rfl (by omega) _ k lv' (by rfl) HROW.out
              ⟨w2.heap.size, 0, none⟩ 1 1 [.slice A2 s.size c2'] (by rfl) (by rfl) (World.news_of_block (cs := #[.slice A2 s.size c2']) (t := 31) (fr := (0, 0)) (heap_alloc_new w2 _)) HONE.out
              (by omega) (by unfold maxLen; omega) (by omega) HBASE.out (w2.heap.size + 1) (by simp) ?_; intro g cap w4 hown4 hgrow4 hat4 hlt4
             have HO4 := Lib.hid hown4
             have HG4 := Lib.hid hgrow4
             have hB4 := open_blk H1.out H2.out HK2.out HG4.out
             have Z4 := hB4.cell 1
             have F4 := hB4.frozen 1
             simp only [List.getElem?_toArray, List.getElem?_cons_succ, List.getElem?_cons_zero] at Z4
             clear hown4 hgrow4 hat4 hlt4 hB4)
          | (go_simp; go_at_call 45; refine (clone_any wr.drew F _ (s.last.getD k []) HVB.out (by have := HLN.out; omega)).mono ?_; rintro e w2 ⟨v2, rfl, hb2, hk2⟩
             obtain ⟨A2, c2', rfl⟩ : ∃ A2 c2', v2 = .slice A2 s.size c2' := (by obtain ⟨A, c, e, _⟩ := hb2; exact ⟨A, c, by rw [e, HLN.out]⟩)
             have HB2 := Lib.hid hb2
             have HK2 := Lib.hid hk2.of_drew
             have hB2 : Blk w2 (w.heap.size + 1 + 1) 70 _ := H1.out.of_eq (HK2.out.block _ H1.out.lt (fun h => h))
             have Z2 := hB2.cell 1
             have ZL := hB2.lt
             simp only [List.getElem?_toArray, List.getElem?_cons_succ, List.getElem?_cons_zero] at Z2
             have HROW := Lib.hid ((ownsRow_of_eq (w' := w2) H2.out (fun g hg => HK2.out.block g (own_lt H2.out hg) (fun h => h))).alloc (.cells #[.slice A2 s.size c2'] 31))
             have HONE := Lib.hid (byt_one hb2)
             have HBASE := Lib.hid (show w.heap.size ≤ (w2.alloc (.cells #[.slice A2 s.size c2'] 31)).heap.size by have h1 := H4.out.size; have h2 := HK2.out.size; simp; omega)
             clear hb2 hk2 hB2))
        all_goals
          have R := Lib.hid (copy_step H1.out H2.out H3.out H4.out H5.out H6.out H7.out H8.out HK2.out HB2.out HO4.out HG4.out)
          clear Z2 Z4 F4 d1 f1 hcl
          go_wp2_with fail
          go_roundw
          case rel => exact ⟨k + 1, by omega, by go_num, R.out⟩
          case measure => simp [intOf]; omega
      · obtain rfl : k = s.last.length := by omega
        have hownS := ownsMap_of_eq H.out.own (h4.block cb H.out.own.lt (fun h => h))
        have HOWNS := Lib.hid hownS
        have e2 : wr.cell? ⟨p, 2, none⟩ = some (.map (some cb)) := (h4.cell hlt (fun h => h)).trans c2
        have hge : decide ((s.last.length : Int) < (s.last.length : Int)) = false := by simp
        have hge2 : decide (s.last.length < s.last.length) = false := by simp
        clear h1 h2 h3 h4 h5 h6 h7 h8 hownS
        go_wp2_with (first
          | (at_range; refine wpList_range_own _ rfl _ 67 rfl 3 31 law3 Try.underlying67 _ cb s.cn D rfl HOWNS.out ?_; intro w0 hrg0 hg0 hs0))
        go_frame
        have HST2 := Lib.hid (copy_range H.out H1.out H2.out H3.out H4.out H5.out H6.out H7.out H8.out hrg0 hg0)
        obtain ⟨r0, hr0⟩ : ∃ r, wr.heap.size = r := ⟨_, rfl⟩
        rw [hr0] at HST2 ⊢
        clear hrg0 hg0 hs0 hr0
        go_loopw [6] (fun _ wr2 => CopyAt2 w s cb (w.heap.size + 1 + 1) (w.heap.size + 1) r0 (some w.heap.size) D wr2) (fun _ wr2 => wr2.rangeLeft cb r0)
        case atStart => exact HST2.out
        case round =>
          obtain ⟨lastV2, lv2, left, cnt, D', r1, r2, r3, r4, r5, r6, r7, r8, r9, r10, r11, r12, r13⟩ := hrel
          have R1 := Lib.hid r1
          have R3 := Lib.hid r3
          have R4 := Lib.hid r4
          have R5 := Lib.hid r5
          have R6 := Lib.hid r6
          have R7 := Lib.hid r7
          have R8 := Lib.hid r8
          have R13 := Lib.hid r13
          clear r1 r3 r4 r5 r6 r7 r8 r13 e2 hge hge2
          go_wp2_with (first
            | (at_next; refine wpList_next_ranges _ rfl _ rfl 3 law3 heldR (Value.int .i64) (id : Value → Value) (fun key kl hkey => by obtain ⟨x, hx, _⟩ := Maps.keyOf_int_inv Try.underlying3 hkey; exact ⟨x, hx⟩) (fun v _ _ => ⟨v, rfl⟩) cb r0 s.cn _ _ _ rfl R1.out ?_ ?_))
          · intro hc0 hl0
            have HDONE := Lib.hid (copy_done H.out (w := w) (cb := cb) hl0 H.out.own.size_le (by rw [hc0] at R3; exact R3.out) R4.out R5.out R6.out R7.out r9 r10 R13.out)
            clear hl0
            go_wp2_with fail
            go_ret
            exact ⟨_, rfl, HDONE.out, R8.out⟩
          · intro x cv kl yd yp w5 cnt5 hkey hlk hv hat hrg5 hlt5 hg5 hs5 hen
            obtain ⟨x', ex, rfl, hxw⟩ := Maps.keyOf_int_inv Try.underlying3 hkey
            obtain rfl : x = x' := by simpa using ex
            have hyd := heldR_inv hv
            subst hyd
            have hbx : -9223372036854775808 ≤ x ∧ x ≤ 9223372036854775807 := by simpa [Lit.wf, IntKind.min, IntKind.max, IntKind.signed, IntKind.bits] using hxw
            obtain ⟨bs, hbs, hbyt, hbl⟩ := copy_entry H.out hat R8.out hg5 r11
            have HBS := Lib.hid hbs
            have HBY := Lib.hid hbyt
            have HBL := Lib.hid hbl
            have HRG5 := Lib.hid hrg5
            have HG5 := Lib.hid hg5
            have HKEY := Lib.hid hkey
            have hB5 : Blk w5 (w.heap.size + 1 + 1) 70 _ := R5.out.of_eq (hg5.block _ R5.out.lt (fun e => blk_ne_iter R5.out R1.out (Option.some.inj e)))
            have d2 := hB5.cell 2
            simp only [List.getElem?_toArray, List.getElem?_cons_succ, List.getElem?_cons_zero] at d2
            have HB5 := Lib.hid hB5
            have HD2 := Lib.hid d2
            have HSZ := Lib.hid H.out.own.size_le
            clear hkey hlk hv hat hrg5 hg5 hs5 hbs hbyt hbl hB5 ex hxw
            go_wp2_with fail
            go_region_held3 (fun w' => w'.cell? ⟨w.heap.size + 1 + 1, 2, none⟩ = some (.map (some (w.heap.size + 1)))) (first | exact Z7.out | exact Z6.out | go_keep)
              (first | (go_at_call 45; refine (clone_any w5.drew F _ bs HBY.out (by have := HBL.out; omega)).mono ?_; rintro e w6 ⟨v6, rfl, hb6, hk6⟩
                        have Z6 := Lib.hid ((hk6.cell (w := w5.drew) HB5.out.lt (fun h => h)).trans HD2.out)
                        have HO6 := Lib.hid (ownsMap_of_eq (w' := w6) R3.out (by rw [hk6.of_drew.block _ (Nat.lt_of_lt_of_le R3.out.lt HG5.out.size) (fun h => h), HG5.out.block _ R3.out.lt (fun e => r12 (by simpa using e.symm))]))
                        obtain ⟨w7, hupd, hown7, hturn7⟩ := HO6.out.store law3 Try.underlying67 (by unfold maxLen; have := HSZ.out; omega) HKEY.out (show heldR v6 = some (.held v6, []) from rfl)
                        have Z7 := Lib.hid (((Keeps.of_grown hturn7.grown).cell (b := w.heap.size + 1 + 1) (o := 2) (Nat.lt_of_lt_of_le HB5.out.lt hk6.of_drew.size) (fun e => blk_ne_map R5.out R3.out (Option.some.inj e))).trans Z6.out)
                        have HB6 := Lib.hid hb6
                        have HK6 := Lib.hid hk6.of_drew
                        have HO7 := Lib.hid hown7
                        have HT7 := Lib.hid hturn7
                        clear hb6 hk6 hown7 hturn7))
            all_goals
              have R := Lib.hid (copy2_step R1.out r2 R3.out R4.out R5.out R6.out R7.out R8.out r9 r10 r11 r12 R13.out H.out.own.lt HG5.out HRG5.out hlt5 HK6.out HB6.out HBS.out HO7.out HT7.out)
              clear Z6 Z7 hen d2
              go_wp2_with fail
              go_roundw
              case rel => exact R.out.2
              case measure => rw [R.out.1.left_eq, R1.out.left_eq]; exact hlt5

theorem copy_any (w : World) (p : Nat) (F : Nat → Prop) (s : St) (h : DiskAt Try.prog w p F s) (hf : s.last.length ≤ 4096) (hs : s.size ≤ 4096) (hcn : s.cn < 1000000) :
    Calls Try.prog 33 #[.pointer (some ⟨p, 0, none⟩)] w (Copied w s) := by
  obtain ⟨_, _, _, pm, _, h⟩ := h
  cases pm with
  | none => exact copy_none w p F s h hf hs hcn
  | some pb => exact copy_some w p F s h hf hs hcn
end Go.Proofs.Ytconholnjhjhcaa
