/-
  THE WALK OF keepsakelaw07.ShadowStale.
-/
import Derived.Test.YthlemcnbebfliaaGreatDoorXThree
import Derived.Test.YthlemcnbebfliaaGreatDoorSApart
namespace Go.Proofs.YthlemcnbebfliaaGreatDoor
open Ks Go.RowKit
set_option maxRecDepth 20000

/-- append([]byte{}, bs...) -/
theorem append_new (w : World) (ty : Nat) (F : Nat → Prop) (u : Value) (bs : List Int) (hu : Bys w F u bs) (hl : bs.length ≤ 100000) :
    ∃ v' w', (Builtin.append_ #[33, 33] ty #[.slice (some ⟨w.heap.size, 0, none⟩) 0 0, u]).run Tryz.prog (w.alloc (.cells #[] 5)) = .ok v' w' ∧ Byt w' (From w.heap.size) v' bs ∧ Below w.heap.size w w' := by
  have hown : (w.alloc (.cells #[] 5)).ownsRow w.heap.size 5 1 (.slice (some ⟨w.heap.size, 0, none⟩) 0 0) 0 (([] : List Int).map (Value.int .u8)) :=
    ⟨by simp, .inr ⟨w.heap.size, 0, #[], rfl, Nat.le_refl _, heap_alloc_new w _, Nat.le_refl _, Nat.zero_le _, rfl, rfl⟩⟩
  have hu : Bys (w.alloc (.cells #[] 5)) F u bs := hu.keeps ((Keeps.refl No w).alloc _) (fun _ _ _ h => h)
  obtain ⟨v', w', hr, h2, h3, h4⟩ := Dsk.append_bys _ w.heap.size ty _ 0 [] hown F _ bs hu (by omega) (by simp)
  refine ⟨v', w', hr, ?_, ?_⟩
  · have := Byt.of_own (w := w') (v := v') (bs := bs) (base := w.heap.size) (n := 0 + bs.length) (by simpa using h2)
    exact this.mono fun b hb => hb.1
  · have hk : Keeps No w w' := ((Keeps.refl No w).alloc _).grown h3 (fun b hb => by simp [Value.ownBlock] at hb; right; omega)
    exact hk.below (fun b h => h.elim) (Nat.le_refl _)
/-- a byte, xored, is another one -/
theorem xor_byte (m : Int) (hm : m = 8 ∨ m = 1) (x : Int) (h : 0 ≤ x ∧ x ≤ 255) : (0 ≤ bits .xor .u8 x m ∧ bits .xor .u8 x m ≤ 255) ∧ bits .xor .u8 x m ≠ x := by
  obtain ⟨k, rfl⟩ := Int.eq_ofNat_of_zero_le h.1
  have hk : k < 256 := by omega
  have h8 : ∀ k : Fin 256, (0 ≤ bits .xor .u8 ((k : Nat) : Int) 8 ∧ bits .xor .u8 ((k : Nat) : Int) 8 ≤ 255) ∧ bits .xor .u8 ((k : Nat) : Int) 8 ≠ ((k : Nat) : Int) := by decide
  have h1 : ∀ k : Fin 256, (0 ≤ bits .xor .u8 ((k : Nat) : Int) 1 ∧ bits .xor .u8 ((k : Nat) : Int) 1 ≤ 255) ∧ bits .xor .u8 ((k : Nat) : Int) 1 ≠ ((k : Nat) : Int) := by decide
  rcases hm with rfl | rfl
  · exact h8 ⟨k, hk⟩
  · exact h1 ⟨k, hk⟩
theorem in8_getD {l : List Int} (h : In8 l) {i : Nat} (hi : i < l.length) : 0 ≤ l.getD i 0 ∧ l.getD i 0 ≤ 255 := by
  have e : l.getD i 0 = l[i] := by simp [List.getD, hi]
  rw [e]
  exact h _ (List.getElem_mem hi)
theorem set_in8 {l : List Int} (h : In8 l) (i : Nat) {x : Int} (hx : 0 ≤ x ∧ x ≤ 255) : In8 (l.set i x) := fun v hv => by
  rcases List.mem_or_eq_of_mem_set hv with h1 | h1
  · exact h v h1
  · exact h1 ▸ hx
theorem set_ne {l : List Int} {i : Nat} (hi : i < l.length) {x : Int} (hx : x ≠ l.getD i 0) : l.set i x ≠ l := fun e => hx (by
  have := congrArg (fun y => y.getD i 0) e
  simpa [List.getD, hi] using this)
section
variable {N : Nat} {w W W' : World} {p q : Nat} {F : Nat → Prop} {s s' : St} {a b c : Int} {x : Sh} {e : Ending}
theorem Sw.does (h : Sw N w W p q F s a b c x) (hd : Dsk.Does p F s' W e W') : Sw N w W' p q (Dsk.Grow F W W') s' a b c x ∧ Keeps F W W' := ⟨⟨h.dk.does hd, h.sh.grow hd.2.2, h.qN⟩, hd.2.2⟩
end
set_option maxHeartbeats 4000000 in
theorem shadowStale_walk (w : World) (a b c sz fl : Int) (hT : Tab w) (hs : 0 ≤ sz ∧ sz ≤ 255) (hf : 0 ≤ fl ∧ fl ≤ 255) :
    Calls Tryz.prog 7 #[geoV a b c, .int .u8 sz, .int .u8 fl] w fun e w' => e = .returned (.bool true) ∧ Below w.heap.size w w' := by
  obtain ⟨g0, g1, g2⟩ := boxed w (.int .i64 a) (.int .i64 b) (.int .i64 c) 23
  have HGE := Lib.hid (And.intro g0 (And.intro g1 g2))
  have HB := Lib.hid (below_box w (.cells #[.int .i64 a, .int .i64 b, .int .i64 c] 23))
  have HT := Lib.hid (tab_below hT HB.out (tab_pos hT))
  have HS := Lib.hid hs
  have HF := Lib.hid hf
  obtain ⟨x1, hx1⟩ : ∃ x, few500 a b c = x := ⟨_, rfl⟩
  obtain ⟨x2, hx2⟩ : ∃ x, right a b c = x := ⟨_, rfl⟩
  obtain ⟨t, ht⟩ : ∃ t, total a b c = t := ⟨_, rfl⟩
  have HX1 := Lib.hid hx1
  have HX2 := Lib.hid hx2
  have HTT := Lib.hid ht
  clear hT hs hf hx1 hx2 ht g0 g1 g2
  go_enter Tryz.func7, Tryz.ntmps7
  go_wp2_with fail
  generalize w.alloc (.cells #[.int .i64 a, .int .i64 b, .int .i64 c] 23) = W at *
  refine (awake_any W HT.out).mono ?_
  rintro e w1 ⟨rfl, hb1⟩
  have O1 := Lib.hid (show On W w1 from ⟨tab_below HT.out hb1 (tab_pos HT.out), hb1⟩)
  obtain ⟨g0, g1, g2⟩ := geo_below HGE.out O1.out.bel
  clear hb1
  go_wp2_with fail
  refine (few_any a b c x1 _ _ O1.out HX1.out).mono ?_
  rintro e w2 ⟨rfl, hw2⟩
  have O2 := Lib.hid hw2
  clear hw2 g0 g1 g2 O1
  obtain ⟨g0, g1, g2⟩ := geo_below HGE.out O2.out.bel
  go_wp2_with fail
  refine (refRight_any a b c x2 _ _ O2.out HX2.out).mono ?_
  rintro e w3 ⟨rfl, hw3⟩
  have O3 := Lib.hid hw3
  clear hw3 g0 g1 g2 O2
  cases x1
  · have HE := Lib.hid (HB.out.trans (O3.out.bel.mono HB.out.size))
    go_wp2_with fail
    go_ret
    exact ⟨rfl, HE.out⟩
  cases x2
  · have HE := Lib.hid (HB.out.trans (O3.out.bel.mono HB.out.size))
    go_wp2_with fail
    go_ret
    exact ⟨rfl, HE.out⟩
  obtain ⟨g0, g1, g2⟩ := geo_below HGE.out O3.out.bel
  go_wp2_with fail
  refine (refTotal_any a b c t _ _ O3.out HTT.out).mono ?_
  rintro e w4 ⟨rfl, hw4⟩
  have O4 := Lib.hid hw4
  clear hw4 g0 g1 g2 O3
  by_cases ht0 : t = 0
  · have hb : (t == 0) = true := by simpa using ht0
    have HE := Lib.hid (HB.out.trans (O4.out.bel.mono HB.out.size))
    go_wp2_with fail
    go_ret
    exact ⟨rfl, HE.out⟩
  have htb : (t == 0) = false := by simpa using ht0
  obtain ⟨g0, g1, g2⟩ := geo_below HGE.out O4.out.bel
  obtain ⟨z, hz, hz1, hz2⟩ : ∃ z : Nat, 32 + sz % 100 = z ∧ 32 ≤ z ∧ z ≤ 131 := ⟨(32 + sz % 100).toNat, by have := HS.out; omega, by omega, by omega⟩
  obtain ⟨k, hk⟩ : ∃ k : Nat, 2 * spanOf z a b c + 1 = k := by
    have := spanOf_bounds z a b c
    exact ⟨(2 * spanOf z a b c + 1).toNat, by omega⟩
  obtain ⟨n, hn, h5, hn1⟩ : ∃ n : Nat, (n : Int) = total a b c ∧ n ≤ 500 ∧ 1 ≤ n := by
    have h1 := HX1.out
    unfold few500 at h1
    rw [HX2.out, HTT.out] at h1
    simp at h1
    have h2 := fac_nums HX2.out
    have h3 := HTT.out
    exact ⟨t.toNat, by rw [HTT.out]; omega, by omega, by omega⟩
  obtain ⟨hk4, hmz, R0⟩ := fresh_Room hz1 hz2 HX2.out hn h5 hk
  obtain ⟨s1, s2, p1, p2, n2, R1, R2, C2, o0, o1, o2, hfl⟩ := start_plan hz1 hz2 HX2.out hn h5 hk
  have HP1 := Lib.hid p1
  have HP2 := Lib.hid p2
  have HN2 := Lib.hid n2
  have HR1 := Lib.hid R1
  have HR2 := Lib.hid R2
  have HC2 := Lib.hid C2
  have HO := Lib.hid (And.intro o0 (And.intro o1 o2))
  have HFL := Lib.hid hfl
  have HNN := Lib.hid (And.intro hn (And.intro h5 hn1))
  have HMZ := Lib.hid hmz
  have HTN := Lib.hid (show (total a b c).toNat = n by omega)
  have HZZ := Lib.hid (And.intro hz (And.intro hz1 hz2))
  clear p1 p2 n2 R0 R1 R2 C2 o0 o1 o2 hfl hn h5 hn1 hmz
  go_wp2_with fail
  refine (fresh_any sz a b c z k w4 O4.out.tab HS.out hz hk hk4).mono ?_
  rintro e w5 ⟨p, rfl, hd5, hk5⟩
  have D5 := Lib.hid (Dk.start O4.out.tab hk5 hd5)
  have HB5 := Lib.hid (hk5.below (N := w4.heap.size) (fun b h => h.elim) (Nat.le_refl _))
  clear hd5 hk5 hz hk hk4 hz1 hz2 g0 g1 g2
  have HG4 := Lib.hid (geo_below HGE.out O4.out.bel)
  generalize Dsk.Grow No w4 w5 = F5 at *
  obtain ⟨g0, g1, g2⟩ := geo_below HG4.out D5.out.bel
  go_wp2_with fail
  refine (format_any w5 p 0 F5 _ s1 a b c 0 D5.out.tab D5.out.two_ D5.out.disk HO.out.1 (by rw [HTN.out, show (Dsk.fresh z (List.replicate k (List.replicate z 0))).size = z from rfl]; have := HMZ.out; omega) HP1.out).mono ?_
  rintro e w6 hd
  have D6 := Lib.hid (D5.out.done hd)
  obtain ⟨rfl, -⟩ := hd
  generalize Dsk.Grow F5 w5 w6 = F6 at *
  clear g0 g1 g2
  obtain ⟨g0, g1, g2⟩ := geo_below HG4.out D6.out.bel
  go_wp2_with fail
  refine (open_any w6 p 1000 F6 s1 s2 _ a b c 0 D6.out.tab D6.out.two_ D6.out.disk HO.out.2.1 (by rw [HTN.out, HR1.out.size]; have := HMZ.out; omega) HP2.out).mono ?_
  rintro e w7 hd
  obtain ⟨F7, D7, hG7, hk7, hr⟩ := D6.out.opened hd
  rcases hr with ⟨h, _⟩ | ⟨_, q, hq, rfl, hs⟩
  · exact absurd rfl h
  have S7 := Lib.hid hs
  clear hd hs hG7 hk7 D7 hq D6 g0 g1 g2
  go_wp2_with fail
  refine (image_any S7.out.sh (by show (fac a b c).length ≤ _; rw [HFL.out]; have := HNN.out.2.1; omega)).mono ?_
  rintro e w8 ⟨v, rfl, hv, hk8⟩
  obtain ⟨A8, c8, rfl⟩ := hv.bys.form
  have hb8 := hk8.below (N := w7.heap.size) (fun b h => h.elim) (Nat.le_refl _)
  have S8 := Lib.hid (S7.out.below hb8)
  rw [show (Sh.mk (fac a b c) 1 0 false).img.length = n from HFL.out] at hv ⊢
  have hv : Byt w8 (From w7.heap.size) (.slice A8 n c8) (fac a b c) := hv
  have M8 := Lib.hid (show Mine w8 F7 q (.slice A8 n c8) (fac a b c) from hv.bys.mono fun b hb => ⟨fun h => by have := S7.out.dk.disk.there b h; unfold From at hb; omega, by have := S7.out.sh.lt; unfold From at hb; omega⟩)
  obtain ⟨v9, w9, hap, hv9, hb9⟩ := append_new w8 33 _ _ (fac a b c) M8.out (by rw [HFL.out]; have := HNN.out.2.1; omega)
  have HAP := Lib.hid hap
  have S9 := Lib.hid (S8.out.below hb9)
  have HB9 := Lib.hid hb9
  have M9 := Lib.hid (M8.out.below hb9)
  have HL8 := Lib.hid (show ∀ b, From w8.heap.size b → ¬ F7 b ∧ b ≠ q from fun b hb => ⟨fun h => by have := S8.out.dk.disk.there b h; unfold From at hb; omega, by have := S8.out.sh.lt; unfold From at hb; omega⟩)
  obtain ⟨A9, c9, rfl⟩ := hv9.bys.form
  rw [HFL.out] at hv9 HAP
  obtain ⟨g, o, rfl⟩ : ∃ g o, A9 = some ⟨g, o, none⟩ := by
    obtain ⟨A', c', e, _, hx⟩ := hv9
    injection e with e1
    obtain ⟨b, o, e2, _⟩ := hx (by rw [HFL.out]; exact HNN.out.2.2)
    exact ⟨b, o, e1.trans e2⟩
  obtain ⟨v0, hv0⟩ : ∃ v0, (fac a b c).getD 0 0 = v0 := ⟨_, rfl⟩
  obtain ⟨_, hfz, _, hce⟩ := hv9.set_ 0 HNN.out.2.2 0
  rw [hv0] at hce
  rw [Nat.add_zero] at hfz hce
  have HV0 := Lib.hid hv0
  have HV9 := Lib.hid hv9
  have hn0 : (0 : Int) < (n : Int) := by have := HNN.out.2.2; omega
  clear hv hv9 hap hv0 hb8 hb9 hk8 S7
  go_upto_region 15 with (at_builtin; refine Lib.wpList_append_run _ rfl _ _ _ _ rfl _ _ rfl rfl _ _ HAP.out ?_)
  go_upto_region 16 with fail
  obtain ⟨hx1, hx2⟩ := xor_byte 8 (.inl rfl) v0 (by rw [← HV0.out]; exact in8_getD (facAt_in _ _) (by have := HFL.out; have h1 := HNN.out.2.2; show 0 < (fac a b c).length; omega))
  obtain ⟨y0, hy0⟩ : ∃ y, bits .xor .u8 v0 8 = y := ⟨_, rfl⟩
  rw [hy0] at hx1 hx2 ⊢
  obtain ⟨l, hl⟩ : ∃ l, (fac a b c).set 0 y0 = l := ⟨_, rfl⟩
  have HL8' := Lib.hid (show In8 l from hl ▸ set_in8 (facAt_in _ _) 0 hx1)
  have HLL := Lib.hid (show l.length = n by rw [← hl, List.length_set]; exact HFL.out)
  have HLN := Lib.hid (show l ≠ fac a b c from hl ▸ set_ne (by have := HFL.out; have h1 := HNN.out.2.2; omega) (by rw [HV0.out]; exact hx2))
  have hv10 := (HV9.out.set_ 0 HNN.out.2.2 y0).1
  rw [hl, Nat.add_zero] at hv10
  have hbl10 : Below w8.heap.size w8 (w9.setCell ⟨g, o, none⟩ (.int .u8 y0)) := HB9.out.setCell (p := ⟨g, o, none⟩) ((HV9.out.set_ 0 HNN.out.2.2 y0).2.2.1) _
  have S10 := Lib.hid (S8.out.below hbl10)
  have M10 := Lib.hid (M8.out.below hbl10)
  have X10 := Lib.hid (show Mine (w9.setCell ⟨g, o, none⟩ (.int .u8 y0)) F7 q (.slice (some ⟨g, o, none⟩) n c9) l from hv10.bys.mono fun b hb => HL8.out b hb)
  clear hv10 hbl10 hfz hce hn0 hx1 hx2 hy0 hl HV9 S8 M8 S9 M9 HL8
  generalize w9.setCell ⟨g, o, none⟩ (.int .u8 y0) = w10 at *
  obtain ⟨sp, hsp⟩ : ∃ sp, spanOf z a b c = sp := ⟨_, rfl⟩
  have HSP := Lib.hid hsp
  have hspe : sp = 1 + (many n z : Nat) := by rw [← hsp]; exact HR2.out.span
  have HSE := Lib.hid hspe
  obtain ⟨ms, hms⟩ : ∃ ms : Int, sp + 2 = ms := ⟨_, rfl⟩
  have hmb : 3 ≤ ms ∧ ms ≤ 503 := by have := HMZ.out; omega
  have hmsw : IntKind.i64.wrap (sp + 2) = ms := by rw [IntKind.wrap_i64]; omega
  obtain ⟨hmb0, hmb1⟩ := hmb
  obtain ⟨rr, hrr⟩ : ∃ rr, sz.tmod 100 = rr := ⟨_, rfl⟩
  have hr0 : 0 ≤ rr ∧ rr < 100 := by have := HS.out; rw [← hrr, Int.tmod_eq_emod_of_nonneg this.1]; omega
  have hrz : 32 + rr = (z : Int) := by have := HZZ.out.1; have h2 := HS.out; rw [← hrr, Int.tmod_eq_emod_of_nonneg h2.1]; omega
  obtain ⟨hr0, hr1⟩ := hr0
  obtain ⟨s0', s1'⟩ := HS.out
  obtain ⟨g0, g1, g2⟩ := geo_below HG4.out S10.out.dk.bel
  clear hsp hspe
  go_wp2_with fail
  refine (refSpan_any (z : Int) a b c sp _ _ (On.start S10.out.dk.tab) HSP.out).mono ?_
  rintro e w11 ⟨rfl, hw11⟩
  have S11 := Lib.hid (S10.out.below hw11.bel)
  have M11 := Lib.hid (M10.out.below hw11.bel)
  have X11 := Lib.hid (X10.out.below hw11.bel)
  clear hw11 S10 M10 X10 g0 g1 g2
  go_wp2_with fail
  obtain ⟨po, hpo⟩ : ∃ po : Int, (s2.ops : Int) = po := ⟨_, rfl⟩
  have hpb : 0 ≤ po ∧ po ≤ 3000 := by have := HO.out.2.2.ops; omega
  obtain ⟨f0, f1⟩ := HF.out
  obtain ⟨fr, hfr⟩ : ∃ fr, fl.tmod ms = fr := ⟨_, rfl⟩
  have hfb : 0 ≤ fr ∧ fr < ms := by rw [← hfr]; exact ⟨Int.tmod_nonneg _ f0, Int.tmod_lt_of_pos _ (by omega)⟩
  obtain ⟨hpb0, hpb1⟩ := hpb
  obtain ⟨hfb0, hfb1⟩ := hfb
  have hm0 : ¬ ms = 0 := by omega
  have hw1 : IntKind.i64.wrap (po + 1) = po + 1 := by rw [IntKind.wrap_i64]; omega
  have hw2 : IntKind.i64.wrap (po + 1 + fr) = po + 1 + fr := by rw [IntKind.wrap_i64]; omega
  have hw0 : IntKind.i64.wrap fl = fl := by rw [IntKind.wrap_i64]; omega
  have hw3 : IntKind.i64.wrap fr = fr := by rw [IntKind.wrap_i64]; omega
  obtain ⟨s4, s5, s6, s7, y, y', p4, o4e, p5, p6, p7, q1, q2, o4, o5, o6, z4, z5, z6, hyq, hyw, hyl⟩ := stale_plan (l := l) (fl := fr) HN2.out HR2.out HC2.out HO.out.2.2 HMZ.out HLL.out HL8'.out HLN.out hfb0 (by have := HSE.out; omega)
  rw [hpo] at p4
  have HPO := Lib.hid hpo
  have HP4 := Lib.hid p4
  have HP5 := Lib.hid p5
  have HP6 := Lib.hid p6
  have HP7 := Lib.hid p7
  have HQ := Lib.hid (And.intro o4e (And.intro q1 q2))
  have HO4 := Lib.hid (And.intro o4 (And.intro o5 o6))
  have HZ4 := Lib.hid (And.intro z4 (And.intro z5 z6))
  have HY := Lib.hid (And.intro hyq (And.intro hyw hyl))
  clear hpo p4 o4e p5 p6 p7 q1 q2 o4 o5 o6 z4 z5 z6 hyq hyw hyl
  refine wp_region_held_drew (S := fun _ => True) (by kernel_rfl) trivial (fun _ => ?_)
  refine wpAnyH_take (i := 0) (v := ?_) rfl (by kernel_rfl) (by kernel_rfl) (by kernel_rfl) (fun _ _ _ h => h) (Or.inl ⟨by rfl, ?_⟩) (by first | assumption | trivial) ?_
  rotate_left 1
  · intro w0 hSw
    go_simp
    with_reducible rfl
  simp only [Act.put]
  refine wpAnyH_take (i := 1) (v := ?_) rfl (by kernel_rfl) (by kernel_rfl) (by kernel_rfl) (fun _ _ _ h => h) (Or.inl ⟨by rfl, ?_⟩) (by first | assumption | trivial) ?_
  rotate_left 1
  · intro w0 hSw
    go_simp
    with_reducible rfl
  simp only [Act.put]
  refine wpAnyH_take (i := 4) (v := ?_) rfl (by kernel_rfl) (by kernel_rfl) (by kernel_rfl) (fun _ _ _ h => h) (Or.inl ⟨by rfl, ?_⟩) (by first | assumption | trivial) ?_
  rotate_left 1
  · intro w0 hSw
    go_simp
    with_reducible rfl
  simp only [Act.put]
  refine wpAnyH_take (i := 5) (v := ?_) rfl (by kernel_rfl) (by kernel_rfl) (by kernel_rfl) (fun _ _ _ h => h) (Or.inl ⟨by rfl, ?_⟩) (by first | assumption | trivial) ?_
  rotate_left 1
  · intro w0 hSw
    go_simp
    with_reducible rfl
  simp only [Act.put]
  refine wpAnyH_take (i := 6) (v := ?_) rfl (by kernel_rfl) (by kernel_rfl) (by kernel_rfl) (fun _ _ _ h => h) (Or.inl ⟨by rfl, ?_⟩) (by first | assumption | trivial) ?_
  rotate_left 1
  · intro w0 hSw
    go_simp
    with_reducible rfl
  simp only [Act.put]
  refine wpAnyH_take (i := 7) (v := ?_) rfl (by kernel_rfl) (by kernel_rfl) (by kernel_rfl) (fun _ _ _ h => h) (Or.inl ⟨by rfl, ?_⟩) (by first | assumption | trivial) ?_
  rotate_left 1
  · intro w0 hSw
    go_simp
    with_reducible rfl
  simp only [Act.put]
  refine wpAnyH_ready (rs := [2]) (by kernel_rfl) (by simp) ?_
  refine AllReadyH.cons rfl (fun K hK => ?_) AllReadyH.nil
  go_simp
  refine (Dsk.ops_any w11.drew p F7 s2 (S11.out.dk.disk.below_ (Below.refl _ _).drew)).mono ?_
  rintro e w12 ⟨rfl, rfl⟩
  rw [HPO.out]
  go_simp
  refine hK.out _ _ trivial (fun _ => ?_)
  clear hK K
  try simp only [Act.put]
  refine wpAnyH_take (i := 3) (v := ?_) rfl (by kernel_rfl) (by kernel_rfl) (by kernel_rfl) (fun _ _ _ h => h) (Or.inl ⟨by rfl, ?_⟩) (by first | assumption | trivial) ?_
  rotate_left 1
  · intro w0 hSw
    go_simp
    with_reducible rfl
  simp only [Act.put]
  refine wpAnyH_take (i := 8) (v := ?_) rfl (by kernel_rfl) (by kernel_rfl) (by kernel_rfl) (fun _ _ _ h => h) (Or.inl ⟨by rfl, ?_⟩) (by first | assumption | trivial) ?_
  rotate_left 1
  · intro w0 hSw
    go_simp
    with_reducible rfl
  simp only [Act.put]
  refine wpAnyH_ready (rs := [9]) (by kernel_rfl) (by simp) ?_
  refine AllReadyH.cons rfl (fun K hK => ?_) AllReadyH.nil
  go_simp
  refine (fail_is (S11.out.dk.disk.below_ (Below.refl _ _).drew) HO.out.2.2 (by omega) (by omega) (by omega) HP4.out).mono ?_
  rintro e w12 hd
  obtain ⟨hs12, hk12⟩ := (S11.out.below (Below.refl _ _).drew).does hd
  have S12 := Lib.hid hs12
  have M12 := Lib.hid ((M11.out.below (Below.refl _ _).drew).next hk12 (fun k h => .inl h) (fun k h => h))
  have X12 := Lib.hid ((X11.out.below (Below.refl _ _).drew).next hk12 (fun k h => .inl h) (fun k h => h))
  obtain ⟨rfl, -⟩ := hd
  clear hs12 hk12 S11 M11 X11
  go_simp
  refine hK.out _ _ trivial (fun _ => ?_)
  clear hK K
  refine wpAnyH_done (by kernel_rfl) ?_ _
  generalize Dsk.Grow F7 w11.drew w12 = F12 at *
  clear hw0 hw1 hw2 hw3 hm0 hfr hfb0 hfb1 hpb0 hpb1 hmsw hmb0 hmb1
  go_wp2_with fail
  refine (commit_any w12 p q 3001 F12 s4 s5 _ _ a b c 3 _ l S12.out.dk.tab S12.out.dk.two_ (Nat.le_trans S12.out.dk.two S12.out.qN) S12.out.dk.disk HO4.out.1 (by rw [HLL.out, HZ4.out.1]; have := HMZ.out; omega) S12.out.sh (show (0 : Int) ≤ 1 ∧ (1 : Int) < 18446744073709551616 by decide) (show (0 : Int) ≤ 0 ∧ (0 : Int) ≤ 1 by decide) X12.out HL8'.out (by rw [HLL.out]; have := HNN.out.2.1; omega) HP5.out).mono ?_
  rintro e w13 hd
  obtain ⟨rfl, hk13, F13, hs13, hG13⟩ := S12.out.commit hd
  have S13 := Lib.hid hs13
  have M13 := Lib.hid (M12.out.next hk13 (fun k h => h) hG13)
  have X13 := Lib.hid (X12.out.next hk13 (fun k h => h) hG13)
  clear hd hk13 hs13 hG13 S12 M12 X12
  obtain ⟨p5o, hp5o⟩ : ∃ po : Int, (s5.ops : Int) = po := ⟨_, rfl⟩
  have HPO5 := Lib.hid hp5o
  clear hp5o
  go_wp2_with fail
  refine (Dsk.ops_any w13 p F13 s5 S13.out.dk.disk).mono ?_
  rintro e w14 ⟨rfl, rfl⟩
  rw [HPO5.out]
  go_wp2_with fail
  refine (commit_any w13 p q 5000 F13 s5 s5 _ ⟨fac a b c, 1, 0, true⟩ a b c 11 _ l S13.out.dk.tab S13.out.dk.two_ (Nat.le_trans S13.out.dk.two S13.out.qN) S13.out.dk.disk HO4.out.2.1 (by rw [HLL.out, HZ4.out.2.1]; have := HMZ.out; omega) S13.out.sh (show (0 : Int) ≤ 1 ∧ (1 : Int) < 18446744073709551616 by decide) (show (0 : Int) ≤ 0 ∧ (0 : Int) ≤ 1 by decide) X13.out HL8'.out (by rw [HLL.out]; have := HNN.out.2.1; omega) (commit_stale _ _ _ _ _ _ rfl)).mono ?_
  rintro e w14 hd
  obtain ⟨rfl, hk14, F14, hs14, hG14⟩ := S13.out.commit hd
  have S14 := Lib.hid hs14
  have M14 := Lib.hid (M13.out.next hk14 (fun k h => h) hG14)
  have X14 := Lib.hid (X13.out.next hk14 (fun k h => h) hG14)
  clear hd hk14 hs14 hG14 S13 M13 X13
  go_wp2_with fail
  refine (commit_any w14 p q 5000 F14 s5 s5 _ ⟨fac a b c, 1, 0, true⟩ a b c 11 _ (fac a b c) S14.out.dk.tab S14.out.dk.two_ (Nat.le_trans S14.out.dk.two S14.out.qN) S14.out.dk.disk HO4.out.2.1 (by rw [HFL.out, HZ4.out.2.1]; have := HMZ.out; omega) S14.out.sh (show (0 : Int) ≤ 1 ∧ (1 : Int) < 18446744073709551616 by decide) (show (0 : Int) ≤ 0 ∧ (0 : Int) ≤ 1 by decide) M14.out (facAt_in _ _) (by rw [HFL.out]; have := HNN.out.2.1; omega) (commit_stale _ _ _ _ _ _ rfl)).mono ?_
  rintro e w15 hd
  obtain ⟨rfl, hk15, F15, hs15, hG15⟩ := S14.out.commit hd
  have S15 := Lib.hid hs15
  have M15 := Lib.hid (M14.out.next hk15 (fun k h => h) hG15)
  have X15 := Lib.hid (X14.out.next hk15 (fun k h => h) hG15)
  clear hd hk15 hs15 hG15 S14 M14 X14
  go_wp2_with fail
  refine (Dsk.ops_any w15 p F15 s5 S15.out.dk.disk).mono ?_
  rintro e w16 ⟨rfl, rfl⟩
  rw [HPO5.out]
  go_wp2_with fail
  refine (stale_any S15.out.sh).mono ?_
  rintro e w16 ⟨rfl, rfl⟩
  dsimp only
  go_wp2_with fail
  refine (image_any S15.out.sh (by show (fac a b c).length ≤ _; rw [HFL.out]; have := HNN.out.2.1; omega)).mono ?_
  rintro e w16 ⟨v, rfl, hv, hk16⟩
  obtain ⟨A16, c16, rfl⟩ := hv.bys.form
  have hb16 := hk16.below (N := w15.heap.size) (fun b h => h.elim) (Nat.le_refl _)
  have S16 := Lib.hid (S15.out.below hb16)
  have M16 := Lib.hid (M15.out.below hb16)
  have X16 := Lib.hid (X15.out.below hb16)
  rw [show (Sh.mk (fac a b c) 1 0 true).img.length = n from HFL.out] at hv ⊢
  have HV16 := Lib.hid hv.bys
  clear hv hk16 hb16 S15 M15 X15
  go_wp2_with fail
  refine (Dsk.same_any w16 _ _ _ _ (fac a b c) (fac a b c) HV16.out M16.out (by rw [HFL.out]; have := HNN.out.2.1; omega) (by rw [HFL.out]; have := HNN.out.2.1; omega)).mono ?_
  rintro e w17 ⟨rfl, k17, rfl⟩
  rw [decide_eq_true rfl]
  have S17 := Lib.hid (S16.out.below (below_drewN (Below.refl _ _) k17))
  have X17 := Lib.hid (X16.out.below (below_drewN (Below.refl _ _) k17))
  clear S16 M16 X16 HV16
  go_wp2_with fail
  refine (seq_any S17.out.sh).mono ?_
  rintro e w18 ⟨rfl, rfl⟩
  dsimp only
  obtain ⟨g0, g1, g2⟩ := geo_below HG4.out S17.out.dk.bel
  go_wp2_with fail
  generalize w16.drewN k17 = w18 at *
  refine (open_any w18 p 5000 F15 s5 s6 y a b c 0 S17.out.dk.tab S17.out.dk.two_ S17.out.dk.disk HO4.out.2.1 (by rw [HTN.out, HZ4.out.2.1]; have := HMZ.out; omega) HP6.out).mono ?_
  rintro e w19 hd
  obtain ⟨F19, D19, hG19, hk19, hr⟩ := S17.out.dk.opened hd
  rcases hr with ⟨h, _⟩ | ⟨_, q', hq', rfl, hs⟩
  · exact absurd rfl h
  have S19 := Lib.hid hs
  have X19 := Lib.hid (show Mine w19 F19 q' (.slice (some ⟨g, o, none⟩) n c9) l from ((Bys.there X17.out).keeps hk19 fun b hb _ h => hb.1.1 h).mono fun b hb => ⟨fun h => by rcases hG19 b h with h2 | h2; exact hb.1.1 h2; have := hb.2; omega, by have := hb.2; omega⟩)
  clear hd hs hG19 hk19 D19 hq' S17 X17 g0 g1 g2
  go_wp2_with fail
  refine (commit_any w19 p q' 7000 F19 s6 s7 y y' a b c 0 _ l S19.out.dk.tab S19.out.dk.two_ (Nat.le_trans S19.out.dk.two S19.out.qN) S19.out.dk.disk HO4.out.2.2 (by rw [HLL.out, HZ4.out.2.2]; have := HMZ.out; omega) S19.out.sh HY.out.1 HY.out.2.1 X19.out HL8'.out (by rw [HLL.out]; have := HNN.out.2.1; omega) HP7.out).mono ?_
  rintro e w20 hd
  obtain ⟨rfl, hk20, F20, hs20, hG20⟩ := S19.out.commit hd
  have S20 := Lib.hid hs20
  have X20 := Lib.hid (X19.out.next hk20 (fun k h => h) hG20)
  clear hd hk20 hs20 hG20 S19 X19
  obtain ⟨yi, yq, yw, ys⟩ := y'
  have HQ1 := Lib.hid (show yi = l ∧ ys = false from HQ.out.2)
  obtain ⟨rfl, rfl⟩ := HQ1.out
  go_wp2_with fail
  refine (stale_any S20.out.sh).mono ?_
  rintro e w21 ⟨rfl, rfl⟩
  dsimp only
  go_wp2_with fail
  refine (image_any S20.out.sh (by show yi.length ≤ _; rw [HLL.out]; have := HNN.out.2.1; omega)).mono ?_
  rintro e w21 ⟨v, rfl, hv, hk21⟩
  obtain ⟨A21, c21, rfl⟩ := hv.bys.form
  have hb21 := hk21.below (N := w20.heap.size) (fun b h => h.elim) (Nat.le_refl _)
  have S21 := Lib.hid (S20.out.below hb21)
  have X21 := Lib.hid (X20.out.below hb21)
  rw [show (Sh.mk yi yq yw false).img.length = n from HLL.out] at hv ⊢
  have HV21 := Lib.hid hv.bys
  clear hv hk21 hb21 S20 X20
  go_wp2_with fail
  refine (Dsk.same_any w21 _ _ _ _ yi yi HV21.out X21.out (by rw [HLL.out]; have := HNN.out.2.1; omega) (by rw [HLL.out]; have := HNN.out.2.1; omega)).mono ?_
  rintro e w22 ⟨rfl, k22, rfl⟩
  rw [decide_eq_true rfl]
  have HE := Lib.hid (HB.out.trans ((O4.out.bel.trans ((S21.out.below (below_drewN (Below.refl _ _) k22)).dk.bel.mono O4.out.bel.size)).mono HB.out.size))
  go_wp2_with fail
  go_ret
  exact ⟨rfl, HE.out⟩
theorem shadowStale_law (a : Int) (_ha : (Lit.int .i64 a).wf = true) (b : Int) (_hb : (Lit.int .i64 b).wf = true) (c : Int) (_hc : (Lit.int .i64 c).wf = true) (sz : Int) (hs : (Lit.int .u8 sz).wf = true) (fl : Int) (hf : (Lit.int .u8 fl).wf = true) (w : World) (hT : Tab w) :
    Calls Tryz.prog 7 #[geoV a b c, .int .u8 sz, .int .u8 fl] w fun e w' => e = .returned (.bool true) ∧ Below w.heap.size w w' :=
  shadowStale_walk w a b c sz fl hT (by simp [Lit.wf, IntKind.min, IntKind.max, IntKind.signed, IntKind.bits] at hs; omega) (by simp [Lit.wf, IntKind.min, IntKind.max, IntKind.signed, IntKind.bits] at hf; omega)
end Go.Proofs.YthlemcnbebfliaaGreatDoor
