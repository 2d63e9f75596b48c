/-
  THE WALK OF SlotApart.
-/
import Derived.Test.YthlemcnbebfliaaGreatDoorSMore
import Derived.Test.YthlemcnbebfliaaGreatDoorSTears
namespace Go.Proofs.YthlemcnbebfliaaGreatDoor
open Ks Go.RowKit
set_option maxRecDepth 20000

/-- a slot's sectors -/
def In_ (first sp : Int) : Int → Prop := fun j => first ≤ j ∧ j < first + sp
theorem put_part {s s' : St} {which a b c er z0 : Int} {l : List Int} {R : Int → Prop} (h : put_ s which a b c l = (s', er)) (hz : (s.size : Int) = z0) (hR : ∀ j, which * spanOf z0 a b c ≤ j → j < which * spanOf z0 a b c + spanOf z0 a b c → ¬ R j) (h4 : s.size ≤ 4096) : Part R s s' := by
  unfold put_ at h
  split at h
  · rw [show s' = _ from (congrArg Prod.fst h).symm]
    exact Part.refl R s
  · rename_i he
    have he : forErr s which a b c l.length = 0 := by omega
    obtain ⟨q1, q2, q3, q4, q5, q6, q7⟩ := forErr_ok he
    have hsp := span_eq q3 q5 h4 q2
    rw [hz] at hsp
    rw [hz] at h
    rw [show s' = _ from (congrArg Prod.fst h).symm]
    exact Part.stores s _ _ _ (fun j h1 h2 => hR j (by omega) (by omega))
theorem laid_part {s s' : St} {which a b c q er z0 : Int} {l : List Int} {R : Int → Prop} (h : laid s which a b c q l = (s', er)) (hz : (s.size : Int) = z0) (hR : ¬ R (which * spanOf z0 a b c)) : Part R s s' := by
  unfold laid at h
  split at h
  · rw [show s' = _ from (congrArg Prod.fst h).symm]
    exact Part.refl R s
  · rw [show s' = _ from (congrArg Prod.fst h).symm, hz]
    exact Part.write s _ _ hR
theorem wiped_part {s s' : St} {which a b c er z0 : Int} {R : Int → Prop} (h : wiped s which a b c = (s', er)) (hz : (s.size : Int) = z0) (hR : ¬ R (which * spanOf z0 a b c)) : Part R s s' := by
  unfold wiped at h
  split at h
  · rw [show s' = _ from (congrArg Prod.fst h).symm]
    exact Part.refl R s
  · rw [show s' = _ from (congrArg Prod.fst h).symm, hz]
    exact Part.write s _ _ hR
theorem put_one {s s' : St} {which a b c er : Int} {l : List Int} (h : put_ s which a b c l = (s', er)) (h1 : One s) : One s' := by
  unfold put_ at h
  split at h
  · rw [show s' = _ from (congrArg Prod.fst h).symm]; exact h1
  · rw [show s' = _ from (congrArg Prod.fst h).symm]; exact h1.stores _ _ _
theorem laid_one {s s' : St} {which a b c q er : Int} {l : List Int} (h : laid s which a b c q l = (s', er)) (h1 : One s) : One s' := by
  unfold laid at h
  split at h
  · rw [show s' = _ from (congrArg Prod.fst h).symm]; exact h1
  · rw [show s' = _ from (congrArg Prod.fst h).symm]; exact h1.write _ _
theorem wiped_one {s s' : St} {which a b c er : Int} (h : wiped s which a b c = (s', er)) (h1 : One s) : One s' := by
  unfold wiped at h
  split at h
  · rw [show s' = _ from (congrArg Prod.fst h).symm]; exact h1
  · rw [show s' = _ from (congrArg Prod.fst h).symm]; exact h1.write _ _
theorem fail_part (R : Int → Prop) (s : St) (n : Int) : Part R s (s.fail n) := by
  unfold St.fail
  split
  · exact Part.refl R s
  · exact ⟨rfl, rfl, fun _ _ => rfl, fun _ _ => rfl⟩
/-- all that SlotApart does, of disks as values -/
theorem apart_plan {a b c n0 : Int} {l l' : List Int} {z k : Nat} {ts : List (Int × List Int)} (second : Bool) (hz : 32 ≤ z) (hz2 : z ≤ 4096) (hr : right a b c = true) (hn : (l.length : Int) = total a b c) (hl' : l'.length = l.length) (h5 : l.length ≤ 500) (hk : 2 * spanOf z a b c = k) (h8 : In8 l) (h8' : In8 l') (ht8 : ∀ t ∈ ts, In8 t.2) :
    ∃ s1 s2 s3, put_ (Dsk.fresh z (List.replicate k (List.replicate z 0))) (whOf second) a b c l = (s1, 0) ∧ laid s1 (whOf second) a b c 5 l = (s2, 0) ∧ s2.sync = (s3, 0) ∧
      ∀ s4, s3.fail ((s3.ops : Int) + 1 + n0) = s4 → ∃ s5 e5 s6 e6 s7 e7, put_ s4 (whOf (!second)) a b c l' = (s5, e5) ∧ laid s5 (whOf (!second)) a b c 6 l' = (s6, e6) ∧ wiped s6 (whOf (!second)) a b c = (s7, e7) ∧
      ∃ s9, ((readOf (s7.crash ts) (whOf second) a b c = (s9, ⟨2, 0, 5, l⟩, 0)) ∨ (readOf (s7.crash ts) (whOf second) a b c = (s9, ⟨0, 0, 0, []⟩, 3) ∧ ∃ s10, readOf s9 (whOf second) a b c = (s10, ⟨2, 0, 5, l⟩, 0))) ∧
      (Ok 0 (Dsk.fresh z (List.replicate k (List.replicate z 0))) ∧ Ok 10000 s1 ∧ Ok 10000 s2 ∧ Ok 10000 s3 ∧ Ok 10000 s4 ∧ Ok 10000 s5 ∧ Ok 10000 s6 ∧ Ok 10000 s7 ∧ Ok 10000 (s7.crash ts) ∧ Ok 10000 s9) ∧ (s4.size = z ∧ (s7.crash ts).size = z ∧ s9.size = z) := by
  obtain ⟨hk4, hfe⟩ := fresh_room hz hz2 hr hn h5 hk
  have he := hfe second
  have hb := many_bounds l.length z (by omega) hz2
  have ht : (total a b c).toNat = l.length := by omega
  have hsp := span_eq hr hz hz2 hn
  obtain ⟨s0, hs0⟩ : ∃ s0, Dsk.fresh z (List.replicate k (List.replicate z 0)) = s0 := ⟨_, rfl⟩
  have hz0 : s0.size = z := by rw [← hs0]; rfl
  have hl0 : s0.last.length = k := by rw [← hs0]; simp [Dsk.fresh]
  have hf0 : NoFail s0 := by rw [← hs0]; exact nofail_fresh _ _
  have hO0 : Ok 0 s0 := by rw [← hs0]; exact ok_fresh z _ 0 (new_in8 k z) (by simpa using hk4) hz2
  rw [hs0] at he ⊢
  have hp := forErr_place hz0 hz2 he
  obtain ⟨first, hfi⟩ : ∃ f, whOf second * spanOf z a b c = f := ⟨_, rfl⟩
  obtain ⟨s1, p1, S1⟩ := put_has hf0 hz0 hz2 he
  rw [hfi] at hp S1
  have z1 : s1.size = z := S1.size.trans hz0
  have e1 : forErr s1 (whOf second) a b c l.length = 0 := by rw [forErr_of S1.size S1.last]; exact he
  have p2 := laid_fine (q := 5) S1.fine z1 hz2 e1
  rw [hfi] at p2
  obtain ⟨X, hX⟩ : ∃ X, padded (enc a b c l.length 5 (sumOf l)) z = X := ⟨_, rfl⟩
  rw [hX] at p2
  obtain ⟨s2, hs2⟩ : ∃ s2, s1.put first X = s2 := ⟨_, rfl⟩
  rw [hs2] at p2
  have H2 : Has s2 first X z l := by rw [← hs2]; exact laid_Has S1.imgs
  have f2 : NoFail s2 := by rw [← hs2]; exact S1.fine.put _ _
  have z2 : s2.size = z := by rw [← hs2]; exact z1
  have l2 : s2.last = s0.last := by rw [← hs2]; exact S1.last
  obtain ⟨y1, y2, y3⟩ := sync_fine f2
  obtain ⟨s3, hs3⟩ : ∃ s3, s2.sync.1 = s3 := ⟨_, rfl⟩
  have O1 := put_ok hO0 h8 p1
  rw [hz0] at O1
  have O2 := laid_ok O1 p2
  have O3 := O2.sync
  rw [hs3] at y2 y3 O3
  have z3 : s3.size = z := y2.size.trans z2
  have l3 : s3.last.length = k := by rw [y2.len]; show s2.last.length = k; rw [l2, hl0]
  have hkk : (k : Int) = 2 * spanOf z a b c := hk.symm
  have hfk : first + spanOf z a b c ≤ (k : Int) := by
    rw [← hfi, hkk]
    rcases whOf_in second with h | h <;> rw [h] <;> omega
  have hR3 : ∀ j, In_ first (spanOf z a b c) j → s3.cach j = none ∧ view s3 j = view s2 j := fun j hj => by
    have h1 : j < (s2.tick.last.length : Int) := by show j < (s2.last.length : Int); rw [l2, hl0]; have := hj.2; omega
    have h0 : 0 ≤ j := by have := hj.1; omega
    exact ⟨y2.cach j h0 h1, (y2.view j h0 h1).trans ((Alike.tick s2).view j)⟩
  refine ⟨s1, s2, s3, p1, p2, Prod.ext hs3 y1, fun s4 hs4 => ?_⟩
  have P4 : Part (In_ first (spanOf z a b c)) s3 s4 := hs4 ▸ fail_part _ s3 _
  have one4 : One s4 := hs4 ▸ One.fail y3 _
  have O4 : Ok (0 + many l.length z + 1 + 1 + 1) s4 := hs4 ▸ O3.fail _
  have z4 : s4.size = z := P4.size.trans z3
  obtain ⟨s5, hs5⟩ : ∃ s5, (put_ s4 (whOf (!second)) a b c l').1 = s5 := ⟨_, rfl⟩
  obtain ⟨e5, he5⟩ : ∃ e5, (put_ s4 (whOf (!second)) a b c l').2 = e5 := ⟨_, rfl⟩
  have p5 : put_ s4 (whOf (!second)) a b c l' = (s5, e5) := Prod.ext hs5 he5
  obtain ⟨s6, hs6⟩ : ∃ s6, (laid s5 (whOf (!second)) a b c 6 l').1 = s6 := ⟨_, rfl⟩
  obtain ⟨e6, he6⟩ : ∃ e6, (laid s5 (whOf (!second)) a b c 6 l').2 = e6 := ⟨_, rfl⟩
  have p6 : laid s5 (whOf (!second)) a b c 6 l' = (s6, e6) := Prod.ext hs6 he6
  obtain ⟨s7, hs7⟩ : ∃ s7, (wiped s6 (whOf (!second)) a b c).1 = s7 := ⟨_, rfl⟩
  obtain ⟨e7, he7⟩ : ∃ e7, (wiped s6 (whOf (!second)) a b c).2 = e7 := ⟨_, rfl⟩
  have p7 : wiped s6 (whOf (!second)) a b c = (s7, e7) := Prod.ext hs7 he7
  have hap : ∀ j, whOf (!second) * spanOf z a b c ≤ j → j < whOf (!second) * spanOf z a b c + spanOf z a b c → ¬ In_ first (spanOf z a b c) j := fun j h1 h2 h3 => by
    have h4 := h3.1
    have h5 := h3.2
    rw [← hfi] at h4 h5
    cases second <;> simp only [whOf, Bool.not_true, Bool.not_false] at h1 h2 h4 h5 <;> omega
  have hap0 : ¬ In_ first (spanOf z a b c) (whOf (!second) * spanOf z a b c) := hap _ (by omega) (by omega)
  have P5 := P4.trans (put_part p5 (by rw [z4]) hap (by omega))
  have z5 : s5.size = z := P5.size.trans z3
  have P6 := P5.trans (laid_part p6 (by rw [z5]) hap0)
  have z6 : s6.size = z := P6.size.trans z3
  have P7 := P6.trans (wiped_part p7 (by rw [z6]) hap0)
  have hR0 : ∀ j, In_ first (spanOf z a b c) j → 0 ≤ j := fun j hj => by have := hj.1; omega
  have P8 := P7.trans (Part.crash s7 ts (fun j hj => (P7.cach j hj).trans (hR3 j hj).1) hR0)
  have one8 : One (s7.crash ts) := (wiped_one p7 (laid_one p6 (put_one p5 one4))).plan (crashL_plan _ _ _)
  have O5 := put_ok O4 h8' p5
  rw [hl', z4] at O5
  have O6 := laid_ok O5 p6
  have O7 := wiped_ok O6 p7
  have O8 := O7.crash ht8
  have z8 : (s7.crash ts).size = z := P8.size.trans z3
  have H8 : Has (s7.crash ts) first X z l := H2.of_view (fun j h0 h1 => by
    have hj : In_ first (spanOf z a b c) j := ⟨h0, by omega⟩
    exact (P8.view j hj).trans (hR3 j hj).2)
  rw [← hX] at H8
  have e8 : forErr (s7.crash ts) (whOf second) a b c l.length = 0 := by
    have : forErr (s7.crash ts) (whOf second) a b c l.length = forErr s0 (whOf second) a b c l.length := by
      unfold forErr findErr
      rw [z8, hz0, P8.len, l3, hl0]
    rw [this]; exact he
  obtain ⟨s9, hs9⟩ : ∃ s9, (readOf (s7.crash ts) (whOf second) a b c).1 = s9 := ⟨_, rfl⟩
  have A9 : Alike (s7.crash ts) s9 := hs9 ▸ readOf_alike _ _ a b c
  have O9 := O8.readOf (whOf second) a b c
  rw [hs9, ht, z8] at O9
  refine ⟨s5, e5, s6, e6, s7, e7, p5, p6, p7, s9, ?_, ⟨hO0, O1.mono (by omega), O2.mono (by omega), O3.mono (by omega), O4.mono (by omega), O5.mono (by omega), O6.mono (by omega), O7.mono (by omega), O8.mono (by omega), O9.mono (by omega)⟩, z4, z8, A9.size.trans z8⟩
  rcases read_one one8 (q := 5) z8 hz2 e8 (by omega) (by rw [hfi]; exact H8) with r | ⟨r, f9⟩
  · exact .inl (Prod.ext hs9 r)
  · refine .inr ⟨Prod.ext hs9 r, _, Prod.ext rfl (read_good (hs9 ▸ f9) (q := 5) (A9.size.trans z8) hz2 ?_ (by omega) ?_)⟩
    · rw [forErr_of A9.size A9.last]; exact e8
    · rw [hfi]
      exact H8.of_view (fun j _ _ => A9.view j)
theorem _root_.Go.Proofs.YthlemcnbebfliaaGreatDoor.Dsk.Tears.mono {w : World} {G G' : Nat → Prop} {v : Value} {ts : List (Int × List Int)} (h : Dsk.Tears w G v ts) (hG : ∀ b, G b → G' b) : Dsk.Tears w G' v ts := by
  obtain ⟨A, c, rfl, hc, h⟩ := h
  refine ⟨A, c, rfl, hc, fun h0 => ?_⟩
  obtain ⟨b, o, rfl, hb, hcell⟩ := h h0
  refine ⟨b, o, rfl, hG b hb, fun k hk => ?_⟩
  obtain ⟨h1, tv, h2, h3⟩ := hcell k hk
  exact ⟨h1, tv, h2, h3.mono hG⟩
theorem tears_below {w w' : World} {B : Nat} {v : Value} {ts : List (Int × List Int)} (h : Dsk.Tears w (Lower B) v ts) (hb : Below B w w') (_hB : B ≤ w.heap.size) : Dsk.Tears w' (Lower B) v ts :=
  h.keeps (S := fun b => B ≤ b) ⟨hb.os, hb.tape, hb.output, hb.size, fun k _ hs => hb.block k (by omega)⟩ (fun b h1 _ h2 => by unfold Lower at h1; omega)
/-- one operation, as the law builds it -/
abbrev opCells (At : Option Addr) (nt ct : Nat) : Array Value := #[.int .u8 0, .int .i64 0, .int .u64 0, .slice none 0 0, .int .u8 0, .slice At nt ct]
theorem op_ok {ts : List (Int × List Int)} (h1 : ts.length ≤ maxLen) (h2 : ∀ t ∈ ts, t.2.length ≤ maxLen ∧ ∀ z ∈ t.2, 0 ≤ z ∧ z ≤ 255) : (⟨0, 0, 0, [], 0, ts⟩ : OpD).ok :=
  ⟨by show (0 : Int) ≤ 0 ∧ (0 : Int) ≤ 255; omega, by show (-9223372036854775808 : Int) ≤ 0 ∧ (0 : Int) ≤ 9223372036854775807; omega, by show (0 : Int) ≤ 0 ∧ (0 : Int) < 18446744073709551616; omega, by show (0 : Int) ≤ 0 ∧ (0 : Int) ≤ 255; omega, Nat.zero_le _, (fun z hz => by cases hz), h1, h2⟩
theorem crash_is {w : World} {p m : Nat} {F G : Nat → Prop} {s s' : St} {tv : Value} {ts : List (Int × List Int)} (h : DiskAt Tryz.prog w p F s) (ht : Dsk.Tears w G tv ts) (hG : ∀ b, G b → b < w.heap.size ∧ ¬ F b) (hO : Ok m s) (hm : m < 1000000) (htl : ts.length ≤ 1000000) (hc : s.crash ts = s') :
    Calls Tryz.prog 25 #[.pointer (some ⟨p, 0, none⟩), tv] w (Dsk.Does p F s' w) := by
  have := Dsk.crash_any w p F G s tv ts h ht hG (by have := hO.cn; omega) hO.len hO.size htl
  rw [hc] at this
  exact this
theorem fail_is {w : World} {p m : Nat} {F : Nat → Prop} {s s' : St} {n : Int} (h : DiskAt Tryz.prog w p F s) (hO : Ok m s) (hm : m < 1000000) (hn0 : -2000000 ≤ n) (hn1 : n ≤ 2000000) (hc : s.fail n = s') :
    Calls Tryz.prog 21 #[.pointer (some ⟨p, 0, none⟩), .int .i64 n] w (Dsk.Does p F s' w) := by
  have := Dsk.fail_any w p F s n h (by have := hO.ops; omega) (by have := hO.pn; omega) hn0 hn1
  rw [hc] at this
  exact this
theorem Dk.does {N : Nat} {w W w' : World} {p : Nat} {F : Nat → Prop} {s s' : St} {e : Ending} (H : Dk N w W p F s) (h : Dsk.Does p F s' W e w') : Dk N w w' p (Dsk.Grow F W w') s' := by
  obtain ⟨_, hd, hk⟩ := h
  have hb : Below N W w' := hk.below H.ge H.le
  exact ⟨hd, fun b hg => by rcases hg with hg | hg; exact H.ge b hg; exact Nat.le_trans H.le hg.1, H.bel.trans hb, tab_below H.tab hb H.two, H.two, Nat.le_trans H.le hk.size⟩
end Go.Proofs.YthlemcnbebfliaaGreatDoor
