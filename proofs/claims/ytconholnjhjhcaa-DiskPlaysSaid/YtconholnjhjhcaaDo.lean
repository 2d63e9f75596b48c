/-
  THE WALK OF do.
-/
import Derived.Test.YtconholnjhjhcaaArgs
namespace Go.Proofs.Ytconholnjhjhcaa
open Ks Go.RowKit

/-- what an operation does, and answers -/
def act (s : St) (o : OpD) : St :=
  if o.kind = 0 then (s.write o.i o.b).1 else if o.kind = 1 then s.tick else if o.kind = 2 then s.sync.1 else if o.kind = 3 then s.crash o.tears
  else if o.kind = 4 then (if 0 < o.i ∧ o.i < 1000 then s.fail ((s.ops : Int) + o.i) else s) else s
def said (s : St) (o : OpD) : List Int × Int :=
  if o.kind = 0 then ([], (s.write o.i o.b).2) else if o.kind = 1 then St.read s o.i else if o.kind = 2 then ([], s.sync.2) else ([], 0)

/-- numbers that are looked at -/
def _root_.Ks.St.fits (s : St) (N : Nat) : Prop := s.ops ≤ N ∧ s.wr ≤ N ∧ s.cn ≤ N ∧ s.pn ≤ N ∧ s.last.length ≤ 4096 ∧ s.size ≤ 4096

def DoPost (p : Nat) (F : Nat → Prop) (s : St) (w : World) (bs : List Int) (err : Int) (e : Ending) (w' : World) : Prop :=
  ∃ v, e = .returned (.tuple #[v, .int .i64 err]) ∧ Byt w' (From w.heap.size) v bs ∧ DiskAt Try.prog w' p (Grow F w w') s ∧ Keeps F w w'

theorem disk_before {F : Nat → Prop} {w w1 w' : World} {p : Nat} {s : St} (h : DiskAt Try.prog w' p (Grow F w1 w') s) (hk : w.heap.size ≤ w1.heap.size) : DiskAt Try.prog w' p (Grow F w w') s := by
  refine h.mono (fun b hb => ?_) (fun b hb => ?_)
  · rcases hb with hb | hb
    · exact .inl hb
    · exact .inr ⟨Nat.le_trans hk hb.1, hb.2⟩
  · rcases hb with hb | hb
    · exact h.there b (.inl hb)
    · exact hb.2
theorem keeps_before {F : Nat → Prop} {w w1 w' : World} (hk : Keeps No w w1) (h : Keeps F w1 w') : Keeps F w w' := hk.no.trans h

set_option maxRecDepth 100000 in
set_option maxHeartbeats 4000000 in
theorem do_any (w : World) (p : Nat) (F G : Nat → Prop) (s : St) (o : OpD) (bv tv : Value) (h : DiskAt Try.prog w p F s) (hv : OpVals w G bv tv o) (hok : o.ok) (hG : ∀ b, G b → b < w.heap.size ∧ ¬ F b) (hf : s.fits 900000) (htl : o.tears.length ≤ 1000000) :
    Calls Try.prog 15 #[.pointer (some ⟨p, 0, none⟩), .agg #[.int .u8 o.kind, .int .i64 o.i, bv, tv]] w (DoPost p F (act s o) w (said s o).1 (said s o).2) := by
  obtain ⟨hf1, hf2, hf3, hf4, hf5, hf6⟩ := hf
  obtain ⟨A1, c1, rfl⟩ := hv.1.form
  obtain ⟨A2, c2, rfl⟩ := hv.2.form
  have hkw : Keeps No w (w.alloc (.cells #[.int .u8 o.kind, .int .i64 o.i, .slice A1 o.b.length c1, .slice A2 o.tears.length c2] 36)) := (Keeps.refl No w).alloc _
  have HD := Lib.hid (h.keeps hkw (fun _ _ h => h))
  have HB := Lib.hid (hv.1.keeps hkw (fun _ _ _ h => h))
  have HT := Lib.hid (hv.2.keeps hkw (fun _ _ _ h => h))
  have HK := Lib.hid hkw
  have HG := Lib.hid hG
  have HS := Lib.hid h.there
  obtain ⟨ok1, ok2, ok3, ok4, ok5, ok6, ok7⟩ := hok
  clear h hv hkw hG ok7
  obtain ⟨kind, i, bb, tt⟩ := o
  simp only at *
  by_cases k0 : kind = 0
  · subst k0
    have HA := Lib.hid (show act s ⟨0, i, bb, tt⟩ = (s.write i bb).1 by simp [act])
    have HE := Lib.hid (show said s ⟨0, i, bb, tt⟩ = ([], (s.write i bb).2) by simp [said])
    go_enter Try.func15, Try.ntmps15
    go_wp2_with fail
    refine (write_any _ p F G s i _ bb HD.out HB.out (fun b hb _ => (HG.out b hb).2) (by omega) (by omega) (by omega) hf5 hf6).mono ?_
    rintro e w1 ⟨rfl, hd, hk⟩
    have HD1 := Lib.hid (disk_before hd HK.out.size)
    have HK1 := Lib.hid (keeps_before HK.out hk)
    clear hd hk
    go_wp2_with fail
    go_ret2
    rw [HA.out, HE.out]
    exact ⟨_, rfl, Byt.nil _ _, HD1.out, HK1.out⟩
  by_cases k1 : kind = 1
  · subst k1
    have HA := Lib.hid (show act s ⟨1, i, bb, tt⟩ = s.tick by simp [act])
    have HE := Lib.hid (show said s ⟨1, i, bb, tt⟩ = St.read s i by simp [said])
    clear k0
    go_enter Try.func15, Try.ntmps15
    go_wp2_with fail
    refine (read_any _ p F s i HD.out (by omega) hf5 hf6).mono ?_
    rintro e w1 ⟨v, rfl, hv, hd, hk⟩
    have HD1 := Lib.hid (show DiskAt Try.prog w1 p (Grow F w w1) s.tick from DiskAt.grow hd)
    have HK1 := Lib.hid (keeps_before HK.out hk)
    have HV1 := Lib.hid (show Byt w1 (From w.heap.size) v (St.read s i).1 from hv.mono fun b hb => Nat.le_trans HK.out.size hb)
    clear hd hk hv
    go_wp2_with fail
    go_ret2
    rw [HA.out, HE.out]
    exact ⟨_, rfl, HV1.out, HD1.out, HK1.out⟩
  by_cases k2 : kind = 2
  · subst k2
    have HA := Lib.hid (show act s ⟨2, i, bb, tt⟩ = s.sync.1 by simp [act])
    have HE := Lib.hid (show said s ⟨2, i, bb, tt⟩ = ([], s.sync.2) by simp [said])
    clear k0 k1
    go_enter Try.func15, Try.ntmps15
    go_wp2_with fail
    refine (sync_any _ p F s HD.out (by omega) (by omega) hf5).mono ?_
    rintro e w1 ⟨rfl, hd, hk⟩
    have HD1 := Lib.hid (disk_before hd HK.out.size)
    have HK1 := Lib.hid (keeps_before HK.out hk)
    clear hd hk
    go_wp2_with fail
    go_ret2
    rw [HA.out, HE.out]
    exact ⟨_, rfl, Byt.nil _ _, HD1.out, HK1.out⟩
  by_cases k3 : kind = 3
  · subst k3
    have HA := Lib.hid (show act s ⟨3, i, bb, tt⟩ = s.crash tt by simp [act])
    have HE := Lib.hid (show said s ⟨3, i, bb, tt⟩ = ([], 0) by simp [said])
    clear k0 k1 k2
    go_enter Try.func15, Try.ntmps15
    go_wp2_with fail
    refine (crash_any _ p F G s _ tt HD.out HT.out (fun b hb => ⟨Nat.lt_of_lt_of_le (HG.out b hb).1 HK.out.size, (HG.out b hb).2⟩) (by omega) hf5 hf6 htl).mono ?_
    rintro e w1 ⟨rfl, hd, hk⟩
    have HD1 := Lib.hid (disk_before hd HK.out.size)
    have HK1 := Lib.hid (keeps_before HK.out hk)
    clear hd hk
    go_wp2_with fail
    go_ret2
    rw [HA.out, HE.out]
    exact ⟨_, rfl, Byt.nil _ _, HD1.out, HK1.out⟩
  by_cases k4 : kind = 4
  · subst k4
    have HE := Lib.hid (show said s ⟨4, i, bb, tt⟩ = ([], 0) by simp [said])
    clear k0 k1 k2 k3
    by_cases hi : 0 < i ∧ i < 1000
    · have HA := Lib.hid (show act s ⟨4, i, bb, tt⟩ = s.fail ((s.ops : Int) + i) by simp [act, hi])
      obtain ⟨hi0, hi1⟩ := hi
      go_enter Try.func15, Try.ntmps15
      go_wp2_with fail
      refine (ops_any _ p F s HD.out).mono ?_
      rintro e w1 ⟨rfl, rfl⟩
      go_wp2_with fail
      refine (fail_any _ p F s _ HD.out (by omega) (by omega) (by omega) (by omega)).mono ?_
      rintro e w1 ⟨rfl, hd, hk⟩
      have HD1 := Lib.hid (disk_before hd HK.out.size)
      have HK1 := Lib.hid (keeps_before HK.out hk)
      clear hd hk
      go_wp2_with fail
      go_ret2
      rw [HA.out, HE.out]
      exact ⟨_, rfl, Byt.nil _ _, HD1.out, HK1.out⟩
    · have HA := Lib.hid (show act s ⟨4, i, bb, tt⟩ = s by simp [act, hi])
      have HD1 := Lib.hid (show DiskAt Try.prog _ p (Grow F w (w.alloc (.cells #[.int .u8 4, .int .i64 i, .slice A1 bb.length c1, .slice A2 tt.length c2] 36))) s from DiskAt.grow HD.out)
      by_cases hi0 : 0 < i
      · have hi1 : decide (i < 1000) = false := by simp; omega
        clear hi
        go_enter Try.func15, Try.ntmps15
        go_wp2_with fail
        refine (ops_any _ p F s HD.out).mono ?_
        rintro e w1 ⟨rfl, rfl⟩
        go_wp2_with fail
        go_ret2
        rw [HA.out, HE.out]
        exact ⟨_, rfl, Byt.nil _ _, HD1.out, HK.out.no⟩
      · have hi1 : decide (0 < i) = false := by simp; omega
        clear hi hi0
        go_enter Try.func15, Try.ntmps15
        go_wp2_with fail
        refine (ops_any _ p F s HD.out).mono ?_
        rintro e w1 ⟨rfl, rfl⟩
        go_wp2_with fail
        go_ret2
        rw [HA.out, HE.out]
        exact ⟨_, rfl, Byt.nil _ _, HD1.out, HK.out.no⟩
  · have HA := Lib.hid (show act s ⟨kind, i, bb, tt⟩ = s by simp [act, k0, k1, k2, k3, k4])
    have HE := Lib.hid (show said s ⟨kind, i, bb, tt⟩ = ([], 0) by simp [said, k0, k1, k2])
    have HD1 := Lib.hid (show DiskAt Try.prog _ p (Grow F w (w.alloc (.cells #[.int .u8 kind, .int .i64 i, .slice A1 bb.length c1, .slice A2 tt.length c2] 36))) s from DiskAt.grow HD.out)
    have b0 : (kind == 0) = false := by simpa using k0
    have b1 : (kind == 1) = false := by simpa using k1
    have b2 : (kind == 2) = false := by simpa using k2
    have b3 : (kind == 3) = false := by simpa using k3
    have b4 : (kind == 4) = false := by simpa using k4
    clear k0 k1 k2 k3 k4
    go_enter Try.func15, Try.ntmps15
    go_wp2_with fail
    go_ret2
    rw [HA.out, HE.out]
    exact ⟨_, rfl, Byt.nil _ _, HD1.out, HK.out.no⟩
end Go.Proofs.Ytconholnjhjhcaa
