/-
  THE WALK OF awake: the chapter's example.
-/
import Derived.Test.YtdafmjklkggbgaaDoorBack
namespace Go.Proofs.YtdafmjklkggbgaaDoor
open Ks Go.RowKit

theorem can0 : can 0 0 0 0 = true := by decide
theorem decT_enc (a b c n q s : Int) (m : List Int) (hc : can a b c n = true) (hq : 0 ≤ q ∧ q < 18446744073709551616) (hs : 0 ≤ s ∧ s < 4294967296) : decT (enc a b c n q s ++ m) = .tuple #[headV a b c n q s, .int .i64 0] := by
  obtain ⟨h1, h2⟩ := dec_enc a b c n q s m hc hq hs
  rw [decT_ok h1, h2]
theorem enc_at (a b c n q s : Int) : (enc a b c n q s).getD 0 0 = 75 ∧ (enc a b c n q s).getD 12 0 = q / 256 ^ 0 % 256 := by
  constructor
  · unfold enc body keep
    rfl
  · unfold enc body keep
    rfl
theorem awake_any (w0 w : World) (H : On w0 w) : Calls Tryd.prog 9 #[] w fun e w' => e = .returned (.bool true) ∧ On w0 w' := by
  have H0 := Lib.hid H
  clear H
  have hst : ∀ (w : World), (Instr.build 27 #[(2, .int .u64 1)]).run Tryd.prog w = .ok (headV 0 0 0 0 1 0) w := fun w => by kernel_rfl
  go_enter Tryd.func9, Tryd.ntmps9
  go_wp2_with fail
  refine (enc_ok 0 0 0 0 1 0 _ _ H0.out can0 (by omega) (by omega)).mono ?_
  rintro e w1 ⟨g, rfl, hw1, hg, hrow⟩
  have HR := Lib.hid hrow
  have HW1 := Lib.hid hw1
  have HD := Lib.hid (decT_enc 0 0 0 0 1 0 [] can0 (by omega) (by omega))
  rw [List.append_nil] at HD
  obtain ⟨hc0, _⟩ := hrow.cell 0 (by rw [enc_len]; omega)
  obtain ⟨hc12, _⟩ := hrow.cell 12 (by rw [enc_len]; omega)
  rw [(enc_at 0 0 0 0 1 0).1] at hc0
  rw [(enc_at 0 0 0 0 1 0).2] at hc12
  have HG := Lib.hid hrow.lt
  clear hrow hw1
  go_wp2_with fail
  refine (dec_any _ 28 28 _ _ _ _ (On.start HW1.out.tab) (by omega) (HR.out.bytes (enc_in _ _ _ _ _ _) (enc_len _ _ _ _ _ _)) (Nat.le_refl _)).mono ?_
  rw [HD.out]
  rintro e w2 ⟨rfl, hw2⟩
  have HW2 := Lib.hid (HW1.out.next hw2.bel)
  replace hc0 := (hw2.bel.cell (p := ⟨g, 0, none⟩) HG.out).trans hc0
  replace hc12 := (hw2.bel.cell (p := ⟨g, 12, none⟩) HG.out).trans hc12
  have HGG := Lib.hid (Nat.lt_of_lt_of_le HG.out hw2.bel.size)
  have hb0 := fun ob : Obj => ((below_box w2 ob).cell (p := ⟨g, 0, none⟩) HGG.out).trans hc0
  have hb12 := fun ob : Obj => ((below_box w2 ob).cell (p := ⟨g, 12, none⟩) HGG.out).trans hc12
  have HX := Lib.hid (fun ob => HW2.out.next (below_box w2 ob))
  clear hw2 hc0 hc12
  go_wp2_with fail
  go_ret
  exact ⟨rfl, HX.out _⟩
end Go.Proofs.YtdafmjklkggbgaaDoor
