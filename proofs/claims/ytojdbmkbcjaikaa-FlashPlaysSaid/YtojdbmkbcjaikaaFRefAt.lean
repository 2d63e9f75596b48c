/-
  THE DOCUMENT'S FLASH IN MEMORY; THE WALKS OF begin, Write.
-/
import Derived.Test.YtojdbmkbcjaikaaFRefO
import Derived.Test.YtojdbmkbcjaikaaFAt
import Derived.Test.YtojdbmkbcjaikaaBClone
namespace Go.Proofs.Ytojdbmkbcjaikaa
open Go.RowKit
set_option maxRecDepth 20000

/-- bit 6 of the next read, by how many there were -/
def turnOf (i : Nat) : Int := if i % 2 = 0 then 0 else 64
def refCells (vd vs : Value) (s : Flash) (rd : Nat) : Array Value :=
  #[.int .i64 (s.data.length / 256 : Int), vd, vs, .bool s.named, .int .i64 rd, .int .i64 s.wk, .int .i64 s.wf, .int .i64 s.wm, .int .u8 s.wv, .int .i64 s.left]
/-- in block q; its rows from block N on -/
structure RefIn (N : Nat) (w : World) (q : Nat) (vd vs : Value) (s : Flash) (seq : List Wr) (rd : Nat) : Prop where
  blk : Blk w q 41 (refCells vd vs s rd)
  data : OwnK .u8 5 N w vd s.data
  seq : OwnM wrE 63 N w vs seq
  low : N ≤ q
def RefAt (N : Nat) (w : World) (q : Nat) (s : Flash) (m : Nat) : Prop :=
  ∃ vd vs seq rd, RefIn N w q vd vs s seq rd ∧ rd ≤ m ∧ (0 < s.left → s.turn = turnOf rd) ∧ SeqFor s.k seq ∧ Pos seq
def RefWent (N q : Nat) (s : Flash) (m : Nat) (w w' : World) : Prop := RefAt N w' q s m ∧ Keeps (fun b => b = q) w w'
def RefDid (N q : Nat) (s : Flash) (m : Nat) (w : World) (e : Ending) (w' : World) : Prop := e = .returned (.tuple #[]) ∧ RefWent N q s m w w'
theorem blk_sets {w : World} {q : Nat} {t : TypeId} {cs : Array Value} (h : Blk w q t cs) (xs : List (Nat × Value)) :
    Blk (xs.foldl (fun w x => w.setCell ⟨q, x.1, none⟩ x.2) w) q t (xs.foldl (fun cs x => cs.setIfInBounds x.1 x.2) cs) ∧ Keeps (fun b => b = q) w (xs.foldl (fun w x => w.setCell ⟨q, x.1, none⟩ x.2) w) := by
  have hx : ∀ (xs : List (Nat × Value)) (w1 : World) (cs : Array Value), Blk w1 q t cs → Keeps (fun b => b = q) w w1 →
      Blk (xs.foldl (fun w x => w.setCell ⟨q, x.1, none⟩ x.2) w1) q t (xs.foldl (fun cs x => cs.setIfInBounds x.1 x.2) cs) ∧ Keeps (fun b => b = q) w (xs.foldl (fun w x => w.setCell ⟨q, x.1, none⟩ x.2) w1) := by
    intro xs
    induction xs with
    | nil => exact fun w1 cs h1 h2 => ⟨h1, h2⟩
    | cons x xs ih => exact fun w1 cs h1 h2 => ih _ _ (h1.set_ x.1 x.2) (h2.set_ (p := ⟨q, x.1, none⟩) (.inl rfl) x.2)
  exact hx xs w cs h (Keeps.refl _ w)
section
variable {N q rd rd' : Nat} {w w' w'' : World} {vd vs vd' vs' : Value} {s s' : Flash} {seq seq' : List Wr} {S : Nat → Prop}
theorem OwnK.ne_blk {k : IntKind} {t base : Nat} {v : Value} {l : List Int} {g : Nat} {t' : TypeId} {cs : Array Value} (h : OwnK k t base w v l) (h' : Blk w g t' cs) (hne : t ≠ t') : v.ownBlock ≠ some g := by
  intro hg
  rcases h.2 with ⟨rfl, _⟩ | ⟨g', cap, cur, rfl, _, hh, _⟩
  · cases hg
  · simp [Value.ownBlock] at hg
    subst hg
    exact Blk.ne_ (show Blk w g' t cur from hh) h' hne rfl
theorem RefIn.keep (h : RefIn N w q vd vs s seq rd) (hk : Keeps S w w') (hS : ∀ b, N ≤ b → ¬ S b) : RefIn N w' q vd vs s seq rd :=
  { blk := h.blk.of_eq (hk.block q h.blk.lt (hS q h.low)), data := h.data.same fun g hg => hk.block g (h.data.lt hg).2 (hS g (h.data.lt hg).1), seq := h.seq.keeps hk fun g hg => hS g (h.seq.lt hg).1, low := h.low }
theorem RefIn.below (h : RefIn N w q vd vs s seq rd) (hb : Below w.heap.size w w') : RefIn N w' q vd vs s seq rd := h.keep (Keeps.of_below hb) fun _ _ h => h
/-- its own block is written; the rows are there -/
theorem RefIn.sets (h : RefIn N w q vd vs s seq rd) (xs : List (Nat × Value)) (hd : OwnK .u8 5 N w vd' s'.data) (hs : OwnM wrE 63 N w vs' seq')
    (hcs : xs.foldl (fun cs x => cs.setIfInBounds x.1 x.2) (refCells vd vs s rd) = refCells vd' vs' s' rd') :
    RefIn N (xs.foldl (fun w x => w.setCell ⟨q, x.1, none⟩ x.2) w) q vd' vs' s' seq' rd' ∧ Keeps (fun b => b = q) w (xs.foldl (fun w x => w.setCell ⟨q, x.1, none⟩ x.2) w) := by
  obtain ⟨h1, h2⟩ := blk_sets h.blk xs
  rw [hcs] at h1
  exact ⟨{ blk := h1, data := hd.same fun g hg => h2.block g (hd.lt hg).2 (fun e => hd.ne_blk h.blk (by decide) (by rw [← e]; exact hg)), seq := hs.keeps h2 fun g hg e => hs.ne_ h.blk (by decide) (by rw [← e]; exact hg), low := h.low }, h2⟩
theorem RefAt.keep {m : Nat} (h : RefAt N w q s m) (hk : Keeps S w w') (hS : ∀ b, N ≤ b → ¬ S b) : RefAt N w' q s m := by
  obtain ⟨vd, vs, seq, rd, h1, h2⟩ := h
  exact ⟨vd, vs, seq, rd, h1.keep hk hS, h2⟩
theorem RefAt.below {m : Nat} (h : RefAt N w q s m) (hb : Below w.heap.size w w') : RefAt N w' q s m := h.keep (Keeps.of_below hb) fun _ _ h => h
theorem RefAt.more {m m' : Nat} (h : RefAt N w q s m) (hm : m ≤ m') : RefAt N w q s m' := by
  obtain ⟨vd, vs, seq, rd, h1, h2, h3⟩ := h
  exact ⟨vd, vs, seq, rd, h1, Nat.le_trans h2 hm, h3⟩
end
set_option maxHeartbeats 4000000 in
theorem refBegin_any (N : Nat) (w : World) (q : Nat) (vd vs : Value) (s : Flash) (seq : List Wr) (rd : Nat) (t kind a many v : Int) (h : RefIn N w q vd vs s seq rd) :
    Calls Try.prog 41 #[.pointer (some ⟨q, 0, none⟩), .agg #[.int .i64 kind, .int .i64 a, .int .i64 many, .int .u8 v], .int .i64 t] w fun e w' =>
      e = .returned (.tuple #[]) ∧ RefIn N w' q vd (.slice none 0 0) (s.busy t kind a many v) [] 0 ∧ Keeps (fun b => b = q) w w' := by
  obtain ⟨A, c, hvs⟩ := h.seq.form
  have hb := below_box w (.cells #[.int .i64 kind, .int .i64 a, .int .i64 many, .int .u8 v] 39)
  have h1 := h.below hb
  have H1 := Lib.hid h1
  have HB := Lib.hid hb
  have hlt : ¬ q = w.heap.size := by have := h.blk.lt; omega
  have hlt' : ¬ w.heap.size = q := by have := h.blk.lt; omega
  have c2 := h1.blk.cell 2
  have c3 := h1.blk.cell 3
  have c4 := h1.blk.cell 4
  have c5 := h1.blk.cell 5
  have c6 := h1.blk.cell 6
  have c7 := h1.blk.cell 7
  have c8 := h1.blk.cell 8
  have c9 := h1.blk.cell 9
  have f2 := h1.blk.frozen 2
  have f3 := h1.blk.frozen 3
  have f4 := h1.blk.frozen 4
  have f5 := h1.blk.frozen 5
  have f6 := h1.blk.frozen 6
  have f7 := h1.blk.frozen 7
  have f8 := h1.blk.frozen 8
  have f9 := h1.blk.frozen 9
  simp only [refCells, hvs, List.getElem?_toArray, List.getElem?_cons_zero, List.getElem?_cons_succ] at c2 c3 c4 c5 c6 c7 c8 c9
  clear h h1 hb
  go_enter Try.func41, Try.ntmps41
  go_wp2_with fail
  go_end0
  obtain ⟨h3, h4⟩ := H1.out.sets (vd' := vd) (vs' := .slice none 0 0) (s' := s.busy t kind a many v) (seq' := []) (rd' := 0) [(2, .slice none 0 0), (3, .bool false), (4, .int .i64 0), (5, .int .i64 kind), (6, .int .i64 a), (7, .int .i64 many), (8, .int .u8 v), (9, .int .i64 t)] H1.out.data (OwnM.nil _ _ _ _) (by simp [refCells, Flash.busy])
  exact ⟨rfl, h3, (Keeps.of_below HB.out).no.trans h4⟩
end Go.Proofs.Ytojdbmkbcjaikaa
