/-
  AN EEPROM IN MEMORY.
-/
import Derived.Test.YtfcdlnpfneinlaaDoorEMath
import Derived.Test.YtfcdlnpfneinlaaDoorWStep
import Derived.Maps.RangeWalk
import Derived.Maps.OwnSet
namespace Go.Proofs.YtfcdlnpfneinlaaDoor
open Go.RowKit
set_option maxRecDepth 20000

/-- F, and what is new since -/
def Grow (F : Nat → Prop) (w w' : World) : Nat → Prop := fun b => F b ∨ (w.heap.size ≤ b ∧ b < w'.heap.size)
abbrev K (k : Int) : Lit := .int .i64 k
theorem K_ne {a b : Int} (h : a ≠ b) : K a ≠ K b := fun e => h (by simpa [K] using e)
theorem K_key (k : Int) : Go.WideAt.IsKeyLit (K k) := trivial
theorem law3 : Maps.Keyed Tryd.prog 3 := Maps.int_keyed Tryd.underlying3
theorem key3 (k : Int) (h0 : -9223372036854775808 ≤ k) (h1 : k ≤ 9223372036854775807) : keyOf Tryd.prog 3 (.int .i64 k) = some (K k) :=
  Maps.keyOf_int_mk Tryd.underlying3 (by simp [Lit.wf, IntKind.min, IntKind.max, IntKind.signed, IntKind.bits]; omega)
/-- what was collected last for a place -/
def getL (l : List (Int × Int)) (k : Int) : Option Int := l.foldl (fun o x => if x.1 = k then some x.2 else o) none
theorem getL_snoc (l : List (Int × Int)) (x : Int × Int) (k : Int) : getL (l ++ [x]) k = if x.1 = k then some x.2 else getL l k := by simp [getL]
theorem getL_mem {l : List (Int × Int)} {k c : Int} : getL l k = some c → (k, c) ∈ l := by
  induction l using snoc_rec with
  | h0 => intro h; cases h
  | h1 l x ih =>
    rw [getL_snoc]
    split
    · rename_i h
      intro e
      obtain ⟨a, b⟩ := x
      simp only at h e
      subst h
      injection e with e
      subst e
      simp
    · intro e
      exact List.mem_append_left _ (ih e)
theorem getL_none {l : List (Int × Int)} {k : Int} (h : getL l k = none) : ∀ x ∈ l, x.1 ≠ k := by
  induction l using snoc_rec with
  | h0 => intro x hx; cases hx
  | h1 l x ih =>
    rw [getL_snoc] at h
    split at h
    · cases h
    · rename_i hx
      intro y hy
      rcases List.mem_append.1 hy with hy | hy
      · exact ih h y hy
      · simp only [List.mem_singleton] at hy
        subst hy
        exact hx
/-- the datum D holds the last of each place -/
def Reads (D : DataW Unit) (l : List (Int × Int)) : Prop := ∀ k : Int, match getL l k with
  | none => Maps.has D (K k) = false
  | some c => ∀ z, D.atKey (K k) z = .lit (.int .u8 c)
theorem reads_nil : Reads (.map []) [] := fun _ => rfl
theorem Reads.put {D : DataW Unit} {l : List (Int × Int)} (h : Reads D l) (hm : Maps.IsMap D) (k b : Int) : Reads (D.put (K k) (.lit (.int .u8 b))) (l ++ [(k, b)]) := by
  intro x
  rw [getL_snoc]
  by_cases e : k = x
  · subst e
    rw [if_pos rfl]
    exact fun z => Maps.atKey_put_same hm (K_key k) _ z
  · rw [if_neg e]
    have := h x
    cases hx : getL l x with
    | none => rw [hx] at this; exact (Maps.has_put_other (K_ne fun e' => e e'.symm) _).trans this
    | some c => rw [hx] at this; exact fun z => (Maps.atKey_put_other (K_ne fun e' => e e'.symm) _ z).trans (this z)
theorem Reads.has {D : DataW Unit} {l : List (Int × Int)} (h : Reads D l) (k : Int) : Maps.has D (K k) = (getL l k).isSome := by
  have := h k
  cases hx : getL l k with
  | none => rw [hx] at this; exact this
  | some c => rw [hx] at this; exact Maps.has_true_of_atKey this

noncomputable abbrev plainB : Value → Option (DataW Unit × List MemPlace) := plainElem Tryd.prog 5
/-- a map of places and values -/
def MapIs (w : World) (m : Option Nat) (l : List (Int × Int)) : Prop :=
  (m = none ∧ l = []) ∨ ∃ b D, m = some b ∧ l ≠ [] ∧ w.ownsMap Tryd.prog 3 plainB b l.length D ∧ Reads D l
theorem ownsMap_of_eq {w w' : World} {P : Program} {H : Type} {k : TypeId} {R : Value → Option (DataW H × List MemPlace)} {b n : Nat} {D : DataW H} (h : w.ownsMap P k R b n D) (he : w'.heap[b]? = w.heap[b]?) : w'.ownsMap P k R b n D := by
  obtain ⟨es, clock, hb, r⟩ := h
  exact ⟨es, clock, he.trans hb, r⟩
theorem MapIs.keep {w w' : World} {m : Option Nat} {l : List (Int × Int)} (h : MapIs w m l) (he : ∀ b, m = some b → w'.heap[b]? = w.heap[b]?) : MapIs w' m l := by
  rcases h with h | ⟨b, D, rfl, h1, h2, h3⟩
  · exact .inl h
  · exact .inr ⟨b, D, rfl, h1, ownsMap_of_eq h2 (he b rfl), h3⟩
theorem MapIs.lt {w : World} {m : Option Nat} {l : List (Int × Int)} (h : MapIs w m l) {b : Nat} (hb : m = some b) : b < w.heap.size := by
  rcases h with ⟨rfl, _⟩ | ⟨b', D, rfl, h1, h2, h3⟩
  · cases hb
  · cases hb
    exact h2.lt
theorem MapIs.nil {w : World} : MapIs w none [] := .inl ⟨rfl, rfl⟩
theorem MapIs.blk {w : World} {m : Option Nat} {l : List (Int × Int)} (h : MapIs w m l) {b : Nat} (hb : m = some b) : ∃ es clock, w.heap[b]? = some (.map es clock) := by
  rcases h with ⟨rfl, _⟩ | ⟨b', D, rfl, h1, ⟨es, clock, h2, _⟩, h3⟩
  · cases hb
  · cases hb
    exact ⟨es, clock, h2⟩
theorem not_blk {w : World} {b g : Nat} {t : TypeId} {cs : Array Value} {mes : Array MapEntry} {clock : Nat} (h : Blk w g t cs) (hb : w.heap[b]? = some (.map mes clock)) : b ≠ g := by
  rintro rfl
  unfold Blk at h
  rw [hb] at h
  cases h

/-- the functions of what a chip does next -/
def fnum : Nat → Nat
  | 1 => 43
  | 2 => 63
  | 3 => 80
  | 4 => 79
  | 5 => 65
  | 6 => 81
  | _ => 57
def fnV (p k : Nat) : Value := .func (.func (fnum k)) #[.pointer (some ⟨p, 0, none⟩)] #[]
def bhV (p k : Nat) : Value := if k = 0 then .nilFunc else fnV p k
def cellsOf (p : Nat) (d : Value) (l : Nat) (cm wm : Option Nat) (s : Chip) : Array Value :=
  #[.int .i64 s.kind, d, .pointer (some ⟨l, 0, none⟩), .bool s.pulls, fnV p s.nx, bhV p s.bh, .int .u8 s.shift, .int .i64 s.count, .int .i64 s.block, .int .i64 s.address, .int .i64 s.missing, .int .i64 s.pointer, .map cm, .map wm, .int .i64 s.left]

/-- a chip in block p; its bytes in block d, its lines in block l, its maps cm, wm; all of F -/
structure ChipIn (w : World) (p d cap l : Nat) (cm wm : Option Nat) (F : Nat → Prop) (s : Chip) : Prop where
  blk : Blk w p 70 (cellsOf p (.slice (some ⟨d, 0, none⟩) s.data.length cap) l cm wm s)
  data : OwnK .u8 5 0 w (.slice (some ⟨d, 0, none⟩) s.data.length cap) s.data
  line : WireAt w l s.lev
  coll : MapIs w cm s.coll
  wait : MapIs w wm s.wait
  apart : s.join = false → ∀ b, cm = some b → wm ≠ some b
  tab : Tab w
  fp : F p
  fd : F d
  fl : F l
  fc : ∀ b, cm = some b → F b
  fw : ∀ b, wm = some b → F b
  ft : ¬ F 0
  there : ∀ b, F b → b < w.heap.size
def ChipAt (w : World) (p : Nat) (F : Nat → Prop) (s : Chip) : Prop := ∃ d cap l cm wm, ChipIn w p d cap l cm wm F s
/-- what a call leaves -/
def Went (p : Nat) (F : Nat → Prop) (s : Chip) (w w' : World) : Prop := ChipAt w' p (Grow F w w') s ∧ Keeps F w w'

section
variable {w w' w'' : World} {p d cap l : Nat} {cm wm : Option Nat} {F G S : Nat → Prop} {s s' : Chip}
theorem tab_keeps (h : Tab w) (hk : Keeps S w w') (hS : ¬ S 0) : Tab w' := fun k j hk' hj =>
  (hk.cell (b := 0) (o := 4 * k + j) (tab_pos h) hS).trans (h k j hk' hj)
theorem OwnK.same {k : IntKind} {t base : Nat} {v : Value} {l : List Int} (h : OwnK k t base w v l) (he : ∀ g, v.ownBlock = some g → w'.heap[g]? = w.heap[g]?) : OwnK k t base w' v l := by
  refine ⟨h.1, ?_⟩
  rcases h.2 with ⟨rfl, h0⟩ | ⟨g, c, cur, rfl, hb, hg, r⟩
  · exact .inl ⟨rfl, h0⟩
  · exact .inr ⟨g, c, cur, rfl, hb, (he g rfl).trans hg, r⟩
theorem ChipIn.keep (h : ChipIn w p d cap l cm wm F s) (he : ∀ b, F b → w'.heap[b]? = w.heap[b]?) (hs : w.heap.size ≤ w'.heap.size) (ht : Tab w') : ChipIn w' p d cap l cm wm F s :=
  { h with
    blk := h.blk.of_eq (he _ h.fp)
    data := h.data.same fun g hg => by simp [Value.ownBlock] at hg; subst hg; exact he _ h.fd
    line := Blk.of_eq h.line (he _ h.fl)
    coll := h.coll.keep fun b hb => he _ (h.fc b hb)
    wait := h.wait.keep fun b hb => he _ (h.fw b hb)
    tab := ht
    there := fun b hb => Nat.lt_of_lt_of_le (h.there b hb) hs }
theorem ChipAt.there (h : ChipAt w p F s) : ∀ b, F b → b < w.heap.size := by
  obtain ⟨_, _, _, _, _, h⟩ := h
  exact h.there
theorem ChipAt.ft (h : ChipAt w p F s) : ¬ F 0 := by
  obtain ⟨_, _, _, _, _, h⟩ := h
  exact h.ft
theorem ChipAt.tab (h : ChipAt w p F s) : Tab w := by
  obtain ⟨_, _, _, _, _, h⟩ := h
  exact h.tab
theorem ChipAt.keeps (h : ChipAt w p F s) (hk : Keeps S w w') (hS : ∀ b, F b → ¬ S b) (h0 : ¬ S 0) : ChipAt w' p F s := by
  obtain ⟨d, cap, l, cm, wm, h⟩ := h
  exact ⟨d, cap, l, cm, wm, h.keep (fun b hb => hk.block b (h.there b hb) (hS b hb)) hk.size (tab_keeps h.tab hk h0)⟩
theorem ChipAt.below (h : ChipAt w p F s) (hb : Below w.heap.size w w') : ChipAt w' p F s :=
  h.keeps (Keeps.of_below hb) (fun _ _ h => h.elim) (fun h => h.elim)
theorem ChipIn.mono (h : ChipIn w p d cap l cm wm F s) (he : ∀ b, F b → G b) (hG : ∀ b, G b → b < w.heap.size) (hT : ¬ G 0) : ChipIn w p d cap l cm wm G s :=
  { h with fp := he _ h.fp, fd := he _ h.fd, fl := he _ h.fl, fc := fun b hb => he _ (h.fc b hb), fw := fun b hb => he _ (h.fw b hb), ft := hT, there := hG }
theorem ChipAt.mono (h : ChipAt w p F s) (he : ∀ b, F b → G b) (hG : ∀ b, G b → b < w.heap.size) (hT : ¬ G 0) : ChipAt w p G s := by
  obtain ⟨d, cap, l, cm, wm, h⟩ := h
  exact ⟨d, cap, l, cm, wm, h.mono he hG hT⟩
/-- what is new since is no table -/
theorem grow_tab (hT : Tab w) (h : ¬ F 0) : ¬ Grow F w w' 0 := by
  rintro (h' | h')
  · exact h h'
  · have := tab_pos hT
    omega
theorem Went.of (hT : Tab w) (h : ChipAt w' p F s) (hk : Keeps F w w') : Went p F s w w' :=
  ⟨h.mono (fun b hb => .inl hb) (fun b hb => by rcases hb with hb | hb; exact h.there b hb; exact hb.2) (grow_tab hT h.ft), hk⟩
theorem Went.next (hk : Keeps F w w') (h : Went p (Grow F w w') s w' w'') (hT : Tab w) (hF : ¬ F 0) : Went p F s w w'' := by
  obtain ⟨h1, h2⟩ := h
  have hs := h2.size
  refine ⟨h1.mono (fun b hb => ?_) (fun b hb => ?_) (grow_tab hT hF), hk.then h2 fun b hb => ?_⟩
  · rcases hb with (hb | hb) | hb
    · exact .inl hb
    · exact .inr ⟨hb.1, by omega⟩
    · exact .inr ⟨by have := hk.size; omega, hb.2⟩
  · rcases hb with hb | hb
    · exact h1.there b (.inl (.inl hb))
    · exact hb.2
  · rcases hb with hb | hb
    · exact .inl hb
    · exact .inr hb.1
/-- a call that keeps all, and then another one -/
theorem Went.after (hb : Below w.heap.size w w') (h : Went p F s w' w'') (hT : Tab w) : Went p F s w w'' := by
  obtain ⟨h1, h2⟩ := h
  have hs := hb.size
  refine ⟨h1.mono (fun b hb' => ?_) (fun b hb' => ?_) ?_, ((Keeps.of_below hb).mono (T := F) (fun _ h => h.elim)).then h2 fun b hb => .inl hb⟩
  · rcases hb' with hb' | hb'
    · exact .inl hb'
    · exact .inr ⟨by omega, hb'.2⟩
  · rcases hb' with hb' | hb'
    · exact h1.there b (.inl hb')
    · exact hb'.2
  · rintro (h' | h')
    · exact h1.ft (.inl h')
    · have := tab_pos hT
      omega
theorem ChipIn.p_ne_d (h : ChipIn w p d cap l cm wm F s) : d ≠ p := by
  rcases h.data.2 with ⟨h1, _⟩ | ⟨g, c, cur, h1, _, hg, _⟩
  · cases h1
  · injection h1 with h1
    injection h1 with h1
    injection h1 with h1
    subst h1
    exact Blk.ne_ (show Blk w d 5 cur from hg) h.blk (by decide)
/-- the chip's own block was written, and nothing else that was there -/
theorem ChipIn.redo (h : ChipIn w p d cap l cm wm F s) (hk : Keeps (fun b => b = p) w w') {cm' : Option Nat} (hb : Blk w' p 70 (cellsOf p (.slice (some ⟨d, 0, none⟩) s.data.length cap) l cm' wm s'))
    (hd : s'.data = s.data) (hl : s'.lev = s.lev) (hw : s'.wait = s.wait) (hc : (cm' = cm ∧ s'.coll = s.coll ∧ s'.join = s.join) ∨ (cm' = none ∧ s'.coll = [])) : ChipIn w' p d cap l cm' wm F s' := by
  have he : ∀ b, b < w.heap.size → b ≠ p → w'.heap[b]? = w.heap[b]? := fun b hb hn => hk.block b hb hn
  have hm : ∀ {m : Option Nat} {x : List (Int × Int)}, MapIs w m x → MapIs w' m x := fun {m x} hx => hx.keep fun b hb => he b (hx.lt hb) (by
    obtain ⟨es, clock, h1⟩ := hx.blk hb
    exact not_blk h.blk h1)
  refine { h with blk := by rw [hd]; exact hb, data := ?_, line := ?_, coll := ?_, wait := by rw [hw]; exact hm h.wait, apart := ?_, fc := ?_, tab := ?_, there := fun b hb => Nat.lt_of_lt_of_le (h.there b hb) hk.size }
  · rw [hd]
    exact h.data.same fun g hg => by
      simp [Value.ownBlock] at hg
      subst hg
      exact he _ (h.there _ h.fd) h.p_ne_d
  · rw [hl]
    exact Blk.of_eq h.line (he _ (h.there _ h.fl) (Blk.ne_ h.line h.blk (by decide)))
  · rcases hc with ⟨rfl, hc, _⟩ | ⟨rfl, hc⟩
    · rw [hc]; exact hm h.coll
    · rw [hc]; exact MapIs.nil
  · intro hj b hb'
    rcases hc with ⟨rfl, _, hc⟩ | ⟨rfl, _⟩
    · exact h.apart (hc ▸ hj) b hb'
    · cases hb'
  · exact tab_keeps h.tab hk (fun e => h.ft (by rw [e]; exact h.fp))
  · intro b hb'
    rcases hc with ⟨rfl, _⟩ | ⟨rfl, _⟩
    · exact h.fc b hb'
    · cases hb'
end
end Go.Proofs.YtfcdlnpfneinlaaDoor
