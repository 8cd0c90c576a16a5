/- Trees whose lists lie in blocks of their own: what may be written over. -/
import Derived.Test.YtlbhbjmobcikfaaGreatDoorTrDef
import Derived.Deep.MidRow
namespace Go.Proofs.YtlbhbjmobcikfaaGreatDoor
open Go.RowKit
/-- Of what was there, the blocks F alone may have turned. -/
structure Touch (F : List Nat) (w w' : World) : Prop where
  os : w'.os = w.os
  tape : w'.tape = w.tape
  output : w'.output = w.output
  size : w.heap.size ≤ w'.heap.size
  block : ∀ k, k < w.heap.size → k ∉ F → w'.heap[k]? = w.heap[k]?
theorem Touch.of_below {w w' : World} (F : List Nat) (h : Below w.heap.size w w') : Touch F w w' := ⟨h.os, h.tape, h.output, h.size, fun k hk _ => h.block k hk⟩
theorem Touch.trans {F : List Nat} {a b c : World} (h : Touch F a b) (k : Touch F b c) : Touch F a c :=
  ⟨k.os.trans h.os, k.tape.trans h.tape, k.output.trans h.output, Nat.le_trans h.size k.size, fun i hi hn => (k.block i (Nat.lt_of_lt_of_le hi h.size) hn).trans (h.block i hi hn)⟩
theorem Touch.mono {F G : List Nat} {a b : World} (h : Touch F a b) (hs : ∀ k, k ∈ F → k ∈ G) : Touch G a b := ⟨h.os, h.tape, h.output, h.size, fun k hk hn => h.block k hk fun hm => hn (hs k hm)⟩
theorem Touch.below {F : List Nat} {a b : World} {B : Nat} (h : Touch F a b) (hB : ∀ k, k ∈ F → B ≤ k) (hs : B ≤ a.heap.size) : Below B a b :=
  ⟨h.os, h.tape, h.output, h.size, fun k hk => h.block k (by omega) fun hm => by have := hB k hm; omega⟩
theorem heap_setCells_other {b k : Nat} (hk : k ≠ b) : ∀ (vs : List Value) (o : Nat) (w : World), (w.setCells b o vs).heap[k]? = w.heap[k]?
  | [], _, _ => rfl
  | v :: r, o, w => by rw [World.setCells, heap_setCells_other hk r (o + 1) _, Below.heap_setCell _ _ _ _ hk]
theorem size_setCells (b : Nat) : ∀ (vs : List Value) (o : Nat) (w : World), (w.setCells b o vs).heap.size = w.heap.size
  | [], _, _ => rfl
  | v :: r, o, w => by rw [World.setCells, size_setCells b r (o + 1) _]; simp [World.setCell]
theorem streams_setCells (b : Nat) : ∀ (vs : List Value) (o : Nat) (w : World), (w.setCells b o vs).os = w.os ∧ (w.setCells b o vs).tape = w.tape ∧ (w.setCells b o vs).output = w.output
  | [], _, _ => ⟨rfl, rfl, rfl⟩
  | v :: r, o, w => by rw [World.setCells]; exact streams_setCells b r (o + 1) _
/-- A block of cells stays one. -/
theorem cells_setCells {b : Nat} : ∀ (vs : List Value) (o : Nat) (w : World), (∃ cs ty, w.heap[b]? = some (.cells cs ty (0, 0))) → ∃ cs ty, (w.setCells b o vs).heap[b]? = some (.cells cs ty (0, 0))
  | [], _, _, h => h
  | v :: r, o, w, ⟨cs, ty, h⟩ => by
    rw [World.setCells]
    exact cells_setCells r (o + 1) _ ⟨cs.setIfInBounds o v, ty, by simp [World.setCell, Array.getElem?_modify, h]⟩
theorem Touch.setCells {F : List Nat} {a w : World} {b : Nat} (h : Touch F a w) (hb : b ∈ F) (o : Nat) (vs : List Value) : Touch F a (w.setCells b o vs) := by
  obtain ⟨h1, h2, h3⟩ := streams_setCells b vs o w
  exact ⟨h1.trans h.os, h2.trans h.tape, h3.trans h.output, by rw [size_setCells]; exact h.size, fun k hk hn => by
    rw [heap_setCells_other (k := k) (b := b) (fun e => by subst e; exact hn hb)]; exact h.block k hk hn⟩
/-- A slice value whose lists, at every depth, lie in the blocks F, each in one of its own. -/
inductive Owned (w : World) : Value → List Tr → List Nat → Prop
  | nil (p : Option Addr) (cap : Nat) : Owned w (.slice p 0 cap) [] []
  | row (g o cap : Nat) (ts : List Tr) (S : Nat → Value) (L : Nat → List Nat) (hlen : ts.length * 96 ≤ 140737488351232) (hf : ∃ cs ty, w.heap[g]? = some (.cells cs ty (0, 0)))
      (hc : ∀ i t, ts[i]? = some t → TenAt w g (o + i * 10) t (S i)) (hs : ∀ i t, ts[i]? = some t → Owned w (S i) t.subs (L i))
      (hg : ∀ i, i < ts.length → g ∉ L i) (hd : ∀ i j b, i < ts.length → j < ts.length → i ≠ j → b ∈ L i → b ∉ L j) :
      Owned w (.slice (some ⟨g, o, none⟩) ts.length cap) ts (g :: (List.range ts.length).flatMap L)
theorem mem_range_flatMap {L : Nat → List Nat} {n b : Nat} : b ∈ (List.range n).flatMap L ↔ ∃ i, i < n ∧ b ∈ L i := by
  simp [List.mem_flatMap, List.mem_range]
theorem lt_of_some {ts : List Tr} {i : Nat} {t : Tr} (h : ts[i]? = some t) : i < ts.length := by
  by_cases hi : i < ts.length
  · exact hi
  · rw [List.getElem?_eq_none (by omega)] at h; cases h
theorem Owned.trees {w : World} {s : Value} {ts : List Tr} {F : List Nat} (h : Owned w s ts F) : TreesAt w (fun b => b ∈ F) s ts := by
  induction h with
  | nil p cap => exact TreesAt.nil
  | row g o cap ts S L hlen hf hc hs hg hd ih =>
    refine .mk _ cap ts S hlen (fun i t hi => ⟨g, o, rfl, List.mem_cons_self, hc i t hi⟩) (fun i t hi => ?_)
    exact (ih i t hi).mono fun b _ hb => List.mem_cons_of_mem _ (mem_range_flatMap.2 ⟨i, lt_of_some hi, hb⟩)
theorem Owned.lt {w : World} {s : Value} {ts : List Tr} {F : List Nat} (h : Owned w s ts F) : ∀ b, b ∈ F → b < w.heap.size := by
  induction h with
  | nil p cap => intro b hb; cases hb
  | row g o cap ts S L hlen hf hc hs hg hd ih =>
    intro b hb
    rcases List.mem_cons.1 hb with rfl | hb
    · obtain ⟨cs, ty, h⟩ := hf; exact (Array.getElem?_eq_some_iff.1 h).1
    · obtain ⟨i, hi, hb⟩ := mem_range_flatMap.1 hb
      exact ih i ts[i] (List.getElem?_eq_getElem hi) b hb
theorem Owned.keep {w w' : World} {s : Value} {ts : List Tr} {F : List Nat} (h : Owned w s ts F) (hk : ∀ b, b ∈ F → w'.heap[b]? = w.heap[b]?) : Owned w' s ts F := by
  induction h with
  | nil p cap => exact .nil p cap
  | row g o cap ts S L hlen hf hc hs hg hd ih =>
    refine .row g o cap ts S L hlen ?_ (fun i t hi => (hc i t hi).keep (hk g List.mem_cons_self)) (fun i t hi => ih i t hi fun b hb => hk b (List.mem_cons_of_mem _ (mem_range_flatMap.2 ⟨i, lt_of_some hi, hb⟩))) hg hd
    obtain ⟨cs, ty, h⟩ := hf
    exact ⟨cs, ty, (hk g List.mem_cons_self).trans h⟩
theorem Owned.later {w w' : World} {s : Value} {ts : List Tr} {F : List Nat} (h : Owned w s ts F) (hb : Below w.heap.size w w') : Owned w' s ts F := h.keep fun b hbF => hb.block b (h.lt b hbF)
end Go.Proofs.YtlbhbjmobcikfaaGreatDoor
