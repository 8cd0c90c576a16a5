/- Trees as plain data, and how memory holds them. -/
import Derived.Test.YtlbhbjmobcikfaaGreatDoorMem
import Derived.Test.YtlbhbjmobcikfaaGreatDoorOcMath
namespace Go.Proofs.YtlbhbjmobcikfaaGreatDoor
open Go.RowKit
/-- A tree. -/
inductive Tr
  | node (kind : Int) (a b c d : BitVec 64) (subs : List Tr) (num least most : Int) (bare : Bool)
namespace Tr
def kind : Tr → Int | .node k _ _ _ _ _ _ _ _ _ => k
def w0 : Tr → BitVec 64 | .node _ a _ _ _ _ _ _ _ _ => a
def w1 : Tr → BitVec 64 | .node _ _ b _ _ _ _ _ _ _ => b
def w2 : Tr → BitVec 64 | .node _ _ _ c _ _ _ _ _ _ => c
def w3 : Tr → BitVec 64 | .node _ _ _ _ d _ _ _ _ _ => d
def subs : Tr → List Tr | .node _ _ _ _ _ s _ _ _ _ => s
def num : Tr → Int | .node _ _ _ _ _ _ n _ _ _ => n
def least : Tr → Int | .node _ _ _ _ _ _ _ m _ _ => m
def most : Tr → Int | .node _ _ _ _ _ _ _ _ m _ => m
def bare : Tr → Bool | .node _ _ _ _ _ _ _ _ _ b => b
theorem size_sub {t u : Tr} (h : u ∈ t.subs) : SizeOf.sizeOf u < SizeOf.sizeOf t := by
  cases t with
  | node k a b c d s n lo hi br =>
    have := List.sizeOf_lt_of_mem h
    simp only [subs] at this
    simp only [node.sizeOf_spec]
    omega
/-- Induction: what holds of a tree if it holds of all its Subs. -/
theorem rec_subs {P : Tr → Prop} (h : ∀ t, (∀ u, u ∈ t.subs → P u) → P t) (t : Tr) : P t := by
  induction hn : SizeOf.sizeOf t using Nat.strongRecOn generalizing t with
  | _ n ih => exact h t fun u hu => ih _ (by have := size_sub hu; omega) u rfl
theorem eta : ∀ t : Tr, t = .node t.kind t.w0 t.w1 t.w2 t.w3 t.subs t.num t.least t.most t.bare
  | .node _ _ _ _ _ _ _ _ _ _ => rfl
/-- The ten cells of a node whose list is the slice value s. -/
def cells (t : Tr) (s : Value) : Array Value :=
  #[.int .i64 t.kind, .int .u64 (Oc.U t.w0), .int .u64 (Oc.U t.w1), .int .u64 (Oc.U t.w2), .int .u64 (Oc.U t.w3), s, .int .i64 t.num, .int .i64 t.least, .int .i64 t.most, .bool t.bare]
end Tr
/-- The ten cells that lie from an address on. -/
structure TenAt (w : World) (b o : Nat) (t : Tr) (s : Value) : Prop where
  c0 : w.cell? ⟨b, o, none⟩ = some (.int .i64 t.kind)
  c1 : w.cell? ⟨b, o + 1, none⟩ = some (.int .u64 (Oc.U t.w0))
  c2 : w.cell? ⟨b, o + 2, none⟩ = some (.int .u64 (Oc.U t.w1))
  c3 : w.cell? ⟨b, o + 3, none⟩ = some (.int .u64 (Oc.U t.w2))
  c4 : w.cell? ⟨b, o + 4, none⟩ = some (.int .u64 (Oc.U t.w3))
  c5 : w.cell? ⟨b, o + 5, none⟩ = some s
  c6 : w.cell? ⟨b, o + 6, none⟩ = some (.int .i64 t.num)
  c7 : w.cell? ⟨b, o + 7, none⟩ = some (.int .i64 t.least)
  c8 : w.cell? ⟨b, o + 8, none⟩ = some (.int .i64 t.most)
  c9 : w.cell? ⟨b, o + 9, none⟩ = some (.bool t.bare)
/-- A slice value reads as a list of trees; B: the blocks in which its lists lie. -/
inductive TreesAt (w : World) (B : Nat → Prop) : Value → List Tr → Prop
  | mk (p : Option Addr) (cap : Nat) (ts : List Tr) (S : Nat → Value) (hlen : ts.length * 96 ≤ 140737488351232)
      (hc : ∀ i t, ts[i]? = some t → ∃ b o, p = some ⟨b, o, none⟩ ∧ B b ∧ TenAt w b (o + i * 10) t (S i))
      (hs : ∀ i t, ts[i]? = some t → TreesAt w B (S i) t.subs) : TreesAt w B (.slice p ts.length cap) ts
/-- A value that is a node. -/
def NodeV (w : World) (B : Nat → Prop) (v : Value) (t : Tr) : Prop := ∃ s, v = .agg (t.cells s) ∧ TreesAt w B s t.subs
theorem TenAt.keep {w w' : World} {b o : Nat} {t : Tr} {s : Value} (h : TenAt w b o t s) (hk : w'.heap[b]? = w.heap[b]?) : TenAt w' b o t s := by
  have e : ∀ k, w'.cell? ⟨b, k, none⟩ = w.cell? ⟨b, k, none⟩ := fun k => by unfold World.cell?; rw [hk]
  exact ⟨(e _).trans h.c0, (e _).trans h.c1, (e _).trans h.c2, (e _).trans h.c3, (e _).trans h.c4, (e _).trans h.c5, (e _).trans h.c6, (e _).trans h.c7, (e _).trans h.c8, (e _).trans h.c9⟩
theorem TenAt.lt {w : World} {b o : Nat} {t : Tr} {s : Value} (h : TenAt w b o t s) : b < w.heap.size := block_lt_of_cell h.c0
/-- What lies in blocks that are as they were reads as it did. -/
theorem TreesAt.keep {w w' : World} {B : Nat → Prop} {s : Value} {ts : List Tr} (h : TreesAt w B s ts) (hk : ∀ b, b < w.heap.size → B b → w'.heap[b]? = w.heap[b]?) : TreesAt w' B s ts := by
  induction h with
  | mk p cap ts S hlen hc hs ih =>
    refine .mk p cap ts S hlen (fun i t hi => ?_) (fun i t hi => ih i t hi)
    obtain ⟨b, o, hp, hB, h10⟩ := hc i t hi
    exact ⟨b, o, hp, hB, h10.keep (hk b h10.lt hB)⟩
theorem TreesAt.later {w w' : World} {B : Nat → Prop} {s : Value} {ts : List Tr} (h : TreesAt w B s ts) (hb : Below w.heap.size w w') : TreesAt w' B s ts :=
  h.keep fun b hb' _ => hb.block b hb'
theorem TreesAt.mono {w : World} {B B' : Nat → Prop} {s : Value} {ts : List Tr} (h : TreesAt w B s ts) (hB : ∀ b, b < w.heap.size → B b → B' b) : TreesAt w B' s ts := by
  induction h with
  | mk p cap ts S hlen hc hs ih =>
    refine .mk p cap ts S hlen (fun i t hi => ?_) (fun i t hi => ih i t hi)
    obtain ⟨b, o, hp, hb, h10⟩ := hc i t hi
    exact ⟨b, o, hp, hB b h10.lt hb, h10⟩
theorem NodeV.later {w w' : World} {B : Nat → Prop} {v : Value} {t : Tr} (h : NodeV w B v t) (hb : Below w.heap.size w w') : NodeV w' B v t := by
  obtain ⟨s, e, hs⟩ := h; exact ⟨s, e, hs.later hb⟩
theorem TreesAt.nil {w : World} {B : Nat → Prop} {p : Option Addr} {cap : Nat} : TreesAt w B (.slice p 0 cap) [] :=
  .mk p cap [] (fun _ => .nilIface) (by simp) (fun i t h => by simp at h) (fun i t h => by simp at h)
theorem TreesAt.slice {w : World} {B : Nat → Prop} {s : Value} {ts : List Tr} (h : TreesAt w B s ts) : ∃ p cap, s = .slice p ts.length cap ∧ ts.length * 96 ≤ 140737488351232 := by
  cases h with | mk p cap _ S hlen hc hs => exact ⟨p, cap, rfl, hlen⟩
/-- One of the list. -/
theorem TreesAt.get {w : World} {B : Nat → Prop} {p : Option Addr} {len cap : Nat} {ts : List Tr} (h : TreesAt w B (.slice p len cap) ts) {i : Nat} {t : Tr} (hi : ts[i]? = some t) :
    ∃ b o s, p = some ⟨b, o, none⟩ ∧ B b ∧ TenAt w b (o + i * 10) t s ∧ TreesAt w B s t.subs := by
  cases h with
  | mk _ _ _ S hlen hc hs =>
    obtain ⟨b, o, hp, hB, h10⟩ := hc i t hi
    exact ⟨b, o, S i, hp, hB, h10, hs i t hi⟩
theorem TreesAt.len {w : World} {B : Nat → Prop} {p : Option Addr} {len cap : Nat} {ts : List Tr} (h : TreesAt w B (.slice p len cap) ts) : len = ts.length := by
  cases h with | mk => rfl
end Go.Proofs.YtlbhbjmobcikfaaGreatDoor
