/- The reference's words of a number. -/
import Derived.Test.YtnhligchgcjklaaDoorRows
import Derived.Test.YtnhligchgcjklaaDoorMem
import Derived.Deep.CutBlock
namespace Go.Proofs.YtnhligchgcjklaaDoor
open Go.RowKit
/-- The words of the document's table, from number 0 on. -/
def wordS : Nat → ByteArray
  | 0 => ⟨#[111, 107]⟩
  | 1 => ⟨#[98, 114, 97, 99, 107, 101, 116]⟩
  | 2 => ⟨#[112, 97, 114, 101, 110, 116, 104, 101, 115, 105, 115]⟩
  | 3 => ⟨#[98, 114, 97, 99, 101]⟩
  | 4 => ⟨#[99, 111, 117, 110, 116]⟩
  | 5 => ⟨#[114, 97, 110, 103, 101]⟩
  | 6 => ⟨#[99, 108, 97, 115, 115]⟩
  | 7 => ⟨#[99, 111, 108, 108, 97, 116, 105, 110, 103]⟩
  | 8 => ⟨#[101, 115, 99, 97, 112, 101]⟩
  | 9 => ⟨#[114, 101, 112, 101, 97, 116]⟩
  | 10 => ⟨#[116, 111, 111, 32, 98, 105, 103]⟩
  | 11 => ⟨#[110, 101, 115, 116, 105, 110, 103]⟩
  | 12 => ⟨#[108, 111, 110, 103]⟩
  | 13 => ⟨#[116, 114, 101, 101]⟩
  | 14 => ⟨#[100, 101, 101, 112]⟩
  | 15 => ⟨#[97, 114, 103, 117, 109, 101, 110, 116]⟩
  | 16 => ⟨#[110, 111, 32, 109, 97, 116, 99, 104]⟩
  | 17 => ⟨#[105, 109, 97, 103, 101]⟩
  | 18 => ⟨#[109, 97, 110, 121]⟩
  | 19 => ⟨#[111, 112, 116, 105, 111, 110]⟩
  | 20 => ⟨#[99, 111, 109, 109, 97, 110, 100]⟩
  | 21 => ⟨#[99, 108, 111, 115, 101, 100]⟩
  | _ => ⟨#[]⟩
def wordsC : Array Value := #[.string ⟨#[111, 107]⟩, .string ⟨#[98, 114, 97, 99, 107, 101, 116]⟩, .string ⟨#[112, 97, 114, 101, 110, 116, 104, 101, 115, 105, 115]⟩, .string ⟨#[98, 114, 97, 99, 101]⟩, .string ⟨#[99, 111, 117, 110, 116]⟩, .string ⟨#[114, 97, 110, 103, 101]⟩, .string ⟨#[99, 108, 97, 115, 115]⟩, .string ⟨#[99, 111, 108, 108, 97, 116, 105, 110, 103]⟩, .string ⟨#[101, 115, 99, 97, 112, 101]⟩, .string ⟨#[114, 101, 112, 101, 97, 116]⟩, .string ⟨#[116, 111, 111, 32, 98, 105, 103]⟩, .string ⟨#[110, 101, 115, 116, 105, 110, 103]⟩, .string ⟨#[108, 111, 110, 103]⟩, .string ⟨#[116, 114, 101, 101]⟩, .string ⟨#[100, 101, 101, 112]⟩, .string ⟨#[97, 114, 103, 117, 109, 101, 110, 116]⟩, .string ⟨#[110, 111, 32, 109, 97, 116, 99, 104]⟩, .string ⟨#[105, 109, 97, 103, 101]⟩, .string ⟨#[109, 97, 110, 121]⟩, .string ⟨#[111, 112, 116, 105, 111, 110]⟩, .string ⟨#[99, 111, 109, 109, 97, 110, 100]⟩, .string ⟨#[99, 108, 111, 115, 101, 100]⟩]
theorem wordsC_get : ∀ k, k < 22 → wordsC[k]? = some (.string (wordS k))
  | 0, _ => rfl
  | 1, _ => rfl
  | 2, _ => rfl
  | 3, _ => rfl
  | 4, _ => rfl
  | 5, _ => rfl
  | 6, _ => rfl
  | 7, _ => rfl
  | 8, _ => rfl
  | 9, _ => rfl
  | 10, _ => rfl
  | 11, _ => rfl
  | 12, _ => rfl
  | 13, _ => rfl
  | 14, _ => rfl
  | 15, _ => rfl
  | 16, _ => rfl
  | 17, _ => rfl
  | 18, _ => rfl
  | 19, _ => rfl
  | 20, _ => rfl
  | 21, _ => rfl
  | k + 22, hk => absurd hk (by omega)
/-- The words of any number. -/
def wordAt (n : Int) : ByteArray := if 0 ≤ n ∧ n < 22 then wordS n.toNat else ⟨#[]⟩
set_option maxRecDepth 100000 in
set_option maxHeartbeats 4000000 in
theorem refwords_any (n : Int) (w : World) : Calls Tryd.prog 18 #[.int .i64 n] w fun e w' => e = .returned (.string (wordAt n)) ∧ Below w.heap.size w w' := by
  go_enter Tryd.func18, Tryd.ntmps18
  go_upto_region 2 with (fail)
  generalize hW0 : World.alloc w _ = W
  have e0 : W.heap[w.heap.size]? = some (.cells wordsC 9) := by rw [← hW0]; exact heap_alloc_new _ _
  have hbW : Below w.heap.size w W := by rw [← hW0]; exact (Below.refl _ _).alloc (Nat.le_refl _) _
  have HB := Lib.hid hbW; have Z := Lib.hid e0
  clear hW0 e0 hbW
  by_cases h0 : n < 0
  · have HN := Lib.hid (show wordAt n = ⟨#[]⟩ by unfold wordAt; rw [if_neg (by omega)])
    go_wp2
    go_ret
    exact ⟨by rw [HN.out]; rfl, HB.out⟩
  · by_cases h1 : 21 < n
    · have h2 : (22 : Int) ≤ n := by omega
      have h3 : (0 : Int) ≤ n := by omega
      have HN := Lib.hid (show wordAt n = ⟨#[]⟩ by unfold wordAt; rw [if_neg (by omega)])
      clear h0 h1
      go_wp2
      go_ret
      exact ⟨by rw [HN.out]; rfl, HB.out⟩
    · obtain ⟨m, rfl⟩ : ∃ m : Nat, n = (m : Int) := ⟨n.toNat, by omega⟩
      have hm : m < 22 := by omega
      have hm' : decide ((22 : Int) ≤ (m : Int)) = false := by simp; omega
      have HN := Lib.hid (show wordAt (m : Int) = wordS m by unfold wordAt; rw [if_pos (by omega)]; simp)
      have hc : W.cell? ⟨w.heap.size, m, none⟩ = some (.string (wordS m)) := by unfold World.cell?; rw [Z.out]; exact wordsC_get m hm
      clear h0 h1
      generalize wordS m = s at *
      go_wp2
      go_ret
      exact ⟨by rw [HN.out]; rfl, HB.out⟩
end Go.Proofs.YtnhligchgcjklaaDoor
