/- OctetNames: the law returns true. -/
import Derived.Test.YtdlcnhelkjlglaaDoorErAll
import Derived.Test.YtdlcnhelkjlglaaDoorOcLives
import Derived.Deep.QuietTactic
import Derived.BigQuiet
namespace Go.Proofs.YtdlcnhelkjlglaaDoor
open Go.RowKit Go.Extern.Stop Go.Stop Go.Extern
def wordStr (k : Nat) : ByteArray := ⟨(errWords.getD k []).toArray⟩
theorem text_eq {s : ByteArray} {k : Nat} (h : s.data.toList = errPre ++ errWords.getD k []) : s = (⟨#[116, 114, 97, 119, 108, 58, 32]⟩ : ByteArray) ++ wordStr k := by
  have e : s.data = ((⟨#[116, 114, 97, 119, 108, 58, 32]⟩ : ByteArray) ++ wordStr k).data := by
    rw [ByteArray.data_append]
    apply Array.ext'
    rw [h, Array.toList_append]; rfl
  cases s; cases hh : ((⟨#[116, 114, 97, 119, 108, 58, 32]⟩ : ByteArray) ++ wordStr k) with
  | mk d => rw [hh] at e; simp only at e; rw [e]
theorem word_size : ∀ k, k < 21 → (wordStr k).size ≤ 20 := by decide +kernel
def errCells (A : Nat → Addr) : Array Value := #[.iface 85 (.pointer (some (A 0))), .iface 85 (.pointer (some (A 1))), .iface 85 (.pointer (some (A 2))), .iface 85 (.pointer (some (A 3))), .iface 85 (.pointer (some (A 4))), .iface 85 (.pointer (some (A 5))), .iface 85 (.pointer (some (A 6))), .iface 85 (.pointer (some (A 7))), .iface 85 (.pointer (some (A 8))), .iface 85 (.pointer (some (A 9))), .iface 85 (.pointer (some (A 10))), .iface 85 (.pointer (some (A 11))), .iface 85 (.pointer (some (A 12))), .iface 85 (.pointer (some (A 13))), .iface 85 (.pointer (some (A 14))), .iface 85 (.pointer (some (A 15))), .iface 85 (.pointer (some (A 16))), .iface 85 (.pointer (some (A 17))), .iface 85 (.pointer (some (A 18))), .iface 85 (.pointer (some (A 19))), .iface 85 (.pointer (some (A 20)))]
def wordCells : Array Value := #[.string ⟨#[98, 114, 97, 99, 107, 101, 116]⟩, .string ⟨#[112, 97, 114, 101, 110, 116, 104, 101, 115, 105, 115]⟩, .string ⟨#[98, 114, 97, 99, 101]⟩, .string ⟨#[99, 111, 117, 110, 116]⟩, .string ⟨#[114, 97, 110, 103, 101]⟩, .string ⟨#[99, 108, 97, 115, 115]⟩, .string ⟨#[99, 111, 108, 108, 97, 116, 105, 110, 103]⟩, .string ⟨#[101, 115, 99, 97, 112, 101]⟩, .string ⟨#[114, 101, 112, 101, 97, 116]⟩, .string ⟨#[116, 111, 111, 32, 98, 105, 103]⟩, .string ⟨#[110, 101, 115, 116, 105, 110, 103]⟩, .string ⟨#[108, 111, 110, 103]⟩, .string ⟨#[116, 114, 101, 101]⟩, .string ⟨#[100, 101, 101, 112]⟩, .string ⟨#[97, 114, 103, 117, 109, 101, 110, 116]⟩, .string ⟨#[110, 111, 32, 109, 97, 116, 99, 104]⟩, .string ⟨#[105, 109, 97, 103, 101]⟩, .string ⟨#[109, 97, 110, 121]⟩, .string ⟨#[111, 112, 116, 105, 111, 110]⟩, .string ⟨#[99, 111, 109, 109, 97, 110, 100]⟩, .string ⟨#[99, 108, 111, 115, 101, 100]⟩]
theorem errCells_get (A : Nat → Addr) : ∀ k, k < 21 → (errCells A)[k]? = some (.iface 85 (.pointer (some (A k))))
  | 0, _ => rfl
  | 1, _ => rfl
  | 2, _ => rfl
  | 3, _ => rfl
  | 4, _ => rfl
  | 5, _ => rfl
  | 6, _ => rfl
  | 7, _ => rfl
  | 8, _ => rfl
  | 9, _ => rfl
  | 10, _ => rfl
  | 11, _ => rfl
  | 12, _ => rfl
  | 13, _ => rfl
  | 14, _ => rfl
  | 15, _ => rfl
  | 16, _ => rfl
  | 17, _ => rfl
  | 18, _ => rfl
  | 19, _ => rfl
  | 20, _ => rfl
  | k + 21, hk => absurd hk (by omega)
theorem wordCells_get : ∀ k, k < 21 → wordCells[k]? = some (.string (wordStr k))
  | 0, _ => rfl
  | 1, _ => rfl
  | 2, _ => rfl
  | 3, _ => rfl
  | 4, _ => rfl
  | 5, _ => rfl
  | 6, _ => rfl
  | 7, _ => rfl
  | 8, _ => rfl
  | 9, _ => rfl
  | 10, _ => rfl
  | 11, _ => rfl
  | 12, _ => rfl
  | 13, _ => rfl
  | 14, _ => rfl
  | 15, _ => rfl
  | 16, _ => rfl
  | 17, _ => rfl
  | 18, _ => rfl
  | 19, _ => rfl
  | 20, _ => rfl
  | k + 21, hk => absurd hk (by omega)
theorem error_quiet (a : Addr) (s : ByteArray) (w : World) (n : Nat) (h : w.cell? a = some (.string s)) : Calls Tryd.prog 67 #[.pointer (some a)] (w.drewN n) fun e w'' => e = .returned (.string s) ∧ ∃ m, w'' = w.drewN m :=
  (error_text a s (w.drewN n) h).mono fun _ _ h => ⟨h.1, n, h.2.symm⟩
set_option maxRecDepth 100000 in
set_option maxHeartbeats 4000000 in
theorem texts_any (A : Nat → Addr) (w : World) (hA : Errs w A) : Calls Tryd.prog 25 #[] w fun e w' => e = .returned (.bool true) ∧ Below w.heap.size w w' := by
  have HA := Lib.hid hA

  have g0 : w.cell? ⟨0, 0, none⟩ = some (.iface 85 (.pointer (some (A 0)))) := (hA 0 (by omega)).1
  have g1 : w.cell? ⟨1, 0, none⟩ = some (.iface 85 (.pointer (some (A 1)))) := (hA 1 (by omega)).1
  have g2 : w.cell? ⟨2, 0, none⟩ = some (.iface 85 (.pointer (some (A 2)))) := (hA 2 (by omega)).1
  have g3 : w.cell? ⟨3, 0, none⟩ = some (.iface 85 (.pointer (some (A 3)))) := (hA 3 (by omega)).1
  have g4 : w.cell? ⟨4, 0, none⟩ = some (.iface 85 (.pointer (some (A 4)))) := (hA 4 (by omega)).1
  have g5 : w.cell? ⟨5, 0, none⟩ = some (.iface 85 (.pointer (some (A 5)))) := (hA 5 (by omega)).1
  have g6 : w.cell? ⟨6, 0, none⟩ = some (.iface 85 (.pointer (some (A 6)))) := (hA 6 (by omega)).1
  have g7 : w.cell? ⟨7, 0, none⟩ = some (.iface 85 (.pointer (some (A 7)))) := (hA 7 (by omega)).1
  have g8 : w.cell? ⟨8, 0, none⟩ = some (.iface 85 (.pointer (some (A 8)))) := (hA 8 (by omega)).1
  have g9 : w.cell? ⟨9, 0, none⟩ = some (.iface 85 (.pointer (some (A 9)))) := (hA 9 (by omega)).1
  have g10 : w.cell? ⟨10, 0, none⟩ = some (.iface 85 (.pointer (some (A 10)))) := (hA 10 (by omega)).1
  have g11 : w.cell? ⟨11, 0, none⟩ = some (.iface 85 (.pointer (some (A 11)))) := (hA 11 (by omega)).1
  have g12 : w.cell? ⟨12, 0, none⟩ = some (.iface 85 (.pointer (some (A 12)))) := (hA 12 (by omega)).1
  have g13 : w.cell? ⟨13, 0, none⟩ = some (.iface 85 (.pointer (some (A 13)))) := (hA 13 (by omega)).1
  have g14 : w.cell? ⟨14, 0, none⟩ = some (.iface 85 (.pointer (some (A 14)))) := (hA 14 (by omega)).1
  have g15 : w.cell? ⟨15, 0, none⟩ = some (.iface 85 (.pointer (some (A 15)))) := (hA 15 (by omega)).1
  have g16 : w.cell? ⟨16, 0, none⟩ = some (.iface 85 (.pointer (some (A 16)))) := (hA 16 (by omega)).1
  have g17 : w.cell? ⟨17, 0, none⟩ = some (.iface 85 (.pointer (some (A 17)))) := (hA 17 (by omega)).1
  have g18 : w.cell? ⟨18, 0, none⟩ = some (.iface 85 (.pointer (some (A 18)))) := (hA 18 (by omega)).1
  have g19 : w.cell? ⟨19, 0, none⟩ = some (.iface 85 (.pointer (some (A 19)))) := (hA 19 (by omega)).1
  have g20 : w.cell? ⟨20, 0, none⟩ = some (.iface 85 (.pointer (some (A 20)))) := (hA 20 (by omega)).1
  clear hA
  go_enter Tryd.func25, Tryd.ntmps25
  go_wp2_with fail
  generalize hW0 : World.alloc (World.alloc w _) _ = W
  have e0 : W.heap[w.heap.size]? = some (.cells (errCells A) 57) := by rw [← hW0]; exact (two_new _ _ _).1
  have e1 : W.heap[w.heap.size + 1]? = some (.cells wordCells 9) := by rw [← hW0]; exact (two_new _ _ _).2
  have hbW : Below w.heap.size w W := by rw [← hW0]; exact ((Below.refl _ _).alloc (Nat.le_refl _) _).alloc (by simp) _
  have hszW : W.heap.size = w.heap.size + 2 := by rw [← hW0]; simp
  have E0 := Lib.hid e0; have E1 := Lib.hid e1
  clear hW0 e0 e1 g0 g1 g2 g3 g4 g5 g6 g7 g8 g9 g10 g11 g12 g13 g14 g15 g16 g17 g18 g19 g20
  have HW := Lib.hid (HA.out.below hbW)
  go_loopw [33] (fun i wr => ∃ k : Nat, i = .int .i64 k ∧ k ≤ 21 ∧ Below W.heap.size W wr) (fun i _ => 21 - (intOf i).toNat)
  case atStart => exact ⟨0, rfl, Nat.zero_le _, Below.refl _ _⟩
  case round =>
    obtain ⟨k, rfl, hk, hbel⟩ := hrel
    by_cases hlt : k < 21
    · have HR := HW.out.below hbel
      obtain ⟨-, -, hlta, ⟨s, hs, hst, hsz⟩, c, ty, hrow⟩ := HR k hlt
      obtain rfl := text_eq hst
      have L0 := Lib.hid ((hbel.block _ (by omega)).trans E0.out)
      have L1 := Lib.hid ((hbel.block _ (by omega)).trans E1.out)
      have l0 : wr.cell? ⟨w.heap.size, k, none⟩ = some (.iface 85 (.pointer (some (A k)))) := by simp only [World.cell?, L0.out]; exact errCells_get A k hlt
      have l1 : wr.cell? ⟨w.heap.size + 1, k, none⟩ = some (.string (wordStr k)) := by simp only [World.cell?, L1.out]; exact wordCells_get k hlt
      have HS := Lib.hid hs
      have HROW := Lib.hid hrow
      have HRR := Lib.hid HR
      have mE := Tryd.methodErrorE
      have hws : ¬ 9223372036854775807 < 7 + (wordStr k).size := by have := word_size k hlt; omega
      clear hs hrow HR hst
      go_wp2_with fail
      go_quiet (exact error_quiet _ _ _ _ HS.out)
      generalize hWd : World.drewN wr _ = Wd
      have hbD : Below W.heap.size W Wd := by rw [← hWd]; exact below_drewN hbel _
      have L0d := Lib.hid ((hbD.block _ (by omega)).trans E0.out)
      have HRd := Lib.hid (HW.out.below hbD)
      clear hWd HS HROW HRR L1 l0 l1 hbel hlta
      have hszD := hbD.size
      go_wp2_with fail
      go_loop [5] (fun i => ∃ m : Nat, i = .int .i64 m ∧ m ≤ k) (fun i => k - (intOf i).toNat)
      case atStart => exact ⟨0, rfl, Nat.zero_le _⟩
      case round =>
        obtain ⟨m, rfl, hm⟩ := hrel
        by_cases hmk : m < k
        · have l2 : Wd.cell? ⟨w.heap.size, m, none⟩ = some (.iface 85 (.pointer (some (A m)))) := by simp only [World.cell?, L0d.out]; exact errCells_get A m (by omega)
          obtain ⟨i, hi, hcmp⟩ := Option.map_eq_some_iff.1 Tryd.isComp
          obtain ⟨j, hj, hjs⟩ := Option.map_eq_some_iff.1 Tryd.isSize
          obtain ⟨-, -, -, -, ca, ta, ra⟩ := HRd.out k hlt
          obtain ⟨-, -, -, -, cb, tb, rb⟩ := HRd.out m (by omega)
          have heq := run_eql_iface_ptr_other (P := Tryd.prog) Wd Tryd.underlying57 Tryd.underlying85 hi hcmp hj (by rw [hjs]; decide) (HRd.out.apart (by omega) hlt (by omega : m ≠ k)) rb ra
          clear hi hcmp hj hjs ra rb
          go_wp2_with fail
          go_round
          case rel => exact ⟨m + 1, by go_num, by omega⟩
          case measure => simp [intOf]; omega
        · obtain rfl : m = k := by omega
          go_wp2_with fail
          generalize hW6 : World.alloc (World.alloc Wd _) _ = W6
          have hb6 : Below Wd.heap.size Wd W6 := by rw [← hW6]; exact ((Below.refl _ _).alloc (Nat.le_refl _) _).alloc (by simp) _
          have c61 : W6.cell? ⟨Wd.heap.size, 1, none⟩ = some (.iface 85 (.pointer (some (A m)))) := by
            simp only [World.cell?, ← hW6, (two_new _ _ _).1]; rfl
          have c62 : W6.cell? ⟨Wd.heap.size + 1, 1, none⟩ = some (.iface 61 (.pointer (some ⟨Wd.heap.size, 0, none⟩))) := by
            simp only [World.cell?, ← hW6, (two_new _ _ _).2]; rfl
          obtain ⟨-, -, -, ⟨s, hs, hst, hsz2⟩, ca, ta, ra⟩ := HRd.out.below hb6 m hlt
          obtain rfl := text_eq hst
          have hbW6 := hbD.trans (hb6.mono hbD.size)
          obtain ⟨i, hi, hcmp⟩ := Option.map_eq_some_iff.1 Tryd.isComp
          obtain ⟨j, hj, hjs⟩ := Option.map_eq_some_iff.1 Tryd.isSize
          have hneq := run_neq_iface_ptr_same (P := Tryd.prog) W6 (A m) Tryd.underlying57 Tryd.underlying85 hi hcmp hj
          have mE := Tryd.methodErrorE
          have HS := Lib.hid hs; have HC1 := Lib.hid c61; have HC2 := Lib.hid c62; have HRA := Lib.hid ra
          clear hi hcmp hj hjs hW6 hb6 hs c61 c62 ra hst
          refine (unwrap_fault _ _ _ HC1.out).mono ?_
          rintro e w' ⟨rfl, rfl⟩
          go_wp2_with fail
          refine (listed_text _ _ _ _ _ HC2.out HC1.out HS.out).mono ?_
          rintro e w' ⟨rfl, rfl⟩
          go_wp2_with fail
          refine (error_text _ _ _ HS.out).mono ?_
          rintro e w' ⟨rfl, rfl⟩
          go_wp2_with fail
          refine (is_any (A m) (A m) _ _ _ (Chain.listed _ HC2.out (Chain.fault _ HC1.out .base)) _ _ _ _ HRA.out HRA.out).mono ?_
          rintro e w' ⟨rfl, rfl⟩
          go_wp2_with fail
          go_roundw
          case rel => exact ⟨m + 1, by go_num, by omega, hbW6⟩
          case measure => simp [intOf]; omega
    · obtain rfl : k = 21 := by omega
      go_wp2
      go_ret
      exact ⟨rfl, hbW.trans (hbel.mono (by omega))⟩
set_option maxRecDepth 100000 in
theorem octnames_any (A : Nat → Addr) (w : World) (hA : Errs w A) : Calls Tryd.prog 6 #[] w fun e w' => e = .returned (.bool true) ∧ Below w.heap.size w w' := by
  have HA := Lib.hid hA
  clear hA
  go_enter Tryd.func6, Tryd.ntmps6
  go_wp2_with fail
  refine (lives_any _).mono ?_
  rintro e w1 ⟨rfl, hb1⟩
  have HA1 := Lib.hid (HA.out.below hb1)
  go_wp2_with fail
  refine (texts_any A w1 HA1.out).mono ?_
  rintro e w2 ⟨rfl, hb2⟩
  go_wp2_with fail
  go_ret
  exact ⟨rfl, hb1.trans (hb2.mono hb1.size)⟩
end Go.Proofs.YtdlcnhelkjlglaaDoor
