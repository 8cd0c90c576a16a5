/- Part 6 of what these proofs need. -/

import Derived.Test.YtlbhbjmobcikfaaGreatDoorBreR5
/- Letters and digits are one tree in both kinds of patterns; marks of the extended ones are bytes in basic ones. Nothing of the program. -/
namespace Go.Proofs.YtlbhbjmobcikfaaGreatDoor
/-- A letter or a digit. -/
def alnum (b : Nat) : Prop := (48 ≤ b ∧ b ≤ 57) ∨ (65 ≤ b ∧ b ≤ 90) ∨ (97 ≤ b ∧ b ≤ 122)
/-- k bytes from i on, each as itself. -/
def lets (f : Nat → Nat) (ic : Bool) : Nat → Nat → List Tr
  | 0, _ => []
  | k + 1, i => Ep.one ic (f i) :: lets f ic k (i + 1)
theorem lets_shift {f f' : Nat → Nat} {ic : Bool} : ∀ {k a b : Nat}, (∀ j, j < k → f' (a + j) = f (b + j)) → lets f' ic k a = lets f ic k b
  | 0, _, _, _ => rfl
  | k + 1, a, b, h => by
    unfold lets
    have h0 := h 0 (by omega)
    simp only [Nat.add_zero] at h0
    rw [h0, lets_shift (k := k) (a := a + 1) (b := b + 1) fun j hj => by
      have := h (j + 1) (by omega)
      rw [show a + 1 + j = a + (j + 1) by omega, show b + 1 + j = b + (j + 1) by omega]; exact this]
theorem lets_len {f : Nat → Nat} {ic : Bool} : ∀ {k i : Nat}, (lets f ic k i).length = k
  | 0, _ => rfl
  | k + 1, i => by unfold lets; rw [List.length_cons, lets_len]
theorem sz_one (ic : Bool) (b : Nat) : (Ep.one ic b).szT = 1 := by
  unfold Ep.one Tr.bytes; rw [Tr.szT, if_neg (by decide), Tr.szS]; decide
theorem szS_ones : ∀ (l : List Tr), (∀ u, u ∈ l → u.szT = 1) → Tr.szS l = l.length
  | [], _ => rfl
  | t :: l, h => by rw [Tr.szS, h t (by simp), szS_ones l (fun u hu => h u (List.mem_cons_of_mem _ hu)), List.length_cons]; omega
theorem sz_ones {l : List Tr} (h : ∀ u, u ∈ l → u.szT = 1) (hn : l.length ≤ 1100) : (Tr.several 5 l).szT ≤ 2000 := by
  match l, h, hn with
  | [], _, _ => show (Tr.leaf 1).szT ≤ 2000; unfold Tr.leaf; rw [Tr.szT, if_neg (by decide), Tr.szS]; decide
  | [t], h, _ => show t.szT ≤ 2000; rw [h t (by simp)]; omega
  | a :: b :: r, h, hn =>
    show (Tr.many 5 (a :: b :: r)).szT ≤ 2000
    unfold Tr.many
    rw [Tr.szT, if_neg (by decide), szS_ones _ h]
    have : ∀ x, x ≤ 1101 → Tr.sat x ≤ 2000 := fun x hx => by unfold Tr.sat; omega
    exact this _ (by omega)
theorem lets_ones {f : Nat → Nat} {ic : Bool} : ∀ {k i : Nat} (u : Tr), u ∈ lets f ic k i → u.szT = 1
  | 0, _, u, h => by cases h
  | k + 1, i, u, h => by
    unfold lets at h
    rcases List.mem_cons.1 h with rfl | h
    · exact sz_one _ _
    · exact lets_ones u h
namespace Bp
/-- A byte that is itself in a basic pattern, wherever it stands; or none. -/
def pl (b : Nat) : Prop := b ≠ 36 ∧ b ≠ 42 ∧ b ≠ 46 ∧ b ≠ 91 ∧ b ≠ 92 ∧ b ≠ 94
theorem two_pl {f : Nat → Nat} {b i : Nat} (h : pl (f i)) : Bp.two f 92 b i = false := by
  unfold Bp.two
  have : (f i == 92) = false := by rw [beq_eq_false_iff_ne]; exact h.2.2.2.2.1
  rw [this]; rfl
theorem loop_pl {f : Nat → Nat} {n : Nat} {ic nl : Bool} {H : Nat → Nat → Ep.Out} (h : ∀ j, j < n → pl (f j)) (hn : pl (f n)) : ∀ {k q : Nat} {l : List Tr} {i g : Nat}, i + k = n → k < q → loop f n ic nl H q l i g = .ok (.several 5 (l ++ lets f ic k i)) n g
  | _, 0, _, _, _, _, hq => by omega
  | 0, q + 1, l, i, g, hi, hq => by
    unfold loop
    rw [if_pos (.inl (by omega))]
    unfold lets
    rw [List.append_nil, show i = n by omega]
  | k + 1, q + 1, l, i, g, hi, hq => by
    have hp := h i (by omega)
    have hp2 : pl (f (i + 1)) := by
      by_cases e : i + 1 < n
      · exact h _ e
      · rw [show i + 1 = n by omega]; exact hn
    have hpc : piece f n ic nl H i g = .ok (Ep.one ic (f i)) (i + 1) g := by
      have he : isEnd f n i = false := by
        unfold isEnd
        have : (f i == 36) = false := by rw [beq_eq_false_iff_ne]; exact hp.1
        rw [this]; rfl
      unfold piece
      rw [he, if_neg (by decide), if_neg hp.2.1, two_pl hp, if_neg (by decide)]
      unfold atom
      rw [if_neg hp.2.2.1, if_neg hp.2.2.2.1, two_pl hp, if_neg (by decide), two_pl hp, if_neg (by decide), if_neg hp.2.2.2.2.1]
      show rep f n (Ep.one ic (f i)) (i + 1) g = _
      unfold rep
      rw [if_neg hp2.2.1, two_pl hp2, if_neg (by decide)]
    unfold loop
    rw [if_neg (by
      rintro (h1 | h1)
      · omega
      · rw [two_pl hp] at h1; cases h1), hpc]
    show loop f n ic nl H q (l ++ [Ep.one ic (f i)]) (i + 1) g = _
    rw [loop_pl h hn (k := k) (by omega) (by omega), lets, List.append_assoc]; rfl
theorem parse_pl {f : Nat → Nat} {n : Nat} {ic nl : Bool} (h : ∀ j, j < n → pl (f j)) (hn : f n = 256) (hl : n ≤ 1024) : parse f n ic nl = .ok (.several 5 (lets f ic n 0)) n 0 := by
  have hpn : pl (f n) := by rw [hn]; unfold pl; omega
  have h0 : pl (f 0) := by
    by_cases e : 0 < n
    · exact h 0 e
    · rw [show 0 = n by omega]; exact hpn
  unfold parse
  rw [if_neg (by omega)]
  unfold whole pat seq
  rw [if_neg h0.2.2.2.2.2]
  unfold star
  rw [if_neg h0.2.1, loop_pl h hpn (k := n) (by omega) (by omega)]
  simp only [List.nil_append, Nat.lt_irrefl, if_false]
  have hz := sz_ones (l := lets f ic n 0) lets_ones (by rw [lets_len]; omega)
  rw [if_neg (by omega)]
end Bp
namespace Ep
/-- A byte that is no mark of an extended pattern; or none. -/
def pl (b : Nat) : Prop := b ≠ 94 ∧ b ≠ 36 ∧ b ≠ 42 ∧ b ≠ 43 ∧ b ≠ 63 ∧ b ≠ 123 ∧ b ≠ 40 ∧ b ≠ 91 ∧ b ≠ 92 ∧ b ≠ 46 ∧ b ≠ 124 ∧ b ≠ 41
theorem rep_pl {f : Nat → Nat} {n i g : Nat} {t : Tr} (h : pl (f i)) : rep f n t i g = .ok t i g := by
  unfold rep
  rw [if_neg h.2.2.1, if_neg h.2.2.2.1, if_neg h.2.2.2.2.1, if_neg h.2.2.2.2.2.1]
theorem branch_pl {f : Nat → Nat} {n : Nat} {ic nl : Bool} {H : Nat → Nat → Out} (i0 : Nat) (h : ∀ j, i0 ≤ j → j < n → pl (f j)) (hn : pl (f n)) : ∀ {k q : Nat} {l : List Tr} {i g : Nat}, i0 ≤ i → i + k = n → k < q → branch f n ic nl H q l i g = .ok (.several 5 (l ++ lets f ic k i)) n g
  | _, 0, _, _, _, _, _, hq => by omega
  | 0, q + 1, l, i, g, _, hi, hq => by
    unfold branch
    rw [if_pos (.inl (by omega))]
    unfold lets
    rw [List.append_nil, show i = n by omega]
  | k + 1, q + 1, l, i, g, h0, hi, hq => by
    have hp := h i h0 (by omega)
    have hp2 : pl (f (i + 1)) := by
      by_cases e : i + 1 < n
      · exact h _ (by omega) e
      · rw [show i + 1 = n by omega]; exact hn
    obtain ⟨p1, p2, p3, p4, p5, p6, p7, p8, p9, p10, p11, p12⟩ := hp
    have hpc : piece f n ic nl H i g = .ok (one ic (f i)) (i + 1) g := by
      unfold piece
      rw [if_neg p1, if_neg p2]
      have hr : isRep (f i) = false := by unfold isRep; simp; omega
      rw [hr]
      simp only [Bool.false_eq_true, if_false]
      unfold atom
      rw [if_neg p7, if_neg p8, if_neg p9, if_neg p10]
      exact rep_pl hp2
    unfold branch
    rw [if_neg (by omega), hpc]
    show branch f n ic nl H q (l ++ [one ic (f i)]) (i + 1) g = _
    rw [branch_pl i0 h hn (k := k) (by omega) (by omega) (by omega), lets, List.append_assoc]; rfl
theorem pat_of {f : Nat → Nat} {n : Nat} {ic nl : Bool} {t : Tr} (h : branch f n ic nl (group f n ic nl 32) (n + 1) [] 0 0 = .ok t n 0) (hn : f n = 256) (hl : n ≤ 1024) (hz : t.szT ≤ 2000) : parse f n ic nl = .ok t n 0 := by
  unfold parse
  rw [if_neg (by omega)]
  unfold whole pat alts
  rw [h]
  simp only [hn, show ¬ (256 = 124) from by decide, if_false, List.nil_append, Nat.lt_irrefl]
  show (if 2000 < t.szT then _ else _) = _
  rw [if_neg (by omega)]
  rfl
theorem parse_pl {f : Nat → Nat} {n : Nat} {ic nl : Bool} (h : ∀ j, j < n → pl (f j)) (hn : f n = 256) (hl : n ≤ 1024) : parse f n ic nl = .ok (.several 5 (lets f ic n 0)) n 0 := by
  have hpn : pl (f n) := by rw [hn]; unfold pl; omega
  refine pat_of ?_ hn hl (sz_ones lets_ones (by rw [lets_len]; omega))
  rw [branch_pl 0 (fun j _ hj => h j hj) hpn (k := n) (Nat.le_refl 0) (by omega) (by omega), List.nil_append]
/-- A byte of punct behind a backslash, and then bytes that are no marks. -/
theorem parse_esc {f : Nat → Nat} {n : Nat} {ic nl : Bool} (h0 : f 0 = 92) (hc : Cl.cls 8 (f 1) = true) (h : ∀ j, 2 ≤ j → j < n + 2 → pl (f j)) (hn : f (n + 2) = 256) (hl : n ≤ 1000) : parse f (n + 2) ic nl = .ok (.several 5 (one ic (f 1) :: lets f ic n 2)) (n + 2) 0 := by
  have hpn : pl (f (n + 2)) := by rw [hn]; unfold pl; omega
  have h2 : pl (f 2) := by
    by_cases e : 0 < n
    · exact h 2 (by omega) (by omega)
    · rw [show 2 = n + 2 by omega]; exact hpn
  refine pat_of ?_ hn (by omega) (sz_ones (fun u hu => ?_) (by rw [List.length_cons, lets_len]; omega))
  · have hpc : piece f (n + 2) ic nl (group f (n + 2) ic nl 32) 0 0 = .ok (one ic (f 1)) 2 0 := by
      unfold piece
      rw [if_neg (by omega), if_neg (by omega)]
      have hr : isRep (f 0) = false := by rw [h0]; decide
      rw [hr]
      simp only [Bool.false_eq_true, if_false]
      unfold atom
      rw [if_neg (by omega), if_neg (by omega), if_pos h0, if_pos hc]
      exact rep_pl h2
    unfold branch
    rw [if_neg (by omega), hpc]
    show branch f (n + 2) ic nl _ (n + 2) ([] ++ [one ic (f 1)]) 2 0 = _
    rw [branch_pl 2 h hpn (k := n) (Nat.le_refl 2) (by omega) (by omega)]
    rfl
  · rcases List.mem_cons.1 hu with rfl | hu
    · exact sz_one _ _
    · exact lets_ones u hu
end Ep
theorem alnum_bp {b : Nat} (h : alnum b) : Bp.pl b := by unfold alnum at h; unfold Bp.pl; omega
theorem alnum_ep {b : Nat} (h : alnum b) : Ep.pl b := by unfold alnum at h; unfold Ep.pl; omega
/-- The marks that the law speaks of. -/
def mark7 (c : Nat) : Prop := c = 43 ∨ c = 63 ∨ c = 124 ∨ c = 40 ∨ c = 41 ∨ c = 123 ∨ c = 125
theorem mark_bp {c : Nat} (h : mark7 c) : Bp.pl c := by unfold mark7 at h; unfold Bp.pl; omega
theorem mark_cls {c : Nat} (h : mark7 c) : Cl.cls 8 c = true := by
  unfold mark7 at h
  rcases h with rfl | rfl | rfl | rfl | rfl | rfl | rfl <;> decide
/-- The four parses of the law. -/
theorem letters_both (x : ByteArray) (ic nl : Bool) (h : ∀ j, j < x.size → alnum (bt x j)) (hn : x.size ≤ 1000) : ∃ T, Bp.parse (bt x) x.size ic nl = .ok T x.size 0 ∧ Ep.parse (bt x) x.size ic nl = .ok T x.size 0 :=
  ⟨_, Bp.parse_pl (fun j hj => alnum_bp (h j hj)) (bt_out (Nat.le_refl _)) (by omega), Ep.parse_pl (fun j hj => alnum_ep (h j hj)) (bt_out (Nat.le_refl _)) (by omega)⟩
theorem marks_both (x : ByteArray) (c : UInt8) (ic nl : Bool) (h : ∀ j, j < x.size → alnum (bt x j)) (hn : x.size ≤ 1000) (hc : mark7 c.toNat) :
    ∃ T, Bp.parse (bt (⟨#[c]⟩ ++ x)) (⟨#[c]⟩ ++ x : ByteArray).size ic nl = .ok T (x.size + 1) 0 ∧ Ep.parse (bt (⟨#[92]⟩ ++ ⟨#[c]⟩ ++ x)) (⟨#[92]⟩ ++ ⟨#[c]⟩ ++ x : ByteArray).size ic nl = .ok T (x.size + 2) 0 := by
  have hz1 : (⟨#[c]⟩ ++ x : ByteArray).size = x.size + 1 := by rw [ByteArray.size_append]; show 1 + x.size = _; omega
  have hz0 : (⟨#[92]⟩ ++ ⟨#[c]⟩ : ByteArray).size = 2 := rfl
  have hz2 : (⟨#[92]⟩ ++ ⟨#[c]⟩ ++ x : ByteArray).size = x.size + 2 := by rw [ByteArray.size_append, hz0]; omega
  have a0 : bt (⟨#[c]⟩ ++ x) 0 = c.toNat := by rw [bt_append, if_pos (by show 0 < 1; omega)]; rfl
  have aj : ∀ j, bt (⟨#[c]⟩ ++ x) (1 + j) = bt x j := fun j => by rw [bt_append, if_neg (by show ¬ 1 + j < 1; omega)]; congr 1; show 1 + j - 1 = j; omega
  have e0 : bt (⟨#[92]⟩ ++ ⟨#[c]⟩ ++ x) 0 = 92 := by rw [bt_append, if_pos (by rw [hz0]; omega), bt_append, if_pos (by decide)]; decide
  have e1 : bt (⟨#[92]⟩ ++ ⟨#[c]⟩ ++ x) 1 = c.toNat := by rw [bt_append, if_pos (by rw [hz0]; omega), bt_append, if_neg (by decide)]; rfl
  have ej : ∀ j, bt (⟨#[92]⟩ ++ ⟨#[c]⟩ ++ x) (2 + j) = bt x j := fun j => by rw [bt_append, if_neg (by rw [hz0]; omega), hz0]; congr 1; omega
  rw [hz1, hz2]
  have hb := Bp.parse_pl (ic := ic) (nl := nl) (f := bt (⟨#[c]⟩ ++ x)) (n := x.size + 1) (fun j hj => by
    cases j with
    | zero => rw [a0]; exact mark_bp hc
    | succ j => rw [show j + 1 = 1 + j by omega, aj]; exact alnum_bp (h j (by omega))) (by rw [show x.size + 1 = 1 + x.size by omega, aj]; exact bt_out (Nat.le_refl _)) (by omega)
  have he := Ep.parse_esc (ic := ic) (nl := nl) (f := bt (⟨#[92]⟩ ++ ⟨#[c]⟩ ++ x)) (n := x.size) e0 (by rw [e1]; exact mark_cls hc) (fun j h2 hj => by
    rw [show j = 2 + (j - 2) by omega, ej]; exact alnum_ep (h _ (by omega))) (by rw [show x.size + 2 = 2 + x.size by omega, ej]; exact bt_out (Nat.le_refl _)) (by omega)
  refine ⟨_, hb, ?_⟩
  rw [he, e1]
  congr 1
  congr 1
  rw [lets, a0]
  congr 1
  exact lets_shift fun j hj => by rw [ej, show 0 + 1 + j = 1 + j by omega, aj]
end Go.Proofs.YtlbhbjmobcikfaaGreatDoor
/- EreEscapes: whatever the byte and the text, the law returns true. -/
namespace Go.Proofs.YtlbhbjmobcikfaaGreatDoor
open Go.RowKit
/-- One byte as a text. -/
theorem byte_text (b : UInt8) (g : Nat) (w : World) (h : w.heap[g]? = some (.cells #[.int .u8 (b.toNat : Int)] 5)) : (convert 45 9 (.slice (some ⟨g, 0, none⟩) 1 1)).run Tryz.prog w = .ok (.string ⟨#[b]⟩) w := by
  have := run_convert_bytes_back (P := Tryz.prog) w 45 9 5 ⟨g, 0, none⟩ 1 [b] Tryz.underlying45 Tryz.underlying5 Tryz.underlying9 (fun j hj => by
    obtain rfl : j = 0 := by simp at hj; omega
    rw [Addr.add_mid]
    simp [World.cell?, h])
  exact this
theorem byte_new (b : UInt8) (w : World) : (convert 45 9 (.slice (some ⟨w.heap.size, 0, none⟩) 1 1)).run Tryz.prog (w.alloc (.cells #[.int .u8 (b.toNat : Int)] 5)) = .ok (.string ⟨#[b]⟩) (w.alloc (.cells #[.int .u8 (b.toNat : Int)] 5)) :=
  byte_text b _ _ (heap_alloc_new _ _)
end Go.Proofs.YtlbhbjmobcikfaaGreatDoor
/- BreLetters: whatever the pattern, the flags and the byte, the law returns true. -/
namespace Go.Proofs.YtlbhbjmobcikfaaGreatDoor
open Go.RowKit
theorem no_letter {b : Nat} (h : ¬ alnum b) : b < 48 ∨ (58 ≤ b ∧ b ≤ 64) ∨ (91 ≤ b ∧ b ≤ 96) ∨ 123 ≤ b := by unfold alnum at h; omega
set_option maxRecDepth 100000 in
set_option maxHeartbeats 16000000 in
theorem breletters_any (A : Nat → Addr) (x : ByteArray) (fl : Int) (c : UInt8) (hx : x.size ≤ 140737488351232) (w : World) (hE : BrEnv w A) (hT : ErrType w) :
    Calls Tryz.prog 10 #[.string x, .int .i64 fl, .int .u8 (c.toNat : Int)] w fun e w' => e = .returned (.bool true) ∧ Below w.heap.size w w' := by
  have HL := Lib.hid (bqlives_any A w hE hT)
  have HE := Lib.hid hE
  have HDB := Lib.hid bqparse_does; have HDE := Lib.hid parse_does
  clear hE hT
  go_enter Tryz.func10, Tryz.ntmps10
  go_wp2_with fail
  refine HL.out.mono ?_; rintro e w1 ⟨rfl, hb1⟩
  have HB1 := Lib.hid hb1; have HE1 := Lib.hid (HE.out.below hb1)
  clear hb1 HL
  go_wp2
  go_loopw [7] (fun i wr => ∃ k : Nat, k ≤ x.size ∧ i = .int .i64 k ∧ wr = w1 ∧ Hid (∀ j, j < k → alnum (bt x j))) (fun i _ => x.size - (intOf i).toNat)
  case atStart => exact ⟨0, Nat.zero_le _, rfl, rfl, Lib.hid (fun j hj => absurd hj (by omega))⟩
  case round =>
    obtain ⟨k, hk, rfl, rfl, HALL⟩ := hrel
    by_cases hlt : k < x.size
    · have hbk := bt_at hlt
      have hb256 : bt x k < 256 := (bt_txt x).1 k hlt
      have hnx : alnum (bt x k) → ∀ j, j < k + 1 → alnum (bt x j) := fun h j hj => by
        rcases Nat.lt_or_ge j k with h2 | h2
        · exact HALL.out j h2
        · obtain rfl : j = k := by omega
          exact h
      have HNX := Lib.hid hnx
      clear hnx
      by_cases hal : alnum (bt x k)
      · have HN2 := Lib.hid (HNX.out hal)
        have hal2 := hal
        unfold alnum at hal2
        clear hal HNX HALL
        rcases hal2 with ⟨k1, k2⟩ | ⟨k1, k2⟩ | ⟨k1, k2⟩
        · have g480 : decide ((48 : Int) ≤ (bt x k : Int)) = true := by simp; omega
          have g481 : decide (48 ≤ bt x k) = true := by simp; omega
          have l570 : decide ((bt x k : Int) ≤ 57) = true := by simp; omega
          have l571 : decide (bt x k ≤ 57) = true := by simp; omega
          have g650 : decide ((65 : Int) ≤ (bt x k : Int)) = false := by simp; omega
          have g651 : decide (65 ≤ bt x k) = false := by simp; omega
          have l900 : decide ((bt x k : Int) ≤ 90) = true := by simp; omega
          have l901 : decide (bt x k ≤ 90) = true := by simp; omega
          have g970 : decide ((97 : Int) ≤ (bt x k : Int)) = false := by simp; omega
          have g971 : decide (97 ≤ bt x k) = false := by simp; omega
          have l1220 : decide ((bt x k : Int) ≤ 122) = true := by simp; omega
          have l1221 : decide (bt x k ≤ 122) = true := by simp; omega
          clear k1 k2
          go_wp2
          exact ⟨⟨k + 1, by omega, by go_num, trivial, HN2⟩, by simp only [intOf]; omega⟩
        · have g480 : decide ((48 : Int) ≤ (bt x k : Int)) = true := by simp; omega
          have g481 : decide (48 ≤ bt x k) = true := by simp; omega
          have l570 : decide ((bt x k : Int) ≤ 57) = false := by simp; omega
          have l571 : decide (bt x k ≤ 57) = false := by simp; omega
          have g650 : decide ((65 : Int) ≤ (bt x k : Int)) = true := by simp; omega
          have g651 : decide (65 ≤ bt x k) = true := by simp; omega
          have l900 : decide ((bt x k : Int) ≤ 90) = true := by simp; omega
          have l901 : decide (bt x k ≤ 90) = true := by simp; omega
          have g970 : decide ((97 : Int) ≤ (bt x k : Int)) = false := by simp; omega
          have g971 : decide (97 ≤ bt x k) = false := by simp; omega
          have l1220 : decide ((bt x k : Int) ≤ 122) = true := by simp; omega
          have l1221 : decide (bt x k ≤ 122) = true := by simp; omega
          clear k1 k2
          go_wp2
          exact ⟨⟨k + 1, by omega, by go_num, trivial, HN2⟩, by simp only [intOf]; omega⟩
        · have g480 : decide ((48 : Int) ≤ (bt x k : Int)) = true := by simp; omega
          have g481 : decide (48 ≤ bt x k) = true := by simp; omega
          have l570 : decide ((bt x k : Int) ≤ 57) = false := by simp; omega
          have l571 : decide (bt x k ≤ 57) = false := by simp; omega
          have g650 : decide ((65 : Int) ≤ (bt x k : Int)) = true := by simp; omega
          have g651 : decide (65 ≤ bt x k) = true := by simp; omega
          have l900 : decide ((bt x k : Int) ≤ 90) = false := by simp; omega
          have l901 : decide (bt x k ≤ 90) = false := by simp; omega
          have g970 : decide ((97 : Int) ≤ (bt x k : Int)) = true := by simp; omega
          have g971 : decide (97 ≤ bt x k) = true := by simp; omega
          have l1220 : decide ((bt x k : Int) ≤ 122) = true := by simp; omega
          have l1221 : decide (bt x k ≤ 122) = true := by simp; omega
          clear k1 k2
          go_wp2
          exact ⟨⟨k + 1, by omega, by go_num, trivial, HN2⟩, by simp only [intOf]; omega⟩
      · have hal2 := no_letter hal
        clear hal HNX HALL
        rcases hal2 with k1 | ⟨k1, k2⟩ | ⟨k1, k2⟩ | k1
        · have g480 : decide ((48 : Int) ≤ (bt x k : Int)) = false := by simp; omega
          have g481 : decide (48 ≤ bt x k) = false := by simp; omega
          have l570 : decide ((bt x k : Int) ≤ 57) = true := by simp; omega
          have l571 : decide (bt x k ≤ 57) = true := by simp; omega
          have g650 : decide ((65 : Int) ≤ (bt x k : Int)) = false := by simp; omega
          have g651 : decide (65 ≤ bt x k) = false := by simp; omega
          have l900 : decide ((bt x k : Int) ≤ 90) = true := by simp; omega
          have l901 : decide (bt x k ≤ 90) = true := by simp; omega
          have g970 : decide ((97 : Int) ≤ (bt x k : Int)) = false := by simp; omega
          have g971 : decide (97 ≤ bt x k) = false := by simp; omega
          have l1220 : decide ((bt x k : Int) ≤ 122) = true := by simp; omega
          have l1221 : decide (bt x k ≤ 122) = true := by simp; omega
          clear k1
          go_wp2
          go_ret
          exact ⟨rfl, HB1.out⟩
        · have g480 : decide ((48 : Int) ≤ (bt x k : Int)) = true := by simp; omega
          have g481 : decide (48 ≤ bt x k) = true := by simp; omega
          have l570 : decide ((bt x k : Int) ≤ 57) = false := by simp; omega
          have l571 : decide (bt x k ≤ 57) = false := by simp; omega
          have g650 : decide ((65 : Int) ≤ (bt x k : Int)) = false := by simp; omega
          have g651 : decide (65 ≤ bt x k) = false := by simp; omega
          have l900 : decide ((bt x k : Int) ≤ 90) = true := by simp; omega
          have l901 : decide (bt x k ≤ 90) = true := by simp; omega
          have g970 : decide ((97 : Int) ≤ (bt x k : Int)) = false := by simp; omega
          have g971 : decide (97 ≤ bt x k) = false := by simp; omega
          have l1220 : decide ((bt x k : Int) ≤ 122) = true := by simp; omega
          have l1221 : decide (bt x k ≤ 122) = true := by simp; omega
          clear k1 k2
          go_wp2
          go_ret
          exact ⟨rfl, HB1.out⟩
        · have g480 : decide ((48 : Int) ≤ (bt x k : Int)) = true := by simp; omega
          have g481 : decide (48 ≤ bt x k) = true := by simp; omega
          have l570 : decide ((bt x k : Int) ≤ 57) = false := by simp; omega
          have l571 : decide (bt x k ≤ 57) = false := by simp; omega
          have g650 : decide ((65 : Int) ≤ (bt x k : Int)) = true := by simp; omega
          have g651 : decide (65 ≤ bt x k) = true := by simp; omega
          have l900 : decide ((bt x k : Int) ≤ 90) = false := by simp; omega
          have l901 : decide (bt x k ≤ 90) = false := by simp; omega
          have g970 : decide ((97 : Int) ≤ (bt x k : Int)) = false := by simp; omega
          have g971 : decide (97 ≤ bt x k) = false := by simp; omega
          have l1220 : decide ((bt x k : Int) ≤ 122) = true := by simp; omega
          have l1221 : decide (bt x k ≤ 122) = true := by simp; omega
          clear k1 k2
          go_wp2
          go_ret
          exact ⟨rfl, HB1.out⟩
        · have g480 : decide ((48 : Int) ≤ (bt x k : Int)) = true := by simp; omega
          have g481 : decide (48 ≤ bt x k) = true := by simp; omega
          have l570 : decide ((bt x k : Int) ≤ 57) = false := by simp; omega
          have l571 : decide (bt x k ≤ 57) = false := by simp; omega
          have g650 : decide ((65 : Int) ≤ (bt x k : Int)) = true := by simp; omega
          have g651 : decide (65 ≤ bt x k) = true := by simp; omega
          have l900 : decide ((bt x k : Int) ≤ 90) = false := by simp; omega
          have l901 : decide (bt x k ≤ 90) = false := by simp; omega
          have g970 : decide ((97 : Int) ≤ (bt x k : Int)) = true := by simp; omega
          have g971 : decide (97 ≤ bt x k) = true := by simp; omega
          have l1220 : decide ((bt x k : Int) ≤ 122) = false := by simp; omega
          have l1221 : decide (bt x k ≤ 122) = false := by simp; omega
          clear k1
          go_wp2
          go_ret
          exact ⟨rfl, HB1.out⟩
    · obtain rfl : k = x.size := by omega
      clear hlt hk
      by_cases hbig : 1000 < x.size
      · have hd : decide ((1000 : Int) < x.size) = true := by simp; omega
        have hd' : decide (1000 < x.size) = true := by simp; omega
        clear hbig
        go_wp2
        go_ret
        exact ⟨rfl, HB1.out⟩
      · have hd : decide ((1000 : Int) < x.size) = false := by simp; omega
        have hd' : decide (1000 < x.size) = false := by simp; omega
        obtain ⟨T, hTb, hTe⟩ := letters_both x (icB fl) (nlB fl) HALL.out (by omega)
        have HTB := Lib.hid hTb; have HTE := Lib.hid hTe
        have HMK := Lib.hid (fun hc => marks_both x c (icB fl) (nlB fl) HALL.out (by omega) hc)
        clear hTb hTe HALL
        go_wp2_with fail
        refine (HDB.out A _ x fl HE1.out).mono ?_
        intro e w2 he
        obtain ⟨v2, F2, rfl, ho, -, hb2⟩ := he.ok HTB.out
        obtain ⟨p2, c2, rfl, -⟩ := ho.slice
        have HTR2 := Lib.hid (fun w' (hb : Below (w2.alloc (.cells (T.cells (.slice p2 T.subs.length c2)) 28)).heap.size (w2.alloc (.cells (T.cells (.slice p2 T.subs.length c2)) 28)) w') => (TreesAt.later (w' := w') (ho.trees) (((Below.refl w2.heap.size w2).alloc (Nat.le_refl _) (.cells (T.cells (.slice p2 T.subs.length c2)) 28)).trans (Below.mono hb (by simp)))))
        have hb3 := HB1.out.trans (hb2.mono HB1.out.size)
        have hk2 := hb2.alloc hb2.size (.cells (T.cells (.slice p2 T.subs.length c2)) 28)
        have HB2 := Lib.hid (hb3.alloc hb3.size (.cells (T.cells (.slice p2 T.subs.length c2)) 28))
        have HE2 := Lib.hid (HE.out.below HB2.out)
        have Z2 := Lib.hid (heap_alloc_new w2 (.cells (T.cells (.slice p2 T.subs.length c2)) 28))
        clear he ho hb2 hb3
        unfold Tr.cells at *
        go_wp2_with fail
        refine (HDE.out A _ x fl HE2.out).mono ?_
        intro e w3 he
        obtain ⟨v3, F3, rfl, ho, -, hb2⟩ := he.ok HTE.out
        obtain ⟨p3, c3, rfl, -⟩ := ho.slice
        have HTR3 := Lib.hid (fun w' (hb : Below (w3.alloc (.cells (T.cells (.slice p3 T.subs.length c3)) 28)).heap.size (w3.alloc (.cells (T.cells (.slice p3 T.subs.length c3)) 28)) w') => (TreesAt.later (w' := w') (ho.trees) (((Below.refl w3.heap.size w3).alloc (Nat.le_refl _) (.cells (T.cells (.slice p3 T.subs.length c3)) 28)).trans (Below.mono hb (by simp)))))
        have hb3 := HB2.out.trans (hb2.mono HB2.out.size)
        have hk3 := hb2.alloc hb2.size (.cells (T.cells (.slice p3 T.subs.length c3)) 28)
        have HB3 := Lib.hid (hb3.alloc hb3.size (.cells (T.cells (.slice p3 T.subs.length c3)) 28))
        have HE3 := Lib.hid (HE.out.below HB3.out)
        have Z3 := Lib.hid (heap_alloc_new w3 (.cells (T.cells (.slice p3 T.subs.length c3)) 28))
        clear he ho hb2 hb3
        unfold Tr.cells at *
        have ZA := Lib.hid (keep_blk hk3 Z2.out)
        have HTA := Lib.hid (HTR2.out _ hk3)
        have HTC := Lib.hid (HTR3.out _ (Below.refl _ _))
        clear hk2 hk3 HTR2 HTR3 Z2
        obtain ⟨d0, d1, d2, d3, d4, d5, d6, d7, d8, d9⟩ := allTen ZA.out
        obtain ⟨u0, u1, u2, u3, u4, u5, u6, u7, u8, u9⟩ := allTen Z3.out
        generalize hLL : T.subs.length = L at *
        clear hLL
        go_wp2_with fail
        refine (samenodes_any T T _ _ _ _ _ ⟨_, rfl, HTA.out⟩ ⟨_, rfl, HTC.out⟩).mono ?_
        intro e w4 h4
        obtain ⟨rfl, hb4⟩ := h4.yes rfl
        have HB4 := Lib.hid (HB3.out.trans (hb4.mono HB3.out.size)); have HE4 := Lib.hid (HE.out.below HB4.out)
        clear hb4 h4 d0 d1 d2 d3 d4 d5 d6 d7 d8 d9 u0 u1 u2 u3 u4 u5 u6 u7 u8 u9 ZA Z3 HTA HTC HB3 HE3 HB2 HE2
        by_cases hmk : mark7 c.toNat
        · obtain ⟨X, hXb, hXe⟩ := HMK.out hmk
          have HXB := Lib.hid hXb; have HXE := Lib.hid hXe
          clear hXb hXe HMK
          have hcv := byte_new c
          have hs1 : (⟨#[c]⟩ : ByteArray).size = 1 := rfl
          have hs2 : (⟨#[92]⟩ ++ ⟨#[c]⟩ : ByteArray).size = 2 := rfl
          go_upto_region 15 with (fail)
          go_cut [15] (fun u wx => u = .bool true ∧ w4 = wx)
          case first =>
            clear hcv hs1 hs2
            unfold mark7 at hmk
            rcases hmk with h | h | h | h | h | h | h
            · have b0 : ((c.toNat : Int) == 43) = true := by rw [h]; rfl
              have b1 : ((c.toNat : Int) == 63) = false := by rw [h]; rfl
              have b2 : ((c.toNat : Int) == 124) = false := by rw [h]; rfl
              have b3 : ((c.toNat : Int) == 40) = false := by rw [h]; rfl
              have b4 : ((c.toNat : Int) == 41) = false := by rw [h]; rfl
              have b5 : ((c.toNat : Int) == 123) = false := by rw [h]; rfl
              have b6 : ((c.toNat : Int) == 125) = false := by rw [h]; rfl
              have a0 : (c.toNat == 43) = true := by rw [h]; rfl
              have a1 : (c.toNat == 63) = false := by rw [h]; rfl
              have a2 : (c.toNat == 124) = false := by rw [h]; rfl
              have a3 : (c.toNat == 40) = false := by rw [h]; rfl
              have a4 : (c.toNat == 41) = false := by rw [h]; rfl
              have a5 : (c.toNat == 123) = false := by rw [h]; rfl
              have a6 : (c.toNat == 125) = false := by rw [h]; rfl
              clear h
              go_wp2
              go_meet
              exact ⟨rfl, rfl⟩
            · have b0 : ((c.toNat : Int) == 43) = false := by rw [h]; rfl
              have b1 : ((c.toNat : Int) == 63) = true := by rw [h]; rfl
              have b2 : ((c.toNat : Int) == 124) = false := by rw [h]; rfl
              have b3 : ((c.toNat : Int) == 40) = false := by rw [h]; rfl
              have b4 : ((c.toNat : Int) == 41) = false := by rw [h]; rfl
              have b5 : ((c.toNat : Int) == 123) = false := by rw [h]; rfl
              have b6 : ((c.toNat : Int) == 125) = false := by rw [h]; rfl
              have a0 : (c.toNat == 43) = false := by rw [h]; rfl
              have a1 : (c.toNat == 63) = true := by rw [h]; rfl
              have a2 : (c.toNat == 124) = false := by rw [h]; rfl
              have a3 : (c.toNat == 40) = false := by rw [h]; rfl
              have a4 : (c.toNat == 41) = false := by rw [h]; rfl
              have a5 : (c.toNat == 123) = false := by rw [h]; rfl
              have a6 : (c.toNat == 125) = false := by rw [h]; rfl
              clear h
              go_wp2
              go_meet
              exact ⟨rfl, rfl⟩
            · have b0 : ((c.toNat : Int) == 43) = false := by rw [h]; rfl
              have b1 : ((c.toNat : Int) == 63) = false := by rw [h]; rfl
              have b2 : ((c.toNat : Int) == 124) = true := by rw [h]; rfl
              have b3 : ((c.toNat : Int) == 40) = false := by rw [h]; rfl
              have b4 : ((c.toNat : Int) == 41) = false := by rw [h]; rfl
              have b5 : ((c.toNat : Int) == 123) = false := by rw [h]; rfl
              have b6 : ((c.toNat : Int) == 125) = false := by rw [h]; rfl
              have a0 : (c.toNat == 43) = false := by rw [h]; rfl
              have a1 : (c.toNat == 63) = false := by rw [h]; rfl
              have a2 : (c.toNat == 124) = true := by rw [h]; rfl
              have a3 : (c.toNat == 40) = false := by rw [h]; rfl
              have a4 : (c.toNat == 41) = false := by rw [h]; rfl
              have a5 : (c.toNat == 123) = false := by rw [h]; rfl
              have a6 : (c.toNat == 125) = false := by rw [h]; rfl
              clear h
              go_wp2
              go_meet
              exact ⟨rfl, rfl⟩
            · have b0 : ((c.toNat : Int) == 43) = false := by rw [h]; rfl
              have b1 : ((c.toNat : Int) == 63) = false := by rw [h]; rfl
              have b2 : ((c.toNat : Int) == 124) = false := by rw [h]; rfl
              have b3 : ((c.toNat : Int) == 40) = true := by rw [h]; rfl
              have b4 : ((c.toNat : Int) == 41) = false := by rw [h]; rfl
              have b5 : ((c.toNat : Int) == 123) = false := by rw [h]; rfl
              have b6 : ((c.toNat : Int) == 125) = false := by rw [h]; rfl
              have a0 : (c.toNat == 43) = false := by rw [h]; rfl
              have a1 : (c.toNat == 63) = false := by rw [h]; rfl
              have a2 : (c.toNat == 124) = false := by rw [h]; rfl
              have a3 : (c.toNat == 40) = true := by rw [h]; rfl
              have a4 : (c.toNat == 41) = false := by rw [h]; rfl
              have a5 : (c.toNat == 123) = false := by rw [h]; rfl
              have a6 : (c.toNat == 125) = false := by rw [h]; rfl
              clear h
              go_wp2
              go_meet
              exact ⟨rfl, rfl⟩
            · have b0 : ((c.toNat : Int) == 43) = false := by rw [h]; rfl
              have b1 : ((c.toNat : Int) == 63) = false := by rw [h]; rfl
              have b2 : ((c.toNat : Int) == 124) = false := by rw [h]; rfl
              have b3 : ((c.toNat : Int) == 40) = false := by rw [h]; rfl
              have b4 : ((c.toNat : Int) == 41) = true := by rw [h]; rfl
              have b5 : ((c.toNat : Int) == 123) = false := by rw [h]; rfl
              have b6 : ((c.toNat : Int) == 125) = false := by rw [h]; rfl
              have a0 : (c.toNat == 43) = false := by rw [h]; rfl
              have a1 : (c.toNat == 63) = false := by rw [h]; rfl
              have a2 : (c.toNat == 124) = false := by rw [h]; rfl
              have a3 : (c.toNat == 40) = false := by rw [h]; rfl
              have a4 : (c.toNat == 41) = true := by rw [h]; rfl
              have a5 : (c.toNat == 123) = false := by rw [h]; rfl
              have a6 : (c.toNat == 125) = false := by rw [h]; rfl
              clear h
              go_wp2
              go_meet
              exact ⟨rfl, rfl⟩
            · have b0 : ((c.toNat : Int) == 43) = false := by rw [h]; rfl
              have b1 : ((c.toNat : Int) == 63) = false := by rw [h]; rfl
              have b2 : ((c.toNat : Int) == 124) = false := by rw [h]; rfl
              have b3 : ((c.toNat : Int) == 40) = false := by rw [h]; rfl
              have b4 : ((c.toNat : Int) == 41) = false := by rw [h]; rfl
              have b5 : ((c.toNat : Int) == 123) = true := by rw [h]; rfl
              have b6 : ((c.toNat : Int) == 125) = false := by rw [h]; rfl
              have a0 : (c.toNat == 43) = false := by rw [h]; rfl
              have a1 : (c.toNat == 63) = false := by rw [h]; rfl
              have a2 : (c.toNat == 124) = false := by rw [h]; rfl
              have a3 : (c.toNat == 40) = false := by rw [h]; rfl
              have a4 : (c.toNat == 41) = false := by rw [h]; rfl
              have a5 : (c.toNat == 123) = true := by rw [h]; rfl
              have a6 : (c.toNat == 125) = false := by rw [h]; rfl
              clear h
              go_wp2
              go_meet
              exact ⟨rfl, rfl⟩
            · have b0 : ((c.toNat : Int) == 43) = false := by rw [h]; rfl
              have b1 : ((c.toNat : Int) == 63) = false := by rw [h]; rfl
              have b2 : ((c.toNat : Int) == 124) = false := by rw [h]; rfl
              have b3 : ((c.toNat : Int) == 40) = false := by rw [h]; rfl
              have b4 : ((c.toNat : Int) == 41) = false := by rw [h]; rfl
              have b5 : ((c.toNat : Int) == 123) = false := by rw [h]; rfl
              have b6 : ((c.toNat : Int) == 125) = true := by rw [h]; rfl
              have a0 : (c.toNat == 43) = false := by rw [h]; rfl
              have a1 : (c.toNat == 63) = false := by rw [h]; rfl
              have a2 : (c.toNat == 124) = false := by rw [h]; rfl
              have a3 : (c.toNat == 40) = false := by rw [h]; rfl
              have a4 : (c.toNat == 41) = false := by rw [h]; rfl
              have a5 : (c.toNat == 123) = false := by rw [h]; rfl
              have a6 : (c.toNat == 125) = true := by rw [h]; rfl
              clear h
              go_wp2
              go_meet
              exact ⟨rfl, rfl⟩
          case rest =>
            obtain ⟨rfl, rfl⟩ := hcut
            clear hmk
            go_wp2_with fail
            have hb5 : Below w4.heap.size w4 (w4.alloc (.cells #[.int .u8 (c.toNat : Int)] 5)) := (Below.refl _ _).alloc (Nat.le_refl _) _
            have HB5 := Lib.hid (HB4.out.trans (hb5.mono HB4.out.size)); have HE5 := Lib.hid (HE.out.below HB5.out)
            clear hb5
            refine (HDB.out A _ _ fl HE5.out).mono ?_
            intro e w6 he
            obtain ⟨v6, F6, rfl, ho, -, hb2⟩ := he.ok HXB.out
            obtain ⟨p6, c6, rfl, -⟩ := ho.slice
            have HTR6 := Lib.hid (fun w' (hb : Below (w6.alloc (.cells (X.cells (.slice p6 X.subs.length c6)) 28)).heap.size (w6.alloc (.cells (X.cells (.slice p6 X.subs.length c6)) 28)) w') => (TreesAt.later (w' := w') (ho.trees) (((Below.refl w6.heap.size w6).alloc (Nat.le_refl _) (.cells (X.cells (.slice p6 X.subs.length c6)) 28)).trans (Below.mono hb (by simp)))))
            have hb3 := HB5.out.trans (hb2.mono HB5.out.size)
            have hk6 := hb2.alloc hb2.size (.cells (X.cells (.slice p6 X.subs.length c6)) 28)
            have HB6 := Lib.hid (hb3.alloc hb3.size (.cells (X.cells (.slice p6 X.subs.length c6)) 28))
            have HE6 := Lib.hid (HE.out.below HB6.out)
            have Z6 := Lib.hid (heap_alloc_new w6 (.cells (X.cells (.slice p6 X.subs.length c6)) 28))
            clear he ho hb2 hb3
            unfold Tr.cells at *
            have hcv2 := byte_text c (w6.heap.size + 1) ((w6.alloc (.cells (#[.int .i64 (X).kind, .int .u64 (Oc.U (X).w0), .int .u64 (Oc.U (X).w1), .int .u64 (Oc.U (X).w2), .int .u64 (Oc.U (X).w3), .slice p6 X.subs.length c6, .int .i64 (X).num, .int .i64 (X).least, .int .i64 (X).most, .bool (X).bare]) 28)).alloc (.cells #[.int .u8 (c.toNat : Int)] 5)) (by have := heap_alloc_new (w6.alloc (.cells (#[.int .i64 (X).kind, .int .u64 (Oc.U (X).w0), .int .u64 (Oc.U (X).w1), .int .u64 (Oc.U (X).w2), .int .u64 (Oc.U (X).w3), .slice p6 X.subs.length c6, .int .i64 (X).num, .int .i64 (X).least, .int .i64 (X).most, .bool (X).bare]) 28)) (.cells #[.int .u8 (c.toNat : Int)] 5); simpa using this)
            go_wp2_with fail
            clear hcv2
            have hb7 : Below (w6.alloc (.cells (#[.int .i64 (X).kind, .int .u64 (Oc.U (X).w0), .int .u64 (Oc.U (X).w1), .int .u64 (Oc.U (X).w2), .int .u64 (Oc.U (X).w3), .slice p6 X.subs.length c6, .int .i64 (X).num, .int .i64 (X).least, .int .i64 (X).most, .bool (X).bare]) 28)).heap.size (w6.alloc (.cells (#[.int .i64 (X).kind, .int .u64 (Oc.U (X).w0), .int .u64 (Oc.U (X).w1), .int .u64 (Oc.U (X).w2), .int .u64 (Oc.U (X).w3), .slice p6 X.subs.length c6, .int .i64 (X).num, .int .i64 (X).least, .int .i64 (X).most, .bool (X).bare]) 28)) ((w6.alloc (.cells (#[.int .i64 (X).kind, .int .u64 (Oc.U (X).w0), .int .u64 (Oc.U (X).w1), .int .u64 (Oc.U (X).w2), .int .u64 (Oc.U (X).w3), .slice p6 X.subs.length c6, .int .i64 (X).num, .int .i64 (X).least, .int .i64 (X).most, .bool (X).bare]) 28)).alloc (.cells #[.int .u8 (c.toNat : Int)] 5)) := (Below.refl _ _).alloc (Nat.le_refl _) _
            have HB7 := Lib.hid (HB6.out.trans (hb7.mono HB6.out.size)); have HE7 := Lib.hid (HE.out.below HB7.out)
            have Z7 := Lib.hid (keep_blk hb7 Z6.out)
            have HTR7 := Lib.hid (fun w' hb => HTR6.out w' (hb7.trans (Below.mono hb hb7.size)))
            clear hb7 hk6 HTR6 Z6
            refine (HDE.out A _ _ fl HE7.out).mono ?_
            intro e w8 he
            obtain ⟨v8, F8, rfl, ho, -, hb2⟩ := he.ok HXE.out
            obtain ⟨p8, c8, rfl, -⟩ := ho.slice
            have HTR8 := Lib.hid (fun w' (hb : Below (w8.alloc (.cells (X.cells (.slice p8 X.subs.length c8)) 28)).heap.size (w8.alloc (.cells (X.cells (.slice p8 X.subs.length c8)) 28)) w') => (TreesAt.later (w' := w') (ho.trees) (((Below.refl w8.heap.size w8).alloc (Nat.le_refl _) (.cells (X.cells (.slice p8 X.subs.length c8)) 28)).trans (Below.mono hb (by simp)))))
            have hb3 := HB7.out.trans (hb2.mono HB7.out.size)
            have hk8 := hb2.alloc hb2.size (.cells (X.cells (.slice p8 X.subs.length c8)) 28)
            have HB8 := Lib.hid (hb3.alloc hb3.size (.cells (X.cells (.slice p8 X.subs.length c8)) 28))
            have HE8 := Lib.hid (HE.out.below HB8.out)
            have Z8 := Lib.hid (heap_alloc_new w8 (.cells (X.cells (.slice p8 X.subs.length c8)) 28))
            clear he ho hb2 hb3
            unfold Tr.cells at *
            have ZA := Lib.hid (keep_blk hk8 Z7.out)
            have HTA := Lib.hid (HTR7.out _ hk8)
            have HTC := Lib.hid (HTR8.out _ (Below.refl _ _))
            clear hk8 HTR7 HTR8 Z7 hcv
            obtain ⟨d0, d1, d2, d3, d4, d5, d6, d7, d8, d9⟩ := allTen ZA.out
            obtain ⟨u0, u1, u2, u3, u4, u5, u6, u7, u8, u9⟩ := allTen Z8.out
            generalize hLL : X.subs.length = L at *
            clear hLL
            go_wp2_with fail
            refine (samenodes_any X X _ _ _ _ _ ⟨_, rfl, HTA.out⟩ ⟨_, rfl, HTC.out⟩).mono ?_
            intro e w9 h9
            obtain ⟨rfl, hb9⟩ := h9.yes rfl
            have HB9 := Lib.hid (HB8.out.trans (hb9.mono HB8.out.size))
            clear hb9 h9 d0 d1 d2 d3 d4 d5 d6 d7 d8 d9 u0 u1 u2 u3 u4 u5 u6 u7 u8 u9
            go_wp2
            go_ret
            exact ⟨rfl, HB9.out⟩
        · have hc : c.toNat ≠ 43 ∧ c.toNat ≠ 63 ∧ c.toNat ≠ 124 ∧ c.toNat ≠ 40 ∧ c.toNat ≠ 41 ∧ c.toNat ≠ 123 ∧ c.toNat ≠ 125 := by unfold mark7 at hmk; omega
          obtain ⟨n0, n1, n2, n3, n4, n5, n6⟩ := hc
          have b0 : ((c.toNat : Int) == 43) = false := by rw [beq_eq_false_iff_ne]; omega
          have b1 : ((c.toNat : Int) == 63) = false := by rw [beq_eq_false_iff_ne]; omega
          have b2 : ((c.toNat : Int) == 124) = false := by rw [beq_eq_false_iff_ne]; omega
          have b3 : ((c.toNat : Int) == 40) = false := by rw [beq_eq_false_iff_ne]; omega
          have b4 : ((c.toNat : Int) == 41) = false := by rw [beq_eq_false_iff_ne]; omega
          have b5 : ((c.toNat : Int) == 123) = false := by rw [beq_eq_false_iff_ne]; omega
          have b6 : ((c.toNat : Int) == 125) = false := by rw [beq_eq_false_iff_ne]; omega
          have a0 : (c.toNat == 43) = false := by rw [beq_eq_false_iff_ne]; omega
          have a1 : (c.toNat == 63) = false := by rw [beq_eq_false_iff_ne]; omega
          have a2 : (c.toNat == 124) = false := by rw [beq_eq_false_iff_ne]; omega
          have a3 : (c.toNat == 40) = false := by rw [beq_eq_false_iff_ne]; omega
          have a4 : (c.toNat == 41) = false := by rw [beq_eq_false_iff_ne]; omega
          have a5 : (c.toNat == 123) = false := by rw [beq_eq_false_iff_ne]; omega
          have a6 : (c.toNat == 125) = false := by rw [beq_eq_false_iff_ne]; omega
          clear n0 n1 n2 n3 n4 n5 n6 hmk HMK
          go_wp2
          go_ret
          exact ⟨rfl, HB4.out⟩
