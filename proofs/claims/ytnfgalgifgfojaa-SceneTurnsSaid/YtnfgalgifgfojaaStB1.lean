/- Part 1 of what these proofs need. -/
import Derived.WalkKit
import Derived.WalkSpells
import Derived.WalkLawsBesides
import Derived.Handy
import Derived.Lib.Hide
import Derived.Test.YtnfgalgifgfojaaChecked
import Derived.BigFrame
import Derived.BigQuiet
import Derived.RegionTactic
import Derived.Laws.AppendOwn
import Derived.Laws.AppendOwnNone
import Derived.Lib.UnsafeStr
import Derived.Laws.BytesArg
import Derived.Laws.IdiomStrings
import Derived.Deep.DeepCutAuto
import Derived.Ground.SlgnProg
import Derived.Shelf.SlicesE.Reverse
import Derived.Test.YtnfgalgifgfojaaProg
import Derived.Lib.ConvBytes
import Derived.Test.YtnfgalgifgfojaaRows
import Derived.ProofKit
import Derived.OpenShut
import Derived.ChangeOld
import Derived.ChangeMaps5
set_option maxRecDepth 100000
set_option maxHeartbeats 16000000
namespace Go.Proofs.Ytnfgalgifgfojaa
open Go.RowKit
theorem ret_int {k:IntKind} {a b:Int} (h:a=b):Ending.returned (.int k a)=.returned (.int k b):=by rw [h]
theorem four {w:World} {b:Nat} {x0 x1 x2 x3:Value} {t:TypeId} (h:w.heap[b]? = some (.cells #[x0,x1,x2,x3] t)) :
   w.cell? ⟨b,0,none⟩=some x0∧w.cell? ⟨b,1,none⟩=some x1∧w.cell? ⟨b,2,none⟩=some x2∧w.cell? ⟨b,3,none⟩=some x3 ∧
   w.frozen? ⟨b,0,none⟩=false∧w.frozen? ⟨b,1,none⟩=false∧w.frozen? ⟨b,2,none⟩=false∧w.frozen? ⟨b,3,none⟩=false:=by
 simp [World.cell?,World.frozen?,h]
theorem cell_new (w:World) (cs:Array Value) (t:TypeId) (j:Nat):(w.alloc (.cells cs t)).cell? ⟨w.heap.size,j,none⟩=cs[j]?:=by
 have e:(w.alloc (.cells cs t)).heap[w.heap.size]? = some (.cells cs t):=by show (w.heap.push _)[w.heap.size]? = _;simp
 unfold World.cell?;rw [e];rfl
theorem heap_setRow {w:World} {g:Nat} {old cs:Array Value} {t:TypeId} (h:w.heap[g]? = some (.cells old t)):(w.setRow g cs).heap[g]? = some (.cells cs t):=by
 simp [World.setRow,Array.getElem?_modify,h]
theorem keep_blk {w w':World} {g:Nat} {x:Obj} (hb:Below w.heap.size w w') (h:w.heap[g]? = some x):w'.heap[g]? = some x :=
 (hb.block g (Array.getElem?_eq_some_iff.1 h).1).trans h
theorem heap_setRow_other (w:World) (g:Nat) (cs:Array Value) {k:Nat} (h:k ≠ g):(w.setRow g cs).heap[k]? = w.heap[k]?:=by
 simp only [World.setRow,Array.getElem?_modify];rw [if_neg (Ne.symm h)]
end Go.Proofs.Ytnfgalgifgfojaa
namespace Go.Proofs.Ytnfgalgifgfojaa
open Go.RowKit
def cb (s:ByteArray) (i:Nat):Nat:=if h:i < s.size then s[i].toNat else 256
theorem cb_in {s:ByteArray} {i:Nat} (h:i < s.size):s[i].toNat=cb s i:=by unfold cb;rw [dif_pos h]
theorem cb_out {s:ByteArray} {i:Nat} (h:s.size ≤ i):cb s i=256:=by unfold cb;rw [dif_neg (by omega)]
theorem cb_lt {s:ByteArray} {i:Nat} (h:i < s.size):cb s i < 256:=by rw [← cb_in h];exact UInt8.toNat_lt _
structure Sc where
 t:ByteArray
 nl:Bool
 hd:Bool
 tl:Bool
namespace Sc
def inn (x:Sc) (i:Int):Bool:=decide (0 ≤ i) && decide (i < x.t.size)
def byt (x:Sc) (i:Int):Int:=if x.inn i then (cb x.t i.toNat:Int) else 0
def nlAt (x:Sc) (i:Int):Bool:=x.inn i && (x.nl && cb x.t i.toNat == 10)
def beg (x:Sc) (i:Int):Bool:=(x.hd && i == 0) || x.nlAt (i - 1)
def fin (x:Sc) (i:Int):Bool:=(x.tl && i == x.t.size) || x.nlAt i
def mks (x:Sc) (i:Int):Int:=(if x.beg i then 1 else 0)+(if x.fin i then 2 else 0)
theorem inn_nat (x:Sc) (k:Nat):x.inn (k:Int)=decide (k < x.t.size):=by
 unfold inn;simp
theorem inn_neg (x:Sc) {i:Int} (h:i < 0):x.inn i=false:=by
 unfold inn;rw [decide_eq_false (by omega)];rfl
theorem inn_big (x:Sc) {i:Int} (h:(x.t.size:Int) ≤ i):x.inn i=false:=by
 unfold inn;rw [show decide (i < (x.t.size:Int))=false from decide_eq_false (by omega),Bool.and_false]
theorem nlAt_out (x:Sc) {i:Int} (h:x.inn i=false):x.nlAt i=false:=by unfold nlAt;rw [h];rfl
theorem nlAt_neg (x:Sc) {i:Int} (h:i < 0):x.nlAt i=false:=x.nlAt_out (x.inn_neg h)
theorem nlAt_big (x:Sc) {i:Int} (h:(x.t.size:Int) ≤ i):x.nlAt i=false:=x.nlAt_out (x.inn_big h)
theorem nlAt_in (x:Sc) {k:Nat} (h:k < x.t.size):x.nlAt (k:Int)=(x.nl && cb x.t k == 10):=by
 unfold nlAt;rw [inn_nat,decide_eq_true h,Bool.true_and];rfl
def new (s:ByteArray) (c e:Int):Sc:=⟨s,bits .and .i64 c 4 != 0,bits .and .i64 e 1 == 0,bits .and .i64 e 2 == 0⟩
def rev (s:ByteArray):ByteArray:=⟨s.data.toList.reverse.toArray⟩
theorem rev_size (s:ByteArray):(rev s).size=s.size:=by
 show s.data.toList.reverse.toArray.size=s.data.size
 rw [List.size_toArray,List.length_reverse,Array.length_toList]
def turned (x:Sc):Sc:=⟨rev x.t,x.nl,x.tl,x.hd⟩
end Sc
def ScAt (w:World) (b:Nat) (x:Sc):Prop:=w.heap[b]? = some (.cells #[.string x.t,.bool x.nl,.bool x.hd,.bool x.tl] 36)
theorem ScAt.below {w w':World} {b:Nat} {x:Sc} (h:ScAt w b x) (hb:Below w.heap.size w w'):ScAt w' b x:=keep_blk hb h
theorem scbyte_any (x:Sc) (b:Nat) (i:Int) (w:World) (h:ScAt w b x) :
   Calls Try.prog 20 #[.pointer (some ⟨b,0,none⟩),.int .i64 i] w fun e w'=>e=.returned (.tuple #[.int .u8 (x.byt i),.bool (x.inn i)])∧w'=w:=by
 obtain ⟨c0,-,-,-,-⟩:=four h
 by_cases h0:i < 0
 · have hd:decide (i < 0)=true:=by simpa using h0
   rw [show x.byt i=0 by unfold Sc.byt;rw [x.inn_neg h0];rfl,x.inn_neg h0]
   go_enter Try.func20,Try.ntmps20
   go_wp2
   go_ret2
   exact ⟨rfl,rfl⟩
 · obtain ⟨k,rfl⟩:∃ k:Nat,i=k:=⟨i.toNat,by omega⟩
   have hd:decide ((k:Int) < 0)=false:=by simp
   by_cases h1:k < x.t.size
   · have hd1:decide ((x.t.size:Int) ≤ k)=false:=by simp;omega
     have hd2:decide (x.t.size ≤ k)=false:=by simp;omega
     have he:=cb_in h1
     rw [show x.byt (k:Int)=(cb x.t k:Int) by unfold Sc.byt;rw [x.inn_nat,decide_eq_true h1];rfl,x.inn_nat,decide_eq_true h1]
     go_enter Try.func20,Try.ntmps20
     go_wp2
     go_ret2
     exact ⟨rfl,rfl⟩
   · have hd1:decide ((x.t.size:Int) ≤ k)=true:=by simp;omega
     have hd2:decide (x.t.size ≤ k)=true:=by simp;omega
     rw [show x.byt (k:Int)=0 by unfold Sc.byt;rw [x.inn_nat,decide_eq_false h1];rfl,x.inn_nat,decide_eq_false h1]
     go_enter Try.func20,Try.ntmps20
     go_wp2
     go_ret2
     exact ⟨rfl,rfl⟩
theorem scnl_any (x:Sc) (b:Nat) (i:Int) (w:World) (h:ScAt w b x) :
   Calls Try.prog 18 #[.pointer (some ⟨b,0,none⟩),.int .i64 i] w fun e w'=>e=.returned (.bool (x.nlAt i))∧w'=w:=by
 have HB:=Lib.hid (scbyte_any x b i w h)
 obtain ⟨-,c1,-,-,-⟩:=four h
 clear h
 have hn:x.nlAt i=(x.inn i && (x.nl && x.byt i == 10)):=by
   unfold Sc.nlAt Sc.byt
   cases x.inn i with
   | false=>rfl
   | true=>simp only [Bool.true_and,if_true];congr 1;rw [Bool.eq_iff_iff];simp only [beq_iff_eq];omega
 rw [hn]
 clear hn
 generalize x.byt i=y at *
 generalize x.inn i=t at *
 generalize x.nl=n at *
 cases t <;> cases n <;> cases hy:(y == 10)
 all_goals
   go_enter Try.func18,Try.ntmps18
   go_wp2_with fail
   refine HB.out.mono ?_
   rintro e w' ⟨rfl,rfl⟩
   go_wp2
   go_ret
   exact ⟨rfl,rfl⟩
theorem Sc.nlAt_wrap (x:Sc) (i:Int) (hi : -9223372036854775808 ≤ i∧i ≤ 9223372036854775807) (ht:x.t.size ≤ 4611686018427387904):x.nlAt (wrap64 (i - 1))=x.nlAt (i - 1):=by
 by_cases hm:i = -9223372036854775808
 · have hw:wrap64 (i - 1)=9223372036854775807:=by unfold wrap64;omega
   rw [x.nlAt_neg (by omega:i - 1 < 0),x.nlAt_big (by omega)]
 · rw [show wrap64 (i - 1)=i - 1 by unfold wrap64;omega]
theorem scbeg_any (x:Sc) (b:Nat) (i:Int) (w:World) (h:ScAt w b x) (hi : -9223372036854775808 ≤ i∧i ≤ 9223372036854775807) (ht:x.t.size ≤ 4611686018427387904) :
   Calls Try.prog 11 #[.pointer (some ⟨b,0,none⟩),.int .i64 i] w fun e w'=>e=.returned (.bool (x.beg i))∧w'=w:=by
 have hn:=x.nlAt_wrap i hi ht
 have HN:=Lib.hid (scnl_any x b (wrap64 (i - 1)) w h)
 obtain ⟨-,-,c2,-,-⟩:=four h
 clear h hi ht
 unfold Sc.beg
 rw [← hn]
 clear hn
 generalize x.nlAt (wrap64 (i - 1))=y at *
 generalize x.hd=d at *
 cases d <;> cases hy:(i == 0)
 all_goals
   go_enter Try.func11,Try.ntmps11
   go_wp2_with fail
   first
     | (go_ret;exact ⟨rfl,rfl⟩)
     | (refine HN.out.mono ?_;rintro e w' ⟨rfl,rfl⟩;go_wp2;go_ret;exact ⟨rfl,rfl⟩)
theorem scfin_any (x:Sc) (b:Nat) (i:Int) (w:World) (h:ScAt w b x) :
   Calls Try.prog 12 #[.pointer (some ⟨b,0,none⟩),.int .i64 i] w fun e w'=>e=.returned (.bool (x.fin i))∧w'=w:=by
 have HN:=Lib.hid (scnl_any x b i w h)
 obtain ⟨c0,-,-,c3,-⟩:=four h
 clear h
 unfold Sc.fin
 generalize x.nlAt i=y at *
 generalize x.tl=d at *
 cases d <;> cases hy:(i == (x.t.size:Int))
 all_goals
   go_enter Try.func12,Try.ntmps12
   go_wp2_with fail
   first
     | (go_ret;exact ⟨rfl,rfl⟩)
     | (refine HN.out.mono ?_;rintro e w' ⟨rfl,rfl⟩;go_wp2;go_ret;exact ⟨rfl,rfl⟩)
theorem scmks_any (x:Sc) (b:Nat) (i:Int) (w:World) (h:ScAt w b x) (hi : -9223372036854775808 ≤ i∧i ≤ 9223372036854775807) (ht:x.t.size ≤ 4611686018427387904) :
   Calls Try.prog 10 #[.pointer (some ⟨b,0,none⟩),.int .i64 i] w fun e w'=>e=.returned (.int .i64 (x.mks i))∧w'=w:=by
 have HB:=Lib.hid (scbeg_any x b i w h hi ht)
 have HF:=Lib.hid (scfin_any x b i w h)
 clear h hi ht
 unfold Sc.mks
 generalize x.beg i=y at *
 generalize x.fin i=z at *
 cases y <;> cases z
 all_goals
   go_enter Try.func10,Try.ntmps10
   go_wp2_with fail
   refine HB.out.mono ?_;rintro e w' ⟨rfl,rfl⟩
   go_wp2_with fail
   refine HF.out.mono ?_;rintro e w' ⟨rfl,rfl⟩
   go_wp2
   go_ret
   exact ⟨rfl,rfl⟩
theorem sclen_any (x:Sc) (b:Nat) (w:World) (h:ScAt w b x) :
   Calls Try.prog 13 #[.pointer (some ⟨b,0,none⟩)] w fun e w'=>e=.returned (.int .i64 x.t.size)∧w'=w:=by
 obtain ⟨c0,-,-,-,-⟩:=four h
 go_enter Try.func13,Try.ntmps13
 go_wp2
 go_ret
 exact ⟨rfl,rfl⟩
theorem sctext_any (x:Sc) (b:Nat) (w:World) (h:ScAt w b x) :
   Calls Try.prog 14 #[.pointer (some ⟨b,0,none⟩)] w fun e w'=>e=.returned (.string x.t)∧w'=w:=by
 obtain ⟨c0,-,-,-,-⟩:=four h
 go_enter Try.func14,Try.ntmps14
 go_wp2
 go_ret
 exact ⟨rfl,rfl⟩
theorem scnew_any (s:ByteArray) (c e0:Int) (w:World) :
   Calls Try.prog 8 #[.string s,.int .i64 c,.int .i64 e0] w fun e w'=>e=.returned (.pointer (some ⟨w.heap.size,0,none⟩))∧ScAt w' w.heap.size (Sc.new s c e0)∧Below w.heap.size w w'∧w'.heap.size=w.heap.size+1:=by
 go_enter Try.func8,Try.ntmps8
 go_wp2
 go_ret
 refine ⟨rfl,heap_alloc_new _ _,(Below.refl _ _).alloc (Nat.le_refl _) _,by simp⟩
end Go.Proofs.Ytnfgalgifgfojaa
namespace Go.Proofs.Ytnfgalgifgfojaa
open Go.RowKit
namespace Sc
def of (s:ByteArray) (c e:Int) (T:Bool):Sc:=if T then (new s c e).turned else new s c e
def bB (x:Sc) (k:Nat):Bool:=if k=0 then x.hd else (x.nl && cb x.t (k - 1) == 10)
def fE (x:Sc) (k:Nat):Bool:=if k=x.t.size then x.tl else (x.nl && cb x.t k == 10)
theorem beg_nat (x:Sc) {k:Nat} (h:k ≤ x.t.size):x.beg (k:Int)=x.bB k:=by
 unfold beg bB
 by_cases h0:k=0
 · subst h0
   rw [if_pos rfl,x.nlAt_neg (by omega)]
   simp
 · rw [if_neg h0,show ((k:Int) == 0)=false by rw [beq_eq_false_iff_ne];omega,Bool.and_false,Bool.false_or,show (k:Int) - 1=((k - 1:Nat):Int) by omega,x.nlAt_in (by omega)]
theorem fin_nat (x:Sc) {k:Nat} (h:k ≤ x.t.size):x.fin (k:Int)=x.fE k:=by
 unfold fin fE
 by_cases h0:k=x.t.size
 · rw [if_pos h0,h0,x.nlAt_big (Int.le_refl _)]
   simp
 · rw [if_neg h0,show ((k:Int) == (x.t.size:Int))=false by rw [beq_eq_false_iff_ne];omega,Bool.and_false,Bool.false_or,x.nlAt_in (by omega)]
theorem beg_out (x:Sc) {i:Int} (h:i < 0 ∨ (x.t.size:Int) < i):x.beg i=false:=by
 unfold beg
 rcases h with h | h
 · rw [x.nlAt_neg (by omega),show (i == 0)=false by rw [beq_eq_false_iff_ne];omega];simp
 · rw [x.nlAt_big (by omega),show (i == 0)=false by rw [beq_eq_false_iff_ne];omega];simp
theorem fin_out (x:Sc) {i:Int} (h:i < 0 ∨ (x.t.size:Int) < i):x.fin i=false:=by
 unfold fin
 rcases h with h | h
 · rw [x.nlAt_neg (by omega),show (i == (x.t.size:Int))=false by rw [beq_eq_false_iff_ne];omega];simp
 · rw [x.nlAt_big (by omega),show (i == (x.t.size:Int))=false by rw [beq_eq_false_iff_ne];omega];simp
theorem cb_list (s:ByteArray) (i:Nat):cb s i=(s.data.toList[i]?).elim 256 UInt8.toNat:=by
 have hl:s.data.toList.length=s.size:=by simp
 by_cases h:i < s.size
 · rw [← cb_in h,List.getElem?_eq_getElem (by omega)]
   rfl
 · rw [cb_out (by omega),List.getElem?_eq_none (by omega)]
   rfl
theorem cb_rev (s:ByteArray) {j:Nat} (h:j < s.size):cb (rev s) j=cb s (s.size - 1 - j):=by
 have hl:s.data.toList.length=s.size:=by simp
 rw [cb_list,cb_list,show (rev s).data.toList=s.data.toList.reverse by unfold rev;simp,List.getElem?_reverse (by omega),hl]
theorem of_size (s:ByteArray) (c e:Int) (T:Bool):(of s c e T).t.size=s.size:=by
 unfold of
 cases T with
 | false=>rfl
 | true=>exact rev_size s
theorem bB_turned (x:Sc) {k:Nat} (h:k ≤ x.t.size):x.turned.bB k=x.fE (x.t.size - k):=by
 unfold bB fE
 show (if k=0 then x.tl else (x.nl && cb (rev x.t) (k - 1) == 10))=_
 by_cases h0:k=0
 · rw [if_pos h0,if_pos (by omega)]
 · rw [if_neg h0,if_neg (by omega),cb_rev x.t (by omega),show x.t.size - 1 - (k - 1)=x.t.size - k by omega]
theorem fE_turned (x:Sc) {k:Nat} (h:k ≤ x.t.size):x.turned.fE k=x.bB (x.t.size - k):=by
 unfold bB fE
 show (if k=(rev x.t).size then x.hd else (x.nl && cb (rev x.t) k == 10))=_
 rw [rev_size]
 by_cases h0:k=x.t.size
 · rw [if_pos h0,if_pos (by omega)]
 · rw [if_neg h0,if_neg (by omega),cb_rev x.t (by omega),show x.t.size - 1 - k=x.t.size - k - 1 by omega]
theorem rev_rev (s:ByteArray):rev (rev s)=s:=by
 unfold rev
 cases s
 simp
theorem turned_turned (x:Sc):x.turned.turned=x:=by
 cases x
 unfold turned
 simp only [rev_rev]
end Sc
theorem rin_any (s:ByteArray) (c e0:Int) (T:Bool) (i:Int) (w:World) :
   Calls Try.prog 24 #[.agg #[.string s,.int .i64 c,.int .i64 e0,.bool T],.int .i64 i] w fun e w'=>e=.returned (.bool (decide (0 ≤ i) && decide (i ≤ s.size)))∧Below w.heap.size w w':=by
 have Z0:=heap_alloc_new w (.cells #[.string s,.int .i64 c,.int .i64 e0,.bool T] 27)
 have HW:=Lib.hid (show Below w.heap.size w (w.alloc (.cells #[.string s,.int .i64 c,.int .i64 e0,.bool T] 27)) from (Below.refl _ _).alloc (Nat.le_refl _) _)
 obtain ⟨c0,-,-,-,-⟩:=four Z0
 by_cases h0:0 ≤ i
 · have hd:decide (0 ≤ i)=true:=by simpa using h0
   rw [hd,Bool.true_and]
   go_enter Try.func24,Try.ntmps24
   go_wp2
   go_ret
   exact ⟨rfl,HW.out⟩
 · have hd:decide (0 ≤ i)=false:=by simpa using h0
   rw [hd,Bool.false_and]
   go_enter Try.func24,Try.ntmps24
   go_wp2
   go_ret
   exact ⟨rfl,HW.out⟩
theorem rplace_any (s:ByteArray) (c e0:Int) (k:Nat) (hk:k ≤ s.size) (hs:s.size ≤ 140737488351232) (w:World) :
   Calls Try.prog 26 #[.agg #[.string s,.int .i64 c,.int .i64 e0,.bool true],.int .i64 (k:Int)] w fun e w'=>e=.returned (.int .i64 ((s.size - k:Nat):Int))∧Below w.heap.size w w':=by
 have Z0:=heap_alloc_new w (.cells #[.string s,.int .i64 c,.int .i64 e0,.bool true] 27)
 have HW:=Lib.hid (show Below w.heap.size w (w.alloc (.cells #[.string s,.int .i64 c,.int .i64 e0,.bool true] 27)) from (Below.refl _ _).alloc (Nat.le_refl _) _)
 obtain ⟨c0,-,-,c3,-⟩:=four Z0
 go_enter Try.func26,Try.ntmps26
 go_wp2
 go_ret
 refine ⟨?_,HW.out⟩
 show Ending.returned (.int .i64 ((s.size:Int) - (k:Int)))=_
 exact ret_int (by omega)
theorem rbegin_any (s:ByteArray) (c e0:Int) (T:Bool) (k:Nat) (hk:k ≤ s.size) (hs:s.size ≤ 140737488351232) (w:World) :
   Calls Try.prog 27 #[.agg #[.string s,.int .i64 c,.int .i64 e0,.bool T],.int .i64 (k:Int)] w fun e w'=>e=.returned (.bool ((Sc.new s c e0).bB k))∧Below w.heap.size w w':=by
 have Z0:=heap_alloc_new w (.cells #[.string s,.int .i64 c,.int .i64 e0,.bool T] 27)
 have HW:=Lib.hid (show Below w.heap.size w (w.alloc (.cells #[.string s,.int .i64 c,.int .i64 e0,.bool T] 27)) from (Below.refl _ _).alloc (Nat.le_refl _) _)
 obtain ⟨c0,c1,c2,-,-⟩:=four Z0
 unfold Sc.bB
 show Calls _ _ _ _ fun e w'=>e=.returned (.bool (if k=0 then (bits .and .i64 e0 1 == 0) else ((bits .and .i64 c 4 != 0) && cb s (k - 1) == 10)))∧_
 by_cases h0:k=0
 · subst h0
   rw [if_pos rfl]
   cases hb:(bits .and .i64 e0 1 == 0)
   all_goals
     have hb':(bits .and .i64 e0 1 != 0) = !(bits .and .i64 e0 1 == 0):=rfl
     rw [hb] at hb'
     go_enter Try.func27,Try.ntmps27
     go_wp2
     go_ret
     exact ⟨rfl,HW.out⟩
 · obtain ⟨j,rfl⟩:∃ j,k=j+1:=⟨k - 1,by omega⟩
   rw [if_neg h0,Nat.add_sub_cancel]
   have hz:(((j+1:Nat):Int) == 0)=false:=by rw [beq_eq_false_iff_ne];omega
   have hp:decide ((0:Int) < ((j+1:Nat):Int))=true:=decide_eq_true (by omega)
   have hl:decide (((j+1:Nat):Int) ≤ (s.size:Int))=true:=decide_eq_true (by omega)
   have hj:j < s.size:=by omega
   have wj:wrap64 (((j+1:Nat):Int) - 1)=(j:Int):=by unfold wrap64;omega
   have he:((s[j].toNat:Int) == 10)=(cb s j == 10):=by rw [cb_in hj,Bool.eq_iff_iff];simp only [beq_iff_eq];omega
   generalize hK:((j+1:Nat):Int)=K at *
   clear hK
   cases hb:(bits .and .i64 c 4 != 0)
   all_goals
     go_enter Try.func27,Try.ntmps27
     go_wp2
     go_ret
     exact ⟨rfl,HW.out⟩
theorem rend_any (s:ByteArray) (c e0:Int) (T:Bool) (k:Nat) (hk:k ≤ s.size) (w:World) :
   Calls Try.prog 25 #[.agg #[.string s,.int .i64 c,.int .i64 e0,.bool T],.int .i64 (k:Int)] w fun e w'=>e=.returned (.bool ((Sc.new s c e0).fE k))∧Below w.heap.size w w':=by
 have Z0:=heap_alloc_new w (.cells #[.string s,.int .i64 c,.int .i64 e0,.bool T] 27)
 have HW:=Lib.hid (show Below w.heap.size w (w.alloc (.cells #[.string s,.int .i64 c,.int .i64 e0,.bool T] 27)) from (Below.refl _ _).alloc (Nat.le_refl _) _)
 obtain ⟨c0,c1,c2,-,-⟩:=four Z0
 unfold Sc.fE
 show Calls _ _ _ _ fun e w'=>e=.returned (.bool (if k=s.size then (bits .and .i64 e0 2 == 0) else ((bits .and .i64 c 4 != 0) && cb s k == 10)))∧_
 by_cases h0:k=s.size
 · rw [if_pos h0]
   have hz:((k:Int) == (s.size:Int))=true:=by rw [beq_iff_eq];omega
   clear h0
   cases hb:(bits .and .i64 e0 2 == 0)
   all_goals
     have hb':(bits .and .i64 e0 2 != 0) = !(bits .and .i64 e0 2 == 0):=rfl
     rw [hb] at hb'
     go_enter Try.func25,Try.ntmps25
     go_wp2
     go_ret
     exact ⟨rfl,HW.out⟩
 · rw [if_neg h0]
   have hz:((k:Int) == (s.size:Int))=false:=by rw [beq_eq_false_iff_ne];omega
   have hj:k < s.size:=by omega
   have hl:decide ((k:Int) < (s.size:Int))=true:=by simp;omega
   have hl':decide (k < s.size)=true:=by simpa using hj
   have he:((s[k].toNat:Int) == 10)=(cb s k == 10):=by rw [cb_in hj,Bool.eq_iff_iff];simp only [beq_iff_eq];omega
   cases hb:(bits .and .i64 c 4 != 0)
   all_goals
     go_enter Try.func25,Try.ntmps25
     go_wp2
     go_ret
     exact ⟨rfl,HW.out⟩
end Go.Proofs.Ytnfgalgifgfojaa
namespace Go.Proofs.Ytnfgalgifgfojaa
open Go.RowKit
namespace Ri
def up {T:Type} (f:Nat→T) (i:Nat) (x:T):Nat→T:=fun j=>if j=i then x else f j
theorem up_same {T:Type} (f:Nat→T) (i:Nat) (x:T):up f i x i=x:=by simp [up]
theorem up_other {T:Type} (f:Nat→T) (i:Nat) (x:T) (j:Nat) (h:j ≠ i):up f i x j=f j:=by simp [up,h]
def backward (ops:Array Oper):Bool:=(List.range ops.size).all fun i=>((ops[i]?).map fun o=>o.after.all fun e=>!Region.binds .any e || decide (e.on < i)).getD true
variable {P:Program} {ops:Array Oper} {Q:Exit→Act→World→Prop}
theorem all_listed (hb:backward ops=true) {listed:Array Bool} (hr:Region.ready .any ops listed=[]) (hs:listed.size=ops.size):∀ i,i < ops.size→listed.getD i false=true:=by
 intro i
 induction i using Nat.strongRecOn with
 | _ i ih =>
   intro hi
   cases hl:listed.getD i false with
   | true=>rfl
   | false =>
     exfalso
     have hmem:i ∈ Region.ready .any ops listed:=by
       unfold Region.ready
       refine List.mem_filter.2 ⟨List.mem_range.2 hi, ?_⟩
       have h1:listed.getD i true=false:=by
         have:i < listed.size:=by omega
         simp only [Array.getD,this,dif_pos] at hl ⊢
         exact hl
       have ho:ops[i]? = some ops[i]:=Array.getElem?_eq_getElem hi
       rw [h1,ho]
       simp only [Bool.not_false,Bool.true_and,Option.map_some,Option.getD_some]
       rw [Array.all_eq_true_iff_forall_mem]
       intro e he
       cases hbi:Region.binds .any e with
       | false=>rfl
       | true =>
         have hlt:e.on < i:=by
           have h2:=List.all_eq_true.1 hb i (List.mem_range.2 hi)
           rw [ho] at h2
           simp only [Option.map_some,Option.getD_some] at h2
           have h3:=(Array.all_eq_true_iff_forall_mem.1 h2) e he
           rw [hbi] at h3
           simpa using h3
         simp [ih e.on hlt (by omega)]
     rw [hr] at hmem
     cases hmem
theorem wpAny_inv (hb:backward ops=true) (I:(Nat→Bool)→(Nat→Value)→World→Prop) (A:(Nat→Bool)→(Nat→Value)→Act)
   (step:∀ i,i < ops.size→∀ L v w,I L v w→L i=false→(∀ o,ops[i]? = some o→∀ e ∈ o.after,Region.binds .any e=true→L e.on=true) →
     wpOp P ops Q i (fun a' w'=>∃ u,a'=A (up L i true) (up v i u)∧I (up L i true) (up v i u) w') (A L v) w)
   (fin:∀ L v w,(∀ i,i < ops.size→L i=true)→I L v w→Q .normal (A L v) w) :
   ∀ (fuel:Nat) (U:List Nat) (listed:Array Bool) (v:Nat→Value) (w:World),listed.size=ops.size→U.length ≤ fuel→(∀ i,i < ops.size→listed.getD i false=false→i ∈ U) →
     I (fun i=>listed.getD i false) v w→wpAny P .any ops Q fuel listed (A (fun i=>listed.getD i false) v) w:=by
 intro fuel
 induction fuel with
 | zero =>
   intro U listed v w hs hU hin hI
   have hnil:U=[]:=List.eq_nil_of_length_eq_zero (by omega)
   subst hnil
   have hall:∀ i,i < ops.size→listed.getD i false=true:=fun i hi=>by
     cases h:listed.getD i false with
     | true=>rfl
     | false=>exact absurd (hin i hi h) (by simp)
   refine ⟨?_,fin _ v w hall hI⟩
   unfold Region.ready
   rw [List.filter_eq_nil_iff]
   intro i hi
   have hi':=List.mem_range.1 hi
   have h1:listed.getD i true=true:=by
     have h0:=hall i hi'
     have:i < listed.size:=by omega
     simp only [Array.getD,this,dif_pos] at h0 ⊢
     exact h0
   simp [h1]
 | succ fuel ih =>
   intro U listed v w hs hU hin hI
   refine ⟨fun hr=>fin _ v w (all_listed hb hr hs) hI,fun i hi=>?_⟩
   unfold Region.ready at hi
   obtain ⟨hir,hcond⟩:=List.mem_filter.1 hi
   have hin':=List.mem_range.1 hir
   have ho:ops[i]? = some ops[i]:=Array.getElem?_eq_getElem hin'
   rw [ho] at hcond
   simp only [Bool.and_eq_true,Option.map_some,Option.getD_some] at hcond
   obtain ⟨hl,hafter⟩:=hcond
   have hlf:listed.getD i false=false:=by
     have:i < listed.size:=by omega
     simp only [Array.getD,this,dif_pos] at hl ⊢
     simpa using hl
   have hst:=step i hin' (fun j=>listed.getD j false) v w hI hlf (fun o hoo e he hbi=>by
     rw [ho] at hoo;cases hoo
     have h3:=(Array.all_eq_true_iff_forall_mem.1 hafter) e he
     rw [hbi] at h3
     simpa using h3)
   refine wpOp_mono (fun a' w' h=>?_) hst
   obtain ⟨u,rfl,hI'⟩:=h
   have hup:(fun j=>(listed.setIfInBounds i true).getD j false)=up (fun j=>listed.getD j false) i true:=by
     funext j
     unfold up
     by_cases e:j=i
     · subst e
       have:j < (listed.setIfInBounds j true).size:=by simp;omega
       simp [Array.getD];omega
     · rw [if_neg e]
       simp only [Array.getD,Array.size_setIfInBounds]
       split
       · rename_i h;exact Array.getElem_setIfInBounds_ne h (Ne.symm e)
       · rfl
   have hmemU:i ∈ U:=hin i hin' hlf
   have:=ih (U.erase i) (listed.setIfInBounds i true) (up v i u) w' (by simpa using hs) (by rw [List.length_erase_of_mem hmemU];have:=List.length_pos_of_mem hmemU;omega)
     (fun j hj hjl=>by
       have hj2:(up (fun j=>listed.getD j false) i true) j=false:=by rw [← hup];exact hjl
       by_cases e:j=i
       · subst e;rw [up_same] at hj2;cases hj2
       · rw [up_other _ _ _ _ e] at hj2
         exact (List.mem_erase_of_ne e).2 (hin j hj hj2))
     (by rw [hup];exact hI')
   rw [hup] at this
   exact this
theorem wp_region_inv {id:Nat} {a:Act} {w:World} (hm:P.follows .mixedOrders=true) (hb:backward ops=true) (I:(Nat→Bool)→(Nat→Value)→World→Prop) (A:(Nat→Bool)→(Nat→Value)→Act)
   (ha:a=A (fun _=>false) (fun _=>undef)) (hi:I (fun _=>false) (fun _=>undef) w.drew)
   (step:∀ i,i < ops.size→∀ L v w,I L v w→L i=false→(∀ o,ops[i]? = some o→∀ e ∈ o.after,Region.binds .any e=true→L e.on=true) →
     wpOp P ops Q i (fun a' w'=>∃ u,a'=A (up L i true) (up v i u)∧I (up L i true) (up v i u) w') (A L v) w)
   (fin:∀ L v w,(∀ i,i < ops.size→L i=true)→I L v w→Q .normal (A L v) w) :
   (Code.region id ops true).wp P Q a w:=by
 refine wp_region_any hm ?_
 have hz:(fun i=>(Array.replicate ops.size false).getD i false)=fun _=>false:=by
   funext i;simp only [Array.getD,Array.size_replicate];split <;> simp
 have:=wpAny_inv (P:=P) hb I A step fin ops.size (List.range ops.size) (Array.replicate ops.size false) (fun _=>undef) w.drew (by simp) (by simp) (fun i hi _=>List.mem_range.2 hi) (by rw [hz];exact hi)
 rw [hz,← ha] at this
 exact this
def frame (ops:Array Oper) (a:Act) (L:Nat→Bool) (v:Nat→Value):Act :=
 { a with tmps:=ops.toList.zipIdx.foldl (fun t p=>match p.1.dst with | some d=>if L p.2 then t.setIfInBounds d (v p.2) else t | none=>t) a.tmps }
def apart (ops:Array Oper):Bool:=(ops.toList.filterMap (·.dst)).eraseDups.length == (ops.toList.filterMap (·.dst)).length && ops.toList.zipIdx.all fun p=>ops.toList.zipIdx.all fun q=>p.2 == q.2 || p.1.dst == none || p.1.dst != q.1.dst
theorem fold_size (L:Nat→Bool) (v:Nat→Value):∀ (l:List (Oper × Nat)) (t:Array Value),
   (l.foldl (fun t p=>match p.1.dst with | some d=>if L p.2 then t.setIfInBounds d (v p.2) else t | none=>t) t).size=t.size:=by
 intro l
 induction l with
 | nil=>intro t;rfl
 | cons p l ih =>
   intro t
   rw [List.foldl_cons,ih]
   split
   · split <;> simp
   · rfl
theorem fold_other (L:Nat→Bool) (v:Nat→Value) (s:Nat):∀ (l:List (Oper × Nat)) (t:Array Value),(∀ p ∈ l,p.1.dst ≠ some s) →
   (l.foldl (fun t p=>match p.1.dst with | some d=>if L p.2 then t.setIfInBounds d (v p.2) else t | none=>t) t)[s]? = t[s]?:=by
 intro l
 induction l with
 | nil=>intro t _;rfl
 | cons p l ih =>
   intro t h
   rw [List.foldl_cons,ih _ (fun q hq=>h q (List.mem_cons_of_mem _ hq))]
   have hp:=h p (List.mem_cons_self ..)
   split
   · rename_i d hd
     split
     · rw [Array.getElem?_setIfInBounds_ne];intro e;subst e;exact hp hd
     · rfl
   · rfl
theorem fold_own (L:Nat→Bool) (v:Nat→Value) (s:Nat) (i:Nat):∀ (l:List (Oper × Nat)) (t:Array Value),s < t.size→(∃ p ∈ l,p.1.dst=some s∧p.2=i)→(∀ p ∈ l,p.1.dst=some s→p.2=i) →
   (l.foldl (fun t p=>match p.1.dst with | some d=>if L p.2 then t.setIfInBounds d (v p.2) else t | none=>t) t)[s]? = if L i then some (v i) else t[s]?:=by
 intro l
 induction l with
 | nil=>rintro t _ ⟨p,hp,_⟩ _;cases hp
 | cons p l ih =>
   intro t hs hex hun
   rw [List.foldl_cons]
   by_cases hp:p.1.dst=some s
   · have hi:=hun p (List.mem_cons_self ..) hp
     rw [hp,hi]
     simp only []
     by_cases hl:∃ q ∈ l,q.1.dst=some s∧q.2=i
     · rw [ih _ (by split <;> simpa using hs) hl (fun q hq=>hun q (List.mem_cons_of_mem _ hq))]
       cases L i <;> simp
     · rw [fold_other L v s l _ (fun q hq e=>hl ⟨q,hq,e,hun q (List.mem_cons_of_mem _ hq) e⟩)]
       cases L i <;> simp [hs]
   · obtain ⟨q,hq,hqd,hqi⟩:=hex
     rcases List.mem_cons.1 hq with rfl | hq
     · exact absurd hqd hp
     · have hne:∀ d,p.1.dst=some d→d ≠ s:=fun d hd e=>hp (by rw [hd,e])
       rw [ih _ (by split <;> (try split) <;> simpa using hs) ⟨q,hq,hqd,hqi⟩ (fun q hq=>hun q (List.mem_cons_of_mem _ hq))]
       congr 1
       split
       · rename_i d hd
         split
         · rw [Array.getElem?_setIfInBounds_ne (hne d hd)]
         · rfl
       · rfl
theorem mem_zip {ops:Array Oper} {p:Oper × Nat} (h:p ∈ ops.toList.zipIdx):ops[p.2]? = some p.1:=by
 obtain ⟨_,_,h3⟩:=List.mem_zipIdx (x:=p.1) (i:=p.2) (k:=0) h
 rw [Array.getElem?_eq_some_iff]
 exact ⟨by rename_i h2;simpa using h2,by rw [h3];simp⟩
theorem zip_mem {ops:Array Oper} {i:Nat} {o:Oper} (h:ops[i]? = some o):(o,i) ∈ ops.toList.zipIdx:=by
 rw [List.mem_zipIdx_iff_getElem?]
 simpa using h
theorem apart_un (hap:apart ops=true) {i j:Nat} {o o':Oper} {d:Nat} (hi:ops[i]? = some o) (hj:ops[j]? = some o') (h1:o.dst=some d) (h2:o'.dst=some d):i=j:=by
 unfold apart at hap
 rw [Bool.and_eq_true] at hap
 have h3:=List.all_eq_true.1 (List.all_eq_true.1 hap.2 _ (zip_mem hi)) _ (zip_mem hj)
 simpa [h1,h2] using h3
theorem frame_size (a:Act) (L:Nat→Bool) (v:Nat→Value):(frame ops a L v).tmps.size=a.tmps.size:=fold_size L v _ _
theorem frame_own (hap:apart ops=true) (a:Act) (L:Nat→Bool) (v:Nat→Value) {i d:Nat} {o:Oper} (ho:ops[i]? = some o) (hd:o.dst=some d) (hs:d < a.tmps.size) :
   (frame ops a L v).tmps[d]? = if L i then some (v i) else a.tmps[d]? :=
 fold_own L v d i _ _ hs ⟨_,zip_mem ho,hd,rfl⟩ (fun _ hp e=>(apart_un hap ho (mem_zip hp) hd e).symm)
theorem frame_other (a:Act) (L:Nat→Bool) (v:Nat→Value) {d:Nat} (h:∀ (i:Nat) (o:Oper),ops[i]? = some o→o.dst ≠ some d):(frame ops a L v).tmps[d]? = a.tmps[d]? :=
 fold_other L v d _ _ (fun p hp=>h p.2 p.1 (mem_zip hp))
theorem frame_put (hap:apart ops=true) (a:Act) (L:Nat→Bool) (v:Nat→Value) {i:Nat} {o:Oper} (ho:ops[i]? = some o) (u:Value) :
   (frame ops a L v).put o.dst u=frame ops a (up L i true) (up v i u):=by
 have key:∀ s:Nat,((frame ops a L v).put o.dst u).tmps[s]? = (frame ops a (up L i true) (up v i u)).tmps[s]?:=by
   intro s
   by_cases hs:s < a.tmps.size
   · by_cases hex:∃ (j:Nat) (o':Oper),ops[j]? = some o'∧o'.dst=some s
     · obtain ⟨j,o',hj,hd⟩:=hex
       rw [frame_own hap a _ _ hj hd hs]
       by_cases e:j=i
       · subst e
         rw [ho] at hj;cases hj
         rw [hd,up_same,up_same]
         simp only [Act.put,if_true]
         rw [Array.getElem?_setIfInBounds_self,if_pos (by rw [frame_size];exact hs)]
       · rw [up_other _ _ _ _ e,up_other _ _ _ _ e,← frame_own hap a L v hj hd hs]
         cases hod:o.dst with
         | none=>rfl
         | some d =>
           simp only [Act.put]
           rw [Array.getElem?_setIfInBounds_ne]
           intro e';subst e';exact e (apart_un hap hj ho hd hod)
     · have hno:∀ (j:Nat) (o':Oper),ops[j]? = some o'→o'.dst ≠ some s:=fun j o' h1 h2=>hex ⟨j,o',h1,h2⟩
       rw [frame_other a _ _ hno,← frame_other a L v hno]
       cases hod:o.dst with
       | none=>rfl
       | some d =>
         simp only [Act.put]
         rw [Array.getElem?_setIfInBounds_ne]
         intro e';subst e';exact hno i o ho hod
   · have h1:(frame ops a (up L i true) (up v i u)).tmps[s]? = none:=Array.getElem?_eq_none (by rw [frame_size];omega)
     have h2:((frame ops a L v).put o.dst u).tmps[s]? = none:=by
       refine Array.getElem?_eq_none ?_
       cases o.dst <;> simp [Act.put,frame_size] <;> omega
     rw [h1,h2]
 have ht:((frame ops a L v).put o.dst u).tmps=(frame ops a (up L i true) (up v i u)).tmps:=Array.ext_getElem? key
 have hd:((frame ops a L v).put o.dst u).defers=(frame ops a (up L i true) (up v i u)).defers:=by cases o.dst <;> rfl
 generalize (frame ops a L v).put o.dst u=x at *
 generalize frame ops a (up L i true) (up v i u)=y at *
 cases x;cases y;simp_all
theorem fold_none (v:Nat→Value):∀ (l:List (Oper × Nat)) (t:Array Value),
   l.foldl (fun t p=>match p.1.dst with | some d=>if (fun _:Nat=>false) p.2 then t.setIfInBounds d (v p.2) else t | none=>t) t=t:=by
 intro l
 induction l with
 | nil=>intro t;rfl
 | cons p l ih=>intro t;rw [List.foldl_cons];cases p.1.dst <;> exact ih t
theorem wp_region_frame {id:Nat} {a:Act} {w:World} (hm:P.follows .mixedOrders=true) (hb:backward ops=true) (hap:apart ops=true) (hsz0:(ops.toList.all fun o=>o.dst.all fun d=>decide (d < a.tmps.size))=true)
   (I:(Nat→Bool)→(Nat→Value)→World→Prop)
   (hi:I (fun _=>false) (fun _=>undef) w.drew)
   (step:∀ i,i < ops.size→∀ L v w (a':Act),I L v w→L i=false→(∀ o,ops[i]? = some o→∀ e ∈ o.after,Region.binds .any e=true→L e.on=true) →
     (∀ j d:Nat,(ops[j]?).bind (·.dst)=some d→L j=true→a'.tmps.getD d undef=v j)→(∀ d,ops.toList.all (fun o=>o.dst != some d)=true→a'.tmps.getD d undef=a.tmps.getD d undef) →
     wpOp P ops Q i (fun b w'=>∃ (o:Oper) (u:Value),ops[i]? = some o∧b=a'.put o.dst u∧I (up L i true) (up v i u) w') a' w)
   (fin:∀ v w,I (fun i=>decide (i < ops.size)) v w→Q .normal (frame ops a (fun _=>true) v) w) :
   (Code.region id ops true).wp P Q a w:=by
 have hsz:∀ (i:Nat) (o:Oper) (d:Nat),ops[i]? = some o→o.dst=some d→d < a.tmps.size:=fun i o d h1 h2=>by
   have:=List.all_eq_true.1 hsz0 o (Array.mem_toList_iff.2 (Array.mem_of_getElem? h1))
   rw [h2] at this
   simpa using this
 refine wp_region_inv hm hb (fun L v w=>I L v w∧∀ i,ops.size ≤ i→L i=false) (frame ops a) ?_ ⟨hi,fun _ _=>rfl⟩ ?_ ?_
 · have:=fold_none (fun _=>undef) ops.toList.zipIdx a.tmps
   unfold frame;rw [show (List.foldl _ a.tmps _)=a.tmps from this]
 · intro i hin L v w ⟨hI,hL⟩ hLi hd
   refine wpOp_mono ?_ (step i hin L v w (frame ops a L v) hI hLi hd ?_ ?_)
   · rintro b w' ⟨o,u,ho,rfl,hI'⟩
     exact ⟨u,frame_put hap a L v ho u,hI',fun j hj=>by rw [up_other _ _ _ _ (by omega)];exact hL j hj⟩
   · intro j d hjd hlj
     obtain ⟨o,ho,hod⟩:=Option.bind_eq_some_iff.1 hjd
     have hs:=hsz j o d ho hod
     have:=frame_own hap a L v ho hod hs
     rw [hlj,if_pos rfl] at this
     rw [Array.getD_eq_getD_getElem?,this];rfl
   · intro d hall
     have hno:∀ (j:Nat) (o:Oper),ops[j]? = some o→o.dst ≠ some d:=fun j o ho=>by
       have:=List.all_eq_true.1 hall o (Array.mem_toList_iff.2 (Array.mem_of_getElem? ho))
       simpa using this
     rw [Array.getD_eq_getD_getElem?,Array.getD_eq_getD_getElem?,frame_other a L v hno]
 · intro L v w hall ⟨hI,hL⟩
   have e:L=fun i=>decide (i < ops.size):=by
     funext i
     by_cases h:i < ops.size
     · rw [hall i h];simp [h]
     · rw [hL i (by omega)];simp [h]
   have e2:frame ops a L v=frame ops a (fun _=>true) v:=by
     have:∀ s:Nat,(frame ops a L v).tmps[s]? = (frame ops a (fun _=>true) v).tmps[s]?:=by
       intro s
       by_cases hex:∃ (j:Nat) (o':Oper),ops[j]? = some o'∧o'.dst=some s
       · obtain ⟨j,o',hj,hd⟩:=hex
         have hs:=hsz j o' s hj hd
         rw [frame_own hap a _ _ hj hd hs,frame_own hap a _ _ hj hd hs,hall j (Array.getElem?_eq_some_iff.1 hj).1]
       · have hno:∀ (j:Nat) (o':Oper),ops[j]? = some o'→o'.dst ≠ some s:=fun j o' h1 h2=>hex ⟨j,o',h1,h2⟩
         rw [frame_other a _ _ hno,frame_other a _ _ hno]
     have ht:=Array.ext_getElem? this
     have hd:(frame ops a L v).defers=(frame ops a (fun _=>true) v).defers:=rfl
     generalize frame ops a L v=x at *
     generalize frame ops a (fun _=>true) v=y at *
     cases x;cases y;simp_all
   rw [e2]
   exact fin v w (e ▸ hI)
theorem step_plain {i:Nat} {o:Oper} {K:Act→World→Prop} {a:Act} {w:World} (ho:ops[i]? = some o) (hg:o.guard=none)
   (h:∀ K':Act→World→Prop,(∀ a w,K a w→K' a w)→Oper.wp P o a w K' Q):wpOp P ops Q i K a w :=
 wpOp_step ho fun K' hK=>by rw [if_pos (by simp [Region.wanted,hg])];exact h K' hK
theorem some_of_getD {t:Array Value} {i:Nat} {b:Bool} (h:t.getD i undef=.bool b):t[i]? = some (.bool b):=by
 rw [Array.getD_eq_getD_getElem?] at h
 cases hx:t[i]? with
 | none=>rw [hx] at h;cases h
 | some v=>rw [hx] at h;exact congrArg some h
theorem step_wanted {i j d:Nat} {b:Bool} {o:Oper} {K:Act→World→Prop} {a:Act} {w:World} (ho:ops[i]? = some o) (hg:o.guard=some (j,b)) (hd:(ops[j]?).bind (·.dst)=some d) (hv:a.tmps.getD d undef=.bool b)
   (h:∀ K':Act→World→Prop,(∀ a w,K a w→K' a w)→Oper.wp P o a w K' Q):wpOp P ops Q i K a w :=
 wpOp_step ho fun K' hK=>by
   rw [if_pos (by simp [Region.wanted,hg,yielded,hd,some_of_getD hv])];exact h K' hK
end Ri
end Go.Proofs.Ytnfgalgifgfojaa
namespace Go.Proofs.Ytnfgalgifgfojaa
open Go.RowKit
theorem rbeg_any (s:ByteArray) (c e0:Int) (T:Bool) (i:Int) (hs:s.size ≤ 140737488351232) (w:World) :
   Calls Try.prog 21 #[.agg #[.string s,.int .i64 c,.int .i64 e0,.bool T],.int .i64 i] w fun e w'=>e=.returned (.bool ((Sc.of s c e0 T).beg i))∧Below w.heap.size w w':=by
 have Z0:=Lib.hid (heap_alloc_new w (.cells #[.string s,.int .i64 c,.int .i64 e0,.bool T] 27))
 have HW:=Lib.hid (show Below w.heap.size w (w.alloc (.cells #[.string s,.int .i64 c,.int .i64 e0,.bool T] 27)) from (Below.refl _ _).alloc (Nat.le_refl _) _)
 have HI:=Lib.hid (fun w=>rin_any s c e0 T i w)
 have hsz:=Sc.of_size s c e0 T
 by_cases hin:0 ≤ i∧i ≤ s.size
 · obtain ⟨k,rfl⟩:∃ k:Nat,i=k:=⟨i.toNat,by omega⟩
   have hk:k ≤ s.size:=by omega
   rw [decide_eq_true hin.1,decide_eq_true hin.2,Bool.and_self] at HI
   rw [(Sc.of s c e0 T).beg_nat (by omega)]
   clear hsz hin
   cases T with
   | true =>
     have hn:(Sc.of s c e0 true).bB k=(Sc.new s c e0).fE (s.size - k):=by
       show (Sc.new s c e0).turned.bB k=_
       rw [Sc.bB_turned _ (show k ≤ (Sc.new s c e0).t.size from hk)]
       rfl
     rw [hn]
     clear hn
     have HC:=Lib.hid (fun w=>rend_any s c e0 true (s.size - k) (by omega) w)
     generalize (Sc.new s c e0).fE (s.size - k)=G at *
     go_enter Try.func21,Try.ntmps21
     go_wp2_with (first
       | (refine wpList_load_row rfl 27 (.tmp 2) rfl w.heap.size rfl 27 _ (0,0) _ Z0.out Try.underlying27 rfl (by kernel_rfl) ?_)
       | fail)
     refine (HI.out _).mono ?_
     rintro e w1 ⟨rfl,hb1⟩
     have Z1:=Lib.hid (keep_blk (hb1.mono (Nat.le_refl _)) Z0.out)
     have HB1:=Lib.hid (HW.out.trans (hb1.mono HW.out.size))
     have c3:=(four Z1.out).2.2.2.1
     clear hb1 Z0 HW HI
     go_wp2
     refine Ri.wp_region_frame (by kernel_rfl) (by kernel_rfl) (by kernel_rfl) (by kernel_rfl)
       (fun L v w'=>Below w1.heap.size w1 w'∧(L 0=true→v 0=.agg #[.string s,.int .i64 c,.int .i64 e0,.bool true])∧(L 1=true→v 1=.agg #[.string s,.int .i64 c,.int .i64 e0,.bool true])∧(L 2=true→v 2=.int .i64 (k:Int))∧(L 3=true→v 3=.int .i64 ((s.size - k:Nat):Int))∧(L 4=true→v 4=.bool G)∧(L 5=true→v 5=.bool G))
       ?_ ?_ ?_
     · exact ⟨(Below.refl _ _).drew,by simp,by simp,by simp,by simp,by simp,by simp⟩
     · intro i hi9 L v w9 xa hI hL hd hv ho
       have hi':i=0 ∨ i=1 ∨ i=2 ∨ i=3 ∨ i=4 ∨ i=5:=by simp at hi9;omega
       obtain ⟨hb,q0,q1,q2,q3,q4,q5⟩:=hI
       rcases hi' with rfl | rfl | rfl | rfl | rfl | rfl
       · have e2:xa.tmps.getD 2 undef=.pointer (some ⟨w.heap.size,0,none⟩):=ho 2 (by kernel_rfl)
         refine Ri.step_plain rfl rfl (fun K' hK=>?_)
         refine wp_load_row _ _ rfl _ e2 _ _ _ _ (keep_blk hb Z1.out) Try.underlying27 rfl (by kernel_rfl) ?_
         exact hK _ _ ⟨_,_,rfl,rfl,hb,fun _=>rfl,q1,q2,q3,q4,q5⟩
       · have e2:xa.tmps.getD 2 undef=.pointer (some ⟨w.heap.size,0,none⟩):=ho 2 (by kernel_rfl)
         refine Ri.step_plain rfl rfl (fun K' hK=>?_)
         refine wp_load_row _ _ rfl _ e2 _ _ _ _ (keep_blk hb Z1.out) Try.underlying27 rfl (by kernel_rfl) ?_
         exact hK _ _ ⟨_,_,rfl,rfl,hb,q0,fun _=>rfl,q2,q3,q4,q5⟩
       · have e1:xa.tmps.getD 1 undef=.int .i64 (k:Int):=ho 1 (by kernel_rfl)
         refine Ri.step_plain rfl rfl (fun K' hK=>?_)
         go_simp
         exact hK _ _ ⟨_,_,rfl,rfl,hb,q0,q1,fun _=>rfl,q3,q4,q5⟩
       · have l0:L 1=true∧L 2=true:=by have:=hd _ rfl;simp [Region.binds] at this;simp [this]
         have f1:=(hv 1 12 rfl l0.1).trans (q1 l0.1)
         have f2:=(hv 2 13 rfl l0.2).trans (q2 l0.2)
         refine Ri.step_plain rfl rfl (fun K' hK=>?_)
         go_simp
         refine (rplace_any s c e0 k hk hs _).mono ?_
         rintro e w8 ⟨rfl,hb8⟩
         exact hK _ _ ⟨_,_,rfl,rfl,hb.trans (hb8.mono hb.size),q0,q1,q2,fun _=>rfl,q4,q5⟩
       · have l0:L 0=true∧L 3=true:=by have:=hd _ rfl;simp [Region.binds] at this;simp [this]
         have f0:=(hv 0 11 rfl l0.1).trans (q0 l0.1)
         have f3:=(hv 3 14 rfl l0.2).trans (q3 l0.2)
         refine Ri.step_plain rfl rfl (fun K' hK=>?_)
         go_simp
         refine (HC.out _).mono ?_
         rintro e w8 ⟨rfl,hb8⟩
         exact hK _ _ ⟨_,_,rfl,rfl,hb.trans (hb8.mono hb.size),q0,q1,q2,q3,fun _=>rfl,q5⟩
       · have l0:L 4=true:=by have:=hd _ rfl;simp [Region.binds] at this;simp [this]
         have f4:=(hv 4 15 rfl l0).trans (q4 l0)
         refine Ri.step_plain rfl rfl (fun K' hK=>?_)
         go_simp
         exact hK _ _ ⟨_,_,rfl,rfl,hb,q0,q1,q2,q3,q4,fun _=>rfl⟩
     · rintro v w9 ⟨hb,-,-,-,-,-,q5⟩
       have q5':v 5=.bool G:=q5 rfl
       simp only [Ri.frame,List.zipIdx,List.foldl_cons,List.foldl_nil,if_true,List.setIfInBounds_toArray,List.set_cons_zero,List.set_cons_succ,Nat.reduceAdd,q5']
       clear q5 q5'
       generalize v 0=y0;generalize v 1=y1;generalize v 2=y2;generalize v 3=y3;generalize v 4=y4
       have HBE:=Lib.hid (HB1.out.trans (hb.mono HB1.out.size))
       clear hb
       go_wp2
       go_ret
       exact ⟨rfl,HBE.out⟩
   | false =>
     rw [show (Sc.of s c e0 false).bB k=(Sc.new s c e0).bB k from rfl]
     have HC:=Lib.hid (fun w=>rbegin_any s c e0 false k hk hs w)
     generalize (Sc.new s c e0).bB k=G at *
     go_enter Try.func21,Try.ntmps21
     go_wp2_with (first
       | (refine wpList_load_row rfl 27 (.tmp 2) rfl w.heap.size rfl 27 _ (0,0) _ Z0.out Try.underlying27 rfl (by kernel_rfl) ?_)
       | fail)
     refine (HI.out _).mono ?_
     rintro e w1 ⟨rfl,hb1⟩
     have Z1:=Lib.hid (keep_blk (hb1.mono (Nat.le_refl _)) Z0.out)
     have HB1:=Lib.hid (HW.out.trans (hb1.mono HW.out.size))
     have c3:=(four Z1.out).2.2.2.1
     clear hb1 Z0 HW HI
     go_wp2_with (first
       | (refine wpList_load_row rfl 27 (.tmp 2) rfl w.heap.size rfl 27 _ (0,0) _ Z1.out Try.underlying27 rfl (by kernel_rfl) ?_)
       | fail)
     refine (HC.out _).mono ?_
     rintro e w2 ⟨rfl,hb2⟩
     have HBE:=Lib.hid (HB1.out.trans (hb2.mono HB1.out.size))
     clear hb2 c3
     go_wp2
     go_ret
     exact ⟨rfl,HBE.out⟩
 · have hf:(decide (0 ≤ i) && decide (i ≤ (s.size:Int)))=false:=by
     by_cases h0:0 ≤ i
     · rw [show decide (i ≤ (s.size:Int))=false from decide_eq_false (by omega),Bool.and_false]
     · rw [decide_eq_false h0,Bool.false_and]
   rw [hf] at HI
   rw [(Sc.of s c e0 T).beg_out (by omega)]
   clear hsz hin hf
   go_enter Try.func21,Try.ntmps21
   go_wp2_with (first
     | (refine wpList_load_row rfl 27 (.tmp 2) rfl w.heap.size rfl 27 _ (0,0) _ Z0.out Try.underlying27 rfl (by kernel_rfl) ?_)
     | fail)
   refine (HI.out _).mono ?_
   rintro e w1 ⟨rfl,hb1⟩
   have HB1:=Lib.hid (HW.out.trans (hb1.mono HW.out.size))
   clear hb1 Z0 HW HI
   go_wp2
   go_ret
   exact ⟨rfl,HB1.out⟩
theorem rfin_any (s:ByteArray) (c e0:Int) (T:Bool) (i:Int) (hs:s.size ≤ 140737488351232) (w:World) :
   Calls Try.prog 22 #[.agg #[.string s,.int .i64 c,.int .i64 e0,.bool T],.int .i64 i] w fun e w'=>e=.returned (.bool ((Sc.of s c e0 T).fin i))∧Below w.heap.size w w':=by
 have Z0:=Lib.hid (heap_alloc_new w (.cells #[.string s,.int .i64 c,.int .i64 e0,.bool T] 27))
 have HW:=Lib.hid (show Below w.heap.size w (w.alloc (.cells #[.string s,.int .i64 c,.int .i64 e0,.bool T] 27)) from (Below.refl _ _).alloc (Nat.le_refl _) _)
 have HI:=Lib.hid (fun w=>rin_any s c e0 T i w)
 have hsz:=Sc.of_size s c e0 T
 by_cases hin:0 ≤ i∧i ≤ s.size
 · obtain ⟨k,rfl⟩:∃ k:Nat,i=k:=⟨i.toNat,by omega⟩
   have hk:k ≤ s.size:=by omega
   rw [decide_eq_true hin.1,decide_eq_true hin.2,Bool.and_self] at HI
   rw [(Sc.of s c e0 T).fin_nat (by omega)]
   clear hsz hin
   cases T with
   | true =>
     have hn:(Sc.of s c e0 true).fE k=(Sc.new s c e0).bB (s.size - k):=by
       show (Sc.new s c e0).turned.fE k=_
       rw [Sc.fE_turned _ (show k ≤ (Sc.new s c e0).t.size from hk)]
       rfl
     rw [hn]
     clear hn
     have HC:=Lib.hid (fun w=>rbegin_any s c e0 true (s.size - k) (by omega) hs w)
     generalize (Sc.new s c e0).bB (s.size - k)=G at *
     go_enter Try.func22,Try.ntmps22
     go_wp2_with (first
       | (refine wpList_load_row rfl 27 (.tmp 2) rfl w.heap.size rfl 27 _ (0,0) _ Z0.out Try.underlying27 rfl (by kernel_rfl) ?_)
       | fail)
     refine (HI.out _).mono ?_
     rintro e w1 ⟨rfl,hb1⟩
     have Z1:=Lib.hid (keep_blk (hb1.mono (Nat.le_refl _)) Z0.out)
     have HB1:=Lib.hid (HW.out.trans (hb1.mono HW.out.size))
     have c3:=(four Z1.out).2.2.2.1
     clear hb1 Z0 HW HI
     go_wp2
     refine Ri.wp_region_frame (by kernel_rfl) (by kernel_rfl) (by kernel_rfl) (by kernel_rfl)
       (fun L v w'=>Below w1.heap.size w1 w'∧(L 0=true→v 0=.agg #[.string s,.int .i64 c,.int .i64 e0,.bool true])∧(L 1=true→v 1=.agg #[.string s,.int .i64 c,.int .i64 e0,.bool true])∧(L 2=true→v 2=.int .i64 (k:Int))∧(L 3=true→v 3=.int .i64 ((s.size - k:Nat):Int))∧(L 4=true→v 4=.bool G)∧(L 5=true→v 5=.bool G))
       ?_ ?_ ?_
     · exact ⟨(Below.refl _ _).drew,by simp,by simp,by simp,by simp,by simp,by simp⟩
     · intro i hi9 L v w9 xa hI hL hd hv ho
       have hi':i=0 ∨ i=1 ∨ i=2 ∨ i=3 ∨ i=4 ∨ i=5:=by simp at hi9;omega
       obtain ⟨hb,q0,q1,q2,q3,q4,q5⟩:=hI
       rcases hi' with rfl | rfl | rfl | rfl | rfl | rfl
       · have e2:xa.tmps.getD 2 undef=.pointer (some ⟨w.heap.size,0,none⟩):=ho 2 (by kernel_rfl)
         refine Ri.step_plain rfl rfl (fun K' hK=>?_)
         refine wp_load_row _ _ rfl _ e2 _ _ _ _ (keep_blk hb Z1.out) Try.underlying27 rfl (by kernel_rfl) ?_
         exact hK _ _ ⟨_,_,rfl,rfl,hb,fun _=>rfl,q1,q2,q3,q4,q5⟩
       · have e2:xa.tmps.getD 2 undef=.pointer (some ⟨w.heap.size,0,none⟩):=ho 2 (by kernel_rfl)
         refine Ri.step_plain rfl rfl (fun K' hK=>?_)
         refine wp_load_row _ _ rfl _ e2 _ _ _ _ (keep_blk hb Z1.out) Try.underlying27 rfl (by kernel_rfl) ?_
         exact hK _ _ ⟨_,_,rfl,rfl,hb,q0,fun _=>rfl,q2,q3,q4,q5⟩
       · have e1:xa.tmps.getD 1 undef=.int .i64 (k:Int):=ho 1 (by kernel_rfl)
         refine Ri.step_plain rfl rfl (fun K' hK=>?_)
         go_simp
         exact hK _ _ ⟨_,_,rfl,rfl,hb,q0,q1,fun _=>rfl,q3,q4,q5⟩
       · have l0:L 1=true∧L 2=true:=by have:=hd _ rfl;simp [Region.binds] at this;simp [this]
         have f1:=(hv 1 12 rfl l0.1).trans (q1 l0.1)
         have f2:=(hv 2 13 rfl l0.2).trans (q2 l0.2)
         refine Ri.step_plain rfl rfl (fun K' hK=>?_)
         go_simp
         refine (rplace_any s c e0 k hk hs _).mono ?_
         rintro e w8 ⟨rfl,hb8⟩
         exact hK _ _ ⟨_,_,rfl,rfl,hb.trans (hb8.mono hb.size),q0,q1,q2,fun _=>rfl,q4,q5⟩
       · have l0:L 0=true∧L 3=true:=by have:=hd _ rfl;simp [Region.binds] at this;simp [this]
         have f0:=(hv 0 11 rfl l0.1).trans (q0 l0.1)
         have f3:=(hv 3 14 rfl l0.2).trans (q3 l0.2)
         refine Ri.step_plain rfl rfl (fun K' hK=>?_)
         go_simp
         refine (HC.out _).mono ?_
         rintro e w8 ⟨rfl,hb8⟩
         exact hK _ _ ⟨_,_,rfl,rfl,hb.trans (hb8.mono hb.size),q0,q1,q2,q3,fun _=>rfl,q5⟩
       · have l0:L 4=true:=by have:=hd _ rfl;simp [Region.binds] at this;simp [this]
         have f4:=(hv 4 15 rfl l0).trans (q4 l0)
         refine Ri.step_plain rfl rfl (fun K' hK=>?_)
         go_simp
         exact hK _ _ ⟨_,_,rfl,rfl,hb,q0,q1,q2,q3,q4,fun _=>rfl⟩
     · rintro v w9 ⟨hb,-,-,-,-,-,q5⟩
       have q5':v 5=.bool G:=q5 rfl
       simp only [Ri.frame,List.zipIdx,List.foldl_cons,List.foldl_nil,if_true,List.setIfInBounds_toArray,List.set_cons_zero,List.set_cons_succ,Nat.reduceAdd,q5']
       clear q5 q5'
       generalize v 0=y0;generalize v 1=y1;generalize v 2=y2;generalize v 3=y3;generalize v 4=y4
       have HBE:=Lib.hid (HB1.out.trans (hb.mono HB1.out.size))
       clear hb
       go_wp2
       go_ret
       exact ⟨rfl,HBE.out⟩
   | false =>
     rw [show (Sc.of s c e0 false).fE k=(Sc.new s c e0).fE k from rfl]
     have HC:=Lib.hid (fun w=>rend_any s c e0 false k hk w)
     generalize (Sc.new s c e0).fE k=G at *
     go_enter Try.func22,Try.ntmps22
     go_wp2_with (first
       | (refine wpList_load_row rfl 27 (.tmp 2) rfl w.heap.size rfl 27 _ (0,0) _ Z0.out Try.underlying27 rfl (by kernel_rfl) ?_)
       | fail)
     refine (HI.out _).mono ?_
     rintro e w1 ⟨rfl,hb1⟩
     have Z1:=Lib.hid (keep_blk (hb1.mono (Nat.le_refl _)) Z0.out)
     have HB1:=Lib.hid (HW.out.trans (hb1.mono HW.out.size))
     have c3:=(four Z1.out).2.2.2.1
     clear hb1 Z0 HW HI
     go_wp2_with (first
       | (refine wpList_load_row rfl 27 (.tmp 2) rfl w.heap.size rfl 27 _ (0,0) _ Z1.out Try.underlying27 rfl (by kernel_rfl) ?_)
       | fail)
     refine (HC.out _).mono ?_
     rintro e w2 ⟨rfl,hb2⟩
     have HBE:=Lib.hid (HB1.out.trans (hb2.mono HB1.out.size))
     clear hb2 c3
     go_wp2
     go_ret
     exact ⟨rfl,HBE.out⟩
 · have hf:(decide (0 ≤ i) && decide (i ≤ (s.size:Int)))=false:=by
     by_cases h0:0 ≤ i
     · rw [show decide (i ≤ (s.size:Int))=false from decide_eq_false (by omega),Bool.and_false]
     · rw [decide_eq_false h0,Bool.false_and]
   rw [hf] at HI
   rw [(Sc.of s c e0 T).fin_out (by omega)]
   clear hsz hin hf
   go_enter Try.func22,Try.ntmps22
   go_wp2_with (first
     | (refine wpList_load_row rfl 27 (.tmp 2) rfl w.heap.size rfl 27 _ (0,0) _ Z0.out Try.underlying27 rfl (by kernel_rfl) ?_)
     | fail)
   refine (HI.out _).mono ?_
   rintro e w1 ⟨rfl,hb1⟩
   have HB1:=Lib.hid (HW.out.trans (hb1.mono HW.out.size))
   clear hb1 Z0 HW HI
   go_wp2
   go_ret
   exact ⟨rfl,HB1.out⟩
end Go.Proofs.Ytnfgalgifgfojaa
namespace Go.Proofs.Ytnfgalgifgfojaa
open Go.RowKit
theorem append_both {P:Program} (w:World) {ops:Array Oper} {rest:List Oper} {o:Oper} {a:Act} {Q:Exit→Act→World→Prop} (hgd:o.guard=none) (s x:Operand) (t:TypeId)
   (ho:o.op=.call { callee:=.builtin .append,args:=#[s,x],argTypes:=#[t,t] })
   (base:Nat) (e:TypeId) (i:TypeInfo) (z:Value) (size bytes:Nat) (ht:P.underlying t=some (.slice e)) (hi:P.info? e=some i) (hz:i.zero=some z)
   (hsize:i.size=size) (hby:i.bytes=bytes) (hzs:z.cells.size=size) (hsz:0 < size)
   (v:Value) (n:Nat) (xs:List Value) (hs:a.eval s=v) (hown:w.ownsRow base e size v n xs)
   (p:Option Addr) (m c:Nat) (news:List Value) (hx:a.eval x=.slice p m c) (h0:p=none→m=0∧c=0) (hl:news.length=m * size) (hnews:∀ ad,p=some ad→∀ j u,news[j]? = some u→w.cell? (ad.add j)=some u) (h1:∀ u ∈ news,u.oneCell'=true)
   (h63:n+m ≤ maxLen) (hbytes:(n+m) * bytes ≤ 140737488355328) (hbase:base ≤ w.heap.size)
   (h:∀ v' w',w'.ownsRow base e size v' (n+m) (xs ++ news)→w.grownBy w' v.ownBlock→(v'=.slice none 0 0 ↔ v=.slice none 0 0∧m=0)→wpList P ops Q rest (a.put o.dst v') w'):wpList P ops Q (o :: rest) a w:=by
 cases p with
 | some ad=>exact wpList_append_own w hgd s x t ho base e i z size bytes ht hi hz hsize hby hzs hsz v n xs hs hown ad m c news hx hl (hnews ad rfl) h1 h63 hbytes hbase h
 | none =>
   obtain ⟨rfl,rfl⟩:=h0 rfl
   have hn:news=[]:=List.eq_nil_of_length_eq_zero (by rw [hl];omega)
   subst hn
   exact wpList_append_own_none hgd s x t ho base e i size ht hi v n xs hs hown hx (h v w (by simpa using hown) ⟨rfl,rfl,rfl,Nat.le_refl _,fun _ _ _=>rfl⟩ (by simp))
end Go.Proofs.Ytnfgalgifgfojaa
namespace Go.Proofs.Ytnfgalgifgfojaa
open Go.RowKit
theorem Try.infoByteI:(Try.prog.info? 5).map (fun i=>(i.zero,i.size,i.bytes))=some (some (.int .u8 0),1,1):=by kernel_rfl
def BR (B:Nat) (w:World) (v:Value) (l:List UInt8):Prop:=w.ownsRow B 5 1 v l.length (Lib.byteCells l)
theorem BR.lt {B:Nat} {w:World} {v:Value} {l:List UInt8} (h:BR B w v l):∀ k,v.ownBlock=some k→B ≤ k∧k < w.heap.size:=fun k hk=>World.ownsRow.lt h k hk
theorem BR.nil (B:Nat) (w:World):BR B w (.slice none 0 0) []:=World.ownsRow_nil _ _ _ _
theorem BR.below {B:Nat} {w w':World} {v:Value} {l:List UInt8} (h:BR B w v l) (hb:Below w.heap.size w w'):BR B w' v l :=
 World.ownsRow.kept h (row:=none) ⟨hb.os,hb.tape,hb.output,hb.size,fun k hk _=>hb.block k hk⟩ (by
   cases h:Value.ownBlock v with
   | none=>exact .inl rfl
   | some g=>exact .inr (by simp))
theorem byteCells_append (l m:List UInt8):Lib.byteCells (l ++ m)=Lib.byteCells l ++ Lib.byteCells m:=by unfold Lib.byteCells;rw [List.map_append]
theorem byteCells_one (l:List UInt8):∀ u ∈ Lib.byteCells l,u.oneCell'=true:=by
 intro u hu
 unfold Lib.byteCells at hu
 obtain ⟨x,-,rfl⟩:=List.mem_map.1 hu
 rfl
theorem byteCells_len (l:List UInt8):(Lib.byteCells l).length=l.length:=by unfold Lib.byteCells;simp
theorem wp_appL {w w0:World} {B:Nat} {v:Value} {l m:List UInt8} {ops:Array Oper} {rest:List Oper} {o:Oper} {a:Act} {Q:Exit→Act→World→Prop} (hgd:o.guard=none) (s x:Operand)
   (ho:o.op=.call { callee:=.builtin .append,args:=#[s,x],argTypes:=#[37,37] }) (p:Option Addr) (cap:Nat) (hs:a.eval s=v) (hx:a.eval x=.slice p m.length cap)
   (hp:p=none→m.length=0∧cap=0) (hc:∀ ad,p=some ad→∀ j u,(Lib.byteCells m)[j]? = some u→w.cell? (ad.add j)=some u) (hrow:BR B w v l) (hb:Below B w0 w) (hB:B ≤ w.heap.size) (hlen:l.length+m.length ≤ 140737488355328)
   (h:∀ v' w',BR B w' v' (l ++ m)→Below B w0 w'→wpList Try.prog ops Q rest (a.put o.dst v') w'):wpList Try.prog ops Q (o :: rest) a w:=by
 obtain ⟨ie,hi,hz0,hz1,hz2⟩:=info_parts Try.infoByteI
 refine append_both w hgd s x 37 ho B 5 ie _ 1 1 Try.underlying37 hi hz0 hz1 hz2 rfl (by decide) v l.length _ hs hrow p m.length cap (Lib.byteCells m) hx hp (by rw [byteCells_len];omega) hc (byteCells_one m) (by unfold maxLen;omega) (by omega) hB ?_
 intro v' w' hown hgr _
 refine h v' w' ?_ (hb.grown hgr hB fun k hk=>(hrow.lt k hk).1)
 unfold BR
 rw [byteCells_append,List.length_append]
 exact hown
theorem wp_app1L {w w0:World} {B:Nat} {v:Value} {l:List UInt8} {ops:Array Oper} {rest:List Oper} {o:Oper} {a:Act} {Q:Exit→Act→World→Prop} (hgd:o.guard=none) (s x:Operand)
   (ho:o.op=.call { callee:=.builtin .append,args:=#[s,x],argTypes:=#[37,37] }) (c:UInt8) (g:Nat) (n:Int) (hn:n=(c.toNat:Int)) (hs:a.eval s=v) (hx:a.eval x=.slice (some ⟨g,0,none⟩) 1 1)
   (hg:w.cell? ⟨g,0,none⟩=some (.int .u8 n)) (hrow:BR B w v l) (hb:Below B w0 w) (hB:B ≤ w.heap.size) (hlen:l.length+1 ≤ 140737488355328)
   (h:∀ v' w',BR B w' v' (l ++ [c])→Below B w0 w'→wpList Try.prog ops Q rest (a.put o.dst v') w'):wpList Try.prog ops Q (o :: rest) a w:=by
 refine wp_appL (m:=[c]) hgd s x ho (some ⟨g,0,none⟩) 1 hs hx (by simp) ?_ hrow hb hB hlen h
 intro ad had j u hj
 obtain rfl:=Option.some.inj had
 match j,hj with
 | 0,hj=>simp [Lib.byteCells] at hj;subst hj;rw [← hn];exact hg
def bx (l:List UInt8):ByteArray:=⟨l.toArray⟩
def BsAt (w:World) (v:Value) (l:List UInt8):Prop :=
 (v=.slice none 0 0∧l=[]) ∨ ∃ g o c,v=.slice (some ⟨g,o,none⟩) l.length c∧l.length ≤ c∧∀ j (hj:j < l.length),w.cell? ⟨g,o+j,none⟩=some (.int .u8 (l[j].toNat:Int))
theorem byteCells_get {l:List UInt8} {j:Nat} (hj:j < l.length):(Lib.byteCells l)[j]? = some (.int .u8 (l[j].toNat:Int)):=by
 unfold Lib.byteCells;rw [List.getElem?_map,List.getElem?_eq_getElem hj];rfl
theorem BR.reads {B:Nat} {w:World} {v:Value} {l:List UInt8} (h:BR B w v l):BsAt w v l:=by
 rcases h.2 with ⟨rfl,hn⟩ | ⟨g,cap,cur,rfl,hb,hg,hnc,hcm,hcs,ht⟩
 · exact .inl ⟨rfl,List.length_eq_zero_iff.1 hn⟩
 · refine .inr ⟨g,0,cap,rfl,hnc,fun j hj=>?_⟩
   have:=World.ownsRow.cells h (g:=g) rfl j _ (byteCells_get hj)
   have hadd:(⟨g,0,none⟩:Addr).add j=⟨g,0+j,none⟩:=by unfold Addr.add;split <;> simp_all
   rw [hadd] at this;exact this
theorem BsAt.keep {w w':World} {v:Value} {l:List UInt8} (h:BsAt w v l) (hk:∀ b,b < w.heap.size→w'.heap[b]? = w.heap[b]?):BsAt w' v l:=by
 rcases h with h | ⟨g,o,c,e,hc,hr⟩
 · exact .inl h
 · refine .inr ⟨g,o,c,e,hc,fun j hj=>?_⟩
   have h1:=hr j hj
   rw [← h1]
   unfold World.cell?
   rw [hk g (block_lt_of_cell h1)]
theorem BsAt.below {w w':World} {v:Value} {l:List UInt8} (h:BsAt w v l) (hb:Below w.heap.size w w'):BsAt w' v l:=h.keep fun b hb'=>hb.block b hb'
theorem to_str {w:World} {v:Value} {l:List UInt8} (h:BsAt w v l):(convert 37 9 v).run Try.prog w=.ok (.string (bx l)) w:=by
 rcases h with ⟨rfl,rfl⟩ | ⟨g,o,c,rfl,hc,hr⟩
 · exact run_convert_bytes_nil (P:=Try.prog) w 37 5 Try.underlying37 Try.underlying5 0 0 9 Try.underlying9
 · refine run_convert_bytes_back (P:=Try.prog) w 37 9 5 ⟨g,o,none⟩ c l Try.underlying37 Try.underlying5 Try.underlying9 fun j hj=>?_
   have hadd:(⟨g,o,none⟩:Addr).add j=⟨g,o+j,none⟩:=by unfold Addr.add;split <;> simp_all
   rw [hadd];exact hr j hj
end Go.Proofs.Ytnfgalgifgfojaa
namespace Go.Proofs.Ytnfgalgifgfojaa
open Go.RowKit
theorem rmks_any (s:ByteArray) (c e0:Int) (T:Bool) (i:Int) (hs:s.size ≤ 140737488351232) (w:World) :
   Calls Try.prog 23 #[.agg #[.string s,.int .i64 c,.int .i64 e0,.bool T],.int .i64 i] w fun e w'=>e=.returned (.int .i64 ((Sc.of s c e0 T).mks i))∧Below w.heap.size w w':=by
 have Z0:=Lib.hid (heap_alloc_new w (.cells #[.string s,.int .i64 c,.int .i64 e0,.bool T] 27))
 have HW:=Lib.hid (show Below w.heap.size w (w.alloc (.cells #[.string s,.int .i64 c,.int .i64 e0,.bool T] 27)) from (Below.refl _ _).alloc (Nat.le_refl _) _)
 have HB:=Lib.hid (fun w=>rbeg_any s c e0 T i hs w)
 have HF:=Lib.hid (fun w=>rfin_any s c e0 T i hs w)
 unfold Sc.mks
 generalize (Sc.of s c e0 T).beg i=y at *
 generalize (Sc.of s c e0 T).fin i=z at *
 cases y <;> cases z
 all_goals
   go_enter Try.func23,Try.ntmps23
   go_wp2_with (first
     | (refine wpList_load_row rfl 27 (.tmp 2) rfl w.heap.size rfl 27 _ (0,0) _ Z0.out Try.underlying27 rfl (by kernel_rfl) ?_)
     | fail)
   refine (HB.out _).mono ?_
   rintro e w1 ⟨rfl,hb1⟩
   have Z1:=Lib.hid (keep_blk (hb1.mono (Nat.le_refl _)) Z0.out)
   have HB1:=Lib.hid (HW.out.trans (hb1.mono HW.out.size))
   clear hb1 Z0 HW HB
   go_wp2_with (first
     | (refine wpList_load_row rfl 27 (.tmp 2) rfl w.heap.size rfl 27 _ (0,0) _ Z1.out Try.underlying27 rfl (by kernel_rfl) ?_)
     | fail)
   refine (HF.out _).mono ?_
   rintro e w2 ⟨rfl,hb2⟩
   have HB2:=Lib.hid (HB1.out.trans (hb2.mono HB1.out.size))
   clear hb2
   go_wp2
   go_ret
   exact ⟨rfl,HB2.out⟩
def Sc.rb (x:Sc) (i:Int):Int:=if x.inn i then (cb x.t i.toNat:Int) else -1
theorem Sc.rb_in (x:Sc) {k:Nat} (h:k < x.t.size):x.rb (k:Int)=(cb x.t k:Int):=by
 unfold rb;rw [inn_nat,decide_eq_true h,if_pos rfl];rfl
theorem Sc.rb_out (x:Sc) {i:Int} (h:x.inn i=false):x.rb i = -1:=by
 unfold rb;rw [h];rfl
theorem rbyte_any (s:ByteArray) (c e0:Int) (T:Bool) (i:Int) (hs:s.size ≤ 140737488351232) (w:World) :
   Calls Try.prog 19 #[.agg #[.string s,.int .i64 c,.int .i64 e0,.bool T],.int .i64 i] w fun e w'=>e=.returned (.int .i64 ((Sc.of s c e0 T).rb i))∧Below w.heap.size w w':=by
 have Z0:=heap_alloc_new w (.cells #[.string s,.int .i64 c,.int .i64 e0,.bool T] 27)
 have HW:=Lib.hid (show Below w.heap.size w (w.alloc (.cells #[.string s,.int .i64 c,.int .i64 e0,.bool T] 27)) from (Below.refl _ _).alloc (Nat.le_refl _) _)
 obtain ⟨c0,-,-,c3,-⟩:=four Z0
 have hsz:=Sc.of_size s c e0 T
 by_cases h0:i < 0
 · have hd:decide (i < 0)=true:=by simpa using h0
   rw [Sc.rb_out _ (Sc.inn_neg _ h0)]
   clear hsz
   go_enter Try.func19,Try.ntmps19
   go_wp2
   go_ret
   exact ⟨rfl,HW.out⟩
 · obtain ⟨k,rfl⟩:∃ k:Nat,i=k:=⟨i.toNat,by omega⟩
   have hd:decide ((k:Int) < 0)=false:=by simp
   by_cases h1:k < s.size
   · have hd1:decide ((s.size:Int) ≤ k)=false:=by simp;omega
     have hd2:decide (s.size ≤ k)=false:=by simp;omega
     rw [Sc.rb_in _ (by omega)]
     clear hsz
     cases T with
     | true =>
       obtain ⟨j,hj⟩:∃ j,j=s.size - 1 - k:=⟨_,rfl⟩
       have hjs:j < s.size:=by omega
       have hcb:cb (Sc.of s c e0 true).t k=s[j].toNat:=by
         show cb (Sc.rev s) k=_
         rw [Sc.cb_rev s h1,cb_in hjs,hj]
       rw [hcb]
       have wj:(s.size:Int) - 1 - (k:Int)=(j:Int):=by omega
       clear hcb hj
       go_enter Try.func19,Try.ntmps19
       go_wp2
       go_ret
       refine ⟨?_,HW.out⟩
       show Ending.returned (.int .i64 (wrap64 (s[j].toNat:Int)))=_
       exact ret_int (by unfold wrap64;have:=UInt8.toNat_lt s[j];omega)
     | false =>
       rw [show cb (Sc.of s c e0 false).t k=s[k].toNat from (cb_in h1).symm]
       go_enter Try.func19,Try.ntmps19
       go_wp2
       go_ret
       refine ⟨?_,HW.out⟩
       show Ending.returned (.int .i64 (wrap64 (s[k].toNat:Int)))=_
       exact ret_int (by unfold wrap64;have:=UInt8.toNat_lt s[k];omega)
   · have hd1:decide ((s.size:Int) ≤ k)=true:=by simp;omega
     have hd2:decide (s.size ≤ k)=true:=by simp;omega
     rw [Sc.rb_out _ (Sc.inn_big _ (by omega))]
     clear hsz
     go_enter Try.func19,Try.ntmps19
     go_wp2
     go_ret
     exact ⟨rfl,HW.out⟩
theorem cb_take (t:ByteArray) {k:Nat} (h:k < t.size):t.data.toList.take (k+1)=t.data.toList.take k ++ [UInt8.ofNat (cb t k)]:=by
 have hl:t.data.toList.length=t.size:=by simp
 rw [List.take_succ_eq_append_getElem (by omega)]
 congr 2
 rw [← cb_in h]
 simp
 rfl
theorem rtext_any (s:ByteArray) (c e0:Int) (T:Bool) (hs:s.size ≤ 140737488351232) (w:World) :
   Calls Try.prog 15 #[.agg #[.string s,.int .i64 c,.int .i64 e0,.bool T]] w fun e w'=>e=.returned (.string (Sc.of s c e0 T).t)∧Below w.heap.size w w':=by
 have Z0:=Lib.hid (heap_alloc_new w (.cells #[.string s,.int .i64 c,.int .i64 e0,.bool T] 27))
 have HW:=Lib.hid (show Below w.heap.size w (w.alloc (.cells #[.string s,.int .i64 c,.int .i64 e0,.bool T] 27)) from (Below.refl _ _).alloc (Nat.le_refl _) _)
 have hsz:=Sc.of_size s c e0 T
 have HBY:=Lib.hid (show ∀ (k:Nat),k < s.size→∀ w,Calls Try.prog 19 #[.agg #[.string s,.int .i64 c,.int .i64 e0,.bool T],.int .i64 (k:Int)] w fun e w'=>e=.returned (.int .i64 (cb (Sc.of s c e0 T).t k:Int))∧Below w.heap.size w w' from fun k hk w=>by
   have h:=rbyte_any s c e0 T (k:Int) hs w
   rw [Sc.rb_in _ (by omega)] at h
   exact h)
 generalize (Sc.of s c e0 T).t=t at *
 go_enter Try.func15,Try.ntmps15
 go_upto_region 1 with (fail)
 generalize World.alloc w _=W0 at *
 go_wp2
 go_loopw [3,4] (fun bv iv wr=>∃ k:Nat,iv=.int .i64 (k:Int)∧k ≤ s.size∧Hid (BR W0.heap.size wr bv (t.data.toList.take k))∧Hid (Below W0.heap.size W0 wr)) (fun _ iv _=>s.size - (intOf iv).toNat)
 case atStart=>exact ⟨0,rfl,Nat.zero_le _,Lib.hid (BR.nil _ _),Lib.hid (Below.refl _ _)⟩
 case round =>
   obtain ⟨k,rfl,hk,HR,HB⟩:=hrel
   have Z1:=Lib.hid (keep_blk (HB.out.mono (Nat.le_refl _)) Z0.out)
   have c0:=(four Z1.out).1
   have wi:IntKind.i64.wrap ((k:Int)+1)=(k:Int)+1:=IntWalk.i64_in _ (by omega)
   by_cases hlt:k < s.size
   · have hd1:decide ((k:Int) < (s.size:Int))=true:=by simp;omega
     have hd2:decide (k < s.size)=true:=by simp;omega
     go_wp2_with (first
       | (refine wpList_load_row rfl 27 (.tmp 1) rfl w.heap.size rfl 27 _ (0,0) _ Z1.out Try.underlying27 rfl (by kernel_rfl) ?_)
       | fail)
     have hb8:=cb_lt (s:=t) (i:=k) (by omega)
     refine (HBY.out k hlt _).mono ?_
     rintro e w1 ⟨rfl,hb1⟩
     have HB1:=Lib.hid (HB.out.trans (hb1.mono HB.out.size))
     have HR1:=Lib.hid (HR.out.below hb1)
     have hst:=cb_take t (k:=k) (by omega)
     have hln:(t.data.toList.take k).length+1 ≤ 140737488355328:=by rw [List.length_take];omega
     have HST:=Lib.hid hst
     generalize cb t k=bb at *
     have HBN:=Lib.hid (show (bb:Int)=((UInt8.ofNat bb).toNat:Int) by rw [UInt8.toNat_ofNat'];omega)
     have w8:IntKind.u8.wrap (bb:Int)=(bb:Int):=by rw [IntKind.wrap_u8];omega
     have hw1:=HB1.out.size
     have HBX:=Lib.hid (HB1.out.alloc hw1 (.cells #[.int .u8 (bb:Int)] 5))
     have HRX:=Lib.hid (HR1.out.below ((Below.refl w1.heap.size w1).alloc (Nat.le_refl _) (.cells #[.int .u8 (bb:Int)] 5)))
     clear hb1 hst HR HB
     go_wp2_with (first
       | (at_builtin;refine wp_app1L rfl _ _ rfl (UInt8.ofNat bb) _ _ HBN.out rfl rfl ((cell_new _ _ _ 0).trans rfl) HRX.out HBX.out HBX.out.size hln ?_;intro v' w' hr' hb')
       | fail)
     have HR3:=Lib.hid hr';have HB3:=Lib.hid hb'
     clear hr' hb' HRX HBX
     go_wp2
     exact ⟨⟨k+1,by go_num,by omega,Lib.hid (by rw [HST.out];exact HR3.out),HB3⟩,by simp [intOf];omega⟩
   · obtain rfl:k=s.size:=by omega
     have hall:t.data.toList.take s.size=t.data.toList:=List.take_of_length_le (by simp;omega)
     rw [hall] at HR
     have cs:=to_str HR.out.reads
     have hbx:bx t.data.toList=t:=by unfold bx;cases t;simp
     rw [hbx] at cs
     have HBE:=Lib.hid (HW.out.trans (HB.out.mono HW.out.size))
     have hd1:decide ((s.size:Int) < (s.size:Int))=false:=by simp
     clear hall HR hbx HB
     go_wp2
     go_ret
     exact ⟨rfl,HBE.out⟩
end Go.Proofs.Ytnfgalgifgfojaa
namespace Go.Proofs.Ytnfgalgifgfojaa
open Go.RowKit
theorem place_any (s:ByteArray) (c e0:Int) (T:Bool) (b:Nat) (i:Int) (hi : -9223372036854775808 ≤ i∧i ≤ 9223372036854775807) (hs:s.size ≤ 140737488351232) (w:World) (hx:ScAt w b (Sc.of s c e0 T)) :
   Calls Try.prog 16 #[.pointer (some ⟨b,0,none⟩),.agg #[.string s,.int .i64 c,.int .i64 e0,.bool T],.int .i64 i] w fun e w'=>e=.returned (.bool true)∧Below w.heap.size w w':=by
 have Z0:=Lib.hid (heap_alloc_new w (.cells #[.string s,.int .i64 c,.int .i64 e0,.bool T] 27))
 have HW:=Lib.hid (show Below w.heap.size w (w.alloc (.cells #[.string s,.int .i64 c,.int .i64 e0,.bool T] 27)) from (Below.refl _ _).alloc (Nat.le_refl _) _)
 have hts:(Sc.of s c e0 T).t.size ≤ 4611686018427387904:=by rw [Sc.of_size];omega
 have HX:=Lib.hid hx
 have HRY:=Lib.hid (fun w=>rbyte_any s c e0 T i hs w)
 have HRB:=Lib.hid (fun w=>rbeg_any s c e0 T i hs w)
 have HRF:=Lib.hid (fun w=>rfin_any s c e0 T i hs w)
 have HRM:=Lib.hid (fun w=>rmks_any s c e0 T i hs w)
 have HPY:=Lib.hid (fun w' (hb:Below w.heap.size w w')=>scbyte_any (Sc.of s c e0 T) b i w' (hx.below hb))
 have HPB:=Lib.hid (fun w' (hb:Below w.heap.size w w')=>scbeg_any (Sc.of s c e0 T) b i w' (hx.below hb) hi hts)
 have HPF:=Lib.hid (fun w' (hb:Below w.heap.size w w')=>scfin_any (Sc.of s c e0 T) b i w' (hx.below hb))
 have HPM:=Lib.hid (fun w' (hb:Below w.heap.size w w')=>scmks_any (Sc.of s c e0 T) b i w' (hx.below hb) hi hts)
 have hin:decide (0 ≤ (Sc.of s c e0 T).rb i)=(Sc.of s c e0 T).inn i:=by
   unfold Sc.rb
   cases (Sc.of s c e0 T).inn i with
   | true=>rw [if_pos rfl];exact decide_eq_true (by omega)
   | false=>rfl
 have hmx:(if (Sc.of s c e0 T).rb i < 0 then 0 else (Sc.of s c e0 T).rb i)=(Sc.of s c e0 T).byt i:=by
   unfold Sc.rb Sc.byt
   cases (Sc.of s c e0 T).inn i with
   | true=>rw [if_pos rfl,if_pos rfl,if_neg (by omega)]
   | false=>rfl
 have hmx2:max ((Sc.of s c e0 T).rb i) 0=(Sc.of s c e0 T).byt i:=by
   unfold Sc.rb Sc.byt
   cases (Sc.of s c e0 T).inn i with
   | true=>rw [if_pos rfl,if_pos rfl];omega
   | false=>rfl
 have hbw:IntKind.i64.wrap ((Sc.of s c e0 T).byt i)=(Sc.of s c e0 T).byt i:=by
   have:0 ≤ (Sc.of s c e0 T).byt i∧(Sc.of s c e0 T).byt i ≤ 256:=by
     unfold Sc.byt
     split
     · unfold cb;split
       · have:=UInt8.toNat_lt (Sc.of s c e0 T).t[i.toNat];omega
       · omega
     · omega
   exact IntWalk.i64_in _ (by omega)
 clear hx hts
 generalize (Sc.of s c e0 T).rb i=rb at *
 generalize (Sc.of s c e0 T).byt i=bv at *
 generalize (Sc.of s c e0 T).inn i=I at *
 generalize (Sc.of s c e0 T).beg i=GB at *
 generalize (Sc.of s c e0 T).fin i=GF at *
 generalize (Sc.of s c e0 T).mks i=GM at *
 clear hi HX
 go_enter Try.func16,Try.ntmps16
 go_wp2_with fail
 refine (HPY.out _ HW.out).mono ?_
 rintro e w' ⟨rfl,rfl⟩
 go_wp2_with (first
   | (refine wpList_load_row rfl 27 (.tmp 4) rfl w.heap.size rfl 27 _ (0,0) _ Z0.out Try.underlying27 rfl (by kernel_rfl) ?_)
   | fail)
 refine (HRY.out _).mono ?_
 rintro e w1 ⟨rfl,hb1⟩
 have Z1:=Lib.hid (keep_blk (hb1.mono (Nat.le_refl _)) Z0.out)
 have HB1:=Lib.hid (HW.out.trans (hb1.mono HW.out.size))
 have HPB1:=Lib.hid (fun w' (hb:Below w1.heap.size w1 w')=>HPB.out w' (HB1.out.trans (hb.mono HB1.out.size)))
 have HPF1:=Lib.hid (fun w' (hb:Below w1.heap.size w1 w')=>HPF.out w' (HB1.out.trans (hb.mono HB1.out.size)))
 have HPM1:=Lib.hid (fun w' (hb:Below w1.heap.size w1 w')=>HPM.out w' (HB1.out.trans (hb.mono HB1.out.size)))
 clear hb1 Z0 HW HPB HPF HPM HPY HRY
 go_wp2_with fail
 refine Ri.wp_region_frame (by kernel_rfl) (by kernel_rfl) (by kernel_rfl) (by kernel_rfl)
   (fun L v w'=>Below w1.heap.size w1 w'∧(L 0=true→v 0=.bool I)∧(L 1=true→v 1=.int .i64 rb)∧(L 2=true→v 2=.bool I)∧(L 3=true→v 3=.bool true)∧(L 4=true→v 4=.bool true)∧(L 5=true→v 5=.int .u8 bv)∧(L 6=true→v 6=.int .i64 bv)∧(L 7=true→v 7=.int .i64 rb)∧(L 8=true→v 8=.int .i64 bv)∧(L 9=true→v 9=.bool true)∧(L 10=true→v 10=.bool true)∧(L 11=true→v 11=.bool true)∧(L 12=true→v 12=.pointer (some ⟨b,0,none⟩))∧(L 13=true→v 13=.int .i64 i)∧(L 14=true→v 14=.bool GB)∧(L 15=true→v 15=.agg #[.string s,.int .i64 c,.int .i64 e0,.bool T])∧(L 16=true→v 16=.int .i64 i)∧(L 17=true→v 17=.bool GB)∧(L 18=true→v 18=.bool true)∧(L 19=true→v 19=.bool true)∧(L 20=true→v 20=.bool true)∧(L 21=true→v 21=.pointer (some ⟨b,0,none⟩))∧(L 22=true→v 22=.int .i64 i)∧(L 23=true→v 23=.bool GF)∧(L 24=true→v 24=.agg #[.string s,.int .i64 c,.int .i64 e0,.bool T])∧(L 25=true→v 25=.int .i64 i)∧(L 26=true→v 26=.bool GF)∧(L 27=true→v 27=.bool true)∧(L 28=true→v 28=.bool true)∧(L 29=true→v 29=.bool true)∧(L 30=true→v 30=.pointer (some ⟨b,0,none⟩))∧(L 31=true→v 31=.int .i64 i)∧(L 32=true→v 32=.int .i64 GM)∧(L 33=true→v 33=.agg #[.string s,.int .i64 c,.int .i64 e0,.bool T])∧(L 34=true→v 34=.int .i64 i)∧(L 35=true→v 35=.int .i64 GM)∧(L 36=true→v 36=.bool true)∧(L 37=true→v 37=.bool true)∧(L 38=true→v 38=.bool true))
   ?_ ?_ ?_
 · exact ⟨(Below.refl _ _).drew,by simp,by simp,by simp,by simp,by simp,by simp,by simp,by simp,by simp,by simp,by simp,by simp,by simp,by simp,by simp,by simp,by simp,by simp,by simp,by simp,by simp,by simp,by simp,by simp,by simp,by simp,by simp,by simp,by simp,by simp,by simp,by simp,by simp,by simp,by simp,by simp,by simp,by simp,by simp⟩
 · intro i hi9 L v w9 xa hI hL hd hv ho
   have hi':i=0 ∨ i=1 ∨ i=2 ∨ i=3 ∨ i=4 ∨ i=5 ∨ i=6 ∨ i=7 ∨ i=8 ∨ i=9 ∨ i=10 ∨ i=11 ∨ i=12 ∨ i=13 ∨ i=14 ∨ i=15 ∨ i=16 ∨ i=17 ∨ i=18 ∨ i=19 ∨ i=20 ∨ i=21 ∨ i=22 ∨ i=23 ∨ i=24 ∨ i=25 ∨ i=26 ∨ i=27 ∨ i=28 ∨ i=29 ∨ i=30 ∨ i=31 ∨ i=32 ∨ i=33 ∨ i=34 ∨ i=35 ∨ i=36 ∨ i=37 ∨ i=38:=by simp at hi9;omega
   obtain ⟨hb,q0,q1,q2,q3,q4,q5,q6,q7,q8,q9,q10,q11,q12,q13,q14,q15,q16,q17,q18,q19,q20,q21,q22,q23,q24,q25,q26,q27,q28,q29,q30,q31,q32,q33,q34,q35,q36,q37,q38⟩:=hI
   rcases hi' with rfl | rfl | rfl | rfl | rfl | rfl | rfl | rfl | rfl | rfl | rfl | rfl | rfl | rfl | rfl | rfl | rfl | rfl | rfl | rfl | rfl | rfl | rfl | rfl | rfl | rfl | rfl | rfl | rfl | rfl | rfl | rfl | rfl | rfl | rfl | rfl | rfl | rfl | rfl
   · have e8:xa.tmps.getD 8 undef=.bool I:=ho 8 (by kernel_rfl)
     refine Ri.step_plain rfl rfl (fun K' hK=>?_)
     go_simp
     exact hK _ _ ⟨_,_,rfl,rfl,hb,fun _=>rfl,q1,q2,q3,q4,q5,q6,q7,q8,q9,q10,q11,q12,q13,q14,q15,q16,q17,q18,q19,q20,q21,q22,q23,q24,q25,q26,q27,q28,q29,q30,q31,q32,q33,q34,q35,q36,q37,q38⟩
   · have e9:xa.tmps.getD 9 undef=.int .i64 rb:=ho 9 (by kernel_rfl)
     refine Ri.step_plain rfl rfl (fun K' hK=>?_)
     go_simp
     exact hK _ _ ⟨_,_,rfl,rfl,hb,q0,fun _=>rfl,q2,q3,q4,q5,q6,q7,q8,q9,q10,q11,q12,q13,q14,q15,q16,q17,q18,q19,q20,q21,q22,q23,q24,q25,q26,q27,q28,q29,q30,q31,q32,q33,q34,q35,q36,q37,q38⟩
   · have l0:L 1=true:=by have:=hd _ rfl;simp [Region.binds] at this;simp [this]
     have f1:=(hv 1 20 rfl l0).trans (q1 l0)
     refine Ri.step_plain rfl rfl (fun K' hK=>?_)
     go_simp
     exact hK _ _ ⟨_,_,rfl,rfl,hb,q0,q1,fun _=>rfl,q3,q4,q5,q6,q7,q8,q9,q10,q11,q12,q13,q14,q15,q16,q17,q18,q19,q20,q21,q22,q23,q24,q25,q26,q27,q28,q29,q30,q31,q32,q33,q34,q35,q36,q37,q38⟩
   · have l0:L 0=true∧L 2=true:=by have:=hd _ rfl;simp [Region.binds] at this;simp [this]
     have f0:=(hv 0 19 rfl l0.1).trans (q0 l0.1)
     have f2:=(hv 2 21 rfl l0.2).trans (q2 l0.2)
     refine Ri.step_plain rfl rfl (fun K' hK=>?_)
     go_simp
     exact hK _ _ ⟨_,_,rfl,rfl,hb,q0,q1,q2,fun _=>rfl,q4,q5,q6,q7,q8,q9,q10,q11,q12,q13,q14,q15,q16,q17,q18,q19,q20,q21,q22,q23,q24,q25,q26,q27,q28,q29,q30,q31,q32,q33,q34,q35,q36,q37,q38⟩
   · have l0:L 3=true:=by have:=hd _ rfl;simp [Region.binds] at this;simp [this]
     have f3:=(hv 3 22 rfl l0).trans (q3 l0)
     refine Ri.step_plain rfl rfl (fun K' hK=>?_)
     go_simp
     exact hK _ _ ⟨_,_,rfl,rfl,hb,q0,q1,q2,q3,fun _=>rfl,q5,q6,q7,q8,q9,q10,q11,q12,q13,q14,q15,q16,q17,q18,q19,q20,q21,q22,q23,q24,q25,q26,q27,q28,q29,q30,q31,q32,q33,q34,q35,q36,q37,q38⟩
   · have l0:L 4=true:=by have:=hd _ rfl;simp [Region.binds] at this;simp [this]
     have f4:=(hv 4 23 rfl l0).trans (q4 l0)
     have e7:xa.tmps.getD 7 undef=.int .u8 bv:=ho 7 (by kernel_rfl)
     refine Ri.step_wanted (b:=true) rfl rfl rfl f4 (fun K' hK=>?_)
     go_simp
     exact hK _ _ ⟨_,_,rfl,rfl,hb,q0,q1,q2,q3,q4,fun _=>rfl,q6,q7,q8,q9,q10,q11,q12,q13,q14,q15,q16,q17,q18,q19,q20,q21,q22,q23,q24,q25,q26,q27,q28,q29,q30,q31,q32,q33,q34,q35,q36,q37,q38⟩
   · have l0:L 4=true∧L 5=true:=by have:=hd _ rfl;simp [Region.binds] at this;simp [this]
     have f4:=(hv 4 23 rfl l0.1).trans (q4 l0.1)
     have f5:=(hv 5 24 rfl l0.2).trans (q5 l0.2)
     refine Ri.step_wanted (b:=true) rfl rfl rfl f4 (fun K' hK=>?_)
     go_simp
     exact hK _ _ ⟨_,_,rfl,rfl,hb,q0,q1,q2,q3,q4,q5,fun _=>rfl,q7,q8,q9,q10,q11,q12,q13,q14,q15,q16,q17,q18,q19,q20,q21,q22,q23,q24,q25,q26,q27,q28,q29,q30,q31,q32,q33,q34,q35,q36,q37,q38⟩
   · have l0:L 4=true:=by have:=hd _ rfl;simp [Region.binds] at this;simp [this]
     have f4:=(hv 4 23 rfl l0).trans (q4 l0)
     have e9:xa.tmps.getD 9 undef=.int .i64 rb:=ho 9 (by kernel_rfl)
     refine Ri.step_wanted (b:=true) rfl rfl rfl f4 (fun K' hK=>?_)
     go_simp
     exact hK _ _ ⟨_,_,rfl,rfl,hb,q0,q1,q2,q3,q4,q5,q6,fun _=>rfl,q8,q9,q10,q11,q12,q13,q14,q15,q16,q17,q18,q19,q20,q21,q22,q23,q24,q25,q26,q27,q28,q29,q30,q31,q32,q33,q34,q35,q36,q37,q38⟩
   · have l0:L 4=true∧L 7=true:=by have:=hd _ rfl;simp [Region.binds] at this;simp [this]
     have f4:=(hv 4 23 rfl l0.1).trans (q4 l0.1)
     have f7:=(hv 7 26 rfl l0.2).trans (q7 l0.2)
     refine Ri.step_wanted (b:=true) rfl rfl rfl f4 (fun K' hK=>?_)
     go_simp
     exact hK _ _ ⟨_,_,rfl,rfl,hb,q0,q1,q2,q3,q4,q5,q6,q7,fun _=>rfl,q9,q10,q11,q12,q13,q14,q15,q16,q17,q18,q19,q20,q21,q22,q23,q24,q25,q26,q27,q28,q29,q30,q31,q32,q33,q34,q35,q36,q37,q38⟩
   · have l0:L 4=true∧L 6=true∧L 8=true:=by have:=hd _ rfl;simp [Region.binds] at this;simp [this]
     have f4:=(hv 4 23 rfl l0.1).trans (q4 l0.1)
     have f6:=(hv 6 25 rfl l0.2.1).trans (q6 l0.2.1)
     have f8:=(hv 8 27 rfl l0.2.2).trans (q8 l0.2.2)
     refine Ri.step_wanted (b:=true) rfl rfl rfl f4 (fun K' hK=>?_)
     go_simp
     exact hK _ _ ⟨_,_,rfl,rfl,hb,q0,q1,q2,q3,q4,q5,q6,q7,q8,fun _=>rfl,q10,q11,q12,q13,q14,q15,q16,q17,q18,q19,q20,q21,q22,q23,q24,q25,q26,q27,q28,q29,q30,q31,q32,q33,q34,q35,q36,q37,q38⟩
   · have l0:L 4=true∧L 9=true:=by have:=hd _ rfl;simp [Region.binds] at this;simp [this]
     have f4:=(hv 4 23 rfl l0.1).trans (q4 l0.1)
     have f9:=(hv 9 28 rfl l0.2).trans (q9 l0.2)
     refine Ri.step_plain rfl rfl (fun K' hK=>?_)
     go_simp
     exact hK _ _ ⟨_,_,rfl,rfl,hb,q0,q1,q2,q3,q4,q5,q6,q7,q8,q9,fun _=>rfl,q11,q12,q13,q14,q15,q16,q17,q18,q19,q20,q21,q22,q23,q24,q25,q26,q27,q28,q29,q30,q31,q32,q33,q34,q35,q36,q37,q38⟩
   · have l0:L 10=true:=by have:=hd _ rfl;simp [Region.binds] at this;simp [this]
     have f10:=(hv 10 29 rfl l0).trans (q10 l0)
     refine Ri.step_plain rfl rfl (fun K' hK=>?_)
     go_simp
     exact hK _ _ ⟨_,_,rfl,rfl,hb,q0,q1,q2,q3,q4,q5,q6,q7,q8,q9,q10,fun _=>rfl,q12,q13,q14,q15,q16,q17,q18,q19,q20,q21,q22,q23,q24,q25,q26,q27,q28,q29,q30,q31,q32,q33,q34,q35,q36,q37,q38⟩
   · have l0:L 11=true:=by have:=hd _ rfl;simp [Region.binds] at this;simp [this]
     have f11:=(hv 11 30 rfl l0).trans (q11 l0)
     have e0:xa.tmps.getD 0 undef=.pointer (some ⟨b,0,none⟩):=ho 0 (by kernel_rfl)
     refine Ri.step_wanted (b:=true) rfl rfl rfl f11 (fun K' hK=>?_)
     go_simp
     exact hK _ _ ⟨_,_,rfl,rfl,hb,q0,q1,q2,q3,q4,q5,q6,q7,q8,q9,q10,q11,fun _=>rfl,q13,q14,q15,q16,q17,q18,q19,q20,q21,q22,q23,q24,q25,q26,q27,q28,q29,q30,q31,q32,q33,q34,q35,q36,q37,q38⟩
   · have l0:L 11=true:=by have:=hd _ rfl;simp [Region.binds] at this;simp [this]
     have f11:=(hv 11 30 rfl l0).trans (q11 l0)
     have e2:xa.tmps.getD 2 undef=.int .i64 i:=ho 2 (by kernel_rfl)
     refine Ri.step_wanted (b:=true) rfl rfl rfl f11 (fun K' hK=>?_)
     go_simp
     exact hK _ _ ⟨_,_,rfl,rfl,hb,q0,q1,q2,q3,q4,q5,q6,q7,q8,q9,q10,q11,q12,fun _=>rfl,q14,q15,q16,q17,q18,q19,q20,q21,q22,q23,q24,q25,q26,q27,q28,q29,q30,q31,q32,q33,q34,q35,q36,q37,q38⟩
   · have l0:L 11=true∧L 12=true∧L 13=true:=by have:=hd _ rfl;simp [Region.binds] at this;simp [this]
     have f11:=(hv 11 30 rfl l0.1).trans (q11 l0.1)
     have f12:=(hv 12 31 rfl l0.2.1).trans (q12 l0.2.1)
     have f13:=(hv 13 32 rfl l0.2.2).trans (q13 l0.2.2)
     refine Ri.step_wanted (b:=true) rfl rfl rfl f11 (fun K' hK=>?_)
     go_simp
     refine (HPB1.out _ hb).mono ?_
     rintro e w8 ⟨rfl,rfl⟩
     exact hK _ _ ⟨_,_,rfl,rfl,hb,q0,q1,q2,q3,q4,q5,q6,q7,q8,q9,q10,q11,q12,q13,fun _=>rfl,q15,q16,q17,q18,q19,q20,q21,q22,q23,q24,q25,q26,q27,q28,q29,q30,q31,q32,q33,q34,q35,q36,q37,q38⟩
   · have l0:L 11=true:=by have:=hd _ rfl;simp [Region.binds] at this;simp [this]
     have f11:=(hv 11 30 rfl l0).trans (q11 l0)
     have e4:xa.tmps.getD 4 undef=.pointer (some ⟨w.heap.size,0,none⟩):=ho 4 (by kernel_rfl)
     refine Ri.step_wanted (b:=true) rfl rfl rfl f11 (fun K' hK=>?_)
     refine wp_load_row _ _ rfl _ e4 _ _ _ _ (keep_blk hb Z1.out) Try.underlying27 rfl (by kernel_rfl) ?_
     exact hK _ _ ⟨_,_,rfl,rfl,hb,q0,q1,q2,q3,q4,q5,q6,q7,q8,q9,q10,q11,q12,q13,q14,fun _=>rfl,q16,q17,q18,q19,q20,q21,q22,q23,q24,q25,q26,q27,q28,q29,q30,q31,q32,q33,q34,q35,q36,q37,q38⟩
   · have l0:L 11=true:=by have:=hd _ rfl;simp [Region.binds] at this;simp [this]
     have f11:=(hv 11 30 rfl l0).trans (q11 l0)
     have e2:xa.tmps.getD 2 undef=.int .i64 i:=ho 2 (by kernel_rfl)
     refine Ri.step_wanted (b:=true) rfl rfl rfl f11 (fun K' hK=>?_)
     go_simp
     exact hK _ _ ⟨_,_,rfl,rfl,hb,q0,q1,q2,q3,q4,q5,q6,q7,q8,q9,q10,q11,q12,q13,q14,q15,fun _=>rfl,q17,q18,q19,q20,q21,q22,q23,q24,q25,q26,q27,q28,q29,q30,q31,q32,q33,q34,q35,q36,q37,q38⟩
   · have l0:L 11=true∧L 15=true∧L 16=true:=by have:=hd _ rfl;simp [Region.binds] at this;simp [this]
     have f11:=(hv 11 30 rfl l0.1).trans (q11 l0.1)
     have f15:=(hv 15 34 rfl l0.2.1).trans (q15 l0.2.1)
     have f16:=(hv 16 35 rfl l0.2.2).trans (q16 l0.2.2)
     refine Ri.step_wanted (b:=true) rfl rfl rfl f11 (fun K' hK=>?_)
     go_simp
     refine (HRB.out _).mono ?_
     rintro e w8 ⟨rfl,hb8⟩
     exact hK _ _ ⟨_,_,rfl,rfl,hb.trans (hb8.mono hb.size),q0,q1,q2,q3,q4,q5,q6,q7,q8,q9,q10,q11,q12,q13,q14,q15,q16,fun _=>rfl,q18,q19,q20,q21,q22,q23,q24,q25,q26,q27,q28,q29,q30,q31,q32,q33,q34,q35,q36,q37,q38⟩
   · have l0:L 11=true∧L 14=true∧L 17=true:=by have:=hd _ rfl;simp [Region.binds] at this;simp [this]
     have f11:=(hv 11 30 rfl l0.1).trans (q11 l0.1)
     have f14:=(hv 14 33 rfl l0.2.1).trans (q14 l0.2.1)
     have f17:=(hv 17 36 rfl l0.2.2).trans (q17 l0.2.2)
     refine Ri.step_wanted (b:=true) rfl rfl rfl f11 (fun K' hK=>?_)
     go_simp
     exact hK _ _ ⟨_,_,rfl,rfl,hb,q0,q1,q2,q3,q4,q5,q6,q7,q8,q9,q10,q11,q12,q13,q14,q15,q16,q17,fun _=>rfl,q19,q20,q21,q22,q23,q24,q25,q26,q27,q28,q29,q30,q31,q32,q33,q34,q35,q36,q37,q38⟩
   · have l0:L 11=true∧L 18=true:=by have:=hd _ rfl;simp [Region.binds] at this;simp [this]
     have f11:=(hv 11 30 rfl l0.1).trans (q11 l0.1)
     have f18:=(hv 18 37 rfl l0.2).trans (q18 l0.2)
     refine Ri.step_plain rfl rfl (fun K' hK=>?_)
     go_simp
     exact hK _ _ ⟨_,_,rfl,rfl,hb,q0,q1,q2,q3,q4,q5,q6,q7,q8,q9,q10,q11,q12,q13,q14,q15,q16,q17,q18,fun _=>rfl,q20,q21,q22,q23,q24,q25,q26,q27,q28,q29,q30,q31,q32,q33,q34,q35,q36,q37,q38⟩
   · have l0:L 19=true:=by have:=hd _ rfl;simp [Region.binds] at this;simp [this]
     have f19:=(hv 19 38 rfl l0).trans (q19 l0)
     refine Ri.step_plain rfl rfl (fun K' hK=>?_)
     go_simp
     exact hK _ _ ⟨_,_,rfl,rfl,hb,q0,q1,q2,q3,q4,q5,q6,q7,q8,q9,q10,q11,q12,q13,q14,q15,q16,q17,q18,q19,fun _=>rfl,q21,q22,q23,q24,q25,q26,q27,q28,q29,q30,q31,q32,q33,q34,q35,q36,q37,q38⟩
   · have l0:L 20=true:=by have:=hd _ rfl;simp [Region.binds] at this;simp [this]
     have f20:=(hv 20 39 rfl l0).trans (q20 l0)
     have e0:xa.tmps.getD 0 undef=.pointer (some ⟨b,0,none⟩):=ho 0 (by kernel_rfl)
     refine Ri.step_wanted (b:=true) rfl rfl rfl f20 (fun K' hK=>?_)
     go_simp
     exact hK _ _ ⟨_,_,rfl,rfl,hb,q0,q1,q2,q3,q4,q5,q6,q7,q8,q9,q10,q11,q12,q13,q14,q15,q16,q17,q18,q19,q20,fun _=>rfl,q22,q23,q24,q25,q26,q27,q28,q29,q30,q31,q32,q33,q34,q35,q36,q37,q38⟩
   · have l0:L 20=true:=by have:=hd _ rfl;simp [Region.binds] at this;simp [this]
     have f20:=(hv 20 39 rfl l0).trans (q20 l0)
     have e2:xa.tmps.getD 2 undef=.int .i64 i:=ho 2 (by kernel_rfl)
     refine Ri.step_wanted (b:=true) rfl rfl rfl f20 (fun K' hK=>?_)
     go_simp
     exact hK _ _ ⟨_,_,rfl,rfl,hb,q0,q1,q2,q3,q4,q5,q6,q7,q8,q9,q10,q11,q12,q13,q14,q15,q16,q17,q18,q19,q20,q21,fun _=>rfl,q23,q24,q25,q26,q27,q28,q29,q30,q31,q32,q33,q34,q35,q36,q37,q38⟩
   · have l0:L 20=true∧L 21=true∧L 22=true:=by have:=hd _ rfl;simp [Region.binds] at this;simp [this]
     have f20:=(hv 20 39 rfl l0.1).trans (q20 l0.1)
     have f21:=(hv 21 40 rfl l0.2.1).trans (q21 l0.2.1)
     have f22:=(hv 22 41 rfl l0.2.2).trans (q22 l0.2.2)
     refine Ri.step_wanted (b:=true) rfl rfl rfl f20 (fun K' hK=>?_)
     go_simp
     refine (HPF1.out _ hb).mono ?_
     rintro e w8 ⟨rfl,rfl⟩
     exact hK _ _ ⟨_,_,rfl,rfl,hb,q0,q1,q2,q3,q4,q5,q6,q7,q8,q9,q10,q11,q12,q13,q14,q15,q16,q17,q18,q19,q20,q21,q22,fun _=>rfl,q24,q25,q26,q27,q28,q29,q30,q31,q32,q33,q34,q35,q36,q37,q38⟩
   · have l0:L 20=true:=by have:=hd _ rfl;simp [Region.binds] at this;simp [this]
     have f20:=(hv 20 39 rfl l0).trans (q20 l0)
     have e4:xa.tmps.getD 4 undef=.pointer (some ⟨w.heap.size,0,none⟩):=ho 4 (by kernel_rfl)
     refine Ri.step_wanted (b:=true) rfl rfl rfl f20 (fun K' hK=>?_)
     refine wp_load_row _ _ rfl _ e4 _ _ _ _ (keep_blk hb Z1.out) Try.underlying27 rfl (by kernel_rfl) ?_
     exact hK _ _ ⟨_,_,rfl,rfl,hb,q0,q1,q2,q3,q4,q5,q6,q7,q8,q9,q10,q11,q12,q13,q14,q15,q16,q17,q18,q19,q20,q21,q22,q23,fun _=>rfl,q25,q26,q27,q28,q29,q30,q31,q32,q33,q34,q35,q36,q37,q38⟩
   · have l0:L 20=true:=by have:=hd _ rfl;simp [Region.binds] at this;simp [this]
     have f20:=(hv 20 39 rfl l0).trans (q20 l0)
     have e2:xa.tmps.getD 2 undef=.int .i64 i:=ho 2 (by kernel_rfl)
     refine Ri.step_wanted (b:=true) rfl rfl rfl f20 (fun K' hK=>?_)
     go_simp
     exact hK _ _ ⟨_,_,rfl,rfl,hb,q0,q1,q2,q3,q4,q5,q6,q7,q8,q9,q10,q11,q12,q13,q14,q15,q16,q17,q18,q19,q20,q21,q22,q23,q24,fun _=>rfl,q26,q27,q28,q29,q30,q31,q32,q33,q34,q35,q36,q37,q38⟩
   · have l0:L 20=true∧L 24=true∧L 25=true:=by have:=hd _ rfl;simp [Region.binds] at this;simp [this]
     have f20:=(hv 20 39 rfl l0.1).trans (q20 l0.1)
     have f24:=(hv 24 43 rfl l0.2.1).trans (q24 l0.2.1)
     have f25:=(hv 25 44 rfl l0.2.2).trans (q25 l0.2.2)
     refine Ri.step_wanted (b:=true) rfl rfl rfl f20 (fun K' hK=>?_)
     go_simp
     refine (HRF.out _).mono ?_
     rintro e w8 ⟨rfl,hb8⟩
     exact hK _ _ ⟨_,_,rfl,rfl,hb.trans (hb8.mono hb.size),q0,q1,q2,q3,q4,q5,q6,q7,q8,q9,q10,q11,q12,q13,q14,q15,q16,q17,q18,q19,q20,q21,q22,q23,q24,q25,fun _=>rfl,q27,q28,q29,q30,q31,q32,q33,q34,q35,q36,q37,q38⟩
   · have l0:L 20=true∧L 23=true∧L 26=true:=by have:=hd _ rfl;simp [Region.binds] at this;simp [this]
     have f20:=(hv 20 39 rfl l0.1).trans (q20 l0.1)
     have f23:=(hv 23 42 rfl l0.2.1).trans (q23 l0.2.1)
     have f26:=(hv 26 45 rfl l0.2.2).trans (q26 l0.2.2)
     refine Ri.step_wanted (b:=true) rfl rfl rfl f20 (fun K' hK=>?_)
     go_simp
     exact hK _ _ ⟨_,_,rfl,rfl,hb,q0,q1,q2,q3,q4,q5,q6,q7,q8,q9,q10,q11,q12,q13,q14,q15,q16,q17,q18,q19,q20,q21,q22,q23,q24,q25,q26,fun _=>rfl,q28,q29,q30,q31,q32,q33,q34,q35,q36,q37,q38⟩
   · have l0:L 20=true∧L 27=true:=by have:=hd _ rfl;simp [Region.binds] at this;simp [this]
     have f20:=(hv 20 39 rfl l0.1).trans (q20 l0.1)
     have f27:=(hv 27 46 rfl l0.2).trans (q27 l0.2)
     refine Ri.step_plain rfl rfl (fun K' hK=>?_)
     go_simp
     exact hK _ _ ⟨_,_,rfl,rfl,hb,q0,q1,q2,q3,q4,q5,q6,q7,q8,q9,q10,q11,q12,q13,q14,q15,q16,q17,q18,q19,q20,q21,q22,q23,q24,q25,q26,q27,fun _=>rfl,q29,q30,q31,q32,q33,q34,q35,q36,q37,q38⟩
   · have l0:L 28=true:=by have:=hd _ rfl;simp [Region.binds] at this;simp [this]
     have f28:=(hv 28 47 rfl l0).trans (q28 l0)
     refine Ri.step_plain rfl rfl (fun K' hK=>?_)
     go_simp
     exact hK _ _ ⟨_,_,rfl,rfl,hb,q0,q1,q2,q3,q4,q5,q6,q7,q8,q9,q10,q11,q12,q13,q14,q15,q16,q17,q18,q19,q20,q21,q22,q23,q24,q25,q26,q27,q28,fun _=>rfl,q30,q31,q32,q33,q34,q35,q36,q37,q38⟩
   · have l0:L 29=true:=by have:=hd _ rfl;simp [Region.binds] at this;simp [this]
     have f29:=(hv 29 48 rfl l0).trans (q29 l0)
     have e0:xa.tmps.getD 0 undef=.pointer (some ⟨b,0,none⟩):=ho 0 (by kernel_rfl)
     refine Ri.step_wanted (b:=true) rfl rfl rfl f29 (fun K' hK=>?_)
     go_simp
     exact hK _ _ ⟨_,_,rfl,rfl,hb,q0,q1,q2,q3,q4,q5,q6,q7,q8,q9,q10,q11,q12,q13,q14,q15,q16,q17,q18,q19,q20,q21,q22,q23,q24,q25,q26,q27,q28,q29,fun _=>rfl,q31,q32,q33,q34,q35,q36,q37,q38⟩
   · have l0:L 29=true:=by have:=hd _ rfl;simp [Region.binds] at this;simp [this]
     have f29:=(hv 29 48 rfl l0).trans (q29 l0)
     have e2:xa.tmps.getD 2 undef=.int .i64 i:=ho 2 (by kernel_rfl)
     refine Ri.step_wanted (b:=true) rfl rfl rfl f29 (fun K' hK=>?_)
     go_simp
     exact hK _ _ ⟨_,_,rfl,rfl,hb,q0,q1,q2,q3,q4,q5,q6,q7,q8,q9,q10,q11,q12,q13,q14,q15,q16,q17,q18,q19,q20,q21,q22,q23,q24,q25,q26,q27,q28,q29,q30,fun _=>rfl,q32,q33,q34,q35,q36,q37,q38⟩
   · have l0:L 29=true∧L 30=true∧L 31=true:=by have:=hd _ rfl;simp [Region.binds] at this;simp [this]
     have f29:=(hv 29 48 rfl l0.1).trans (q29 l0.1)
     have f30:=(hv 30 49 rfl l0.2.1).trans (q30 l0.2.1)
     have f31:=(hv 31 50 rfl l0.2.2).trans (q31 l0.2.2)
     refine Ri.step_wanted (b:=true) rfl rfl rfl f29 (fun K' hK=>?_)
     go_simp
     refine (HPM1.out _ hb).mono ?_
     rintro e w8 ⟨rfl,rfl⟩
     exact hK _ _ ⟨_,_,rfl,rfl,hb,q0,q1,q2,q3,q4,q5,q6,q7,q8,q9,q10,q11,q12,q13,q14,q15,q16,q17,q18,q19,q20,q21,q22,q23,q24,q25,q26,q27,q28,q29,q30,q31,fun _=>rfl,q33,q34,q35,q36,q37,q38⟩
   · have l0:L 29=true:=by have:=hd _ rfl;simp [Region.binds] at this;simp [this]
     have f29:=(hv 29 48 rfl l0).trans (q29 l0)
     have e4:xa.tmps.getD 4 undef=.pointer (some ⟨w.heap.size,0,none⟩):=ho 4 (by kernel_rfl)
     refine Ri.step_wanted (b:=true) rfl rfl rfl f29 (fun K' hK=>?_)
     refine wp_load_row _ _ rfl _ e4 _ _ _ _ (keep_blk hb Z1.out) Try.underlying27 rfl (by kernel_rfl) ?_
     exact hK _ _ ⟨_,_,rfl,rfl,hb,q0,q1,q2,q3,q4,q5,q6,q7,q8,q9,q10,q11,q12,q13,q14,q15,q16,q17,q18,q19,q20,q21,q22,q23,q24,q25,q26,q27,q28,q29,q30,q31,q32,fun _=>rfl,q34,q35,q36,q37,q38⟩
   · have l0:L 29=true:=by have:=hd _ rfl;simp [Region.binds] at this;simp [this]
     have f29:=(hv 29 48 rfl l0).trans (q29 l0)
     have e2:xa.tmps.getD 2 undef=.int .i64 i:=ho 2 (by kernel_rfl)
     refine Ri.step_wanted (b:=true) rfl rfl rfl f29 (fun K' hK=>?_)
     go_simp
     exact hK _ _ ⟨_,_,rfl,rfl,hb,q0,q1,q2,q3,q4,q5,q6,q7,q8,q9,q10,q11,q12,q13,q14,q15,q16,q17,q18,q19,q20,q21,q22,q23,q24,q25,q26,q27,q28,q29,q30,q31,q32,q33,fun _=>rfl,q35,q36,q37,q38⟩
   · have l0:L 29=true∧L 33=true∧L 34=true:=by have:=hd _ rfl;simp [Region.binds] at this;simp [this]
     have f29:=(hv 29 48 rfl l0.1).trans (q29 l0.1)
     have f33:=(hv 33 52 rfl l0.2.1).trans (q33 l0.2.1)
     have f34:=(hv 34 53 rfl l0.2.2).trans (q34 l0.2.2)
     refine Ri.step_wanted (b:=true) rfl rfl rfl f29 (fun K' hK=>?_)
     go_simp
     refine (HRM.out _).mono ?_
     rintro e w8 ⟨rfl,hb8⟩
     exact hK _ _ ⟨_,_,rfl,rfl,hb.trans (hb8.mono hb.size),q0,q1,q2,q3,q4,q5,q6,q7,q8,q9,q10,q11,q12,q13,q14,q15,q16,q17,q18,q19,q20,q21,q22,q23,q24,q25,q26,q27,q28,q29,q30,q31,q32,q33,q34,fun _=>rfl,q36,q37,q38⟩
   · have l0:L 29=true∧L 32=true∧L 35=true:=by have:=hd _ rfl;simp [Region.binds] at this;simp [this]
     have f29:=(hv 29 48 rfl l0.1).trans (q29 l0.1)
     have f32:=(hv 32 51 rfl l0.2.1).trans (q32 l0.2.1)
     have f35:=(hv 35 54 rfl l0.2.2).trans (q35 l0.2.2)
     refine Ri.step_wanted (b:=true) rfl rfl rfl f29 (fun K' hK=>?_)
     go_simp
     exact hK _ _ ⟨_,_,rfl,rfl,hb,q0,q1,q2,q3,q4,q5,q6,q7,q8,q9,q10,q11,q12,q13,q14,q15,q16,q17,q18,q19,q20,q21,q22,q23,q24,q25,q26,q27,q28,q29,q30,q31,q32,q33,q34,q35,fun _=>rfl,q37,q38⟩
   · have l0:L 29=true∧L 36=true:=by have:=hd _ rfl;simp [Region.binds] at this;simp [this]
     have f29:=(hv 29 48 rfl l0.1).trans (q29 l0.1)
     have f36:=(hv 36 55 rfl l0.2).trans (q36 l0.2)
     refine Ri.step_plain rfl rfl (fun K' hK=>?_)
     go_simp
     exact hK _ _ ⟨_,_,rfl,rfl,hb,q0,q1,q2,q3,q4,q5,q6,q7,q8,q9,q10,q11,q12,q13,q14,q15,q16,q17,q18,q19,q20,q21,q22,q23,q24,q25,q26,q27,q28,q29,q30,q31,q32,q33,q34,q35,q36,fun _=>rfl,q38⟩
   · have l0:L 37=true:=by have:=hd _ rfl;simp [Region.binds] at this;simp [this]
     have f37:=(hv 37 56 rfl l0).trans (q37 l0)
     refine Ri.step_plain rfl rfl (fun K' hK=>?_)
     go_simp
     exact hK _ _ ⟨_,_,rfl,rfl,hb,q0,q1,q2,q3,q4,q5,q6,q7,q8,q9,q10,q11,q12,q13,q14,q15,q16,q17,q18,q19,q20,q21,q22,q23,q24,q25,q26,q27,q28,q29,q30,q31,q32,q33,q34,q35,q36,q37,fun _=>rfl⟩
 · rintro v w9 ⟨hb,-,-,-,-,-,-,-,-,-,-,-,-,-,-,-,-,-,-,-,-,-,-,-,-,-,-,-,-,-,-,-,-,-,-,-,-,-,-,q38⟩
   have q38':v 38=.bool true:=q38 rfl
   simp only [Ri.frame,List.zipIdx,List.foldl_cons,List.foldl_nil,if_true,List.setIfInBounds_toArray,List.set_cons_zero,List.set_cons_succ,Nat.reduceAdd,q38']
   clear q38 q38'
   generalize v 0=y0;generalize v 1=y1;generalize v 2=y2;generalize v 3=y3;generalize v 4=y4;generalize v 5=y5;generalize v 6=y6;generalize v 7=y7;generalize v 8=y8;generalize v 9=y9;generalize v 10=y10;generalize v 11=y11;generalize v 12=y12;generalize v 13=y13;generalize v 14=y14;generalize v 15=y15;generalize v 16=y16;generalize v 17=y17;generalize v 18=y18;generalize v 19=y19;generalize v 20=y20;generalize v 21=y21;generalize v 22=y22;generalize v 23=y23;generalize v 24=y24;generalize v 25=y25;generalize v 26=y26;generalize v 27=y27;generalize v 28=y28;generalize v 29=y29;generalize v 30=y30;generalize v 31=y31;generalize v 32=y32;generalize v 33=y33;generalize v 34=y34;generalize v 35=y35;generalize v 36=y36;generalize v 37=y37
   have HBE:=Lib.hid (HB1.out.trans (hb.mono HB1.out.size))
   clear hb
   go_wp2
   go_ret
   exact ⟨rfl,HBE.out⟩
end Go.Proofs.Ytnfgalgifgfojaa
namespace Go.Proofs.Ytnfgalgifgfojaa
open Go.RowKit
theorem same_any (s:ByteArray) (c e0:Int) (T:Bool) (b:Nat) (i0:Int) (hi : -9223372036854775808 ≤ i0∧i0 ≤ 9223372036854775807) (hs:s.size ≤ 140737488351232) (w:World) (hx:ScAt w b (Sc.of s c e0 T)) :
   Calls Try.prog 7 #[.pointer (some ⟨b,0,none⟩),.agg #[.string s,.int .i64 c,.int .i64 e0,.bool T],.int .i64 i0] w fun e w'=>e=.returned (.bool true)∧Below w.heap.size w w':=by
 have Z0':=Lib.hid (heap_alloc_new w (.cells #[.string s,.int .i64 c,.int .i64 e0,.bool T] 27))
 have HW':=Lib.hid (show Below w.heap.size w (w.alloc (.cells #[.string s,.int .i64 c,.int .i64 e0,.bool T] 27)) from (Below.refl _ _).alloc (Nat.le_refl _) _)
 have hsz:=Sc.of_size s c e0 T
 have HPC:=Lib.hid (fun (i:Int) (hi : -9223372036854775808 ≤ i∧i ≤ 9223372036854775807) w' (hb:Below w.heap.size w w')=>place_any s c e0 T b i hi hs w' (hx.below hb))
 have HRT:=Lib.hid (fun w=>rtext_any s c e0 T hs w)
 have HPL':=Lib.hid (show ∀ w',Below w.heap.size w w'→Calls Try.prog 13 #[.pointer (some ⟨b,0,none⟩)] w' fun e w9=>e=.returned (.int .i64 (s.size:Int))∧w9=w' from fun w' hb=>by
   have h:=sclen_any (Sc.of s c e0 T) b w' (hx.below hb)
   rw [hsz] at h
   exact h)
 have HPT':=Lib.hid (fun w' (hb:Below w.heap.size w w')=>sctext_any (Sc.of s c e0 T) b w' (hx.below hb))
 have HI:=Lib.hid hi
 clear hx hsz hi
 generalize (Sc.of s c e0 T).t=t at *
 have hq:(t.toList == t.toList)=true:=by simp
 go_enter Try.func7,Try.ntmps7
 go_upto_region 1 with (fail)
 generalize hW0:World.alloc w _=W0 at *
 have Z0:=Lib.hid (show W0.heap[w.heap.size]? = some (.cells #[.string s,.int .i64 c,.int .i64 e0,.bool T] 27) from hW0 ▸ Z0'.out)
 have HW:=Lib.hid (show Below w.heap.size w W0 from hW0 ▸ HW'.out)
 have HPL:=Lib.hid (fun w' (hb:Below W0.heap.size W0 w')=>HPL'.out w' (HW.out.trans (hb.mono HW.out.size)))
 have HPT:=Lib.hid (fun w' (hb:Below W0.heap.size W0 w')=>HPT'.out w' (HW.out.trans (hb.mono HW.out.size)))
 clear hW0 Z0' HW' HPL' HPT'
 refine Ri.wp_region_frame (by kernel_rfl) (by kernel_rfl) (by kernel_rfl) (by kernel_rfl)
   (fun L v w'=>Below W0.heap.size W0 w'∧(L 0=true→v 0=.pointer (some ⟨b,0,none⟩))∧(L 1=true→v 1=.bool false)∧(L 2=true→v 2=.bool false)∧(L 3=true→v 3=.pointer (some ⟨b,0,none⟩))∧(L 4=true→v 4=.int .i64 (s.size:Int))∧(L 5=true→v 5=.pointer (some ⟨w.heap.size,0,none⟩))∧(L 6=true→v 6=.string s)∧(L 7=true→v 7=.int .i64 (s.size:Int))∧(L 8=true→v 8=.bool false)∧(L 9=true→v 9=.bool false)∧(L 10=true→v 10=.bool false)∧(L 11=true→v 11=.pointer (some ⟨b,0,none⟩))∧(L 12=true→v 12=.string t)∧(L 13=true→v 13=.agg #[.string s,.int .i64 c,.int .i64 e0,.bool T])∧(L 14=true→v 14=.string t)∧(L 15=true→v 15=.bool false)∧(L 16=true→v 16=.bool false))
   ?_ ?_ ?_
 · exact ⟨(Below.refl _ _).drew,by simp,by simp,by simp,by simp,by simp,by simp,by simp,by simp,by simp,by simp,by simp,by simp,by simp,by simp,by simp,by simp,by simp⟩
 · intro i hi9 L v w9 xa hI hL hd hv ho
   have hi':i=0 ∨ i=1 ∨ i=2 ∨ i=3 ∨ i=4 ∨ i=5 ∨ i=6 ∨ i=7 ∨ i=8 ∨ i=9 ∨ i=10 ∨ i=11 ∨ i=12 ∨ i=13 ∨ i=14 ∨ i=15 ∨ i=16:=by simp at hi9;omega
   obtain ⟨hb,q0,q1,q2,q3,q4,q5,q6,q7,q8,q9,q10,q11,q12,q13,q14,q15,q16⟩:=hI
   rcases hi' with rfl | rfl | rfl | rfl | rfl | rfl | rfl | rfl | rfl | rfl | rfl | rfl | rfl | rfl | rfl | rfl | rfl
   · have e0:xa.tmps.getD 0 undef=.pointer (some ⟨b,0,none⟩):=ho 0 (by kernel_rfl)
     refine Ri.step_plain rfl rfl (fun K' hK=>?_)
     go_simp
     exact hK _ _ ⟨_,_,rfl,rfl,hb,fun _=>rfl,q1,q2,q3,q4,q5,q6,q7,q8,q9,q10,q11,q12,q13,q14,q15,q16⟩
   · have l0:L 0=true:=by have:=hd _ rfl;simp [Region.binds] at this;simp [this]
     have f0:=(hv 0 8 rfl l0).trans (q0 l0)
     refine Ri.step_plain rfl rfl (fun K' hK=>?_)
     go_simp
     exact hK _ _ ⟨_,_,rfl,rfl,hb,q0,fun _=>rfl,q2,q3,q4,q5,q6,q7,q8,q9,q10,q11,q12,q13,q14,q15,q16⟩
   · have l0:L 1=true:=by have:=hd _ rfl;simp [Region.binds] at this;simp [this]
     have f1:=(hv 1 9 rfl l0).trans (q1 l0)
     refine Ri.step_plain rfl rfl (fun K' hK=>?_)
     go_simp
     exact hK _ _ ⟨_,_,rfl,rfl,hb,q0,q1,fun _=>rfl,q3,q4,q5,q6,q7,q8,q9,q10,q11,q12,q13,q14,q15,q16⟩
   · have l0:L 2=true:=by have:=hd _ rfl;simp [Region.binds] at this;simp [this]
     have f2:=(hv 2 10 rfl l0).trans (q2 l0)
     have e0:xa.tmps.getD 0 undef=.pointer (some ⟨b,0,none⟩):=ho 0 (by kernel_rfl)
     refine Ri.step_wanted (b:=false) rfl rfl rfl f2 (fun K' hK=>?_)
     go_simp
     exact hK _ _ ⟨_,_,rfl,rfl,hb,q0,q1,q2,fun _=>rfl,q4,q5,q6,q7,q8,q9,q10,q11,q12,q13,q14,q15,q16⟩
   · have l0:L 2=true∧L 3=true:=by have:=hd _ rfl;simp [Region.binds] at this;simp [this]
     have f2:=(hv 2 10 rfl l0.1).trans (q2 l0.1)
     have f3:=(hv 3 11 rfl l0.2).trans (q3 l0.2)
     refine Ri.step_wanted (b:=false) rfl rfl rfl f2 (fun K' hK=>?_)
     go_simp
     refine (HPL.out _ hb).mono ?_
     rintro e w8 ⟨rfl,rfl⟩
     exact hK _ _ ⟨_,_,rfl,rfl,hb,q0,q1,q2,q3,fun _=>rfl,q5,q6,q7,q8,q9,q10,q11,q12,q13,q14,q15,q16⟩
   · have l0:L 2=true:=by have:=hd _ rfl;simp [Region.binds] at this;simp [this]
     have f2:=(hv 2 10 rfl l0).trans (q2 l0)
     have e4:xa.tmps.getD 4 undef=.pointer (some ⟨w.heap.size,0,none⟩):=ho 4 (by kernel_rfl)
     refine Ri.step_wanted (b:=false) rfl rfl rfl f2 (fun K' hK=>?_)
     go_simp
     exact hK _ _ ⟨_,_,rfl,rfl,hb,q0,q1,q2,q3,q4,fun _=>rfl,q6,q7,q8,q9,q10,q11,q12,q13,q14,q15,q16⟩
   · have l0:L 2=true∧L 5=true:=by have:=hd _ rfl;simp [Region.binds] at this;simp [this]
     have f2:=(hv 2 10 rfl l0.1).trans (q2 l0.1)
     have f5:=(hv 5 13 rfl l0.2).trans (q5 l0.2)
     refine Ri.step_wanted (b:=false) rfl rfl rfl f2 (fun K' hK=>?_)
     obtain c0:=(four (keep_blk hb Z0.out)).1
     go_simp
     exact hK _ _ ⟨_,_,rfl,rfl,hb,q0,q1,q2,q3,q4,q5,fun _=>rfl,q7,q8,q9,q10,q11,q12,q13,q14,q15,q16⟩
   · have l0:L 2=true∧L 6=true:=by have:=hd _ rfl;simp [Region.binds] at this;simp [this]
     have f2:=(hv 2 10 rfl l0.1).trans (q2 l0.1)
     have f6:=(hv 6 14 rfl l0.2).trans (q6 l0.2)
     refine Ri.step_wanted (b:=false) rfl rfl rfl f2 (fun K' hK=>?_)
     go_simp
     exact hK _ _ ⟨_,_,rfl,rfl,hb,q0,q1,q2,q3,q4,q5,q6,fun _=>rfl,q8,q9,q10,q11,q12,q13,q14,q15,q16⟩
   · have l0:L 2=true∧L 4=true∧L 7=true:=by have:=hd _ rfl;simp [Region.binds] at this;simp [this]
     have f2:=(hv 2 10 rfl l0.1).trans (q2 l0.1)
     have f4:=(hv 4 12 rfl l0.2.1).trans (q4 l0.2.1)
     have f7:=(hv 7 15 rfl l0.2.2).trans (q7 l0.2.2)
     refine Ri.step_wanted (b:=false) rfl rfl rfl f2 (fun K' hK=>?_)
     go_simp
     exact hK _ _ ⟨_,_,rfl,rfl,hb,q0,q1,q2,q3,q4,q5,q6,q7,fun _=>rfl,q9,q10,q11,q12,q13,q14,q15,q16⟩
   · have l0:L 2=true∧L 8=true:=by have:=hd _ rfl;simp [Region.binds] at this;simp [this]
     have f2:=(hv 2 10 rfl l0.1).trans (q2 l0.1)
     have f8:=(hv 8 16 rfl l0.2).trans (q8 l0.2)
     refine Ri.step_plain rfl rfl (fun K' hK=>?_)
     go_simp
     exact hK _ _ ⟨_,_,rfl,rfl,hb,q0,q1,q2,q3,q4,q5,q6,q7,q8,fun _=>rfl,q10,q11,q12,q13,q14,q15,q16⟩
   · have l0:L 9=true:=by have:=hd _ rfl;simp [Region.binds] at this;simp [this]
     have f9:=(hv 9 17 rfl l0).trans (q9 l0)
     refine Ri.step_plain rfl rfl (fun K' hK=>?_)
     go_simp
     exact hK _ _ ⟨_,_,rfl,rfl,hb,q0,q1,q2,q3,q4,q5,q6,q7,q8,q9,fun _=>rfl,q11,q12,q13,q14,q15,q16⟩
   · have l0:L 10=true:=by have:=hd _ rfl;simp [Region.binds] at this;simp [this]
     have f10:=(hv 10 18 rfl l0).trans (q10 l0)
     have e0:xa.tmps.getD 0 undef=.pointer (some ⟨b,0,none⟩):=ho 0 (by kernel_rfl)
     refine Ri.step_wanted (b:=false) rfl rfl rfl f10 (fun K' hK=>?_)
     go_simp
     exact hK _ _ ⟨_,_,rfl,rfl,hb,q0,q1,q2,q3,q4,q5,q6,q7,q8,q9,q10,fun _=>rfl,q12,q13,q14,q15,q16⟩
   · have l0:L 10=true∧L 11=true:=by have:=hd _ rfl;simp [Region.binds] at this;simp [this]
     have f10:=(hv 10 18 rfl l0.1).trans (q10 l0.1)
     have f11:=(hv 11 19 rfl l0.2).trans (q11 l0.2)
     refine Ri.step_wanted (b:=false) rfl rfl rfl f10 (fun K' hK=>?_)
     go_simp
     refine (HPT.out _ hb).mono ?_
     rintro e w8 ⟨rfl,rfl⟩
     exact hK _ _ ⟨_,_,rfl,rfl,hb,q0,q1,q2,q3,q4,q5,q6,q7,q8,q9,q10,q11,fun _=>rfl,q13,q14,q15,q16⟩
   · have l0:L 10=true:=by have:=hd _ rfl;simp [Region.binds] at this;simp [this]
     have f10:=(hv 10 18 rfl l0).trans (q10 l0)
     have e4:xa.tmps.getD 4 undef=.pointer (some ⟨w.heap.size,0,none⟩):=ho 4 (by kernel_rfl)
     refine Ri.step_wanted (b:=false) rfl rfl rfl f10 (fun K' hK=>?_)
     refine wp_load_row _ _ rfl _ e4 _ _ _ _ (keep_blk hb Z0.out) Try.underlying27 rfl (by kernel_rfl) ?_
     exact hK _ _ ⟨_,_,rfl,rfl,hb,q0,q1,q2,q3,q4,q5,q6,q7,q8,q9,q10,q11,q12,fun _=>rfl,q14,q15,q16⟩
   · have l0:L 10=true∧L 13=true:=by have:=hd _ rfl;simp [Region.binds] at this;simp [this]
     have f10:=(hv 10 18 rfl l0.1).trans (q10 l0.1)
     have f13:=(hv 13 21 rfl l0.2).trans (q13 l0.2)
     refine Ri.step_wanted (b:=false) rfl rfl rfl f10 (fun K' hK=>?_)
     go_simp
     refine (HRT.out _).mono ?_
     rintro e w8 ⟨rfl,hb8⟩
     exact hK _ _ ⟨_,_,rfl,rfl,hb.trans (hb8.mono hb.size),q0,q1,q2,q3,q4,q5,q6,q7,q8,q9,q10,q11,q12,q13,fun _=>rfl,q15,q16⟩
   · have l0:L 10=true∧L 12=true∧L 14=true:=by have:=hd _ rfl;simp [Region.binds] at this;simp [this]
     have f10:=(hv 10 18 rfl l0.1).trans (q10 l0.1)
     have f12:=(hv 12 20 rfl l0.2.1).trans (q12 l0.2.1)
     have f14:=(hv 14 22 rfl l0.2.2).trans (q14 l0.2.2)
     refine Ri.step_wanted (b:=false) rfl rfl rfl f10 (fun K' hK=>?_)
     go_simp
     exact hK _ _ ⟨_,_,rfl,rfl,hb,q0,q1,q2,q3,q4,q5,q6,q7,q8,q9,q10,q11,q12,q13,q14,fun _=>rfl,q16⟩
   · have l0:L 10=true∧L 15=true:=by have:=hd _ rfl;simp [Region.binds] at this;simp [this]
     have f10:=(hv 10 18 rfl l0.1).trans (q10 l0.1)
     have f15:=(hv 15 23 rfl l0.2).trans (q15 l0.2)
     refine Ri.step_plain rfl rfl (fun K' hK=>?_)
     go_simp
     exact hK _ _ ⟨_,_,rfl,rfl,hb,q0,q1,q2,q3,q4,q5,q6,q7,q8,q9,q10,q11,q12,q13,q14,q15,fun _=>rfl⟩
 · rintro v w9 ⟨hb,-,-,-,-,-,-,-,-,-,-,-,-,-,-,-,-,q16⟩
   have q16':v 16=.bool false:=q16 rfl
   simp only [Ri.frame,List.zipIdx,List.foldl_cons,List.foldl_nil,if_true,List.setIfInBounds_toArray,List.set_cons_zero,List.set_cons_succ,Nat.reduceAdd,q16']
   clear q16 q16'
   generalize v 0=y0;generalize v 1=y1;generalize v 2=y2;generalize v 3=y3;generalize v 4=y4;generalize v 5=y5;generalize v 6=y6;generalize v 7=y7;generalize v 8=y8;generalize v 9=y9;generalize v 10=y10;generalize v 11=y11;generalize v 12=y12;generalize v 13=y13;generalize v 14=y14;generalize v 15=y15
   have HB1:=Lib.hid (HW.out.trans (hb.mono HW.out.size))
   have Z1:=Lib.hid (keep_blk hb Z0.out)
   clear hb HRT HPL HPT Z0 HW hq
   go_wp2
   go_loopw [7] (fun iv wr=>∃ i:Int,iv=.int .i64 i∧-1 ≤ i∧i ≤ s.size+2∧Hid (Below w9.heap.size w9 wr)) (fun iv _=>(s.size+2 - intOf iv).toNat)
   case atStart=>exact ⟨-1,rfl,by omega,by omega,Lib.hid (Below.refl _ _)⟩
   case round =>
     obtain ⟨i,rfl,hi1,hi2,HB⟩:=hrel
     have Z2:=Lib.hid (keep_blk HB.out Z1.out)
     have HB2:=Lib.hid (HB1.out.trans (HB.out.mono HB1.out.size))
     have c0:=(four Z2.out).1
     have wi:IntKind.i64.wrap (i+1)=i+1:=IntWalk.i64_in _ (by omega)
     have ws:IntKind.i64.wrap ((s.size:Int)+1)=(s.size:Int)+1:=IntWalk.i64_in _ (by omega)
     by_cases hlt:i ≤ (s.size:Int)+1
     · have hd1:decide (i ≤ (s.size:Int)+1)=true:=decide_eq_true hlt
       go_wp2_with (first
         | (refine wpList_load_row rfl 27 (.tmp 4) rfl w.heap.size rfl 27 _ (0,0) _ Z2.out Try.underlying27 rfl (by kernel_rfl) ?_)
         | fail)
       refine (HPC.out i (by omega) _ HB2.out).mono ?_
       rintro e w3 ⟨rfl,hb3⟩
       have HB3:=Lib.hid (HB.out.trans (hb3.mono HB.out.size))
       clear hb3
       go_wp2
       exact ⟨⟨i+1,by go_num,by omega,by omega,HB3⟩,by simp [intOf];omega⟩
     · have hd1:decide (i ≤ (s.size:Int)+1)=false:=decide_eq_false hlt
       have hin:=HI.out
       go_wp2_with (first
         | (refine wpList_load_row rfl 27 (.tmp 4) rfl w.heap.size rfl 27 _ (0,0) _ Z2.out Try.underlying27 rfl (by kernel_rfl) ?_)
         | fail)
       refine (HPC.out i0 hin _ HB2.out).mono ?_
       rintro e w3 ⟨rfl,hb3⟩
       have HB3:=Lib.hid (HB2.out.trans (hb3.mono HB2.out.size))
       clear hb3
       go_wp2
       go_ret
       exact ⟨rfl,HB3.out⟩
end Go.Proofs.Ytnfgalgifgfojaa
namespace Go.Proofs.Ytnfgalgifgfojaa
open Go.RowKit
def abn:ByteArray:=⟨#[97,10,98]⟩
theorem sclives_any (w:World):Calls Try.prog 6 #[] w fun e w'=>e=.returned (.bool true)∧Below w.heap.size w w':=by
 have HN:=Lib.hid (scnew_any abn 4 3 w)
 have HL:=Lib.hid (fun b w (h:ScAt w b (Sc.new abn 4 3))=>(show (((Sc.new abn 4 3).t.size:Nat):Int)=3 from rfl) ▸ sclen_any (Sc.new abn 4 3) b w h)
 have HB2:=Lib.hid (fun b w (h:ScAt w b (Sc.new abn 4 3))=>(show (Sc.new abn 4 3).beg 2=true by decide +kernel) ▸ scbeg_any (Sc.new abn 4 3) b 2 w h (by omega) (by decide))
 have HF1:=Lib.hid (fun b w (h:ScAt w b (Sc.new abn 4 3))=>(show (Sc.new abn 4 3).fin 1=true by decide +kernel) ▸ scfin_any (Sc.new abn 4 3) b 1 w h)
 have HB0:=Lib.hid (fun b w (h:ScAt w b (Sc.new abn 4 3))=>(show (Sc.new abn 4 3).beg 0=false by decide +kernel) ▸ scbeg_any (Sc.new abn 4 3) b 0 w h (by omega) (by decide))
 have HM3:=Lib.hid (fun b w (h:ScAt w b (Sc.new abn 4 3))=>(show (Sc.new abn 4 3).mks 3=0 by decide +kernel) ▸ scmks_any (Sc.new abn 4 3) b 3 w h (by omega) (by decide))
 go_enter Try.func6,Try.ntmps6
 go_wp2_with fail
 refine HN.out.mono ?_
 rintro e w1 ⟨rfl,hs1,hb1,-⟩
 have HS:=Lib.hid hs1;have HB:=Lib.hid hb1
 clear hs1 hb1 HN
 go_wp2_with fail
 refine (HL.out _ _ HS.out).mono ?_
 rintro e w' ⟨rfl,rfl⟩
 go_wp2_with fail
 refine (HB2.out _ _ HS.out).mono ?_
 rintro e w' ⟨rfl,rfl⟩
 go_wp2_with fail
 refine (HF1.out _ _ HS.out).mono ?_
 rintro e w' ⟨rfl,rfl⟩
 go_wp2_with fail
 refine (HB0.out _ _ HS.out).mono ?_
 rintro e w' ⟨rfl,rfl⟩
 go_wp2_with fail
 refine (HM3.out _ _ HS.out).mono ?_
 rintro e w' ⟨rfl,rfl⟩
 go_wp2
 go_ret
 exact ⟨rfl,HB.out⟩
end Go.Proofs.Ytnfgalgifgfojaa
namespace Go.Proofs
open Go.Shelf
def Try.laysSlE35_f17_ren:Go.Shelf.Ren:=⟨fun | 35=>17 | n=>n,fun | 22=>37 | 23=>5 | 3=>3 | 4=>4 | 0=>0 | n=>n,fun | n=>n⟩
theorem Try.laysSlE35_f17:Go.Proofs.SlLaysE.n35 Try.prog Try.laysSlE35_f17_ren:={
 mixed:=by kernel_rfl
 f35:=⟨Try.f17.name,by decide,Try.func17.trans (congrArg some (by kernel_rfl))⟩
 t0:=Try.underlying0
 a0:=Try.isAgg0
 z0:=Try.sizeOf0
 v0:=Try.zeroValue0
 t3:=Try.underlying3
 a3:=Try.isAgg3
 z3:=Try.sizeOf3
 v3:=Try.zeroValue3
 t4:=Try.underlying4
 a4:=Try.isAgg4
 z4:=Try.sizeOf4
 v4:=Try.zeroValue4
 t22:=Try.underlying37
 a22:=Try.isAgg37
 z22:=Try.sizeOf37
 v22:=Try.zeroValue37
 a23:=Try.isAgg5
 z23:=Try.sizeOf5 }
open Go.RowKit Go.Lib Go.Sort in
theorem Try.slices_Reverse {α:Type} [Inhabited α] (enc:α→Value) (h1:OneCell enc) (blk off cap:Nat) (zs:List α) (w:World) (hH:Holds enc w blk off zs.toArray) (hsz:zs.length ≤ 9223372036854775807) :
   Calls Try.prog 17 #[.slice (some ⟨blk,off,none⟩) zs.length cap] w fun e w'=>e=.returned (.tuple #[])∧∃ n,w'=putRow enc (Sort.ahead w n) blk off zs.reverse.toArray:=AnyE.slices_Reverse Try.laysSlE35_f17 enc h1 blk off cap zs w hH hsz
end Go.Proofs
namespace Go.Proofs.Ytnfgalgifgfojaa
open Go.RowKit
def ScNew (B:Nat) (w:World) (v:Value) (x:Sc):Prop:=∃ g,v=.pointer (some ⟨g,0,none⟩)∧B ≤ g∧ScAt w g x
theorem ScNew.below {B:Nat} {w w':World} {v:Value} {x:Sc} (h:ScNew B w v x) (hb:Below w.heap.size w w'):ScNew B w' v x:=by
 obtain ⟨g,h1,h2,h3⟩:=h
 exact ⟨g,h1,h2,h3.below hb⟩
def encB (c:UInt8):Value:=.int .u8 (c.toNat:Int)
theorem encB_one:OneCell encB:=fun _=>rfl
theorem bytes_of (s:ByteArray) (w:World):∃ W1 cap,(convert 9 37 (.string s)).run Try.prog w=.ok (.slice (some ⟨w.heap.size,0,none⟩) s.size cap) W1∧Below w.heap.size w W1∧w.heap.size < W1.heap.size∧s.size ≤ cap∧Go.Sort.Holds encB W1 w.heap.size 0 s.data.toList.toArray:=by
 refine ⟨Lib.bytesWorld w 5 s,_,Lib.run_convert_string_bytes (P:=Try.prog) w 9 37 5 s Try.underlying9 Try.underlying37 Try.underlying5,⟨rfl,rfl,rfl,by rw [Lib.bytesWorld_size];omega,fun k hk=>Lib.bytesWorld_at_old w _ s k hk⟩,by rw [Lib.bytesWorld_size];omega,grownCap_ge w s.size 0 5,fun j hj=>?_⟩
 have hj':j < s.size:=by simpa using hj
 refine ⟨?_, ?_⟩
 · rw [Nat.zero_add,Lib.bytesWorld_cell w 5 s j hj']
   simp [encB,hj']
 · have hn:=Lib.bytesWorld_at_new w 5 s
   have hc:s.size ≤ (Lib.bytesCells w 5 s).size:=by simp [Lib.bytesCells]
   rw [Nat.zero_add]
   simp only [World.frozen?,hn]
   simp
   omega
theorem turned_any (x:Sc) (b:Nat) (ht:x.t.size ≤ 140737488351232) (w:World) (hx:ScAt w b x) :
   Calls Try.prog 9 #[.pointer (some ⟨b,0,none⟩)] w fun e w'=>∃ v,e=.returned v∧ScNew w.heap.size w' v x.turned∧Below w.heap.size w w':=by
 obtain ⟨t,nl,hd,tl⟩:=x
 have HX:=Lib.hid hx
 obtain ⟨c0,-,-,-,-⟩:=four hx
 clear hx
 obtain ⟨W1,cap,cv,hb1,hlt,hcap,hold⟩:=bytes_of t w
 have HB1:=Lib.hid hb1
 have HR:=Lib.hid (Try.slices_Reverse encB encB_one w.heap.size 0 cap t.data.toList W1 hold (by rw [show t.data.toList.length=t.size by simp];exact Nat.le_trans ht (by omega)))
 have htl:t.data.toList.length=t.size:=by simp
 rw [htl] at HR
 have HH:=Lib.hid hold
 clear hb1 hold
 go_enter Try.func9,Try.ntmps9
 go_wp2_with fail
 refine HR.out.mono ?_
 rintro e W2 ⟨rfl,n,hW2⟩
 clear HR cv c0
 have hb2:Below w.heap.size W1 W2:=by
   rw [hW2]
   refine ⟨rfl,rfl,rfl, ?_,fun k hk=>?_⟩
   · rw [Go.Sort.size_putRow];exact Nat.le_refl _
   · simp [Go.Sort.putRow,Go.Sort.mapBlock,Array.getElem?_modify,show ¬ w.heap.size=k by omega,Go.Sort.ahead]
 have HB2:=Lib.hid (HB1.out.trans hb2)
 have HX2:=Lib.hid (HX.out.below HB2.out)
 have HCS:=Lib.hid (show ∀ w9,Below W2.heap.size W2 w9→(convert 37 9 (.slice (some ⟨w.heap.size,0,none⟩) t.size cap)).run Try.prog w9=.ok (.string (Sc.rev t)) w9 from fun w9 hb=>by
   have hbs:BsAt W2 (.slice (some ⟨w.heap.size,0,none⟩) t.size cap) t.data.toList.reverse:=by
     refine .inr ⟨w.heap.size,0,cap,by rw [List.length_reverse,htl], ?_,fun j hj=>?_⟩
     · rw [List.length_reverse,htl];exact hcap
     · have hj':j < t.data.toList.reverse.toArray.size:=by simpa using hj
       have h:=Go.Sort.cell?_putRow encB (Go.Sort.ahead W1 n) w.heap.size 0 t.data.toList.toArray t.data.toList.reverse.toArray (Go.Sort.holds_ahead encB W1 n w.heap.size 0 _ HH.out) (by simp) j hj'
       rw [← hW2] at h
       rw [h,getElem!_pos _ j hj']
       rfl
   exact to_str (hbs.below hb))
 clear hb2 hW2 HH HX
 go_wp2_with fail
 refine Ri.wp_region_frame (by kernel_rfl) (by kernel_rfl) (by kernel_rfl) (by kernel_rfl)
   (fun L v w'=>Below W2.heap.size W2 w'∧(L 0=true→v 0=.slice (some ⟨w.heap.size,0,none⟩) t.size cap)∧(L 1=true→v 1=.string (Sc.rev t))∧(L 2=true→v 2=.pointer (some ⟨b,0,none⟩))∧(L 3=true→v 3=.pointer (some ⟨b,0,none⟩))∧(L 4=true→v 4=.pointer (some ⟨b,1,none⟩))∧(L 5=true→v 5=.bool nl)∧(L 6=true→v 6=.pointer (some ⟨b,0,none⟩))∧(L 7=true→v 7=.pointer (some ⟨b,0,none⟩))∧(L 8=true→v 8=.pointer (some ⟨b,3,none⟩))∧(L 9=true→v 9=.bool tl)∧(L 10=true→v 10=.pointer (some ⟨b,0,none⟩))∧(L 11=true→v 11=.pointer (some ⟨b,0,none⟩))∧(L 12=true→v 12=.pointer (some ⟨b,2,none⟩))∧(L 13=true→v 13=.bool hd)∧(L 14=true→v 14=.agg #[.string (Sc.rev t),.bool nl,.bool tl,.bool hd])∧(L 15=true→ScNew W2.heap.size w' (v 15) ⟨Sc.rev t,nl,tl,hd⟩)∧(L 16=true→ScNew W2.heap.size w' (v 16) ⟨Sc.rev t,nl,tl,hd⟩))
   ?_ ?_ ?_
 · exact ⟨(Below.refl _ _).drew,by simp,by simp,by simp,by simp,by simp,by simp,by simp,by simp,by simp,by simp,by simp,by simp,by simp,by simp,by simp,by simp,by simp⟩
 · intro i hi9 L v w9 xa hI hL hd hv ho
   have hi':i=0 ∨ i=1 ∨ i=2 ∨ i=3 ∨ i=4 ∨ i=5 ∨ i=6 ∨ i=7 ∨ i=8 ∨ i=9 ∨ i=10 ∨ i=11 ∨ i=12 ∨ i=13 ∨ i=14 ∨ i=15 ∨ i=16:=by simp at hi9;omega
   obtain ⟨hb,q0,q1,q2,q3,q4,q5,q6,q7,q8,q9,q10,q11,q12,q13,q14,q15,q16⟩:=hI
   rcases hi' with rfl | rfl | rfl | rfl | rfl | rfl | rfl | rfl | rfl | rfl | rfl | rfl | rfl | rfl | rfl | rfl | rfl
   · have e3:xa.tmps.getD 3 undef=.slice (some ⟨w.heap.size,0,none⟩) t.size cap:=ho 3 (by kernel_rfl)
     refine Ri.step_plain rfl rfl (fun K' hK=>?_)
     go_simp
     exact hK _ _ ⟨_,_,rfl,rfl,hb,fun _=>rfl,q1,q2,q3,q4,q5,q6,q7,q8,q9,q10,q11,q12,q13,q14,q15,q16⟩
   · have l0:L 0=true:=by have:=hd _ rfl;simp [Region.binds] at this;simp [this]
     have f0:=(hv 0 11 rfl l0).trans (q0 l0)
     refine Ri.step_plain rfl rfl (fun K' hK=>?_)
     have cs:=HCS.out w9 hb
     go_simp
     exact hK _ _ ⟨_,_,rfl,rfl,hb,q0,fun _=>rfl,q2,q3,q4,q5,q6,q7,q8,q9,q10,q11,q12,q13,q14,q15,q16⟩
   · have e0:xa.tmps.getD 0 undef=.pointer (some ⟨b,0,none⟩):=ho 0 (by kernel_rfl)
     refine Ri.step_plain rfl rfl (fun K' hK=>?_)
     go_simp
     exact hK _ _ ⟨_,_,rfl,rfl,hb,q0,q1,fun _=>rfl,q3,q4,q5,q6,q7,q8,q9,q10,q11,q12,q13,q14,q15,q16⟩
   · have l0:L 2=true:=by have:=hd _ rfl;simp [Region.binds] at this;simp [this]
     have f2:=(hv 2 13 rfl l0).trans (q2 l0)
     refine Ri.step_plain rfl rfl (fun K' hK=>?_)
     go_simp
     exact hK _ _ ⟨_,_,rfl,rfl,hb,q0,q1,q2,fun _=>rfl,q4,q5,q6,q7,q8,q9,q10,q11,q12,q13,q14,q15,q16⟩
   · have l0:L 3=true:=by have:=hd _ rfl;simp [Region.binds] at this;simp [this]
     have f3:=(hv 3 14 rfl l0).trans (q3 l0)
     refine Ri.step_plain rfl rfl (fun K' hK=>?_)
     go_simp
     exact hK _ _ ⟨_,_,rfl,rfl,hb,q0,q1,q2,q3,fun _=>rfl,q5,q6,q7,q8,q9,q10,q11,q12,q13,q14,q15,q16⟩
   · have l0:L 4=true:=by have:=hd _ rfl;simp [Region.binds] at this;simp [this]
     have f4:=(hv 4 15 rfl l0).trans (q4 l0)
     refine Ri.step_plain rfl rfl (fun K' hK=>?_)
     obtain ⟨-,c1,-,-,-⟩:=four (HX2.out.below hb)
     go_simp
     exact hK _ _ ⟨_,_,rfl,rfl,hb,q0,q1,q2,q3,q4,fun _=>rfl,q6,q7,q8,q9,q10,q11,q12,q13,q14,q15,q16⟩
   · have e0:xa.tmps.getD 0 undef=.pointer (some ⟨b,0,none⟩):=ho 0 (by kernel_rfl)
     refine Ri.step_plain rfl rfl (fun K' hK=>?_)
     go_simp
     exact hK _ _ ⟨_,_,rfl,rfl,hb,q0,q1,q2,q3,q4,q5,fun _=>rfl,q7,q8,q9,q10,q11,q12,q13,q14,q15,q16⟩
   · have l0:L 6=true:=by have:=hd _ rfl;simp [Region.binds] at this;simp [this]
     have f6:=(hv 6 17 rfl l0).trans (q6 l0)
     refine Ri.step_plain rfl rfl (fun K' hK=>?_)
     go_simp
     exact hK _ _ ⟨_,_,rfl,rfl,hb,q0,q1,q2,q3,q4,q5,q6,fun _=>rfl,q8,q9,q10,q11,q12,q13,q14,q15,q16⟩
   · have l0:L 7=true:=by have:=hd _ rfl;simp [Region.binds] at this;simp [this]
     have f7:=(hv 7 18 rfl l0).trans (q7 l0)
     refine Ri.step_plain rfl rfl (fun K' hK=>?_)
     go_simp
     exact hK _ _ ⟨_,_,rfl,rfl,hb,q0,q1,q2,q3,q4,q5,q6,q7,fun _=>rfl,q9,q10,q11,q12,q13,q14,q15,q16⟩
   · have l0:L 8=true:=by have:=hd _ rfl;simp [Region.binds] at this;simp [this]
     have f8:=(hv 8 19 rfl l0).trans (q8 l0)
     refine Ri.step_plain rfl rfl (fun K' hK=>?_)
     obtain ⟨-,-,-,c3,-⟩:=four (HX2.out.below hb)
     go_simp
     exact hK _ _ ⟨_,_,rfl,rfl,hb,q0,q1,q2,q3,q4,q5,q6,q7,q8,fun _=>rfl,q10,q11,q12,q13,q14,q15,q16⟩
   · have e0:xa.tmps.getD 0 undef=.pointer (some ⟨b,0,none⟩):=ho 0 (by kernel_rfl)
     refine Ri.step_plain rfl rfl (fun K' hK=>?_)
     go_simp
     exact hK _ _ ⟨_,_,rfl,rfl,hb,q0,q1,q2,q3,q4,q5,q6,q7,q8,q9,fun _=>rfl,q11,q12,q13,q14,q15,q16⟩
   · have l0:L 10=true:=by have:=hd _ rfl;simp [Region.binds] at this;simp [this]
     have f10:=(hv 10 21 rfl l0).trans (q10 l0)
     refine Ri.step_plain rfl rfl (fun K' hK=>?_)
     go_simp
     exact hK _ _ ⟨_,_,rfl,rfl,hb,q0,q1,q2,q3,q4,q5,q6,q7,q8,q9,q10,fun _=>rfl,q12,q13,q14,q15,q16⟩
   · have l0:L 11=true:=by have:=hd _ rfl;simp [Region.binds] at this;simp [this]
     have f11:=(hv 11 22 rfl l0).trans (q11 l0)
     refine Ri.step_plain rfl rfl (fun K' hK=>?_)
     go_simp
     exact hK _ _ ⟨_,_,rfl,rfl,hb,q0,q1,q2,q3,q4,q5,q6,q7,q8,q9,q10,q11,fun _=>rfl,q13,q14,q15,q16⟩
   · have l0:L 12=true:=by have:=hd _ rfl;simp [Region.binds] at this;simp [this]
     have f12:=(hv 12 23 rfl l0).trans (q12 l0)
     refine Ri.step_plain rfl rfl (fun K' hK=>?_)
     obtain ⟨-,-,c2,-,-⟩:=four (HX2.out.below hb)
     go_simp
     exact hK _ _ ⟨_,_,rfl,rfl,hb,q0,q1,q2,q3,q4,q5,q6,q7,q8,q9,q10,q11,q12,fun _=>rfl,q14,q15,q16⟩
   · have l0:L 1=true∧L 5=true∧L 9=true∧L 13=true:=by have:=hd _ rfl;simp [Region.binds] at this;simp [this]
     have f1:=(hv 1 12 rfl l0.1).trans (q1 l0.1)
     have f5:=(hv 5 16 rfl l0.2.1).trans (q5 l0.2.1)
     have f9:=(hv 9 20 rfl l0.2.2.1).trans (q9 l0.2.2.1)
     have f13:=(hv 13 24 rfl l0.2.2.2).trans (q13 l0.2.2.2)
     refine Ri.step_plain rfl rfl (fun K' hK=>?_)
     have g12:=(Array.getD_eq_getD_getElem? (xs:=xa.tmps) (i:=12) (d:=undef)).symm.trans f1
     have g16:=(Array.getD_eq_getD_getElem? (xs:=xa.tmps) (i:=16) (d:=undef)).symm.trans f5
     have g20:=(Array.getD_eq_getD_getElem? (xs:=xa.tmps) (i:=20) (d:=undef)).symm.trans f9
     have g24:=(Array.getD_eq_getD_getElem? (xs:=xa.tmps) (i:=24) (d:=undef)).symm.trans f13
     go_simp
     exact hK _ _ ⟨_,_,rfl,rfl,hb,q0,q1,q2,q3,q4,q5,q6,q7,q8,q9,q10,q11,q12,q13,fun _=>rfl,q15,q16⟩
   · have l0:L 14=true:=by have:=hd _ rfl;simp [Region.binds] at this;simp [this]
     have f14:=(hv 14 25 rfl l0).trans (q14 l0)
     refine Ri.step_plain rfl rfl (fun K' hK=>?_)
     go_simp
     exact hK _ _ ⟨_,_,rfl,rfl,hb.alloc hb.size _,q0,q1,q2,q3,q4,q5,q6,q7,q8,q9,q10,q11,q12,q13,q14,fun _=>⟨_,rfl,hb.size,heap_alloc_new _ _⟩,fun l=>(q16 l).below ((Below.refl _ _).alloc (Nat.le_refl _) _)⟩
   · have l0:L 15=true:=by have:=hd _ rfl;simp [Region.binds] at this;simp [this]
     have f15:=hv 15 26 rfl l0
     refine Ri.step_plain rfl rfl (fun K' hK=>?_)
     obtain ⟨g9,hg9,hz9,hs9⟩:=(q15 l0)
     have f26':=f15.trans hg9
     go_simp
     exact hK _ _ ⟨_,_,rfl,rfl,hb,q0,q1,q2,q3,q4,q5,q6,q7,q8,q9,q10,q11,q12,q13,q14,q15,fun _=>⟨g9,rfl,hz9,hs9⟩⟩
 · rintro v w9 ⟨hb,-,-,-,-,-,-,-,-,-,-,-,-,-,-,-,-,q16⟩
   have E16:=Lib.hid (q16 rfl)
   simp only [Ri.frame,List.zipIdx,List.foldl_cons,List.foldl_nil,if_true,List.setIfInBounds_toArray,List.set_cons_zero,List.set_cons_succ,Nat.reduceAdd]
   clear q16
   generalize v 0=y0;generalize v 1=y1;generalize v 2=y2;generalize v 3=y3;generalize v 4=y4;generalize v 5=y5;generalize v 6=y6;generalize v 7=y7;generalize v 8=y8;generalize v 9=y9;generalize v 10=y10;generalize v 11=y11;generalize v 12=y12;generalize v 13=y13;generalize v 14=y14;generalize v 15=y15;generalize v 16=y16 at *
   have HBE:=Lib.hid (HB2.out.trans (hb.mono HB2.out.size))
   clear hb
   have hsz2:=HB2.out.size
   go_wp2
   go_ret
   obtain ⟨g9,hg1,hg2,hg3⟩:=E16.out
   exact ⟨_,rfl,⟨g9,hg1,Nat.le_trans hsz2 hg2,hg3⟩,HBE.out⟩
end Go.Proofs.Ytnfgalgifgfojaa
namespace Go.Proofs.Ytnfgalgifgfojaa
open Go.RowKit
theorem ScNew.mono {B B':Nat} {w:World} {v:Value} {x:Sc} (h:ScNew B w v x) (hb:B' ≤ B):ScNew B' w v x:=by
 obtain ⟨g,h1,h2,h3⟩:=h
 exact ⟨g,h1,Nat.le_trans hb h2,h3⟩
theorem sceneturns_any (s:ByteArray) (c e0 i0:Int) (hi : -9223372036854775808 ≤ i0∧i0 ≤ 9223372036854775807) (w:World) :
   Calls Try.prog 4 #[.string s,.int .i64 c,.int .i64 e0,.int .i64 i0] w fun e w'=>e=.returned (.bool true)∧Below w.heap.size w w':=by
 have HL:=Lib.hid (sclives_any w)
 have HN:=Lib.hid (fun w=>scnew_any s c e0 w)
 by_cases hbig:100000 < s.size
 · have hd:decide ((100000:Int) < s.size)=true:=by simp;omega
   have hd':decide (100000 < s.size)=true:=by simp;omega
   clear hi HN
   go_enter Try.func4,Try.ntmps4
   go_wp2_with fail
   refine HL.out.mono ?_
   rintro e w1 ⟨rfl,hb1⟩
   have HB1:=Lib.hid hb1
   clear hb1 HL
   go_wp2
   go_ret
   exact ⟨rfl,HB1.out⟩
 · have hd:decide ((100000:Int) < s.size)=false:=by simp;omega
   have hd':decide (100000 < s.size)=false:=by simp;omega
   have HS:=Lib.hid (fun w b (h:ScAt w b (Sc.new s c e0))=>same_any s c e0 false b i0 hi (by omega) w h)
   have HST:=Lib.hid (fun w b (h:ScAt w b (Sc.new s c e0).turned)=>same_any s c e0 true b i0 hi (by omega) w h)
   have HT:=Lib.hid (fun w b (h:ScAt w b (Sc.new s c e0))=>turned_any (Sc.new s c e0) b (show s.size ≤ 140737488351232 by omega) w h)
   have HTY:=Lib.hid (show ∀ w b,ScAt w b (Sc.new s c e0).turned→Calls Try.prog 9 #[.pointer (some ⟨b,0,none⟩)] w fun e w'=>∃ v,e=.returned v∧ScNew w.heap.size w' v (Sc.new s c e0)∧Below w.heap.size w w' from fun w b h=>by
     have h2:=turned_any (Sc.new s c e0).turned b (show (Sc.rev s).size ≤ 140737488351232 by rw [Sc.rev_size];omega) w h
     rw [Sc.turned_turned] at h2
     exact h2)
   clear hi hbig
   go_enter Try.func4,Try.ntmps4
   go_wp2_with fail
   refine HL.out.mono ?_
   rintro e w1 ⟨rfl,hb1⟩
   have HB1:=Lib.hid hb1
   clear hb1 HL
   go_wp2_with fail
   refine (HN.out _).mono ?_
   rintro e w2 ⟨rfl,hs2,hb2,-⟩
   have HB2:=Lib.hid (HB1.out.trans (hb2.mono HB1.out.size))
   have HX2:=Lib.hid hs2
   clear hs2 hb2 HN
   have HZ:=Lib.hid (heap_alloc_new w2 (.cells #[.string ⟨#[]⟩,.int .i64 0,.int .i64 0,.bool false] 27))
   have HA:=Lib.hid (show ∀ o cs,Below w2.heap.size w2 ((w2.alloc o).setRow w2.heap.size cs) from fun o cs=>⟨rfl,rfl,rfl,by simp,fun k hk=>(heap_setRow_other _ _ _ (by omega)).trans ((World.grownBy_alloc w2 o none).block k hk (by simp))⟩)
   go_upto_region 7 with (first
     | (refine wpList_store_row rfl 27 (.tmp 10) (.tmp 24) rfl w2.heap.size #[.string s,.int .i64 c,.int .i64 e0,.bool false] rfl rfl 27 _ HZ.out (by kernel_rfl) (by kernel_rfl) (by simp [Value.oneCell']) ?_)
     | fail)
   generalize hW3:World.setRow _ _ _=W3 at *
   have hb3:Below w2.heap.size w2 W3:=hW3 ▸ HA.out _ _
   have HB3:=Lib.hid (HB2.out.trans (hb3.mono HB2.out.size))
   have Z3:=Lib.hid (show W3.heap[w2.heap.size]? = some (.cells #[.string s,.int .i64 c,.int .i64 e0,.bool false] 27) from hW3 ▸ heap_setRow HZ.out)
   have HX3:=Lib.hid (HX2.out.below hb3)
   clear hW3 hb3 HA HZ HB2 HX2
   go_wp2_with fail
   refine (HT.out _ _ HX3.out).mono ?_
   rintro e w5 ⟨v5,rfl,⟨g3,rfl,hg3,hy5⟩,hb5⟩
   have HB5:=Lib.hid (HB3.out.trans (hb5.mono HB3.out.size))
   have Z5:=Lib.hid (keep_blk hb5 Z3.out)
   have HX5:=Lib.hid (HX3.out.below hb5)
   have HY5:=Lib.hid hy5
   clear hb5 hy5 HB3 Z3 HX3 HT
   go_wp2_with fail
   refine (HST.out _ _ HY5.out).mono ?_
   rintro e w4 ⟨rfl,hb4⟩
   have HB4:=Lib.hid (HB5.out.trans (hb4.mono HB5.out.size))
   have Z4:=Lib.hid (keep_blk hb4 Z5.out)
   have HX4:=Lib.hid (HX5.out.below hb4)
   have HY4:=Lib.hid (HY5.out.below hb4)
   have HTT:=Lib.hid (fun w9 (hb:Below w4.heap.size w4 w9)=>HTY.out w9 g3 (HY4.out.below hb))
   have HSX:=Lib.hid (fun w9 (hb:Below w4.heap.size w4 w9)=>HS.out w9 w1.heap.size (HX4.out.below hb))
   have HSV:=Lib.hid (show ∀ w9 v,ScNew w4.heap.size w9 v (Sc.new s c e0)→Calls Try.prog 7 #[v,.agg #[.string s,.int .i64 c,.int .i64 e0,.bool false],.int .i64 i0] w9 fun e w'=>e=.returned (.bool true)∧Below w9.heap.size w9 w' from fun w9 v h=>by
     obtain ⟨g,rfl,-,hg⟩:=h
     exact HS.out w9 g hg)
   clear hb4 HB5 Z5 HX5 HY5 HST HTY HS HX4 HY4
   go_wp2_with fail
   refine Ri.wp_region_frame (by kernel_rfl) (by kernel_rfl) (by kernel_rfl) (by kernel_rfl)
     (fun L v w'=>Below w4.heap.size w4 w'∧(L 0=true→v 0=.pointer (some ⟨g3,0,none⟩))∧(L 1=true→ScNew w4.heap.size w' (v 1) (Sc.new s c e0))∧(L 2=true→v 2=.agg #[.string s,.int .i64 c,.int .i64 e0,.bool false])∧(L 3=true→v 3=.int .i64 i0)∧(L 4=true→v 4=.bool true)∧(L 5=true→v 5=.bool true)∧(L 6=true→v 6=.pointer (some ⟨w1.heap.size,0,none⟩))∧(L 7=true→v 7=.agg #[.string s,.int .i64 c,.int .i64 e0,.bool false])∧(L 8=true→v 8=.int .i64 i0)∧(L 9=true→v 9=.bool true)∧(L 10=true→v 10=.bool true)∧(L 11=true→v 11=.bool true))
     ?_ ?_ ?_
   · exact ⟨(Below.refl _ _).drew,by simp,by simp,by simp,by simp,by simp,by simp,by simp,by simp,by simp,by simp,by simp,by simp⟩
   · intro i hi9 L v w9 xa hI hL hd hv ho
     have hi':i=0 ∨ i=1 ∨ i=2 ∨ i=3 ∨ i=4 ∨ i=5 ∨ i=6 ∨ i=7 ∨ i=8 ∨ i=9 ∨ i=10 ∨ i=11:=by simp at hi9;omega
     obtain ⟨hb,q0,q1,q2,q3,q4,q5,q6,q7,q8,q9,q10,q11⟩:=hI
     rcases hi' with rfl | rfl | rfl | rfl | rfl | rfl | rfl | rfl | rfl | rfl | rfl | rfl
     · have e11:xa.tmps.getD 11 undef=.pointer (some ⟨g3,0,none⟩):=ho 11 (by kernel_rfl)
       refine Ri.step_plain rfl rfl (fun K' hK=>?_)
       go_simp
       exact hK _ _ ⟨_,_,rfl,rfl,hb,fun _=>rfl,q1,q2,q3,q4,q5,q6,q7,q8,q9,q10,q11⟩
     · have l0:L 0=true:=by have:=hd _ rfl;simp [Region.binds] at this;simp [this]
       have f0:=(hv 0 41 rfl l0).trans (q0 l0)
       refine Ri.step_plain rfl rfl (fun K' hK=>?_)
       go_simp
       refine (HTT.out w9 hb).mono ?_
       rintro e w8 ⟨v8,rfl,hv8,hb8⟩
       exact hK _ _ ⟨_,_,rfl,rfl,hb.trans (hb8.mono hb.size),q0,fun _=>ScNew.mono hv8 hb.size,q2,q3,q4,q5,q6,q7,q8,q9,q10,q11⟩
     · have e10:xa.tmps.getD 10 undef=.pointer (some ⟨w2.heap.size,0,none⟩):=ho 10 (by kernel_rfl)
       refine Ri.step_plain rfl rfl (fun K' hK=>?_)
       refine wp_load_row _ _ rfl _ e10 _ _ _ _ (keep_blk hb Z4.out) Try.underlying27 rfl (by kernel_rfl) ?_
       exact hK _ _ ⟨_,_,rfl,rfl,hb,q0,q1,fun _=>rfl,q3,q4,q5,q6,q7,q8,q9,q10,q11⟩
     · have e3:xa.tmps.getD 3 undef=.int .i64 i0:=ho 3 (by kernel_rfl)
       refine Ri.step_plain rfl rfl (fun K' hK=>?_)
       go_simp
       exact hK _ _ ⟨_,_,rfl,rfl,hb,q0,q1,q2,fun _=>rfl,q4,q5,q6,q7,q8,q9,q10,q11⟩
     · have l0:L 1=true∧L 2=true∧L 3=true:=by have:=hd _ rfl;simp [Region.binds] at this;simp [this]
       have f1:=hv 1 42 rfl l0.1
       have f2:=(hv 2 43 rfl l0.2.1).trans (q2 l0.2.1)
       have f3:=(hv 3 44 rfl l0.2.2).trans (q3 l0.2.2)
       refine Ri.step_plain rfl rfl (fun K' hK=>?_)
       go_simp
       refine (HSV.out w9 _ (q1 l0.1)).mono ?_
       rintro e w8 ⟨rfl,hb8⟩
       exact hK _ _ ⟨_,_,rfl,rfl,hb.trans (hb8.mono hb.size),q0,fun l=>(q1 l).below hb8,q2,q3,fun _=>rfl,q5,q6,q7,q8,q9,q10,q11⟩
     · have l0:L 4=true:=by have:=hd _ rfl;simp [Region.binds] at this;simp [this]
       have f4:=(hv 4 45 rfl l0).trans (q4 l0)
       refine Ri.step_plain rfl rfl (fun K' hK=>?_)
       go_simp
       exact hK _ _ ⟨_,_,rfl,rfl,hb,q0,q1,q2,q3,q4,fun _=>rfl,q6,q7,q8,q9,q10,q11⟩
     · have l0:L 5=true:=by have:=hd _ rfl;simp [Region.binds] at this;simp [this]
       have f5:=(hv 5 46 rfl l0).trans (q5 l0)
       have e9:xa.tmps.getD 9 undef=.pointer (some ⟨w1.heap.size,0,none⟩):=ho 9 (by kernel_rfl)
       refine Ri.step_wanted (b:=true) rfl rfl rfl f5 (fun K' hK=>?_)
       go_simp
       exact hK _ _ ⟨_,_,rfl,rfl,hb,q0,q1,q2,q3,q4,q5,fun _=>rfl,q7,q8,q9,q10,q11⟩
     · have l0:L 5=true:=by have:=hd _ rfl;simp [Region.binds] at this;simp [this]
       have f5:=(hv 5 46 rfl l0).trans (q5 l0)
       have e10:xa.tmps.getD 10 undef=.pointer (some ⟨w2.heap.size,0,none⟩):=ho 10 (by kernel_rfl)
       refine Ri.step_wanted (b:=true) rfl rfl rfl f5 (fun K' hK=>?_)
       refine wp_load_row _ _ rfl _ e10 _ _ _ _ (keep_blk hb Z4.out) Try.underlying27 rfl (by kernel_rfl) ?_
       exact hK _ _ ⟨_,_,rfl,rfl,hb,q0,q1,q2,q3,q4,q5,q6,fun _=>rfl,q8,q9,q10,q11⟩
     · have l0:L 5=true:=by have:=hd _ rfl;simp [Region.binds] at this;simp [this]
       have f5:=(hv 5 46 rfl l0).trans (q5 l0)
       have e3:xa.tmps.getD 3 undef=.int .i64 i0:=ho 3 (by kernel_rfl)
       refine Ri.step_wanted (b:=true) rfl rfl rfl f5 (fun K' hK=>?_)
       go_simp
       exact hK _ _ ⟨_,_,rfl,rfl,hb,q0,q1,q2,q3,q4,q5,q6,q7,fun _=>rfl,q9,q10,q11⟩
     · have l0:L 5=true∧L 6=true∧L 7=true∧L 8=true:=by have:=hd _ rfl;simp [Region.binds] at this;simp [this]
       have f5:=(hv 5 46 rfl l0.1).trans (q5 l0.1)
       have f6:=(hv 6 47 rfl l0.2.1).trans (q6 l0.2.1)
       have f7:=(hv 7 48 rfl l0.2.2.1).trans (q7 l0.2.2.1)
       have f8:=(hv 8 49 rfl l0.2.2.2).trans (q8 l0.2.2.2)
       refine Ri.step_wanted (b:=true) rfl rfl rfl f5 (fun K' hK=>?_)
       go_simp
       refine (HSX.out w9 hb).mono ?_
       rintro e w8 ⟨rfl,hb8⟩
       exact hK _ _ ⟨_,_,rfl,rfl,hb.trans (hb8.mono hb.size),q0,fun l=>(q1 l).below hb8,q2,q3,q4,q5,q6,q7,q8,fun _=>rfl,q10,q11⟩
     · have l0:L 5=true∧L 9=true:=by have:=hd _ rfl;simp [Region.binds] at this;simp [this]
       have f5:=(hv 5 46 rfl l0.1).trans (q5 l0.1)
       have f9:=(hv 9 50 rfl l0.2).trans (q9 l0.2)
       refine Ri.step_plain rfl rfl (fun K' hK=>?_)
       go_simp
       exact hK _ _ ⟨_,_,rfl,rfl,hb,q0,q1,q2,q3,q4,q5,q6,q7,q8,q9,fun _=>rfl,q11⟩
     · have l0:L 10=true:=by have:=hd _ rfl;simp [Region.binds] at this;simp [this]
       have f10:=(hv 10 51 rfl l0).trans (q10 l0)
       refine Ri.step_plain rfl rfl (fun K' hK=>?_)
       go_simp
       exact hK _ _ ⟨_,_,rfl,rfl,hb,q0,q1,q2,q3,q4,q5,q6,q7,q8,q9,q10,fun _=>rfl⟩
   · rintro v w9 ⟨hb,-,-,-,-,-,-,-,-,-,-,-,q11⟩
     have q11':v 11=.bool true:=q11 rfl
     simp only [Ri.frame,List.zipIdx,List.foldl_cons,List.foldl_nil,if_true,List.setIfInBounds_toArray,List.set_cons_zero,List.set_cons_succ,Nat.reduceAdd,q11']
     clear q11 q11'
     generalize v 0=y0;generalize v 1=y1;generalize v 2=y2;generalize v 3=y3;generalize v 4=y4;generalize v 5=y5;generalize v 6=y6;generalize v 7=y7;generalize v 8=y8;generalize v 9=y9;generalize v 10=y10
     have HBE:=Lib.hid (HB4.out.trans (hb.mono HB4.out.size))
     clear hb
     go_wp2
     go_ret
     exact ⟨rfl,HBE.out⟩
end Go.Proofs.Ytnfgalgifgfojaa
namespace Go.Proofs.Ytnfgalgifgfojaa
open Go.ChangeShapes Go.WideShapes Go.ChangeAt Go.RowKit
theorem sc_lo64 {n:Int} (h:(Lit.int .i64 n).wf=true) : -9223372036854775808 ≤ n∧n ≤ 9223372036854775807:=by
 simp only [Lit.wf,IntKind.min,IntKind.max,IntKind.signed,IntKind.bits,Bool.and_eq_true] at h
 have h1:=h.1;have h2:=h.2
 simp at h1 h2
 omega
theorem Try.own:ownKnob Try.prog.godebug=none:=by kernel_rfl
theorem Try.laidOut:laidOutB Try.prog=true:=by kernel_rfl
end Go.Proofs.Ytnfgalgifgfojaa
