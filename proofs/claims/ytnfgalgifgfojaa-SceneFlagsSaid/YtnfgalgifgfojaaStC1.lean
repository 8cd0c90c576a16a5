/- Part 1 of what these proofs need. -/
import Derived.WalkKit
import Derived.WalkSpells
import Derived.WalkLawsBesides
import Derived.Handy
import Derived.Lib.Hide
import Derived.Test.YtnfgalgifgfojaaChecked
import Derived.BigFrame
import Derived.BigQuiet
import Derived.RegionTactic
import Derived.Laws.AppendOwn
import Derived.Laws.AppendOwnNone
import Derived.Lib.UnsafeStr
import Derived.Laws.BytesArg
import Derived.Laws.IdiomStrings
import Derived.Deep.DeepCutAuto
import Derived.Test.YtnfgalgifgfojaaRows
import Derived.ProofKit
import Derived.OpenShut
import Derived.ChangeOld
import Derived.ChangeMaps5
set_option maxRecDepth 100000
set_option maxHeartbeats 16000000
namespace Go.Proofs.Ytnfgalgifgfojaa
open Go.RowKit
theorem four {w:World} {b:Nat} {x0 x1 x2 x3:Value} {t:TypeId} (h:w.heap[b]? = some (.cells #[x0,x1,x2,x3] t)) :
   w.cell? ⟨b,0,none⟩=some x0∧w.cell? ⟨b,1,none⟩=some x1∧w.cell? ⟨b,2,none⟩=some x2∧w.cell? ⟨b,3,none⟩=some x3 ∧
   w.frozen? ⟨b,0,none⟩=false∧w.frozen? ⟨b,1,none⟩=false∧w.frozen? ⟨b,2,none⟩=false∧w.frozen? ⟨b,3,none⟩=false:=by
 simp [World.cell?,World.frozen?,h]
theorem keep_blk {w w':World} {g:Nat} {x:Obj} (hb:Below w.heap.size w w') (h:w.heap[g]? = some x):w'.heap[g]? = some x :=
 (hb.block g (Array.getElem?_eq_some_iff.1 h).1).trans h
end Go.Proofs.Ytnfgalgifgfojaa
namespace Go.Proofs.Ytnfgalgifgfojaa
open Go.RowKit
def cb (s:ByteArray) (i:Nat):Nat:=if h:i < s.size then s[i].toNat else 256
theorem cb_in {s:ByteArray} {i:Nat} (h:i < s.size):s[i].toNat=cb s i:=by unfold cb;rw [dif_pos h]
structure Sc where
 t:ByteArray
 nl:Bool
 hd:Bool
 tl:Bool
namespace Sc
def inn (x:Sc) (i:Int):Bool:=decide (0 ≤ i) && decide (i < x.t.size)
def byt (x:Sc) (i:Int):Int:=if x.inn i then (cb x.t i.toNat:Int) else 0
def nlAt (x:Sc) (i:Int):Bool:=x.inn i && (x.nl && cb x.t i.toNat == 10)
def beg (x:Sc) (i:Int):Bool:=(x.hd && i == 0) || x.nlAt (i - 1)
def fin (x:Sc) (i:Int):Bool:=(x.tl && i == x.t.size) || x.nlAt i
def mks (x:Sc) (i:Int):Int:=(if x.beg i then 1 else 0)+(if x.fin i then 2 else 0)
theorem inn_nat (x:Sc) (k:Nat):x.inn (k:Int)=decide (k < x.t.size):=by
 unfold inn;simp
theorem inn_neg (x:Sc) {i:Int} (h:i < 0):x.inn i=false:=by
 unfold inn;rw [decide_eq_false (by omega)];rfl
theorem inn_big (x:Sc) {i:Int} (h:(x.t.size:Int) ≤ i):x.inn i=false:=by
 unfold inn;rw [show decide (i < (x.t.size:Int))=false from decide_eq_false (by omega),Bool.and_false]
theorem nlAt_out (x:Sc) {i:Int} (h:x.inn i=false):x.nlAt i=false:=by unfold nlAt;rw [h];rfl
theorem nlAt_neg (x:Sc) {i:Int} (h:i < 0):x.nlAt i=false:=x.nlAt_out (x.inn_neg h)
theorem nlAt_big (x:Sc) {i:Int} (h:(x.t.size:Int) ≤ i):x.nlAt i=false:=x.nlAt_out (x.inn_big h)
theorem nlAt_in (x:Sc) {k:Nat} (h:k < x.t.size):x.nlAt (k:Int)=(x.nl && cb x.t k == 10):=by
 unfold nlAt;rw [inn_nat,decide_eq_true h,Bool.true_and];rfl
def new (s:ByteArray) (c e:Int):Sc:=⟨s,bits .and .i64 c 4 != 0,bits .and .i64 e 1 == 0,bits .and .i64 e 2 == 0⟩
end Sc
def ScAt (w:World) (b:Nat) (x:Sc):Prop:=w.heap[b]? = some (.cells #[.string x.t,.bool x.nl,.bool x.hd,.bool x.tl] 36)
theorem ScAt.below {w w':World} {b:Nat} {x:Sc} (h:ScAt w b x) (hb:Below w.heap.size w w'):ScAt w' b x:=keep_blk hb h
theorem scbyte_any (x:Sc) (b:Nat) (i:Int) (w:World) (h:ScAt w b x) :
   Calls Try.prog 20 #[.pointer (some ⟨b,0,none⟩),.int .i64 i] w fun e w'=>e=.returned (.tuple #[.int .u8 (x.byt i),.bool (x.inn i)])∧w'=w:=by
 obtain ⟨c0,-,-,-,-⟩:=four h
 by_cases h0:i < 0
 · have hd:decide (i < 0)=true:=by simpa using h0
   rw [show x.byt i=0 by unfold Sc.byt;rw [x.inn_neg h0];rfl,x.inn_neg h0]
   go_enter Try.func20,Try.ntmps20
   go_wp2
   go_ret2
   exact ⟨rfl,rfl⟩
 · obtain ⟨k,rfl⟩:∃ k:Nat,i=k:=⟨i.toNat,by omega⟩
   have hd:decide ((k:Int) < 0)=false:=by simp
   by_cases h1:k < x.t.size
   · have hd1:decide ((x.t.size:Int) ≤ k)=false:=by simp;omega
     have hd2:decide (x.t.size ≤ k)=false:=by simp;omega
     have he:=cb_in h1
     rw [show x.byt (k:Int)=(cb x.t k:Int) by unfold Sc.byt;rw [x.inn_nat,decide_eq_true h1];rfl,x.inn_nat,decide_eq_true h1]
     go_enter Try.func20,Try.ntmps20
     go_wp2
     go_ret2
     exact ⟨rfl,rfl⟩
   · have hd1:decide ((x.t.size:Int) ≤ k)=true:=by simp;omega
     have hd2:decide (x.t.size ≤ k)=true:=by simp;omega
     rw [show x.byt (k:Int)=0 by unfold Sc.byt;rw [x.inn_nat,decide_eq_false h1];rfl,x.inn_nat,decide_eq_false h1]
     go_enter Try.func20,Try.ntmps20
     go_wp2
     go_ret2
     exact ⟨rfl,rfl⟩
theorem scnl_any (x:Sc) (b:Nat) (i:Int) (w:World) (h:ScAt w b x) :
   Calls Try.prog 18 #[.pointer (some ⟨b,0,none⟩),.int .i64 i] w fun e w'=>e=.returned (.bool (x.nlAt i))∧w'=w:=by
 have HB:=Lib.hid (scbyte_any x b i w h)
 obtain ⟨-,c1,-,-,-⟩:=four h
 clear h
 have hn:x.nlAt i=(x.inn i && (x.nl && x.byt i == 10)):=by
   unfold Sc.nlAt Sc.byt
   cases x.inn i with
   | false=>rfl
   | true=>simp only [Bool.true_and,if_true];congr 1;rw [Bool.eq_iff_iff];simp only [beq_iff_eq];omega
 rw [hn]
 clear hn
 generalize x.byt i=y at *
 generalize x.inn i=t at *
 generalize x.nl=n at *
 cases t <;> cases n <;> cases hy:(y == 10)
 all_goals
   go_enter Try.func18,Try.ntmps18
   go_wp2_with fail
   refine HB.out.mono ?_
   rintro e w' ⟨rfl,rfl⟩
   go_wp2
   go_ret
   exact ⟨rfl,rfl⟩
theorem Sc.nlAt_wrap (x:Sc) (i:Int) (hi : -9223372036854775808 ≤ i∧i ≤ 9223372036854775807) (ht:x.t.size ≤ 4611686018427387904):x.nlAt (wrap64 (i - 1))=x.nlAt (i - 1):=by
 by_cases hm:i = -9223372036854775808
 · have hw:wrap64 (i - 1)=9223372036854775807:=by unfold wrap64;omega
   rw [x.nlAt_neg (by omega:i - 1 < 0),x.nlAt_big (by omega)]
 · rw [show wrap64 (i - 1)=i - 1 by unfold wrap64;omega]
theorem scbeg_any (x:Sc) (b:Nat) (i:Int) (w:World) (h:ScAt w b x) (hi : -9223372036854775808 ≤ i∧i ≤ 9223372036854775807) (ht:x.t.size ≤ 4611686018427387904) :
   Calls Try.prog 11 #[.pointer (some ⟨b,0,none⟩),.int .i64 i] w fun e w'=>e=.returned (.bool (x.beg i))∧w'=w:=by
 have hn:=x.nlAt_wrap i hi ht
 have HN:=Lib.hid (scnl_any x b (wrap64 (i - 1)) w h)
 obtain ⟨-,-,c2,-,-⟩:=four h
 clear h hi ht
 unfold Sc.beg
 rw [← hn]
 clear hn
 generalize x.nlAt (wrap64 (i - 1))=y at *
 generalize x.hd=d at *
 cases d <;> cases hy:(i == 0)
 all_goals
   go_enter Try.func11,Try.ntmps11
   go_wp2_with fail
   first
     | (go_ret;exact ⟨rfl,rfl⟩)
     | (refine HN.out.mono ?_;rintro e w' ⟨rfl,rfl⟩;go_wp2;go_ret;exact ⟨rfl,rfl⟩)
theorem scfin_any (x:Sc) (b:Nat) (i:Int) (w:World) (h:ScAt w b x) :
   Calls Try.prog 12 #[.pointer (some ⟨b,0,none⟩),.int .i64 i] w fun e w'=>e=.returned (.bool (x.fin i))∧w'=w:=by
 have HN:=Lib.hid (scnl_any x b i w h)
 obtain ⟨c0,-,-,c3,-⟩:=four h
 clear h
 unfold Sc.fin
 generalize x.nlAt i=y at *
 generalize x.tl=d at *
 cases d <;> cases hy:(i == (x.t.size:Int))
 all_goals
   go_enter Try.func12,Try.ntmps12
   go_wp2_with fail
   first
     | (go_ret;exact ⟨rfl,rfl⟩)
     | (refine HN.out.mono ?_;rintro e w' ⟨rfl,rfl⟩;go_wp2;go_ret;exact ⟨rfl,rfl⟩)
theorem scmks_any (x:Sc) (b:Nat) (i:Int) (w:World) (h:ScAt w b x) (hi : -9223372036854775808 ≤ i∧i ≤ 9223372036854775807) (ht:x.t.size ≤ 4611686018427387904) :
   Calls Try.prog 10 #[.pointer (some ⟨b,0,none⟩),.int .i64 i] w fun e w'=>e=.returned (.int .i64 (x.mks i))∧w'=w:=by
 have HB:=Lib.hid (scbeg_any x b i w h hi ht)
 have HF:=Lib.hid (scfin_any x b i w h)
 clear h hi ht
 unfold Sc.mks
 generalize x.beg i=y at *
 generalize x.fin i=z at *
 cases y <;> cases z
 all_goals
   go_enter Try.func10,Try.ntmps10
   go_wp2_with fail
   refine HB.out.mono ?_;rintro e w' ⟨rfl,rfl⟩
   go_wp2_with fail
   refine HF.out.mono ?_;rintro e w' ⟨rfl,rfl⟩
   go_wp2
   go_ret
   exact ⟨rfl,rfl⟩
theorem sclen_any (x:Sc) (b:Nat) (w:World) (h:ScAt w b x) :
   Calls Try.prog 13 #[.pointer (some ⟨b,0,none⟩)] w fun e w'=>e=.returned (.int .i64 x.t.size)∧w'=w:=by
 obtain ⟨c0,-,-,-,-⟩:=four h
 go_enter Try.func13,Try.ntmps13
 go_wp2
 go_ret
 exact ⟨rfl,rfl⟩
theorem scnew_any (s:ByteArray) (c e0:Int) (w:World) :
   Calls Try.prog 8 #[.string s,.int .i64 c,.int .i64 e0] w fun e w'=>e=.returned (.pointer (some ⟨w.heap.size,0,none⟩))∧ScAt w' w.heap.size (Sc.new s c e0)∧Below w.heap.size w w'∧w'.heap.size=w.heap.size+1:=by
 go_enter Try.func8,Try.ntmps8
 go_wp2
 go_ret
 refine ⟨rfl,heap_alloc_new _ _,(Below.refl _ _).alloc (Nat.le_refl _) _,by simp⟩
end Go.Proofs.Ytnfgalgifgfojaa
namespace Go.Proofs.Ytnfgalgifgfojaa
open Go.RowKit
def abn:ByteArray:=⟨#[97,10,98]⟩
theorem sclives_any (w:World):Calls Try.prog 6 #[] w fun e w'=>e=.returned (.bool true)∧Below w.heap.size w w':=by
 have HN:=Lib.hid (scnew_any abn 4 3 w)
 have HL:=Lib.hid (fun b w (h:ScAt w b (Sc.new abn 4 3))=>(show (((Sc.new abn 4 3).t.size:Nat):Int)=3 from rfl) ▸ sclen_any (Sc.new abn 4 3) b w h)
 have HB2:=Lib.hid (fun b w (h:ScAt w b (Sc.new abn 4 3))=>(show (Sc.new abn 4 3).beg 2=true by decide +kernel) ▸ scbeg_any (Sc.new abn 4 3) b 2 w h (by omega) (by decide))
 have HF1:=Lib.hid (fun b w (h:ScAt w b (Sc.new abn 4 3))=>(show (Sc.new abn 4 3).fin 1=true by decide +kernel) ▸ scfin_any (Sc.new abn 4 3) b 1 w h)
 have HB0:=Lib.hid (fun b w (h:ScAt w b (Sc.new abn 4 3))=>(show (Sc.new abn 4 3).beg 0=false by decide +kernel) ▸ scbeg_any (Sc.new abn 4 3) b 0 w h (by omega) (by decide))
 have HM3:=Lib.hid (fun b w (h:ScAt w b (Sc.new abn 4 3))=>(show (Sc.new abn 4 3).mks 3=0 by decide +kernel) ▸ scmks_any (Sc.new abn 4 3) b 3 w h (by omega) (by decide))
 go_enter Try.func6,Try.ntmps6
 go_wp2_with fail
 refine HN.out.mono ?_
 rintro e w1 ⟨rfl,hs1,hb1,-⟩
 have HS:=Lib.hid hs1;have HB:=Lib.hid hb1
 clear hs1 hb1 HN
 go_wp2_with fail
 refine (HL.out _ _ HS.out).mono ?_
 rintro e w' ⟨rfl,rfl⟩
 go_wp2_with fail
 refine (HB2.out _ _ HS.out).mono ?_
 rintro e w' ⟨rfl,rfl⟩
 go_wp2_with fail
 refine (HF1.out _ _ HS.out).mono ?_
 rintro e w' ⟨rfl,rfl⟩
 go_wp2_with fail
 refine (HB0.out _ _ HS.out).mono ?_
 rintro e w' ⟨rfl,rfl⟩
 go_wp2_with fail
 refine (HM3.out _ _ HS.out).mono ?_
 rintro e w' ⟨rfl,rfl⟩
 go_wp2
 go_ret
 exact ⟨rfl,HB.out⟩
end Go.Proofs.Ytnfgalgifgfojaa
namespace Go.Proofs.Ytnfgalgifgfojaa
open Go.RowKit
theorem sc_pow:∀ k,k < 64→IntKind.i64.wrap ((2 ^ k:Nat):Int) ≠ 0:=by decide +kernel
theorem sc_bit (fl:Int) (k:Nat) (hk:k < 64):(bits .and .i64 fl ((2 ^ k:Nat):Int) != 0)=(BitVec.ofInt 64 fl).getLsbD k:=by
 show (IntKind.i64.wrap ((BitVec.ofInt 64 fl &&& BitVec.ofInt 64 ((2 ^ k:Nat):Int)).toNat:Int) != 0)=_
 generalize BitVec.ofInt 64 fl=x
 have e:BitVec.ofInt 64 ((2 ^ k:Nat):Int)=BitVec.twoPow 64 k:=by
   apply BitVec.eq_of_toNat_eq
   rw [BitVec.toNat_ofInt,BitVec.toNat_twoPow]
   have:(((2 ^ k:Nat):Int) % ((2 ^ 64:Nat):Int)).toNat=2 ^ k % 2 ^ 64:=by omega
   exact this
 rw [e,BitVec.and_twoPow]
 cases hb:x.getLsbD k with
 | false=>simp;decide
 | true =>
   simp only [if_true,BitVec.toNat_twoPow,bne_iff_ne]
   have h1:2 ^ k % 2 ^ 64=2 ^ k:=Nat.mod_eq_of_lt (Nat.pow_lt_pow_right (by omega) hk)
   rw [h1]
   intro h0
   have h2:IntKind.i64.wrap ((2 ^ k:Nat):Int)=0:=h0
   exact sc_pow k hk h2
theorem scOfInt_wrap (n:Int):BitVec.ofInt 64 (IntKind.i64.wrap n)=BitVec.ofInt 64 n:=by
 apply BitVec.eq_of_toNat_eq
 rw [BitVec.toNat_ofInt,BitVec.toNat_ofInt,IntKind.wrap_i64]
 omega
theorem scOfNat_self (x:BitVec 64):BitVec.ofNat 64 x.toNat=x:=BitVec.eq_of_toNat_eq (by rw [BitVec.toNat_ofNat,Nat.mod_eq_of_lt x.isLt])
theorem scOfInt_and (x y:Int):BitVec.ofInt 64 (bits .and .i64 x y)=BitVec.ofInt 64 x &&& BitVec.ofInt 64 y:=by
 show BitVec.ofInt 64 (IntKind.i64.wrap ((BitVec.ofInt 64 x &&& BitVec.ofInt 64 y).toNat:Int))=_
 rw [scOfInt_wrap,BitVec.ofInt_natCast,scOfNat_self]
theorem scOfInt_andNot (x y:Int):BitVec.ofInt 64 (bits .andNot .i64 x y)=BitVec.ofInt 64 x &&& ~~~BitVec.ofInt 64 y:=by
 show BitVec.ofInt 64 (IntKind.i64.wrap ((BitVec.ofInt 64 x &&& ~~~BitVec.ofInt 64 y).toNat:Int))=_
 rw [scOfInt_wrap,BitVec.ofInt_natCast,scOfNat_self]
theorem sc4 (c:Int):(bits .and .i64 (bits .and .i64 c 4) 4 != 0)=(bits .and .i64 c 4 != 0):=by
 have h1:=sc_bit (bits .and .i64 c 4) 2 (by omega)
 have h2:=sc_bit c 2 (by omega)
 rw [scOfInt_and,BitVec.getLsbD_and,show (BitVec.ofInt 64 4).getLsbD 2=true by decide,Bool.and_true] at h1
 exact h1.trans h2.symm
theorem sc31 (e:Int):(bits .and .i64 (bits .and .i64 e 3) 1 != 0)=(bits .and .i64 e 1 != 0):=by
 have h1:=sc_bit (bits .and .i64 e 3) 0 (by omega)
 have h2:=sc_bit e 0 (by omega)
 rw [scOfInt_and,BitVec.getLsbD_and,show (BitVec.ofInt 64 3).getLsbD 0=true by decide,Bool.and_true] at h1
 exact h1.trans h2.symm
theorem sc32 (e:Int):(bits .and .i64 (bits .and .i64 e 3) 2 != 0)=(bits .and .i64 e 2 != 0):=by
 have h1:=sc_bit (bits .and .i64 e 3) 1 (by omega)
 have h2:=sc_bit e 1 (by omega)
 rw [scOfInt_and,BitVec.getLsbD_and,show (BitVec.ofInt 64 3).getLsbD 1=true by decide,Bool.and_true] at h1
 exact h1.trans h2.symm
theorem scn4 (c:Int):(bits .and .i64 (bits .andNot .i64 c 4) 4 != 0)=false:=by
 have h1:=sc_bit (bits .andNot .i64 c 4) 2 (by omega)
 rw [scOfInt_andNot,BitVec.getLsbD_and,show (~~~BitVec.ofInt 64 4).getLsbD 2=false by decide,Bool.and_false] at h1
 exact h1
theorem eq_of_bne {a b:Int} (h:(a != 0)=(b != 0)):(a == 0)=(b == 0):=by
 have h1:(a != 0) = !(a == 0):=rfl
 have h2:(b != 0) = !(b == 0):=rfl
 rw [h1,h2] at h
 cases ha:(a == 0) <;> cases hb:(b == 0) <;> simp_all
theorem sc_same (s:ByteArray) (c e:Int):Sc.new s (bits .and .i64 c 4) (bits .and .i64 e 3)=Sc.new s c e:=by
 unfold Sc.new
 rw [sc4,eq_of_bne (sc31 e),eq_of_bne (sc32 e)]
theorem Sc.nlAt_no (x:Sc) (h:x.nl=false) (i:Int):x.nlAt i=false:=by
 unfold Sc.nlAt;rw [h];simp
theorem sceneflags_any (s:ByteArray) (c e0:Int) (w:World) :
   Calls Try.prog 5 #[.string s,.int .i64 c,.int .i64 e0] w fun e w'=>e=.returned (.bool true)∧Below w.heap.size w w':=by
 have HL:=Lib.hid (sclives_any w)
 have HN:=Lib.hid (fun c e0 w=>scnew_any s c e0 w)
 by_cases hbig:100000 < s.size
 · have hd:decide ((100000:Int) < s.size)=true:=by simp;omega
   have hd':decide (100000 < s.size)=true:=by simp;omega
   clear HN
   go_enter Try.func5,Try.ntmps5
   go_wp2_with fail
   refine HL.out.mono ?_
   rintro e w1 ⟨rfl,hb1⟩
   have HB1:=Lib.hid hb1
   clear hb1 HL
   go_wp2
   go_ret
   exact ⟨rfl,HB1.out⟩
 · have hd:decide ((100000:Int) < s.size)=false:=by simp;omega
   have hd':decide (100000 < s.size)=false:=by simp;omega
   have HSM:=Lib.hid (sc_same s c e0)
   have hs:s.size ≤ 100000:=by omega
   clear hbig
   go_enter Try.func5,Try.ntmps5
   go_wp2_with fail
   refine HL.out.mono ?_
   rintro e w1 ⟨rfl,hb1⟩
   have HB1:=Lib.hid hb1
   clear hb1 HL
   go_wp2_with fail
   refine (HN.out _ _ _).mono ?_
   rintro e w2 ⟨rfl,hx2,hb2,-⟩
   have HB2:=Lib.hid (HB1.out.trans (hb2.mono HB1.out.size))
   have HX2:=Lib.hid hx2
   clear hx2 hb2
   go_wp2_with fail
   refine (HN.out _ _ _).mono ?_
   rintro e w3 ⟨rfl,hy3,hb3,-⟩
   have HB3:=Lib.hid (HB2.out.trans (hb3.mono HB2.out.size))
   have HX3:=Lib.hid (HX2.out.below hb3)
   have HY3:=Lib.hid hy3
   rw [HSM.out] at HY3
   clear hy3 hb3 HX2
   go_wp2_with fail
   refine (HN.out _ _ _).mono ?_
   rintro e w4 ⟨rfl,hz4,hb4,-⟩
   have HB4:=Lib.hid (HB3.out.trans (hb4.mono HB3.out.size))
   have HX4:=Lib.hid (HX3.out.below hb4)
   have HY4:=Lib.hid (HY3.out.below hb4)
   have HZ4:=Lib.hid hz4
   clear hz4 hb4 HX3 HY3 HN HSM
   have HMX:=Lib.hid (fun (k:Nat) (hk:k ≤ s.size)=>scmks_any (Sc.new s c e0) w1.heap.size (k:Int) w4 HX4.out (by omega) (show s.size ≤ _ by omega))
   have HMY:=Lib.hid (fun (k:Nat) (hk:k ≤ s.size)=>scmks_any (Sc.new s c e0) w2.heap.size (k:Int) w4 HY4.out (by omega) (show s.size ≤ _ by omega))
   have HPB:=Lib.hid (show ∀ k:Nat,k ≤ s.size→Calls Try.prog 11 #[.pointer (some ⟨w3.heap.size,0,none⟩),.int .i64 (k:Int)] w4 fun e w'=>e=.returned (.bool ((bits .and .i64 e0 1 == 0) && ((k:Int) == 0)))∧w'=w4 from fun k hk=>by
     have h:=scbeg_any (Sc.new s (bits .andNot .i64 c 4) e0) w3.heap.size (k:Int) w4 HZ4.out (by omega) (show s.size ≤ _ by omega)
     rw [show (Sc.new s (bits .andNot .i64 c 4) e0).beg (k:Int)=((bits .and .i64 e0 1 == 0) && ((k:Int) == 0)) by unfold Sc.beg;rw [Sc.nlAt_no _ (scn4 c),Bool.or_false];rfl] at h
     exact h)
   have HPF:=Lib.hid (show ∀ k:Nat,k ≤ s.size→Calls Try.prog 12 #[.pointer (some ⟨w3.heap.size,0,none⟩),.int .i64 (k:Int)] w4 fun e w'=>e=.returned (.bool ((bits .and .i64 e0 2 == 0) && ((k:Int) == (s.size:Int))))∧w'=w4 from fun k hk=>by
     have h:=scfin_any (Sc.new s (bits .andNot .i64 c 4) e0) w3.heap.size (k:Int) w4 HZ4.out
     rw [show (Sc.new s (bits .andNot .i64 c 4) e0).fin (k:Int)=((bits .and .i64 e0 2 == 0) && ((k:Int) == (s.size:Int))) by unfold Sc.fin;rw [Sc.nlAt_no _ (scn4 c),Bool.or_false];rfl] at h
     exact h)
   have HXF:=Lib.hid (show ∀ k:Nat,k < s.size→(bits .and .i64 c 4 != 0)=true→cb s k=10→Calls Try.prog 12 #[.pointer (some ⟨w1.heap.size,0,none⟩),.int .i64 (k:Int)] w4 fun e w'=>e=.returned (.bool true)∧w'=w4 from fun k hk hn hc=>by
     have h:=scfin_any (Sc.new s c e0) w1.heap.size (k:Int) w4 HX4.out
     rw [show (Sc.new s c e0).fin (k:Int)=true by unfold Sc.fin;rw [Sc.nlAt_in _ (show k < (Sc.new s c e0).t.size from hk),show cb (Sc.new s c e0).t k=10 from hc,show (Sc.new s c e0).nl=true from hn];simp] at h
     exact h)
   have HXB:=Lib.hid (show ∀ k:Nat,k < s.size→(bits .and .i64 c 4 != 0)=true→cb s k=10→Calls Try.prog 11 #[.pointer (some ⟨w1.heap.size,0,none⟩),.int .i64 ((k:Int)+1)] w4 fun e w'=>e=.returned (.bool true)∧w'=w4 from fun k hk hn hc=>by
     have h:=scbeg_any (Sc.new s c e0) w1.heap.size ((k:Int)+1) w4 HX4.out (by omega) (show s.size ≤ _ by omega)
     rw [show (Sc.new s c e0).beg ((k:Int)+1)=true by unfold Sc.beg;rw [show (k:Int)+1 - 1=(k:Int) by omega,Sc.nlAt_in _ (show k < (Sc.new s c e0).t.size from hk),show cb (Sc.new s c e0).t k=10 from hc,show (Sc.new s c e0).nl=true from hn];simp] at h
     exact h)
   clear HX4 HY4 HZ4 HB1 HB2 HB3
   generalize hHD:(bits .and .i64 e0 1 == 0)=HD at *
   generalize hTL:(bits .and .i64 e0 2 == 0)=TL at *
   generalize hNL:(bits .and .i64 c 4 != 0)=NL at *
   go_wp2
   go_loopw [10] (fun iv wr=>∃ k:Nat,iv=.int .i64 (k:Int)∧k ≤ s.size+1∧wr=w4) (fun iv _=>s.size+1 - (intOf iv).toNat)
   case atStart=>exact ⟨0,rfl,by omega,rfl⟩
   case round =>
     obtain ⟨k,rfl,hk,rfl⟩:=hrel
     by_cases hle:k ≤ s.size
     · have hd1:decide ((k:Int) ≤ (s.size:Int))=true:=decide_eq_true (by omega)
       have hd2:decide (k ≤ s.size)=true:=decide_eq_true hle
       have wi:IntKind.i64.wrap ((k:Int)+1)=(k:Int)+1:=IntWalk.i64_in _ (by omega)
       have hmx:=Lib.hid (HMX.out k hle);have hmy:=Lib.hid (HMY.out k hle);have hpb:=Lib.hid (HPB.out k hle);have hpf:=Lib.hid (HPF.out k hle)
       generalize (Sc.new s c e0).mks (k:Int)=M at *
       generalize hZ:((k:Int) == 0)=Z at *
       generalize hE:((k:Int) == (s.size:Int))=E at *
       have hmm:(M != M)=false:=by simp
       cases E with
       | true =>
         have hkn:(k:Int)=(s.size:Int):=by simpa using hE
         have hd3:decide ((k:Int) < (s.size:Int))=false:=decide_eq_false (by omega)
         have hd4:decide (k < s.size)=false:=decide_eq_false (by omega)
         clear hkn
         cases Z <;> cases HD <;> cases TL
         all_goals
           go_wp2_with fail
           refine hmx.out.mono ?_;rintro e w' ⟨rfl,rfl⟩
           go_wp2_with fail
           refine hmy.out.mono ?_;rintro e w' ⟨rfl,rfl⟩
           go_wp2_with fail
           refine hpb.out.mono ?_;rintro e w' ⟨rfl,rfl⟩
           go_wp2_with fail
           refine hpf.out.mono ?_;rintro e w' ⟨rfl,rfl⟩
           go_wp2_with fail
           exact ⟨⟨k+1,by go_num,by omega,by first | rfl | trivial⟩,by simp [intOf];omega⟩
       | false =>
         have hkn:k < s.size:=by
           have:¬ (k:Int)=(s.size:Int):=by simpa using hE
           omega
         have hd3:decide ((k:Int) < (s.size:Int))=true:=decide_eq_true (by omega)
         have hd4:decide (k < s.size)=true:=decide_eq_true hkn
         have hxf:=Lib.hid (HXF.out k hkn);have hxb:=Lib.hid (HXB.out k hkn)
         have hcb:=cb_in hkn

         cases NL with
         | false =>
           cases Z <;> cases HD <;> cases TL
           all_goals
             go_wp2_with fail
             refine hmx.out.mono ?_;rintro e w' ⟨rfl,rfl⟩
             go_wp2_with fail
             refine hmy.out.mono ?_;rintro e w' ⟨rfl,rfl⟩
             go_wp2_with fail
             refine hpb.out.mono ?_;rintro e w' ⟨rfl,rfl⟩
             go_wp2_with fail
             refine hpf.out.mono ?_;rintro e w' ⟨rfl,rfl⟩
             go_wp2_with fail
             exact ⟨⟨k+1,by go_num,by omega,by first | rfl | trivial⟩,by simp [intOf];omega⟩
         | true =>
           by_cases h10:cb s k=10
           · have hq:((s[k].toNat:Int) == 10)=true:=by rw [hcb,h10];rfl
             have hxf':=Lib.hid (hxf.out rfl h10);have hxb':=Lib.hid (hxb.out rfl h10)
             clear hxf hxb hcb h10
             cases Z <;> cases HD <;> cases TL
             all_goals
               go_wp2_with fail
               refine hmx.out.mono ?_;rintro e w' ⟨rfl,rfl⟩
               go_wp2_with fail
               refine hmy.out.mono ?_;rintro e w' ⟨rfl,rfl⟩
               go_wp2_with fail
               refine hpb.out.mono ?_;rintro e w' ⟨rfl,rfl⟩
               go_wp2_with fail
               refine hpf.out.mono ?_;rintro e w' ⟨rfl,rfl⟩
               go_wp2_with fail
               refine hxf'.out.mono ?_;rintro e w' ⟨rfl,rfl⟩
               go_wp2_with fail
               refine hxb'.out.mono ?_;rintro e w' ⟨rfl,rfl⟩
               go_wp2_with fail
               exact ⟨⟨k+1,by go_num,by omega,by first | rfl | trivial⟩,by simp [intOf];omega⟩
           · have hq:((s[k].toNat:Int) == 10)=false:=by rw [hcb,beq_eq_false_iff_ne];omega
             clear hxf hxb hcb h10
             cases Z <;> cases HD <;> cases TL
             all_goals
               go_wp2_with fail
               refine hmx.out.mono ?_;rintro e w' ⟨rfl,rfl⟩
               go_wp2_with fail
               refine hmy.out.mono ?_;rintro e w' ⟨rfl,rfl⟩
               go_wp2_with fail
               refine hpb.out.mono ?_;rintro e w' ⟨rfl,rfl⟩
               go_wp2_with fail
               refine hpf.out.mono ?_;rintro e w' ⟨rfl,rfl⟩
               go_wp2_with fail
               exact ⟨⟨k+1,by go_num,by omega,by first | rfl | trivial⟩,by simp [intOf];omega⟩
     · have hd1:decide ((k:Int) ≤ (s.size:Int))=false:=decide_eq_false (by omega)
       have hd2:decide (k ≤ s.size)=false:=decide_eq_false hle
       go_wp2
       go_ret
       exact ⟨rfl,HB4.out⟩
end Go.Proofs.Ytnfgalgifgfojaa
namespace Go.Proofs.Ytnfgalgifgfojaa
open Go.ChangeShapes Go.WideShapes Go.ChangeAt Go.RowKit
theorem Try.own:ownKnob Try.prog.godebug=none:=by kernel_rfl
theorem Try.laidOut:laidOutB Try.prog=true:=by kernel_rfl
end Go.Proofs.Ytnfgalgifgfojaa
