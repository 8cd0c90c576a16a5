/- Part 3 of what these proofs need. -/
import Derived.ChangeOld
import Derived.Deep.Slices
import Derived.Laws.IdiomArrays
import Derived.Lib.SmallJoins
import Derived.SizedLaws
import Derived.DataReads
import Derived.LaidLaws
import Derived.Test.YtnfdknhhkdphhaaGreatDoorStR2
set_option maxRecDepth 100000
set_option maxHeartbeats 16000000
namespace Go.Proofs.YtnfdknhhkdphhaaGreatDoor
open Go.RowKit
namespace Tr
def noSet (t:Tr):Bool:=Oc.U t.w0 == 0 && (Oc.U t.w1 == 0 && (Oc.U t.w2 == 0 && Oc.U t.w3 == 0))
def noCounts (t:Tr):Bool:=t.least == 0 && t.most == 0 && !t.bare
def countsV (lo hi:Int) (br:Bool):Bool:=!(decide (lo < 0) || decide (255 < lo) || (br && lo != 0)) && (hi == -1 || (decide (lo ≤ hi) && decide (hi ≤ 255)))
def countsB (t:Tr):Bool:=countsV t.least t.most t.bare
def fieldsB (t:Tr):Bool :=
 if t.kind=1 ∨ t.kind=3 ∨ t.kind=4 then t.noSet && (t.num == 0) && t.noCounts && (t.subs.length == 0)
 else if t.kind=2 then (t.num == 0) && t.noCounts && (t.subs.length == 0)
 else if t.kind=5 ∨ t.kind=6 then t.noSet && (t.num == 0) && t.noCounts && decide (2 ≤ t.subs.length)
 else if t.kind=7 then t.noSet && t.noCounts && (t.subs.length == 1) && decide (1 ≤ t.num) && decide (t.num ≤ 999)
 else if t.kind=8 then t.noSet && (t.num == 0) && (t.subs.length == 1) && t.countsB
 else false
mutual
def formB:Tr→Bool
 | .node k a b c d s n lo hi br=>fieldsB (.node k a b c d s n lo hi br) && formS s
def formS:List Tr→Bool
 | []=>true
 | t :: l=>formB t && formS l
end
theorem formB_eq (t:Tr):t.formB=(t.fieldsB && formS t.subs):=by cases t;rw [formB];rfl
theorem formS_append:∀ a b:List Tr,formS (a ++ b)=(formS a && formS b)
 | [],b=>by simp [formS]
 | t :: a,b=>by rw [List.cons_append,formS,formS,formS_append a b,Bool.and_assoc]
theorem formS_take (l:List Tr) (m:Nat) (x:Tr) (h:l[m]? = some x):formS (l.take (m+1))=(formS (l.take m) && x.formB):=by
 rw [List.take_add_one,h,Option.toList_some,formS_append,formS,formS];simp
theorem formS_no {l:List Tr} {m:Nat} (h:formS (l.take m)=false):formS l=false:=by
 have e:=congrArg formS (List.take_append_drop m l)
 rw [formS_append,h] at e
 rw [← e];rfl
theorem U_zero {x:BitVec 64} : (Oc.U x == 0)=true ↔ x=0#64:=by
 rw [beq_iff_eq]
 refine ⟨fun h=>Oc.U_inj (h.trans (by decide)),fun h=>by subst h;decide⟩
theorem noSet_iff (t:Tr):t.noSet=true ↔ t.w0=0#64∧t.w1=0#64∧t.w2=0#64∧t.w3=0#64:=by
 unfold noSet;rw [Bool.and_eq_true,Bool.and_eq_true,Bool.and_eq_true,U_zero,U_zero,U_zero,U_zero]
theorem fieldsB_iff (t:Tr):t.fieldsB=true ↔ t.fieldsOk:=by
 have hs:=noSet_iff t
 have hn:t.noCounts=true ↔ t.least=0∧t.most=0∧t.bare=false:=by
   unfold noCounts;simp [and_assoc]
 have hc:t.countsB=true ↔ 0 ≤ t.least∧t.least ≤ 255∧(t.most = -1 ∨ (t.least ≤ t.most∧t.most ≤ 255))∧(t.bare=true→t.least=0):=by
   unfold countsB countsV
   cases t.bare <;> simp <;> omega
 unfold fieldsB fieldsOk
 by_cases h1:t.kind=1 ∨ t.kind=3 ∨ t.kind=4
 · rw [if_pos h1]
   simp only [Bool.and_eq_true,hs,hn,beq_iff_eq,List.length_eq_zero_iff]
   constructor
   · rintro ⟨⟨⟨⟨a,b,c,d⟩,e⟩,f,g,h⟩,i⟩;exact .inl ⟨h1,a,b,c,d,i,e,f,g,h⟩
   · rintro (⟨-,a,b,c,d,i,e,f,g,h⟩ | ⟨h,-⟩ | ⟨h,-⟩ | ⟨h,-⟩ | ⟨h,-⟩)
     · exact ⟨⟨⟨⟨a,b,c,d⟩,e⟩,f,g,h⟩,i⟩
     all_goals omega
 rw [if_neg h1]
 by_cases h2:t.kind=2
 · rw [if_pos h2]
   simp only [Bool.and_eq_true,hn,beq_iff_eq,List.length_eq_zero_iff]
   constructor
   · rintro ⟨⟨e,f,g,h⟩,i⟩;exact .inr (.inl ⟨h2,i,e,f,g,h⟩)
   · rintro (⟨h,-⟩ | ⟨-,i,e,f,g,h⟩ | ⟨h,-⟩ | ⟨h,-⟩ | ⟨h,-⟩)
     · omega
     · exact ⟨⟨e,f,g,h⟩,i⟩
     all_goals omega
 rw [if_neg h2]
 by_cases h5:t.kind=5 ∨ t.kind=6
 · rw [if_pos h5]
   simp only [Bool.and_eq_true,hs,hn,beq_iff_eq,decide_eq_true_eq]
   constructor
   · rintro ⟨⟨⟨⟨a,b,c,d⟩,e⟩,f,g,h⟩,i⟩;exact .inr (.inr (.inl ⟨h5,a,b,c,d,i,e,f,g,h⟩))
   · rintro (⟨h,-⟩ | ⟨h,-⟩ | ⟨-,a,b,c,d,i,e,f,g,h⟩ | ⟨h,-⟩ | ⟨h,-⟩)
     · omega
     · omega
     · exact ⟨⟨⟨⟨a,b,c,d⟩,e⟩,f,g,h⟩,i⟩
     all_goals omega
 rw [if_neg h5]
 by_cases h7:t.kind=7
 · rw [if_pos h7]
   simp only [Bool.and_eq_true,hs,hn,beq_iff_eq,decide_eq_true_eq]
   constructor
   · rintro ⟨⟨⟨⟨⟨a,b,c,d⟩,f,g,h⟩,i⟩,j⟩,l⟩;exact .inr (.inr (.inr (.inl ⟨h7,a,b,c,d,i,j,l,f,g,h⟩)))
   · rintro (⟨h,-⟩ | ⟨h,-⟩ | ⟨h,-⟩ | ⟨-,a,b,c,d,i,j,l,f,g,h⟩ | ⟨h,-⟩)
     · omega
     · omega
     · omega
     · exact ⟨⟨⟨⟨⟨a,b,c,d⟩,f,g,h⟩,i⟩,j⟩,l⟩
     · omega
 rw [if_neg h7]
 by_cases h8:t.kind=8
 · rw [if_pos h8]
   simp only [Bool.and_eq_true,hs,hc,beq_iff_eq]
   constructor
   · rintro ⟨⟨⟨⟨a,b,c,d⟩,e⟩,i⟩,f,g,h,j⟩;exact .inr (.inr (.inr (.inr ⟨h8,a,b,c,d,i,e,f,g,h,j⟩)))
   · rintro (⟨h,-⟩ | ⟨h,-⟩ | ⟨h,-⟩ | ⟨h,-⟩ | ⟨-,a,b,c,d,i,e,f,g,h,j⟩)
     · omega
     · omega
     · omega
     · omega
     · exact ⟨⟨⟨⟨a,b,c,d⟩,e⟩,i⟩,f,g,h,j⟩
 rw [if_neg h8]
 constructor
 · intro h;cases h
 · rintro (⟨h,-⟩ | ⟨h,-⟩ | ⟨h,-⟩ | ⟨h,-⟩ | ⟨h,-⟩) <;> omega
theorem formS_all:∀ {l:List Tr},(∀ t,t ∈ l→(t.formB=true ↔ t.InForm))→(formS l=true ↔ ∀ t,t ∈ l→t.InForm)
 | [],_=>by simp [formS]
 | t :: l,h=>by
   rw [formS,Bool.and_eq_true,h t List.mem_cons_self,formS_all (fun u hu=>h u (List.mem_cons_of_mem _ hu))]
   constructor
   · rintro ⟨h1,h2⟩ u hu
     rcases List.mem_cons.1 hu with rfl | hu
     · exact h1
     · exact h2 u hu
   · intro h1;exact ⟨h1 t List.mem_cons_self,fun u hu=>h1 u (List.mem_cons_of_mem _ hu)⟩
theorem formB_iff (t:Tr):t.formB=true ↔ t.InForm:=by
 induction t using Tr.rec_subs with
 | h t ih =>
   rw [formB_eq,Bool.and_eq_true,fieldsB_iff,formS_all (fun u hu=>ih u hu)]
   exact ⟨fun h=>.mk t h.1 h.2,fun h=>⟨h.fields,fun u hu=>h.sub hu⟩⟩
end Tr
theorem counts_any (k:Int) (a b c d:BitVec 64) (us:List Tr) (n lo hi:Int) (br:Bool) (p:Option Addr) (l cap:Nat) (w:World) :
   Calls Tryz.prog 141 #[.agg #[.int .i64 k,.int .u64 (Oc.U a),.int .u64 (Oc.U b),.int .u64 (Oc.U c),.int .u64 (Oc.U d),.slice p l cap,.int .i64 n,.int .i64 lo,.int .i64 hi,.bool br]] w fun e w'=>e=.returned (.bool (Tr.countsB (.node k a b c d us n lo hi br)))∧Below w.heap.size w w':=by
 obtain ⟨R,hR⟩:∃ R,Tr.countsV lo hi br=R:=⟨_,rfl⟩
 rw [show Tr.countsB (.node k a b c d us n lo hi br)=Tr.countsV lo hi br from rfl,hR]
 unfold Tr.countsV at hR
 have c1:decide (lo < 0)=true ∨ decide (lo < 0)=false:=by cases decide (lo < 0) <;> simp
 have c2:decide (255 < lo)=true ∨ decide (255 < lo)=false:=by cases decide (255 < lo) <;> simp
 have c3:(lo != 0)=true ∨ (lo != 0)=false:=by cases (lo != 0) <;> simp
 have c4:(hi == -1)=true ∨ (hi == -1)=false:=by cases (hi == -1) <;> simp
 have c5:decide (lo ≤ hi)=true ∨ decide (lo ≤ hi)=false:=by cases decide (lo ≤ hi) <;> simp
 have c6:decide (hi ≤ 255)=true ∨ decide (hi ≤ 255)=false:=by cases decide (hi ≤ 255) <;> simp
 rcases c1 with c1 | c1 <;> rcases c2 with c2 | c2 <;> rcases c3 with c3 | c3 <;> rcases c4 with c4 | c4 <;> rcases c5 with c5 | c5 <;> rcases c6 with c6 | c6 <;> cases br <;> (
   rw [c1,c2,c3,c4,c5,c6] at hR
   subst hR
   go_enter Tryz.func141,Tryz.ntmps141
   go_wp2
   go_ret
   exact ⟨rfl,by go_grown⟩)
theorem bool_or (x:Bool):x=true ∨ x=false:=by cases x <;> simp
theorem treefields_any (k:Int) (a b c d:BitVec 64) (us:List Tr) (n lo hi:Int) (br:Bool) (p:Option Addr) (cap:Nat) (hlen:us.length * 96 ≤ 140737488351232) (w:World) :
   Calls Tryz.prog 104 #[.agg #[.int .i64 k,.int .u64 (Oc.U a),.int .u64 (Oc.U b),.int .u64 (Oc.U c),.int .u64 (Oc.U d),.slice p us.length cap,.int .i64 n,.int .i64 lo,.int .i64 hi,.bool br]] w fun e w'=>e=.returned (.bool (Tr.fieldsB (.node k a b c d us n lo hi br)))∧Below w.heap.size w w':=by
 have he:=eq4
 obtain ⟨S,hS⟩:∃ S,(Oc.U a == 0 && (Oc.U b == 0 && (Oc.U c == 0 && Oc.U d == 0)))=S:=⟨_,rfl⟩
 obtain ⟨NB,hN⟩:∃ NB,(n == 0)=NB:=⟨_,rfl⟩
 obtain ⟨C,hC⟩:∃ C,(lo == 0 && hi == 0 && !br)=C:=⟨_,rfl⟩
 obtain ⟨R,hR⟩:∃ R,Tr.fieldsB (.node k a b c d us n lo hi br)=R:=⟨_,rfl⟩
 have HCT:=Lib.hid (counts_any k a b c d us n lo hi br p us.length cap)
 rw [hR]
 have hR2:(if k=1 ∨ k=3 ∨ k=4 then S && NB && C && (us.length == 0) else if k=2 then NB && C && (us.length == 0) else if k=5 ∨ k=6 then S && NB && C && decide (2 ≤ us.length) else if k=7 then S && C && (us.length == 1) && decide (1 ≤ n) && decide (n ≤ 999) else if k=8 then S && NB && (us.length == 1) && Tr.countsB (.node k a b c d us n lo hi br) else false)=R:=by
   rw [← hR,← hS,← hN,← hC];rfl
 clear hR
 obtain ⟨Q,hQ⟩:∃ Q,Tr.countsB (.node k a b c d us n lo hi br)=Q:=⟨_,rfl⟩
 rw [hQ] at HCT hR2
 have hl0:((us.length:Int) == 0)=(us.length == 0):=by
   by_cases h:us.length=0
   · rw [h];rfl
   · have e1:(us.length == 0)=false:=by rw [beq_eq_false_iff_ne];exact h
     have e2:((us.length:Int) == 0)=false:=by rw [beq_eq_false_iff_ne];omega
     rw [e1,e2]
 have hl1:((us.length:Int) == 1)=(us.length == 1):=by
   by_cases h:us.length=1
   · rw [h];rfl
   · have e1:(us.length == 1)=false:=by simpa using h
     have e2:((us.length:Int) == 1)=false:=by simp;omega
     rw [e1,e2]
 have hl2:decide ((2:Int) ≤ us.length)=decide (2 ≤ us.length):=by
   by_cases h:2 ≤ us.length
   · have e1:decide (2 ≤ us.length)=true:=by simpa using h
     have e2:decide ((2:Int) ≤ us.length)=true:=by simp;omega
     rw [e1,e2]
   · have e1:decide (2 ≤ us.length)=false:=by simpa using h
     have e2:decide ((2:Int) ≤ us.length)=false:=by simp;omega
     rw [e1,e2]
 have HL0:=Lib.hid hl0;have HL1:=Lib.hid hl1;have HL2:=Lib.hid hl2;have HR:=Lib.hid hR2;have HC:=Lib.hid hC
 clear hl0 hl1 hl2 hR2 hC hQ hlen
 have Z0:=Lib.hid (heap_alloc_new w (.cells #[.int .i64 k,.int .u64 (Oc.U a),.int .u64 (Oc.U b),.int .u64 (Oc.U c),.int .u64 (Oc.U d),.slice p us.length cap,.int .i64 n,.int .i64 lo,.int .i64 hi,.bool br] 28))
 have HW:=Lib.hid (show Below w.heap.size w (w.alloc (.cells #[.int .i64 k,.int .u64 (Oc.U a),.int .u64 (Oc.U b),.int .u64 (Oc.U c),.int .u64 (Oc.U d),.slice p us.length cap,.int .i64 n,.int .i64 lo,.int .i64 hi,.bool br] 28)) from (Below.refl _ _).alloc (Nat.le_refl _) _)
 go_enter Tryz.func104,Tryz.ntmps104
 go_upto_region 4 with (fail)
 generalize w.alloc (.cells #[.int .i64 k,.int .u64 (Oc.U a),.int .u64 (Oc.U b),.int .u64 (Oc.U c),.int .u64 (Oc.U d),.slice p us.length cap,.int .i64 n,.int .i64 lo,.int .i64 hi,.bool br] 28)=W0 at *
 obtain ⟨d0,d1,d2,d3,d4,d5,d6,d7,d8,d9⟩:=allTen Z0.out
 go_cut [6] (fun u wx=>u=.bool C∧W0=wx)
 case first =>
   have hC:=HC.out
   rcases bool_or (lo == 0) with q1 | q1 <;> rcases bool_or (hi == 0) with q2 | q2 <;> cases br <;> (
     rw [q1,q2] at hC
     subst hC
     go_wp2
     go_meet
     exact ⟨rfl,rfl⟩)
 case rest =>
   obtain ⟨rfl,rfl⟩:=hcut
   clear HC
   have hR:=HR.out
   have hl0:=HL0.out;have hl1:=HL1.out;have hl2:=HL2.out
   clear HR HL0 HL1 HL2
   by_cases kk1:k=1
   · subst kk1
     rw [if_pos (by decide)] at hR
     clear hl1 hl2
     cases S <;> cases NB <;> cases C <;> rcases bool_or (us.length == 0) with q3 | q3 <;> (
       rw [q3] at hR
       rw [q3] at hl0
       subst hR
       go_wp2
       go_ret
       exact ⟨rfl,HW.out⟩)
   have n1:(k == 1)=false:=by simpa using kk1
   by_cases kk3:k=3
   · subst kk3
     rw [if_pos (by decide)] at hR
     clear hl1 hl2
     cases S <;> cases NB <;> cases C <;> rcases bool_or (us.length == 0) with q3 | q3 <;> (
       rw [q3] at hR
       rw [q3] at hl0
       subst hR
       go_wp2
       go_ret
       exact ⟨rfl,HW.out⟩)
   have n3:(k == 3)=false:=by simpa using kk3
   by_cases kk4:k=4
   · subst kk4
     rw [if_pos (by decide)] at hR
     clear hl1 hl2
     cases S <;> cases NB <;> cases C <;> rcases bool_or (us.length == 0) with q3 | q3 <;> (
       rw [q3] at hR
       rw [q3] at hl0
       subst hR
       go_wp2
       go_ret
       exact ⟨rfl,HW.out⟩)
   have n4:(k == 4)=false:=by simpa using kk4
   by_cases kk2:k=2
   · subst kk2
     rw [if_neg (by decide),if_pos rfl] at hR
     clear hl1 hl2
     cases NB <;> cases C <;> rcases bool_or (us.length == 0) with q2 | q2 <;> (
       rw [q2] at hR
       rw [q2] at hl0
       subst hR
       go_wp2
       go_ret
       exact ⟨rfl,HW.out⟩)
   have n2:(k == 2)=false:=by simpa using kk2
   by_cases kk5:k=5
   · subst kk5
     rw [if_neg (by decide),if_neg (by decide),if_pos (by decide)] at hR
     clear hl0 hl1
     cases S <;> cases NB <;> cases C <;> rcases bool_or (decide (2 ≤ us.length)) with q3 | q3 <;> (
       rw [q3] at hR
       rw [q3] at hl2
       subst hR
       go_wp2
       go_ret
       exact ⟨rfl,HW.out⟩)
   have n5:(k == 5)=false:=by simpa using kk5
   by_cases kk6:k=6
   · subst kk6
     rw [if_neg (by decide),if_neg (by decide),if_pos (by decide)] at hR
     clear hl0 hl1
     cases S <;> cases NB <;> cases C <;> rcases bool_or (decide (2 ≤ us.length)) with q3 | q3 <;> (
       rw [q3] at hR
       rw [q3] at hl2
       subst hR
       go_wp2
       go_ret
       exact ⟨rfl,HW.out⟩)
   have n6:(k == 6)=false:=by simpa using kk6
   by_cases kk7:k=7
   · subst kk7
     rw [if_neg (by decide),if_neg (by decide),if_neg (by decide),if_pos rfl] at hR
     clear hl0 hl2
     cases S <;> cases C <;> rcases bool_or (us.length == 1) with q2 | q2 <;> rcases bool_or (decide (1 ≤ n)) with q3 | q3 <;> rcases bool_or (decide (n ≤ 999)) with q4 | q4 <;> (
       rw [q2,q3,q4] at hR
       rw [q2] at hl1
       subst hR
       go_wp2
       go_ret
       exact ⟨rfl,HW.out⟩)
   have n7:(k == 7)=false:=by simpa using kk7
   by_cases kk8:k=8
   · subst kk8
     rw [if_neg (by decide),if_neg (by decide),if_neg (by decide),if_neg (by decide),if_pos rfl] at hR
     clear hl0 hl2
     rcases bool_or (us.length == 1) with q1 | q1
     · cases S with
       | true =>
         cases NB with
         | true =>
           rw [q1,Bool.true_and,Bool.true_and,Bool.true_and] at hR
           rw [q1] at hl1
           subst hR
           go_wp2_with fail
           refine (HCT.out _).mono ?_;rintro e w2 ⟨rfl,hb2⟩
           have HB2:=Lib.hid (HW.out.trans (hb2.mono HW.out.size))
           clear hb2
           go_wp2
           go_ret
           exact ⟨rfl,HB2.out⟩
         | false =>
           rw [q1] at hR hl1
           subst hR
           go_wp2
           go_ret
           exact ⟨rfl,HW.out⟩
       | false =>
         rw [q1] at hR hl1
         subst hR
         cases NB <;> (
           go_wp2
           go_ret
           exact ⟨rfl,HW.out⟩)
     · rw [q1] at hR hl1
       rw [Bool.and_false,Bool.false_and] at hR
       subst hR
       cases S <;> cases NB <;> (
         go_wp2
         go_ret
         exact ⟨rfl,HW.out⟩)
   have n8:(k == 8)=false:=by simpa using kk8
   rw [if_neg (by omega),if_neg kk2,if_neg (by omega),if_neg kk7,if_neg kk8] at hR
   subst hR
   clear hl0 hl1 hl2 kk1 kk2 kk3 kk4 kk5 kk6 kk7 kk8
   go_wp2
   go_ret
   exact ⟨rfl,HW.out⟩
theorem treeinform_any:∀ t:Tr,∀ (w:World) (B:Nat→Prop) (v:Value),NodeV w B v t→Calls Tryz.prog 70 #[v] w fun e w'=>e=.returned (.bool t.formB)∧Below w.heap.size w w':=by
 intro t
 induction t using Tr.rec_subs with
 | h t ih =>
   intro w B v hv
   obtain ⟨s,rfl,hs⟩:=hv
   obtain ⟨p,cap,rfl,hlen⟩:=hs.slice
   have hfl:=fun w=>treefields_any t.kind t.w0 t.w1 t.w2 t.w3 t.subs t.num t.least t.most t.bare p cap hlen w
   rw [← Tr.eta t] at hfl
   rw [Tr.formB_eq]
   have HF:=Lib.hid hfl
   clear hfl
   generalize hts:t.subs=ts at *
   have IH:=Lib.hid ih;have HS:=Lib.hid hs
   clear ih hs hts
   unfold Tr.cells at *
   generalize t.fieldsB=FB at *
   obtain ⟨R,hR⟩:∃ R,(FB && Tr.formS ts)=R:=⟨_,rfl⟩
   rw [hR]
   have HR:=Lib.hid hR
   clear hR
   have Z0:=Lib.hid (heap_alloc_new w (.cells #[.int .i64 t.kind,.int .u64 (Oc.U t.w0),.int .u64 (Oc.U t.w1),.int .u64 (Oc.U t.w2),.int .u64 (Oc.U t.w3),.slice p ts.length cap,.int .i64 t.num,.int .i64 t.least,.int .i64 t.most,.bool t.bare] 28))
   have HW:=Lib.hid (show Below w.heap.size w (w.alloc (.cells #[.int .i64 t.kind,.int .u64 (Oc.U t.w0),.int .u64 (Oc.U t.w1),.int .u64 (Oc.U t.w2),.int .u64 (Oc.U t.w3),.slice p ts.length cap,.int .i64 t.num,.int .i64 t.least,.int .i64 t.most,.bool t.bare] 28)) from (Below.refl _ _).alloc (Nat.le_refl _) _)
   go_enter Tryz.func70,Tryz.ntmps70
   go_wp2_with (first
     | (refine wpList_load_row rfl 28 (.tmp 1) rfl w.heap.size rfl 28 _ (0,0) _ Z0.out Tryz.underlying28 rfl (by kernel_rfl) ?_)
     | fail)
   refine (HF.out _).mono ?_
   rintro e W0 ⟨rfl,hb1⟩
   have Z1:=Lib.hid (keep_blk (hb1.mono (Nat.le_refl _)) Z0.out)
   have HB1:=Lib.hid (HW.out.trans (hb1.mono HW.out.size))
   obtain ⟨d0,d1,d2,d3,d4,d5,d6,d7,d8,d9⟩:=allTen Z1.out
   clear hb1 Z0 HW HF
   cases FB with
   | false =>
     have hr:=HR.out
     rw [Bool.false_and] at hr
     subst hr
     go_wp2
     go_ret
     exact ⟨rfl,HB1.out⟩
   | true =>
     have hr:=HR.out
     rw [Bool.true_and] at hr
     have HR2:=Lib.hid hr
     clear hr HR
     go_wp2
     clear d0 d1 d2 d3 d4 d5 d6 d7 d8 d9
     go_loopw [11] (fun iv wr=>∃ m:Nat,iv=.int .i64 m∧m ≤ ts.length∧Hid (Tr.formS (ts.take m)=true)∧Hid (Below w.heap.size w wr)) (fun iv _=>ts.length - (intOf iv).toNat)
     case atStart=>exact ⟨0,rfl,Nat.zero_le _,Lib.hid rfl,HB1⟩
     case round =>
       obtain ⟨m,rfl,hm,HT,HB⟩:=hrel
       have wm:IntKind.i64.wrap ((m:Int)+1)=(m:Int)+1:=IntWalk.i64_in _ (by omega)
       by_cases hlt:m < ts.length
       · obtain ⟨x,hx⟩:∃ x,ts[m]? = some x:=⟨_,List.getElem?_eq_getElem hlt⟩
         obtain ⟨b1,o1,s1,rfl,-,t1,sub1⟩:=HS.out.get hx
         obtain ⟨d0,d1,d2,d3,d4,d5,d6,d7,d8,d9⟩:=t1.keep (HB.out.block _ t1.lt)
         have hmem:=List.mem_of_getElem? hx
         obtain ⟨p1,c1,rfl,hl1⟩:=sub1.slice
         have HC:=Lib.hid (fun w9 hb=>IH.out x hmem w9 B (.agg (x.cells (.slice p1 x.subs.length c1))) ⟨_,rfl,sub1.later hb⟩)
         have hst:=Tr.formS_take ts m x hx
         rw [HT.out,Bool.true_and] at hst
         have HST:=Lib.hid hst
         clear t1 sub1 hmem hx hst
         unfold Tr.cells at HC
         have hbx:Below wr.heap.size wr (wr.alloc (.cells #[.int .i64 x.kind,.int .u64 (Oc.U x.w0),.int .u64 (Oc.U x.w1),.int .u64 (Oc.U x.w2),.int .u64 (Oc.U x.w3),.slice p1 x.subs.length c1,.int .i64 x.num,.int .i64 x.least,.int .i64 x.most,.bool x.bare] 28)):=(Below.refl _ _).alloc (Nat.le_refl _) _
         have HBX:=Lib.hid (HB.out.trans (hbx.mono HB.out.size))
         have ZX:=Lib.hid (heap_alloc_new wr (.cells #[.int .i64 x.kind,.int .u64 (Oc.U x.w0),.int .u64 (Oc.U x.w1),.int .u64 (Oc.U x.w2),.int .u64 (Oc.U x.w3),.slice p1 x.subs.length c1,.int .i64 x.num,.int .i64 x.least,.int .i64 x.most,.bool x.bare] 28))
         clear hbx
         go_upto_region 6 with (fail)
         generalize wr.alloc (.cells #[.int .i64 x.kind,.int .u64 (Oc.U x.w0),.int .u64 (Oc.U x.w1),.int .u64 (Oc.U x.w2),.int .u64 (Oc.U x.w3),.slice p1 x.subs.length c1,.int .i64 x.num,.int .i64 x.least,.int .i64 x.most,.bool x.bare] 28)=w1 at *
         clear d0 d1 d2 d3 d4 d5 d6 d7 d8 d9
         go_wp2_with (first
           | (refine wpList_load_row rfl 28 (.tmp 4) rfl wr.heap.size rfl 28 _ (0,0) _ ZX.out Tryz.underlying28 rfl (by kernel_rfl) ?_)
           | fail)
         refine (HC.out w1 HBX.out).mono ?_
         rintro e w2 ⟨rfl,hb2⟩
         have HB2:=Lib.hid (HBX.out.trans (hb2.mono HBX.out.size))
         clear hb2 HC ZX
         cases hxf:x.formB with
         | false =>
           rw [hxf] at HST
           have hr:=HR2.out
           rw [Tr.formS_no HST.out] at hr
           subst hr
           clear hxf
           go_wp2
           go_ret
           exact ⟨rfl,HB2.out⟩
         | true =>
           rw [hxf] at HST
           clear hxf
           go_wp2
           exact ⟨⟨m+1,by go_num,by omega,HST,HB2⟩,by simp [intOf];omega⟩
       · obtain rfl:m=ts.length:=by omega
         rw [List.take_length] at *
         have hr:=HR2.out
         rw [HT.out] at hr
         subst hr
         go_wp2
         go_ret
         exact ⟨rfl,HB.out⟩
end Go.Proofs.YtnfdknhhkdphhaaGreatDoor
namespace Go.Proofs.YtnfdknhhkdphhaaGreatDoor
open Go.RowKit
theorem byte_text (c:UInt8) (w:World):(convert 73 9 (.slice (some ⟨w.heap.size,0,none⟩) 1 1)).run Tryz.prog (w.alloc (.cells #[.int .u8 (c.toNat:Int)] 5))=.ok (.string ⟨#[c]⟩) (w.alloc (.cells #[.int .u8 (c.toNat:Int)] 5)):=by
 have:=run_convert_bytes_back (P:=Tryz.prog) (w.alloc (.cells #[.int .u8 (c.toNat:Int)] 5)) 73 9 5 ⟨w.heap.size,0,none⟩ 1 [c] Tryz.underlying73 Tryz.underlying5 Tryz.underlying9 (fun j hj=>by
   obtain rfl:j=0:=by simpa using hj
   rw [show (⟨w.heap.size,0,none⟩:Addr).add 0=⟨w.heap.size,0,none⟩ from rfl,cell_new]
   simp)
 exact this
theorem refone_any (b:Nat) (hb:b < 256) (w:World):Calls Tryz.prog 119 #[.int .i64 b] w fun e w'=>e=.returned (.string (tx [UInt8.ofNat b]))∧Below w.heap.size w w':=by
 have hn:(UInt8.ofNat b).toNat=b:=by simp;omega
 have ht:=fun w=>byte_text (UInt8.ofNat b) w
 rw [hn] at ht
 have h0:(0:Int) ≤ b:=by omega
 have h1:(b:Int) ≤ 255:=by omega
 clear hn
 go_enter Tryz.func119,Tryz.ntmps119
 go_wp2
 go_ret
 exact ⟨rfl,by go_grown⟩
def fourB (b:Nat):Bool:=b == 93 || b == 91 || b == 94 || b == 45
theorem reffour_any (b:Nat) (w:World):Calls Tryz.prog 150 #[.int .i64 b] w fun e w'=>e=.returned (.bool (fourB b))∧w'=w:=by
 have hc:∀ n:Nat,((b:Int) == (n:Int))=(b == n):=fun n=>by
   by_cases h:b=n
   · rw [beq_iff_eq.2 h,beq_iff_eq.2 (by omega)]
   · rw [beq_eq_false_iff_ne.2 h,beq_eq_false_iff_ne.2 (by omega)]
 have c1:((b:Int) == 93)=(b == 93):=hc 93
 have c2:((b:Int) == 91)=(b == 91):=hc 91
 have c3:((b:Int) == 94)=(b == 94):=hc 94
 have c4:((b:Int) == 45)=(b == 45):=hc 45
 obtain ⟨R,hR⟩:∃ R,fourB b=R:=⟨_,rfl⟩
 rw [hR]
 unfold fourB at hR
 clear hc
 rcases bool_or (b == 93) with q1 | q1 <;> rcases bool_or (b == 91) with q2 | q2 <;> rcases bool_or (b == 94) with q3 | q3 <;> rcases bool_or (b == 45) with q4 | q4 <;> (
   rw [q1,q2,q3,q4] at hR
   rw [q1] at c1;rw [q2] at c2;rw [q3] at c3;rw [q4] at c4
   subst hR
   go_enter Tryz.func150,Tryz.ntmps150
   go_wp2
   go_ret
   exact ⟨rfl,rfl⟩)
end Go.Proofs.YtnfdknhhkdphhaaGreatDoor
namespace Go.Proofs.YtnfdknhhkdphhaaGreatDoor
namespace Sp
def itP (M:Nat→Bool) (j:Nat):Bool:=M j && !fourB j
def lessP (a b c d:BitVec 64):Nat→Bool:=Oc.mem (a &&& ~~~Oc.mk four 0) (b &&& ~~~Oc.mk four 1) (c &&& ~~~Oc.mk four 2) (d &&& ~~~Oc.mk four 3)
def lessQ (a b c d:BitVec 64):Nat→Bool:=Oc.mem (~~~(a &&& ~~~Oc.mk four 0)) (~~~(b &&& ~~~Oc.mk four 1)) (~~~(c &&& ~~~Oc.mk four 2)) (~~~(d &&& ~~~Oc.mk four 3))
theorem lessQ_is (a b c d:BitVec 64) (j:Nat):lessQ a b c d j = !lessP a b c d j:=Oc.mem_not _ _ _ _ j
theorem lessP_is (a b c d:BitVec 64) (j:Nat) (hj:j < 256):lessP a b c d j=itP (Oc.mem a b c d) j:=by
 unfold lessP
 rw [Oc.mem_and,Oc.mem_not,Oc.mem_mk _ _ hj];rfl
theorem itemsW_eq (a b c d:BitVec 64):itemsW a b c d=ifTx (Oc.mem a b c d) [93] ++ (Oc.rowsFrom (lessP a b c d) (lessQ a b c d) 257 (Oc.nx (lessP a b c d) 0)).flatMap rowTx ++ ifTx (Oc.mem a b c d) [91,94,45]:=rfl
theorem nx_skip {p:Nat→Bool} {m:Nat} (hm:m < 256) (h:p m=false):Oc.nx p m=Oc.nx p (m+1):=by
 obtain ⟨h0,h1,h2,h3⟩:=Oc.nx_spec p (m+1) (by omega)
 refine Oc.nx_eq (by omega) h1 (fun i hi hi2=>?_) h3
 rcases Nat.eq_or_lt_of_le hi with rfl | hi
 · exact h
 · exact h2 i hi hi2
theorem nx_here {p:Nat→Bool} {m:Nat} (hm:m < 256) (h:p m=true):Oc.nx p m=m :=
 Oc.nx_eq (Nat.le_refl _) (by omega) (fun i hi hi2=>by omega) (fun _=>h)
theorem nx_row {p q:Nat→Bool} (hq:∀ j,q j = !p j) {m e:Nat} (he:e < 256) (hme:m ≤ e) (hall:∀ j,m ≤ j→j ≤ e→p j=true) (hend:e=255 ∨ p (e+1)=false):Oc.nx q m=e+1 :=
 Oc.nx_eq (by omega) (by omega) (fun i hi hi2=>by rw [hq,hall i hi (by omega)];rfl) (fun h=>by
   rcases hend with h2 | h2
   · omega
   · rw [hq,h2];rfl)
theorem rows_at {p q:Nat→Bool} {k m e:Nat} (hm:m < 256) (hk:256 < k+m) (hp:p m=true) (hx:Oc.nx q m=e+1):∃ k',k=k'+1∧Oc.rowsFrom p q k (Oc.nx p m)=(m,e+1) :: Oc.rowsFrom p q k' (Oc.nx p (e+1)):=by
 obtain ⟨k',rfl⟩:∃ k',k=k'+1:=⟨k - 1,by omega⟩
 exact ⟨k',rfl,by rw [nx_here hm hp,Oc.rowsFrom_step _ _ _ _ hm,hx]⟩
theorem rowTx_one (m:Nat):rowTx (m,m+1)=[UInt8.ofNat m]:=by
 unfold rowTx
 rw [if_neg (by simp),if_neg (by simp)];simp
theorem rowTx_two (m:Nat):rowTx (m,m+1+1)=[UInt8.ofNat m] ++ [UInt8.ofNat (m+1)]:=by
 unfold rowTx
 rw [if_neg (by simp),if_pos (by simp)];simp
theorem rowTx_more (m e:Nat) (h:m+2 ≤ e):rowTx (m,e+1)=[UInt8.ofNat m] ++ [45] ++ [UInt8.ofNat e]:=by
 unfold rowTx
 rw [if_pos (by simp;omega),if_pos (by simp;omega)];simp
theorem ifTx_one (M:Nat→Bool) (c:UInt8):ifTx M [c]=if M c.toNat then [c] else []:=by
 unfold ifTx;rw [List.filter_cons,List.filter_nil]
theorem itemsW_of_two:itemsW (Oc.mk two 0) (Oc.mk two 1) (Oc.mk two 2) (Oc.mk two 3)=[94,45]:=by decide +kernel
theorem u8_inj {m n:Nat} (hm:m < 256) (hn:n < 256) (h:UInt8.ofNat m=UInt8.ofNat n):m=n:=by
 have:=congrArg UInt8.toNat h
 simp at this;omega
theorem two_of_itemsW (a b c d:BitVec 64) (h:itemsW a b c d=[94,45]):a=Oc.mk two 0∧b=Oc.mk two 1∧c=Oc.mk two 2∧d=Oc.mk two 3:=by
 rw [itemsW_eq,ifTx_one] at h
 have h93:Oc.mem a b c d 93=false:=by
   cases hb:Oc.mem a b c d 93 with
   | false=>rfl
   | true =>
     rw [show (93:UInt8).toNat=93 from rfl,hb,if_pos rfl] at h
     simp at h
 rw [show (93:UInt8).toNat=93 from rfl,h93,if_neg (by decide),List.nil_append] at h
 have hno:∀ j,j < 256→lessP a b c d j=false:=by
   obtain ⟨-,h1,h2,h3⟩:=Oc.nx_spec (lessP a b c d) 0 (by omega)
   rcases Nat.lt_or_ge (Oc.nx (lessP a b c d) 0) 256 with hlt | hge
   · exfalso
     have hp:=h3 hlt
     rw [Oc.rowsFrom_step _ _ _ _ hlt,List.flatMap_cons] at h
     unfold rowTx at h
     simp only [List.cons_append,List.nil_append,List.cons.injEq] at h
     have e:Oc.nx (lessP a b c d) 0=94:=u8_inj hlt (by omega) h.1
     rw [e,lessP_is _ _ _ _ _ (by omega)] at hp
     unfold itP fourB at hp
     simp at hp
   · intro j hj;exact h2 j (by omega) (by omega)
 have hrow:Oc.rowsFrom (lessP a b c d) (lessQ a b c d) 257 (Oc.nx (lessP a b c d) 0)=[]:=by
   have:Oc.nx (lessP a b c d) 0=256:=Oc.nx_eq (by omega) (Nat.le_refl _) (fun i _ hi=>hno i hi) (fun h=>by omega)
   rw [this,Oc.rowsFrom_end]
 rw [hrow] at h
 simp only [List.flatMap_nil,List.nil_append] at h
 unfold ifTx at h
 simp only [List.filter_cons,List.filter_nil] at h
 have e1:Oc.mem a b c d (91:UInt8).toNat=false∧Oc.mem a b c d (94:UInt8).toNat=true∧Oc.mem a b c d (45:UInt8).toNat=true:=by
   cases x1:Oc.mem a b c d (91:UInt8).toNat <;> cases x2:Oc.mem a b c d (94:UInt8).toNat <;> cases x3:Oc.mem a b c d (45:UInt8).toNat <;> simp_all
 obtain ⟨e1,e2,e3⟩:=e1
 have hM:∀ j,j < 256→two j=Oc.mem a b c d j:=by
   intro j hj
   have hn:=hno j hj
   rw [lessP_is _ _ _ _ _ hj] at hn
   by_cases j93:j=93
   · subst j93;rw [h93];rfl
   by_cases j91:j=91
   · subst j91;rw [show Oc.mem a b c d 91=false from e1];rfl
   by_cases j94:j=94
   · subst j94;rw [show Oc.mem a b c d 94=true from e2];rfl
   by_cases j45:j=45
   · subst j45;rw [show Oc.mem a b c d 45=true from e3];rfl
   have hf:fourB j=false:=by unfold fourB;simp [j93,j91,j94,j45]
   unfold itP at hn
   rw [hf] at hn
   have ht:two j=false:=by unfold two;simp [j94,j45]
   rw [ht];simpa using hn.symm
 have m:=mk_mem a b c d
 have s:=mk_same4 hM
 exact ⟨(s.1.trans m.1).symm,(s.2.1.trans m.2.1).symm,(s.2.2.1.trans m.2.2.1).symm,(s.2.2.2.trans m.2.2.2).symm⟩
end Sp
end Go.Proofs.YtnfdknhhkdphhaaGreatDoor
namespace Go.Proofs.YtnfdknhhkdphhaaGreatDoor
open Go.RowKit
theorem flat_rows:∀ pre:List (Nat × Nat),(pre.flatMap Sp.rowTx).length ≤ 3 * pre.length
 | []=>by simp
 | x :: pre=>by
   have h1:=flat_rows pre
   have h2:=Sp.rowTx_len x
   rw [List.flatMap_cons,List.length_append,List.length_cons];omega
theorem refitems_any (a b c d:BitVec 64) (w:World):Calls Tryz.prog 121 #[.agg (bools (Oc.mem a b c d))] w fun e w'=>e=.returned (.string (tx (Sp.itemsW a b c d)))∧Below w.heap.size w w':=by
 have HIT:=Lib.hid (Sp.itemsW_eq a b c d)
 have HFO:=Lib.hid reffour_any
 have hlp:=Sp.lessP_is a b c d
 obtain ⟨M,hM⟩:∃ M,Oc.mem a b c d=M:=⟨_,rfl⟩
 rw [hM] at hlp HIT ⊢
 have HLP:=Lib.hid hlp
 have HZ0:=Lib.hid (heap_alloc_new w (.cells (bools M) 159))
 have HB0:=Lib.hid (show Below w.heap.size w (w.alloc (.cells (bools M) 159)) from (Below.refl _ _).alloc (Nat.le_refl _) _)
 obtain ⟨I,hI⟩:∃ I,Sp.ifTx M [93]=I:=⟨_,rfl⟩
 have HI:=Lib.hid hI
 have hIl:I.length ≤ 1:=by rw [← hI];exact Sp.ifTx_len M [93]
 have hI1:=Sp.ifTx_one M 93
 rw [hI,show (93:UInt8).toNat=93 from rfl] at hI1
 clear hM hlp hI
 go_enter Tryz.func121,Tryz.ntmps121
 go_upto_region 1 with (fail)
 generalize w.alloc (.cells (bools M) 159)=W1 at *
 have m93:=(one_cell (k:=93) (by omega) HZ0.out).1
 obtain ⟨y,hy⟩:∃ y,M 93=y:=⟨_,rfl⟩
 rw [hy] at m93 hI1
 clear hy
 go_upto_if 7 with (fail)
 go_cut [3] (fun v3 wx=>v3=.string (tx I)∧W1=wx)
 case first =>
   cases y with
   | true =>
     rw [if_pos rfl] at hI1
     go_wp2
     go_meet
     exact ⟨by rw [hI1];rfl,rfl⟩
   | false =>
     rw [if_neg (by decide)] at hI1
     go_wp2
     go_meet
     exact ⟨by rw [hI1];rfl,rfl⟩
 case rest =>
   obtain ⟨rfl,rfl⟩:=hcut
   clear hI1 m93
   go_wp2
   go_loopw [3,4] (fun sv mv wr=>∃ (m k:Nat) (pre:List (Nat × Nat)),mv=.int .i64 m∧m ≤ 256∧256 < k+m∧sv=.string (tx (I ++ pre.flatMap Sp.rowTx))∧Hid (Oc.rowsFrom (Sp.lessP a b c d) (Sp.lessQ a b c d) 257 (Oc.nx (Sp.lessP a b c d) 0)=pre ++ Oc.rowsFrom (Sp.lessP a b c d) (Sp.lessQ a b c d) k (Oc.nx (Sp.lessP a b c d) m))∧Hid (pre.length ≤ m)∧Hid (wr.heap[w.heap.size]? = some (.cells (bools M) 159))∧Hid (Below w.heap.size w wr)) (fun _ mv _=>256 - (intOf mv).toNat)
   case atStart=>exact ⟨0,257,[],rfl,by omega,by omega,by simp,Lib.hid rfl,Lib.hid (by simp),HZ0,HB0⟩
   case round =>
     obtain ⟨m,k,pre,rfl,hm,hk,rfl,HX,HPL,HZ,HB⟩:=hrel
     have wm:IntKind.i64.wrap ((m:Int)+1)=(m:Int)+1:=IntWalk.i64_in _ (by omega)
     have hPL:(tx (I ++ pre.flatMap Sp.rowTx)).size ≤ 1000:=by
       have h1:=flat_rows pre
       have h2:=HPL.out
       rw [tx_size,List.length_append];omega
     by_cases hlt:m < 256
     · have cm:=(one_cell hlt HZ.out).1
       have hpm:=HLP.out m hlt
       have hskip:Sp.lessP a b c d m=false→Hid (Oc.rowsFrom (Sp.lessP a b c d) (Sp.lessQ a b c d) 257 (Oc.nx (Sp.lessP a b c d) 0)=pre ++ Oc.rowsFrom (Sp.lessP a b c d) (Sp.lessQ a b c d) k (Oc.nx (Sp.lessP a b c d) (m+1))):=fun h=>Lib.hid (HX.out.trans (by rw [Sp.nx_skip hlt h]))
       rcases bool_or (M m) with qm | qm
       case inr =>
         have HX2:=hskip (by rw [hpm];simp [Sp.itP,qm])
         rw [qm] at cm
         clear hskip hpm qm
         go_wp2
         exact ⟨⟨m+1,k,pre,by go_num,by omega,by omega,rfl,HX2,Lib.hid (by have:=HPL.out;omega),HZ,HB⟩,by simp [intOf];omega⟩
       case inl =>
         rw [qm] at cm
         rcases bool_or (fourB m) with qf | qf
         · have HX2:=hskip (by rw [hpm];simp [Sp.itP,qm,qf])
           clear hskip hpm qm
           go_wp2_with fail
           refine (HFO.out m _).mono ?_
           rintro e9 w9 ⟨rfl,rfl⟩
           rw [qf]
           go_wp2
           exact ⟨⟨m+1,k,pre,by go_num,by omega,by omega,rfl,HX2,Lib.hid (by have:=HPL.out;omega),HZ,HB⟩,by simp [intOf];omega⟩
         · have hpb:Sp.lessP a b c d m=true:=by rw [hpm];simp [Sp.itP,qm,qf]
           clear hskip hpm qm
           go_wp2_with fail
           refine (HFO.out m _).mono ?_
           rintro e9 w9 ⟨rfl,rfl⟩
           rw [qf]
           clear qf
           go_wp2
           clear cm
           go_loopw [5] (fun ev wx=>∃ e:Nat,ev=.int .i64 e∧m ≤ e∧e < 256∧Hid (∀ j,m ≤ j→j ≤ e→Sp.lessP a b c d j=true)∧w9=wx) (fun ev _=>256 - (intOf ev).toNat)
           case atStart=>exact ⟨m,rfl,Nat.le_refl _,hlt,Lib.hid (fun j h1 h2=>(show j=m by omega) ▸ hpb),rfl⟩
           case round =>
             obtain ⟨e,rfl,hbe,he256,HALL,rfl⟩:=hrel
             have we1:IntKind.i64.wrap ((e:Int)+1)=(e:Int)+1:=IntWalk.i64_in _ (by omega)
             by_cases he:e < 255
             · have q1:decide ((e:Int) < 255)=true:=by rw [decide_eq_true_eq];omega
               have q1':decide (e < 255)=true:=by rw [decide_eq_true_eq];omega
               have ce:=(one_cell (k:=e+1) (by omega) HZ.out).1
               have hpe:=HLP.out (e+1) (by omega)
               rcases bool_or (M (e+1)) with qe | qe
               case inr =>
                 have hend:e=255 ∨ Sp.lessP a b c d (e+1)=false:=.inr (by rw [hpe];simp [Sp.itP,qe])
                 rw [qe] at ce
                 clear hpe qe
                 go_upto_region 11 with (fail)
                 clear q1 q1' ce we1 he
                 have hrow:=Sp.nx_row (Sp.lessQ_is a b c d) (by omega) hbe (fun j h1 h2=>HALL.out j h1 h2) hend
                 obtain ⟨k',rfl,hrf⟩:=Sp.rows_at (by omega) hk hpb hrow
                 have HX2:=Lib.hid (HX.out.trans (show pre ++ Oc.rowsFrom (Sp.lessP a b c d) (Sp.lessQ a b c d) (k'+1) (Oc.nx (Sp.lessP a b c d) m)=(pre ++ [(m,e+1)]) ++ Oc.rowsFrom (Sp.lessP a b c d) (Sp.lessQ a b c d) k' (Oc.nx (Sp.lessP a b c d) (e+1)) by rw [hrf];simp))
                 have HPP:=Lib.hid (show I ++ (pre ++ [(m,e+1)]).flatMap Sp.rowTx=(I ++ pre.flatMap Sp.rowTx) ++ Sp.rowTx (m,e+1) by simp)
                 clear hrow hrf hend HALL
                 generalize I ++ pre.flatMap Sp.rowTx=P at *
                 have hsm:(tx [UInt8.ofNat m]).size ≤ 1:=by rw [tx_size];simp
                 have hse:(tx [UInt8.ofNat e]).size ≤ 1:=by rw [tx_size];simp
                 have wd:IntKind.i64.wrap ((e:Int) - m)=(e:Int) - m:=IntWalk.i64_in _ (by omega)
                 have we:IntKind.i64.wrap ((e:Int)+1)=(e:Int)+1:=IntWalk.i64_in _ (by omega)
                 rcases (show e=m ∨ e=m+1 ∨ m+2 ≤ e by omega) with he | he | he
                 · subst he
                   have z0:(e:Int) - e=0:=by omega
                   rw [z0] at wd
                   have HT:=Lib.hid (Sp.rowTx_one e)
                   have HC:=Lib.hid (fun w'=>refone_any e (by omega) w')
                   go_wp2_with fail
                   refine (HC.out _).mono ?_
                   rintro e9 w9 ⟨rfl,hb9⟩
                   have HB9:=Lib.hid (HB.out.trans (hb9.mono HB.out.size))
                   have HZ9:=Lib.hid (keep_blk hb9 HZ.out)
                   clear hb9
                   go_wp2
                   exact ⟨⟨e+1,k',pre ++ [(e,e+1)],by go_num,by omega,by omega,by rw [HPP.out,HT.out];exact ba_vs (by simp [tx,ByteArray.data_append]),HX2,Lib.hid (by have:=HPL.out;simp;omega),HZ9,HB9⟩,by simp [intOf];omega⟩
                 · subst he
                   have z1:((m+1:Nat):Int) - m=1:=by omega
                   have z1':(m:Int)+1 - m=1:=by omega
                   have w1:IntKind.i64.wrap (1:Int)=1:=by decide
                   rw [z1] at wd
                   have HT:=Lib.hid (Sp.rowTx_two m)
                   have HC:=Lib.hid (fun w'=>refone_any m (by omega) w')
                   have HD:=Lib.hid (fun w'=>refone_any (m+1) (by omega) w')
                   generalize hee:m+1=e at *
                   have zz:(e:Int) - m=1:=by omega
                   go_wp2_with fail
                   refine (HC.out _).mono ?_
                   rintro e9 w9 ⟨rfl,hb9⟩
                   go_wp2_with fail
                   refine (HD.out _).mono ?_
                   rintro e9 w10 ⟨rfl,hb10⟩
                   have HB9:=Lib.hid (HB.out.trans ((hb9.trans (hb10.mono hb9.size)).mono HB.out.size))
                   have HZ9:=Lib.hid (keep_blk hb10 (keep_blk hb9 HZ.out))
                   clear hb9 hb10
                   go_wp2
                   exact ⟨⟨e+1,k',pre ++ [(m,e+1)],by go_num,by omega,by omega,by rw [HPP.out,HT.out];exact ba_vs (by simp [tx,ByteArray.data_append]),HX2,Lib.hid (by have:=HPL.out;simp;omega),HZ9,HB9⟩,by simp [intOf];omega⟩
                 · have n0:((e:Int) - m == 0)=false:=by rw [beq_eq_false_iff_ne];omega
                   have n1:((e:Int) - m == 1)=false:=by rw [beq_eq_false_iff_ne];omega
                   have HT:=Lib.hid (Sp.rowTx_more m e he)
                   have HC:=Lib.hid (fun w'=>refone_any m (by omega) w')
                   have HD:=Lib.hid (fun w'=>refone_any e (by omega) w')
                   go_wp2_with fail
                   refine (HC.out _).mono ?_
                   rintro e9 w9 ⟨rfl,hb9⟩
                   go_wp2_with fail
                   refine (HD.out _).mono ?_
                   rintro e9 w10 ⟨rfl,hb10⟩
                   have HB9:=Lib.hid (HB.out.trans ((hb9.trans (hb10.mono hb9.size)).mono HB.out.size))
                   have HZ9:=Lib.hid (keep_blk hb10 (keep_blk hb9 HZ.out))
                   clear hb9 hb10
                   go_wp2
                   exact ⟨⟨e+1,k',pre ++ [(m,e+1)],by go_num,by omega,by omega,by rw [HPP.out,HT.out];exact ba_vs (by simp [tx,ByteArray.data_append]),HX2,Lib.hid (by have:=HPL.out;simp;omega),HZ9,HB9⟩,by simp [intOf];omega⟩
               case inl =>
                 rw [qe] at ce
                 go_wp2_with fail
                 refine (HFO.out (e+1) _).mono ?_
                 rintro e9 w9 ⟨rfl,rfl⟩
                 rcases bool_or (fourB (e+1)) with qf | qf
                 · have hend:e=255 ∨ Sp.lessP a b c d (e+1)=false:=.inr (by rw [hpe];simp [Sp.itP,qe,qf])
                   rw [qf]
                   clear hpe qe qf he
                   go_upto_region 11 with (fail)
                   clear q1 q1' ce we1
                   have hrow:=Sp.nx_row (Sp.lessQ_is a b c d) (by omega) hbe (fun j h1 h2=>HALL.out j h1 h2) hend
                   obtain ⟨k',rfl,hrf⟩:=Sp.rows_at (by omega) hk hpb hrow
                   have HX2:=Lib.hid (HX.out.trans (show pre ++ Oc.rowsFrom (Sp.lessP a b c d) (Sp.lessQ a b c d) (k'+1) (Oc.nx (Sp.lessP a b c d) m)=(pre ++ [(m,e+1)]) ++ Oc.rowsFrom (Sp.lessP a b c d) (Sp.lessQ a b c d) k' (Oc.nx (Sp.lessP a b c d) (e+1)) by rw [hrf];simp))
                   have HPP:=Lib.hid (show I ++ (pre ++ [(m,e+1)]).flatMap Sp.rowTx=(I ++ pre.flatMap Sp.rowTx) ++ Sp.rowTx (m,e+1) by simp)
                   clear hrow hrf hend HALL
                   generalize I ++ pre.flatMap Sp.rowTx=P at *
                   have hsm:(tx [UInt8.ofNat m]).size ≤ 1:=by rw [tx_size];simp
                   have hse:(tx [UInt8.ofNat e]).size ≤ 1:=by rw [tx_size];simp
                   have wd:IntKind.i64.wrap ((e:Int) - m)=(e:Int) - m:=IntWalk.i64_in _ (by omega)
                   have we:IntKind.i64.wrap ((e:Int)+1)=(e:Int)+1:=IntWalk.i64_in _ (by omega)
                   rcases (show e=m ∨ e=m+1 ∨ m+2 ≤ e by omega) with he | he | he
                   · subst he
                     have z0:(e:Int) - e=0:=by omega
                     rw [z0] at wd
                     have HT:=Lib.hid (Sp.rowTx_one e)
                     have HC:=Lib.hid (fun w'=>refone_any e (by omega) w')
                     go_wp2_with fail
                     refine (HC.out _).mono ?_
                     rintro e9 w9 ⟨rfl,hb9⟩
                     have HB9:=Lib.hid (HB.out.trans (hb9.mono HB.out.size))
                     have HZ9:=Lib.hid (keep_blk hb9 HZ.out)
                     clear hb9
                     go_wp2
                     exact ⟨⟨e+1,k',pre ++ [(e,e+1)],by go_num,by omega,by omega,by rw [HPP.out,HT.out];exact ba_vs (by simp [tx,ByteArray.data_append]),HX2,Lib.hid (by have:=HPL.out;simp;omega),HZ9,HB9⟩,by simp [intOf];omega⟩
                   · subst he
                     have z1:((m+1:Nat):Int) - m=1:=by omega
                     have z1':(m:Int)+1 - m=1:=by omega
                     have w1:IntKind.i64.wrap (1:Int)=1:=by decide
                     rw [z1] at wd
                     have HT:=Lib.hid (Sp.rowTx_two m)
                     have HC:=Lib.hid (fun w'=>refone_any m (by omega) w')
                     have HD:=Lib.hid (fun w'=>refone_any (m+1) (by omega) w')
                     generalize hee:m+1=e at *
                     have zz:(e:Int) - m=1:=by omega
                     go_wp2_with fail
                     refine (HC.out _).mono ?_
                     rintro e9 w9 ⟨rfl,hb9⟩
                     go_wp2_with fail
                     refine (HD.out _).mono ?_
                     rintro e9 w10 ⟨rfl,hb10⟩
                     have HB9:=Lib.hid (HB.out.trans ((hb9.trans (hb10.mono hb9.size)).mono HB.out.size))
                     have HZ9:=Lib.hid (keep_blk hb10 (keep_blk hb9 HZ.out))
                     clear hb9 hb10
                     go_wp2
                     exact ⟨⟨e+1,k',pre ++ [(m,e+1)],by go_num,by omega,by omega,by rw [HPP.out,HT.out];exact ba_vs (by simp [tx,ByteArray.data_append]),HX2,Lib.hid (by have:=HPL.out;simp;omega),HZ9,HB9⟩,by simp [intOf];omega⟩
                   · have n0:((e:Int) - m == 0)=false:=by rw [beq_eq_false_iff_ne];omega
                     have n1:((e:Int) - m == 1)=false:=by rw [beq_eq_false_iff_ne];omega
                     have HT:=Lib.hid (Sp.rowTx_more m e he)
                     have HC:=Lib.hid (fun w'=>refone_any m (by omega) w')
                     have HD:=Lib.hid (fun w'=>refone_any e (by omega) w')
                     go_wp2_with fail
                     refine (HC.out _).mono ?_
                     rintro e9 w9 ⟨rfl,hb9⟩
                     go_wp2_with fail
                     refine (HD.out _).mono ?_
                     rintro e9 w10 ⟨rfl,hb10⟩
                     have HB9:=Lib.hid (HB.out.trans ((hb9.trans (hb10.mono hb9.size)).mono HB.out.size))
                     have HZ9:=Lib.hid (keep_blk hb10 (keep_blk hb9 HZ.out))
                     clear hb9 hb10
                     go_wp2
                     exact ⟨⟨e+1,k',pre ++ [(m,e+1)],by go_num,by omega,by omega,by rw [HPP.out,HT.out];exact ba_vs (by simp [tx,ByteArray.data_append]),HX2,Lib.hid (by have:=HPL.out;simp;omega),HZ9,HB9⟩,by simp [intOf];omega⟩
                 · have HN:=Lib.hid (show ∀ j,m ≤ j→j ≤ e+1→Sp.lessP a b c d j=true from fun j h1 h2=>by
                     rcases Nat.lt_or_ge e j with h | h
                     · obtain rfl:j=e+1:=by omega
                       rw [hpe];simp [Sp.itP,qe,qf]
                     · exact HALL.out j h1 h)
                   rw [qf]
                   clear hpe qe qf
                   go_wp2
                   exact ⟨⟨e+1,by go_num,by omega,by omega,HN,trivial⟩,by simp [intOf];omega⟩
             · have hend:e=255 ∨ Sp.lessP a b c d (e+1)=false:=.inl (by omega)
               have q1:decide ((e:Int) < 255)=false:=by rw [decide_eq_false_iff_not];omega
               have q1':decide (e < 255)=false:=by rw [decide_eq_false_iff_not];omega
               clear he
               go_upto_region 11 with (fail)
               clear q1 q1' we1
               have hrow:=Sp.nx_row (Sp.lessQ_is a b c d) (by omega) hbe (fun j h1 h2=>HALL.out j h1 h2) hend
               obtain ⟨k',rfl,hrf⟩:=Sp.rows_at (by omega) hk hpb hrow
               have HX2:=Lib.hid (HX.out.trans (show pre ++ Oc.rowsFrom (Sp.lessP a b c d) (Sp.lessQ a b c d) (k'+1) (Oc.nx (Sp.lessP a b c d) m)=(pre ++ [(m,e+1)]) ++ Oc.rowsFrom (Sp.lessP a b c d) (Sp.lessQ a b c d) k' (Oc.nx (Sp.lessP a b c d) (e+1)) by rw [hrf];simp))
               have HPP:=Lib.hid (show I ++ (pre ++ [(m,e+1)]).flatMap Sp.rowTx=(I ++ pre.flatMap Sp.rowTx) ++ Sp.rowTx (m,e+1) by simp)
               clear hrow hrf hend HALL
               generalize I ++ pre.flatMap Sp.rowTx=P at *
               have hsm:(tx [UInt8.ofNat m]).size ≤ 1:=by rw [tx_size];simp
               have hse:(tx [UInt8.ofNat e]).size ≤ 1:=by rw [tx_size];simp
               have wd:IntKind.i64.wrap ((e:Int) - m)=(e:Int) - m:=IntWalk.i64_in _ (by omega)
               have we:IntKind.i64.wrap ((e:Int)+1)=(e:Int)+1:=IntWalk.i64_in _ (by omega)
               rcases (show e=m ∨ e=m+1 ∨ m+2 ≤ e by omega) with he | he | he
               · subst he
                 have z0:(e:Int) - e=0:=by omega
                 rw [z0] at wd
                 have HT:=Lib.hid (Sp.rowTx_one e)
                 have HC:=Lib.hid (fun w'=>refone_any e (by omega) w')
                 go_wp2_with fail
                 refine (HC.out _).mono ?_
                 rintro e9 w9 ⟨rfl,hb9⟩
                 have HB9:=Lib.hid (HB.out.trans (hb9.mono HB.out.size))
                 have HZ9:=Lib.hid (keep_blk hb9 HZ.out)
                 clear hb9
                 go_wp2
                 exact ⟨⟨e+1,k',pre ++ [(e,e+1)],by go_num,by omega,by omega,by rw [HPP.out,HT.out];exact ba_vs (by simp [tx,ByteArray.data_append]),HX2,Lib.hid (by have:=HPL.out;simp;omega),HZ9,HB9⟩,by simp [intOf];omega⟩
               · subst he
                 have z1:((m+1:Nat):Int) - m=1:=by omega
                 have z1':(m:Int)+1 - m=1:=by omega
                 have w1:IntKind.i64.wrap (1:Int)=1:=by decide
                 rw [z1] at wd
                 have HT:=Lib.hid (Sp.rowTx_two m)
                 have HC:=Lib.hid (fun w'=>refone_any m (by omega) w')
                 have HD:=Lib.hid (fun w'=>refone_any (m+1) (by omega) w')
                 generalize hee:m+1=e at *
                 have zz:(e:Int) - m=1:=by omega
                 go_wp2_with fail
                 refine (HC.out _).mono ?_
                 rintro e9 w9 ⟨rfl,hb9⟩
                 go_wp2_with fail
                 refine (HD.out _).mono ?_
                 rintro e9 w10 ⟨rfl,hb10⟩
                 have HB9:=Lib.hid (HB.out.trans ((hb9.trans (hb10.mono hb9.size)).mono HB.out.size))
                 have HZ9:=Lib.hid (keep_blk hb10 (keep_blk hb9 HZ.out))
                 clear hb9 hb10
                 go_wp2
                 exact ⟨⟨e+1,k',pre ++ [(m,e+1)],by go_num,by omega,by omega,by rw [HPP.out,HT.out];exact ba_vs (by simp [tx,ByteArray.data_append]),HX2,Lib.hid (by have:=HPL.out;simp;omega),HZ9,HB9⟩,by simp [intOf];omega⟩
               · have n0:((e:Int) - m == 0)=false:=by rw [beq_eq_false_iff_ne];omega
                 have n1:((e:Int) - m == 1)=false:=by rw [beq_eq_false_iff_ne];omega
                 have HT:=Lib.hid (Sp.rowTx_more m e he)
                 have HC:=Lib.hid (fun w'=>refone_any m (by omega) w')
                 have HD:=Lib.hid (fun w'=>refone_any e (by omega) w')
                 go_wp2_with fail
                 refine (HC.out _).mono ?_
                 rintro e9 w9 ⟨rfl,hb9⟩
                 go_wp2_with fail
                 refine (HD.out _).mono ?_
                 rintro e9 w10 ⟨rfl,hb10⟩
                 have HB9:=Lib.hid (HB.out.trans ((hb9.trans (hb10.mono hb9.size)).mono HB.out.size))
                 have HZ9:=Lib.hid (keep_blk hb10 (keep_blk hb9 HZ.out))
                 clear hb9 hb10
                 go_wp2
                 exact ⟨⟨e+1,k',pre ++ [(m,e+1)],by go_num,by omega,by omega,by rw [HPP.out,HT.out];exact ba_vs (by simp [tx,ByteArray.data_append]),HX2,Lib.hid (by have:=HPL.out;simp;omega),HZ9,HB9⟩,by simp [intOf];omega⟩
     · obtain rfl:m=256:=by omega
       have m91:=(one_cell (k:=91) (by omega) HZ.out).1
       have m94:=(one_cell (k:=94) (by omega) HZ.out).1
       have m45:=(one_cell (k:=45) (by omega) HZ.out).1
       have hrest:Oc.rowsFrom (Sp.lessP a b c d) (Sp.lessQ a b c d) 257 (Oc.nx (Sp.lessP a b c d) 0)=pre:=by
         have h256:Oc.nx (Sp.lessP a b c d) 256=256:=by have:=Oc.nx_spec (Sp.lessP a b c d) 256 (by omega);omega
         rw [HX.out,h256,Oc.rowsFrom_end,List.append_nil]
       have hfin:=HIT.out
       rw [hrest,HI.out] at hfin
       clear hrest HX HIT HLP
       obtain ⟨F,hF⟩:∃ F,Sp.ifTx M [91,94,45]=F:=⟨_,rfl⟩
       rw [hF] at hfin
       unfold Sp.ifTx at hF
       simp only [List.filter_cons,List.filter_nil] at hF
       rw [show (91:UInt8).toNat=91 from rfl,show (94:UInt8).toNat=94 from rfl,show (45:UInt8).toNat=45 from rfl] at hF
       have HFN:=Lib.hid hfin
       clear hfin
       generalize I ++ pre.flatMap Sp.rowTx=P at *
       rcases bool_or (M 91) with x1 | x1 <;> rcases bool_or (M 94) with x2 | x2 <;> rcases bool_or (M 45) with x3 | x3 <;> (
         rw [x1] at m91;rw [x2] at m94;rw [x3] at m45
         rw [x1,x2,x3] at hF
         subst hF
         go_wp2
         go_ret
         exact ⟨by rw [HFN.out];exact congrArg Ending.returned (ba_vs (by simp [tx,ByteArray.data_append])),HB.out⟩)
end Go.Proofs.YtnfdknhhkdphhaaGreatDoor
namespace Go.Proofs.YtnfdknhhkdphhaaGreatDoor
open Go.RowKit
theorem tx_list (l:List UInt8):(tx l).toList=l:=by rw [toList_eq];simp [tx]
theorem quote_one (c:UInt8):Sp.quote true (tx [c]).data.toList=Sp.qb true c:=by simp [tx,Sp.quote]
theorem refset_any (x:Tr):RefSet Sp.setTx x:=by
 intro w
 have hS:Sp.setTx x=Sp.setW x.w0 x.w1 x.w2 x.w3:=rfl
 rw [hS]
 clear hS
 generalize x.w0=a at *
 generalize x.w1=b at *
 generalize x.w2=c at *
 generalize x.w3=d at *
 have HCN:=Lib.hid (fun w'=>refcount_any a b c d w')
 have HFI:=Lib.hid (fun w'=>reffirst_any a b c d w')
 have HBI:=Lib.hid (fun w'=>bits_any a b c d w')
 have HNO:=Lib.hid (fun w'=>refnot_any a b c d w')
 have HBN:=Lib.hid (fun w'=>bits_any (~~~a) (~~~b) (~~~c) (~~~d) w')
 have HIT:=Lib.hid (fun w'=>refitems_any a b c d w')
 have HIN:=Lib.hid (fun w'=>refitems_any (~~~a) (~~~b) (~~~c) (~~~d) w')
 have hl1:=Sp.itemsW_len a b c d
 have hl2:=Sp.itemsW_len (~~~a) (~~~b) (~~~c) (~~~d)
 have hcl:=Oc.cnt_le (Oc.mem a b c d) 256
 have HTW:=Lib.hid (Sp.two_of_itemsW a b c d)
 have Z0:=Lib.hid (heap_alloc_new w (.cells #[.int .u64 (Oc.U a),.int .u64 (Oc.U b),.int .u64 (Oc.U c),.int .u64 (Oc.U d)] 25))
 have HB0:=Lib.hid (show Below w.heap.size w (w.alloc (.cells #[.int .u64 (Oc.U a),.int .u64 (Oc.U b),.int .u64 (Oc.U c),.int .u64 (Oc.U d)] 25)) from (Below.refl _ _).alloc (Nat.le_refl _) _)
 obtain ⟨n,hn⟩:∃ n,Oc.cnt (Oc.mem a b c d) 256=n:=⟨_,rfl⟩
 obtain ⟨R,hR⟩:∃ R,Sp.setW a b c d=R:=⟨_,rfl⟩
 rw [hR]
 have HR:=Lib.hid hR
 unfold Sp.setW at hR
 rw [hn] at HCN hcl hR
 have HN:=Lib.hid hn
 clear hn
 go_enter Tryz.func83,Tryz.ntmps83
 go_wp2_with (first
   | (refine wpList_load_row rfl 25 (.tmp 1) rfl w.heap.size rfl 25 _ (0,0) _ Z0.out Tryz.underlying25 rfl (by kernel_rfl) ?_)
   | fail)
 refine (HCN.out _).mono ?_
 rintro e w1 ⟨rfl,hb1⟩
 have Z1:=Lib.hid (keep_blk hb1 Z0.out)
 have HB1:=Lib.hid (HB0.out.trans (hb1.mono HB0.out.size))
 clear hb1 Z0 HB0 HCN
 by_cases h256:n=256
 · rw [if_pos h256] at hR
   subst h256;subst hR
   go_wp2
   go_ret
   exact ⟨rfl,HB1.out⟩
 rw [if_neg h256] at hR
 have e256:((n:Int) == 256)=false:=by rw [beq_eq_false_iff_ne];omega
 by_cases h1:n=1
 · rw [if_pos h1] at hR
   subst h1
   have hlt:=nx_one HN.out
   have hle:least (Oc.mem a b c d)=(Oc.nx (Oc.mem a b c d) 0:Int):=if_pos hlt
   obtain ⟨c0,hc0⟩:∃ c0,Oc.nx (Oc.mem a b c d) 0=c0:=⟨_,rfl⟩
   rw [hc0] at hle hlt hR
   rw [hle] at HFI
   have HON:=Lib.hid (fun w'=>refone_any c0 hlt w')
   have HQU:=Lib.hid (fun w'=>refquote_any (tx [UInt8.ofNat c0]) true (by rw [tx_size];simp) w')
   rw [quote_one] at HQU
   subst hR
   clear hle hlt e256 h256 hc0
   go_wp2_with (first
     | (refine wpList_load_row rfl 25 (.tmp 1) rfl w.heap.size rfl 25 _ (0,0) _ Z1.out Tryz.underlying25 rfl (by kernel_rfl) ?_)
     | fail)
   refine (HFI.out _).mono ?_
   rintro e w2 ⟨rfl,hb2⟩
   go_wp2_with fail
   refine (HON.out _).mono ?_
   rintro e w3 ⟨rfl,hb3⟩
   go_wp2_with fail
   refine (HQU.out _).mono ?_
   rintro e w4 ⟨rfl,rfl⟩
   go_wp2
   go_ret
   exact ⟨rfl,HB1.out.trans ((hb2.trans (hb3.mono hb2.size)).mono HB1.out.size)⟩
 rw [if_neg h1] at hR
 have e1:((n:Int) == 1)=false:=by rw [beq_eq_false_iff_ne];omega
 by_cases h0:n=0 ∨ 128 < n
 · rw [if_pos h0] at hR
   have HRR:=Lib.hid hR
   have hLs:(tx (Sp.itemsW (~~~a) (~~~b) (~~~c) (~~~d))).size ≤ 800:=by rw [tx_size];exact hl2
   clear hR HTW HIT HBI hl1 hl2 HN HFI
   generalize hLL:Sp.itemsW (~~~a) (~~~b) (~~~c) (~~~d)=L at *
   rcases (show n=0 ∨ (n ≠ 0∧128 < n) by omega) with hx | ⟨hx,hy⟩
   · subst hx
     go_wp2_with (first
       | (refine wpList_load_row rfl 25 (.tmp 1) rfl w.heap.size rfl 25 _ (0,0) _ Z1.out Tryz.underlying25 rfl (by kernel_rfl) ?_)
       | fail)
     refine (HNO.out _).mono ?_
     rintro e w2 ⟨rfl,hb2⟩
     go_wp2_with fail
     refine (HBN.out _).mono ?_
     rintro e w3 ⟨rfl,hb3⟩
     go_wp2_with fail
     refine (HIN.out _).mono ?_
     rintro e w4 ⟨rfl,hb4⟩
     go_wp2
     go_ret
     exact ⟨by rw [← HRR.out];exact congrArg Ending.returned (ba_vs (by simp [tx,ByteArray.data_append])),HB1.out.trans ((hb2.trans ((hb3.trans (hb4.mono hb3.size)).mono hb2.size)).mono HB1.out.size)⟩
   · have q0:((n:Int) == 0)=false:=by rw [beq_eq_false_iff_ne];omega
     have q1:decide ((128:Int) < n)=true:=by rw [decide_eq_true_eq];omega
     have q1':decide (128 < n)=true:=by rw [decide_eq_true_eq];omega
     clear hx hy h0 h1 h256 hcl
     go_wp2_with (first
       | (refine wpList_load_row rfl 25 (.tmp 1) rfl w.heap.size rfl 25 _ (0,0) _ Z1.out Tryz.underlying25 rfl (by kernel_rfl) ?_)
       | fail)
     refine (HNO.out _).mono ?_
     rintro e w2 ⟨rfl,hb2⟩
     go_wp2_with fail
     refine (HBN.out _).mono ?_
     rintro e w3 ⟨rfl,hb3⟩
     go_wp2_with fail
     refine (HIN.out _).mono ?_
     rintro e w4 ⟨rfl,hb4⟩
     go_wp2
     go_ret
     exact ⟨by rw [← HRR.out];exact congrArg Ending.returned (ba_vs (by simp [tx,ByteArray.data_append])),HB1.out.trans ((hb2.trans ((hb3.trans (hb4.mono hb3.size)).mono hb2.size)).mono HB1.out.size)⟩
 rw [if_neg h0] at hR
 have q0:((n:Int) == 0)=false:=by rw [beq_eq_false_iff_ne];omega
 have q1:decide ((128:Int) < n)=false:=by rw [decide_eq_false_iff_not];omega
 have q1':decide (128 < n)=false:=by rw [decide_eq_false_iff_not];omega
 have hLs:(tx (Sp.itemsW a b c d)).size ≤ 800:=by rw [tx_size];exact hl1
 have hll:=tx_list (Sp.itemsW a b c d)
 clear h0 h1 h256 hcl HIN HBN HNO HFI hl1 hl2 HN
 by_cases ht:a=Oc.mk Sp.two 0∧b=Oc.mk Sp.two 1∧c=Oc.mk Sp.two 2∧d=Oc.mk Sp.two 3
 · rw [if_pos ht] at hR
   have hL:Sp.itemsW a b c d=[94,45]:=by obtain ⟨rfl,rfl,rfl,rfl⟩:=ht;exact Sp.itemsW_of_two
   rw [hL] at hll HIT hLs
   subst hR
   have hq:((tx [94,45]).toList == [94,45])=true:=by rw [hll];rfl
   clear ht hL hll HTW
   generalize tx [94,45]=T at *
   go_wp2_with (first
     | (refine wpList_load_row rfl 25 (.tmp 1) rfl w.heap.size rfl 25 _ (0,0) _ Z1.out Tryz.underlying25 rfl (by kernel_rfl) ?_)
     | fail)
   refine (HBI.out _).mono ?_
   rintro e w3 ⟨rfl,hb3⟩
   go_wp2_with fail
   refine (HIT.out _).mono ?_
   rintro e w4 ⟨rfl,hb4⟩
   go_wp2
   go_ret
   exact ⟨rfl,HB1.out.trans ((hb3.trans (hb4.mono hb3.size)).mono HB1.out.size)⟩
 · rw [if_neg ht] at hR
   have HRR:=Lib.hid hR
   have hL:Sp.itemsW a b c d ≠ [94,45]:=fun h=>ht (HTW.out h)
   have hq:((tx (Sp.itemsW a b c d)).toList == [94,45])=false:=by rw [hll,beq_eq_false_iff_ne];exact hL
   clear hR ht hL hll HTW
   generalize hLL:Sp.itemsW a b c d=L at *
   go_wp2_with (first
     | (refine wpList_load_row rfl 25 (.tmp 1) rfl w.heap.size rfl 25 _ (0,0) _ Z1.out Tryz.underlying25 rfl (by kernel_rfl) ?_)
     | fail)
   refine (HBI.out _).mono ?_
   rintro e w3 ⟨rfl,hb3⟩
   go_wp2_with fail
   refine (HIT.out _).mono ?_
   rintro e w4 ⟨rfl,hb4⟩
   go_wp2
   go_ret
   exact ⟨by rw [← HRR.out];exact congrArg Ending.returned (ba_vs (by simp [tx,ByteArray.data_append])),HB1.out.trans ((hb3.trans (hb4.mono hb3.size)).mono HB1.out.size)⟩
end Go.Proofs.YtnfdknhhkdphhaaGreatDoor
namespace Go.Proofs.YtnfdknhhkdphhaaGreatDoor
open Go.RowKit
theorem reffits_any (k s:Int) (w:World):Calls Tryz.prog 85 #[.int .i64 k,.int .i64 s] w fun e w'=>e=.returned (.bool (Tr.fits k s))∧w'=w:=by
 obtain ⟨v,hv⟩:∃ v,Tr.fits k s=v:=⟨_,rfl⟩
 rw [hv]
 unfold Tr.fits at hv
 by_cases h5:k=5
 · subst h5
   rw [if_pos rfl] at hv
   cases h1:(s != 1) <;> cases h2:(s != 5) <;> cases h3:(s != 6) <;> (
     rw [h1,h2,h3] at hv
     simp at hv
     subst hv
     go_enter Tryz.func85,Tryz.ntmps85
     go_wp2
     go_ret
     exact ⟨rfl,rfl⟩)
 · rw [if_neg h5] at hv
   have k5:(k == 5)=false:=by simpa using h5
   by_cases h6:k=6
   · subst h6
     rw [if_pos rfl] at hv
     cases h3:(s != 6) <;> (
       rw [h3] at hv
       subst hv
       go_enter Tryz.func85,Tryz.ntmps85
       go_wp2
       go_ret
       exact ⟨rfl,rfl⟩)
   · rw [if_neg h6] at hv
     have k6:(k == 6)=false:=by simpa using h6
     by_cases h8:k=8
     · subst h8
       rw [if_pos rfl] at hv
       cases h1:(s == 2) <;> cases h2:(s == 7) <;> (
         rw [h1,h2] at hv
         simp at hv
         subst hv
         go_enter Tryz.func85,Tryz.ntmps85
         go_wp2
         go_ret
         exact ⟨rfl,rfl⟩)
     · rw [if_neg h8] at hv
       subst hv
       have k8:(k == 8)=false:=by simpa using h8
       go_enter Tryz.func85,Tryz.ntmps85
       go_wp2
       go_ret
       exact ⟨rfl,rfl⟩
theorem refnest_any:∀ t:Tr,t.nestT ≤ 1000000→∀ (w:World) (B:Nat→Prop) (v:Value),NodeV w B v t→Calls Tryz.prog 41 #[v] w (SizeEnd t.nestT w):=by
 intro t
 induction t using Tr.rec_subs with
 | h t ih =>
   intro hd w B v hv
   obtain ⟨s,rfl,hs⟩:=hv
   obtain ⟨p,cap,rfl,hlen⟩:=hs.slice
   have heq:=Tr.nestT_eq t
   rw [heq] at hd ⊢
   clear heq
   generalize hts:t.subs=ts at *
   have IH:=Lib.hid ih;have HS:=Lib.hid hs
   clear ih hs
   clear hts
   unfold Tr.cells at *
   have hle:Tr.nestS ts ≤ 1000000:=by omega
   generalize hD:Tr.nestS ts+(if t.kind=7 then 1 else 0)=D at *
   have HDE:=Lib.hid hD
   have Z0:=Lib.hid (heap_alloc_new w (.cells #[.int .i64 t.kind,.int .u64 (Oc.U t.w0),.int .u64 (Oc.U t.w1),.int .u64 (Oc.U t.w2),.int .u64 (Oc.U t.w3),.slice p ts.length cap,.int .i64 t.num,.int .i64 t.least,.int .i64 t.most,.bool t.bare] 28))
   have HW:=Lib.hid (show Below w.heap.size w (w.alloc (.cells #[.int .i64 t.kind,.int .u64 (Oc.U t.w0),.int .u64 (Oc.U t.w1),.int .u64 (Oc.U t.w2),.int .u64 (Oc.U t.w3),.slice p ts.length cap,.int .i64 t.num,.int .i64 t.least,.int .i64 t.most,.bool t.bare] 28)) from (Below.refl _ _).alloc (Nat.le_refl _) _)
   have hz:w.heap.size < (w.alloc (.cells #[.int .i64 t.kind,.int .u64 (Oc.U t.w0),.int .u64 (Oc.U t.w1),.int .u64 (Oc.U t.w2),.int .u64 (Oc.U t.w3),.slice p ts.length cap,.int .i64 t.num,.int .i64 t.least,.int .i64 t.most,.bool t.bare] 28)).heap.size:=by simp
   have HD:=Lib.hid hd
   clear hd hD
   go_enter Tryz.func41,Tryz.ntmps41
   go_wp2
   generalize w.alloc (.cells #[.int .i64 t.kind,.int .u64 (Oc.U t.w0),.int .u64 (Oc.U t.w1),.int .u64 (Oc.U t.w2),.int .u64 (Oc.U t.w3),.slice p ts.length cap,.int .i64 t.num,.int .i64 t.least,.int .i64 t.most,.bool t.bare] 28)=W0 at *
   go_loopw [3,4] (fun gv iv wr=>∃ m:Nat,iv=.int .i64 m∧m ≤ ts.length∧gv=.int .i64 (Tr.nestS (ts.take m):Nat)∧Hid (Below W0.heap.size W0 wr)) (fun _ iv _=>ts.length - (intOf iv).toNat)
   case atStart=>exact ⟨0,rfl,Nat.zero_le _,rfl,Lib.hid (Below.refl _ _)⟩
   case round =>
     obtain ⟨m,rfl,hm,rfl,HB⟩:=hrel
     have wm:IntKind.i64.wrap ((m:Int)+1)=(m:Int)+1:=IntWalk.i64_in _ (by omega)
     have HBW:=Lib.hid (HW.out.trans (HB.out.mono HW.out.size))
     have Z1:=Lib.hid (keep_blk (HB.out.mono (Nat.le_refl _)) Z0.out)
     have z5:=(allTen Z1.out).2.2.2.2.2.1
     by_cases hlt:m < ts.length
     · obtain ⟨x,hx⟩:∃ x,ts[m]? = some x:=⟨_,List.getElem?_eq_getElem hlt⟩
       obtain ⟨b1,o1,s1,rfl,-,t1,sub1⟩:=HS.out.get hx
       obtain ⟨d0,d1,d2,d3,d4,d5,d6,d7,d8,d9⟩:=t1.keep (HBW.out.block _ t1.lt)
       have hmem:=List.mem_of_getElem? hx
       obtain ⟨p1,c1,rfl,hl1⟩:=sub1.slice
       have hdx:x.nestT ≤ 1000000:=by have:=Tr.nestT_le hmem;omega
       have HC:=Lib.hid (fun w9 hb=>IH.out x hmem hdx w9 B (.agg (x.cells (.slice p1 x.subs.length c1))) ⟨_,rfl,sub1.later hb⟩)
       have HSTP:=Lib.hid (Tr.nestS_take ts m x hx)
       clear t1 sub1 hmem hx hdx
       generalize hn:Tr.nestS (ts.take m)=n at *
       clear hn
       unfold Tr.cells at HC
       go_wp2_with fail
       refine (HC.out wr HBW.out).mono ?_
       rintro e w2 ⟨rfl,hb2⟩
       have HB2:=Lib.hid (HB.out.trans (hb2.mono HB.out.size))
       clear d0 d1 d2 d3 d4 d5 d6 d7 d8 d9 z5 hb2 HC
       generalize x.nestT=N at *
       go_wp2
       all_goals
         exact ⟨⟨m+1,by go_num,by omega,by rw [HSTP.out];simp;try omega,HB2⟩,by simp [intOf];omega⟩
     · obtain rfl:m=ts.length:=by omega
       rw [List.take_length] at *
       clear z5
       have w1':IntKind.i64.wrap ((Tr.nestS ts:Int)+1)=(Tr.nestS ts:Int)+1:=IntWalk.i64_in _ (by omega)
       have hde:=HDE.out
       obtain ⟨d0,d1,d2,d3,d4,d5,d6,d7,d8,d9⟩:=allTen Z1.out
       by_cases h7:t.kind=7
       · rw [h7] at Z1 d0
         rw [if_pos h7] at hde
         have HDF:=Lib.hid hde
         clear hde HDE HD
         go_wp2
         go_ret
         exact ⟨ret_int (by have:=HDF.out;omega),HBW.out⟩
       · have e7:(t.kind == 7)=false:=by simpa using h7
         rw [if_neg h7] at hde
         have HDF:=Lib.hid hde
         clear hde HDE HD
         go_wp2
         go_ret
         exact ⟨ret_int (by have:=HDF.out;omega),HBW.out⟩
end Go.Proofs.YtnfdknhhkdphhaaGreatDoor
namespace Go.Proofs.YtnfdknhhkdphhaaGreatDoor
open Go.RowKit
theorem refnumbers_any:∀ t:Tr,t.numsT.length ≤ 1000000→∀ (w:World) (B:Nat→Prop) (v:Value),NodeV w B v t→Calls Tryz.prog 44 #[v] w (NumsEnd t.numsT w):=by
 intro t
 induction t using Tr.rec_subs with
 | h t ih =>
   intro hd w B v hv
   obtain ⟨s,rfl,hs⟩:=hv
   obtain ⟨p,cap,rfl,hlen⟩:=hs.slice
   have heq:=Tr.numsT_eq t
   rw [heq] at hd ⊢
   clear heq
   generalize hts:t.subs=ts at *
   have IH:=Lib.hid ih;have HS:=Lib.hid hs
   clear ih hs hts
   unfold Tr.cells at *
   obtain ⟨ie,hi0,hz0,hz1,hz2⟩:=info_parts Tryz.infoInt
   have HI:=Lib.hid hi0;have HZ0:=Lib.hid hz0;have HZ1:=Lib.hid hz1;have HZ2:=Lib.hid hz2
   clear hi0 hz0 hz1 hz2
   have Z0:=Lib.hid (heap_alloc_new w (.cells #[.int .i64 t.kind,.int .u64 (Oc.U t.w0),.int .u64 (Oc.U t.w1),.int .u64 (Oc.U t.w2),.int .u64 (Oc.U t.w3),.slice p ts.length cap,.int .i64 t.num,.int .i64 t.least,.int .i64 t.most,.bool t.bare] 28))
   have HW:=Lib.hid (show Below w.heap.size w (w.alloc (.cells #[.int .i64 t.kind,.int .u64 (Oc.U t.w0),.int .u64 (Oc.U t.w1),.int .u64 (Oc.U t.w2),.int .u64 (Oc.U t.w3),.slice p ts.length cap,.int .i64 t.num,.int .i64 t.least,.int .i64 t.most,.bool t.bare] 28)) from (Below.refl _ _).alloc (Nat.le_refl _) _)
   have hz:(w.alloc (.cells #[.int .i64 t.kind,.int .u64 (Oc.U t.w0),.int .u64 (Oc.U t.w1),.int .u64 (Oc.U t.w2),.int .u64 (Oc.U t.w3),.slice p ts.length cap,.int .i64 t.num,.int .i64 t.least,.int .i64 t.most,.bool t.bare] 28)).heap.size=w.heap.size+1:=by simp
   rw [List.length_append] at hd
   obtain ⟨pre,hpre⟩:∃ pre,(if t.kind=7 then [t.num] else [])=pre:=⟨_,rfl⟩
   rw [hpre] at hd ⊢
   have HP:=Lib.hid hpre
   clear hpre
   go_enter Tryz.func44,Tryz.ntmps44
   go_upto_if 7 with (fail)
   generalize w.alloc (.cells #[.int .i64 t.kind,.int .u64 (Oc.U t.w0),.int .u64 (Oc.U t.w1),.int .u64 (Oc.U t.w2),.int .u64 (Oc.U t.w3),.slice p ts.length cap,.int .i64 t.num,.int .i64 t.least,.int .i64 t.most,.bool t.bare] 28)=W0 at *
   go_cut [3] (fun v3 wx=>Hid (wx.ownsRow W0.heap.size 3 1 v3 pre.length (intCells pre))∧Hid (Below W0.heap.size W0 wx))
   case first =>
     obtain ⟨d0,d1,d2,d3,d4,d5,d6,d7,d8,d9⟩:=allTen Z0.out
     by_cases h7:t.kind=7
     · have e7:(t.kind == 7)=true:=by simpa using h7
       have hp:=HP.out
       rw [if_pos h7] at hp
       subst hp
       clear h7
       go_wp2_with (first
         | (at_builtin;refine wpList_append_own _ rfl _ _ 53 rfl W0.heap.size 3 ie _ 1 8 Tryz.underlying53 HI.out HZ0.out HZ1.out HZ2.out rfl (by decide) (.slice none 0 0) 0 [] rfl (World.ownsRow_nil _ _ _ _) ⟨w.heap.size+1,0,none⟩ 1 1 [.int .i64 t.num] rfl rfl ?c1 ?c2 (by unfold maxLen;omega) (by omega) (by simp) ?_)
         | fail)
       case c1 =>
         intro j u hj
         match j,hj with
         | 0,hj=>simp at hj;subst hj;simp [Addr.add,← hz]
       case c2=>intro u hu;simp at hu;subst hu;rfl
       intro v' w2 hown' hgrow _
       go_wp2
       go_meet
       exact ⟨Lib.hid (by rw [hz];exact hown'),Lib.hid (((Below.refl _ _).alloc (Nat.le_refl _) _).grown hgrow (by simp) (fun k hk=>by simp [Value.ownBlock] at hk))⟩
     · have e7:(t.kind == 7)=false:=by simpa using h7
       have hp:=HP.out
       rw [if_neg h7] at hp
       subst hp
       go_wp2
       go_meet
       exact ⟨Lib.hid (World.ownsRow_nil _ _ _ _),Lib.hid (Below.refl _ _)⟩
   case rest =>
     obtain ⟨HO0,HB0⟩:=hcut
     have HBW0:=Lib.hid (HW.out.trans (HB0.out.mono HW.out.size))
     have Z0':=Lib.hid (keep_blk (HB0.out.mono (Nat.le_refl _)) Z0.out)
     have ZW:=Lib.hid Z0.out
     clear Z0 HP
     obtain ⟨d0,d1,d2,d3,d4,d5,d6,d7,d8,d9⟩:=allTen Z0'.out
     go_wp2
     go_loopw [3,4] (fun sv iv wr=>∃ m:Nat,iv=.int .i64 m∧m ≤ ts.length∧Hid (wr.ownsRow W0.heap.size 3 1 sv (pre ++ Tr.numsS (ts.take m)).length (intCells (pre ++ Tr.numsS (ts.take m))))∧Hid (Below W0.heap.size W0 wr)) (fun _ iv _=>ts.length - (intOf iv).toNat)
     case atStart=>exact ⟨0,rfl,Nat.zero_le _,Lib.hid (by simpa [Tr.numsS] using HO0.out),HB0⟩
     case round =>
       obtain ⟨m,rfl,hm,HO,HB⟩:=hrel
       have wm:IntKind.i64.wrap ((m:Int)+1)=(m:Int)+1:=IntWalk.i64_in _ (by omega)
       have HBW:=Lib.hid (HW.out.trans (HB.out.mono HW.out.size))
       have Z1:=Lib.hid (keep_blk (HB.out.mono (Nat.le_refl _)) ZW.out)
       have z5:=(allTen Z1.out).2.2.2.2.2.1
       by_cases hlt:m < ts.length
       · obtain ⟨x,hx⟩:∃ x,ts[m]? = some x:=⟨_,List.getElem?_eq_getElem hlt⟩
         obtain ⟨b1,o1,s1,rfl,-,t1,sub1⟩:=HS.out.get hx
         obtain ⟨g0,g1,g2,g3,g4,g5,g6,g7,g8,g9⟩:=t1.keep (HBW.out.block _ t1.lt)
         have hmem:=List.mem_of_getElem? hx
         obtain ⟨p1,c1,rfl,hl1⟩:=sub1.slice
         have hle:=Tr.numsT_le hmem
         have hle2:=Tr.numsS_le ts m
         have HC:=Lib.hid (fun w9 hb=>IH.out x hmem (by omega) w9 B (.agg (x.cells (.slice p1 x.subs.length c1))) ⟨_,rfl,sub1.later hb⟩)
         have hst:=Tr.numsS_take ts m x hx
         have HSTP:=Lib.hid hst
         have hlx:(pre ++ Tr.numsS (ts.take m)).length+x.numsT.length ≤ 2000000:=by rw [List.length_append];omega
         clear t1 sub1 hmem hx hst hle hle2 d0 d1 d2 d3 d4 d5 d6 d7 d8 d9
         have HJ:=Lib.hid (show pre ++ Tr.numsS (ts.take (m+1))=(pre ++ Tr.numsS (ts.take m)) ++ x.numsT by rw [HSTP.out,List.append_assoc])
         clear HSTP
         generalize pre ++ Tr.numsS (ts.take m)=L at *
         unfold Tr.cells at HC
         go_wp2_with fail
         refine (HC.out wr HBW.out).mono ?_
         rintro e w2 ⟨v2,rfl,ho2,hb2⟩
         obtain ⟨p2,c2,rfl,hn2,hcl2,-⟩:=owns_slice ho2
         have hb12:Below wr.heap.size wr w2:=hb2
         have hownw:=(HO.out.kept (w':=w2) (row:=none) ⟨hb12.os,hb12.tape,hb12.output,hb12.size,fun k hk _=>hb12.block k hk⟩ (by
           cases h:Value.ownBlock u3 with
           | none=>exact .inl rfl
           | some g=>exact .inr (by simp)))
         have HB2:=Lib.hid (HB.out.trans (hb12.mono HB.out.size))
         have hltv:=HO.out.lt
         have HOW:=Lib.hid hownw;have HLT:=Lib.hid hltv;have HCL:=Lib.hid hcl2;have HN2:=Lib.hid hn2
         have hlen2:=Lib.hid (show (intCells x.numsT).length=x.numsT.length * 1 by simp [intCells])
         clear g0 g1 g2 g3 g4 g5 g6 g7 g8 g9 z5 hb2 HC ho2 hownw hltv hcl2 hn2 hb12
         generalize hN:x.numsT=N at *
         have hbs:W0.heap.size ≤ w2.heap.size:=HB2.out.size
         go_wp2_with (first
           | (at_builtin;refine append_both _ rfl _ _ 53 rfl W0.heap.size 3 ie _ 1 8 Tryz.underlying53 HI.out HZ0.out HZ1.out HZ2.out rfl (by decide) _ _ _ rfl HOW.out p2 N.length c2 (intCells N) rfl HN2.out hlen2.out HCL.out (intCells_one N) (by unfold maxLen;omega) (by omega) hbs ?_;intro v' w4 hown4 hgrow4 _)
           | fail)
         have hB4:=HB2.out.grown hgrow4 HB2.out.size (fun k hk=>(HLT.out k hk).1)
         have HB4:=Lib.hid hB4
         have HO4:=Lib.hid hown4
         clear hB4 hown4
         go_wp2
         refine ⟨⟨m+1,by go_num,by omega,Lib.hid ?_,HB4⟩,by simp [intOf];omega⟩
         rw [HJ.out,List.length_append]
         have:=HO4.out
         unfold intCells at *
         rw [List.map_append]
         exact this
       · obtain rfl:m=ts.length:=by omega
         rw [List.take_length] at *
         clear d0 d1 d2 d3 d4 d5 d6 d7 d8 d9
         go_wp2
         go_ret
         exact ⟨_,rfl,owns_mono HO.out HW.out.size,HBW.out⟩
end Go.Proofs.YtnfdknhhkdphhaaGreatDoor
namespace Go.Proofs.YtnfdknhhkdphhaaGreatDoor
open Go.RowKit
theorem refkinds_any:∀ t:Tr,∀ (w:World) (B:Nat→Prop) (v:Value),NodeV w B v t→Calls Tryz.prog 43 #[v] w fun e w'=>e=.returned (.bool t.shapeT)∧Below w.heap.size w w':=by
 intro t
 induction t using Tr.rec_subs with
 | h t ih =>
   intro w B v hv
   obtain ⟨s,rfl,hs⟩:=hv
   obtain ⟨p,cap,rfl,hlen⟩:=hs.slice
   have heq:=Tr.shapeT_eq t
   rw [heq]
   clear heq
   generalize hts:t.subs=ts at *
   have IH:=Lib.hid ih;have HS:=Lib.hid hs;have HLen:=Lib.hid hlen
   clear ih hs hts hlen
   unfold Tr.cells at *
   generalize t.bare=br at *
   have Z0:=Lib.hid (heap_alloc_new w (.cells #[.int .i64 t.kind,.int .u64 (Oc.U t.w0),.int .u64 (Oc.U t.w1),.int .u64 (Oc.U t.w2),.int .u64 (Oc.U t.w3),.slice p ts.length cap,.int .i64 t.num,.int .i64 t.least,.int .i64 t.most,.bool br] 28))
   have HW:=Lib.hid (show Below w.heap.size w (w.alloc (.cells #[.int .i64 t.kind,.int .u64 (Oc.U t.w0),.int .u64 (Oc.U t.w1),.int .u64 (Oc.U t.w2),.int .u64 (Oc.U t.w3),.slice p ts.length cap,.int .i64 t.num,.int .i64 t.least,.int .i64 t.most,.bool br] 28)) from (Below.refl _ _).alloc (Nat.le_refl _) _)
   generalize hD:(Tr.shapeS t.kind ts && !br)=D at *
   have HDE:=Lib.hid hD
   clear hD
   go_enter Tryz.func43,Tryz.ntmps43
   go_upto_region 1 with (fail)
   generalize w.alloc (.cells #[.int .i64 t.kind,.int .u64 (Oc.U t.w0),.int .u64 (Oc.U t.w1),.int .u64 (Oc.U t.w2),.int .u64 (Oc.U t.w3),.slice p ts.length cap,.int .i64 t.num,.int .i64 t.least,.int .i64 t.most,.bool br] 28)=W0 at *
   obtain ⟨e0,e1,e2,e3,e4,e5,e6,e7,e8,e9⟩:=allTen Z0.out
   have hde:=HDE.out
   clear HDE
   cases br with
   | true =>
     rw [Bool.not_true,Bool.and_false] at hde
     subst hde
     go_wp2
     go_ret
     exact ⟨rfl,HW.out⟩
   | false =>
     rw [Bool.not_false,Bool.and_true] at hde
     have HDF:=Lib.hid hde
     clear hde
     go_wp2
     clear e0 e1 e2 e3 e4 e5 e6 e7 e8 e9
     go_loopw [3] (fun iv wr=>∃ m:Nat,iv=.int .i64 m∧m ≤ ts.length∧Hid (Tr.shapeS t.kind (ts.take m)=true)∧Hid (Below W0.heap.size W0 wr)) (fun iv _=>ts.length - (intOf iv).toNat)
     case atStart=>exact ⟨0,rfl,Nat.zero_le _,Lib.hid rfl,Lib.hid (Below.refl _ _)⟩
     case round =>
       obtain ⟨m,rfl,hm,HT,HB⟩:=hrel
       have wm:IntKind.i64.wrap ((m:Int)+1)=(m:Int)+1:=IntWalk.i64_in _ (by have:=HLen.out;omega)
       have HBW:=Lib.hid (HW.out.trans (HB.out.mono HW.out.size))
       have Z1:=Lib.hid (keep_blk (HB.out.mono (Nat.le_refl _)) Z0.out)
       have z5:=field5 Z1.out
       by_cases hlt:m < ts.length
       · obtain ⟨x,hx⟩:∃ x,ts[m]? = some x:=⟨_,List.getElem?_eq_getElem hlt⟩
         obtain ⟨b1,o1,s1,rfl,-,t1,sub1⟩:=HS.out.get hx
         have T1:=Lib.hid t1
         have l1:=t1.lt
         have hmem:=List.mem_of_getElem? hx
         have HC:=Lib.hid (fun w9 (hb:Below wr.heap.size wr w9)=>IH.out x hmem w9 B (.agg #[.int .i64 x.kind,.int .u64 (Oc.U x.w0),.int .u64 (Oc.U x.w1),.int .u64 (Oc.U x.w2),.int .u64 (Oc.U x.w3),s1,.int .i64 x.num,.int .i64 x.least,.int .i64 x.most,.bool x.bare]) ⟨s1,rfl,sub1.later (HBW.out.trans (hb.mono HBW.out.size))⟩)
         have hst:=Tr.shapeS_take t.kind ts m x hx
         rw [HT.out,Bool.true_and] at hst
         have HST:=Lib.hid hst
         clear t1 sub1 hmem hx hst
         generalize x.shapeT=G at *
         have hmf:=fun w=>reffits_any t.kind x.kind w
         generalize Tr.fits t.kind x.kind=FV at *
         have HMF:=Lib.hid hmf
         clear hmf
         cases FV with
         | true =>
           go_wp2
           refine Ri.wp_region_frame (by kernel_rfl) (by kernel_rfl) (by kernel_rfl) (by kernel_rfl)
             (fun L v w'=>Below wr.heap.size wr w'∧(L 0=true→v 0=.pointer (some ⟨w.heap.size,0,none⟩))∧(L 1=true→v 1=.int .i64 t.kind)∧(L 2=true→v 2=.pointer (some ⟨w.heap.size,5,none⟩))∧(L 3=true→v 3=.slice (some ⟨b1,o1,none⟩) ts.length cap)∧(L 4=true→v 4=.int .i64 m)∧(L 5=true→v 5=.pointer (some ⟨b1,o1+m * 10,none⟩))∧(L 6=true→v 6=.pointer (some ⟨b1,o1+m * 10,none⟩))∧(L 7=true→v 7=.int .i64 x.kind)∧(L 8=true→v 8=.bool true)∧(L 9=true→v 9=.bool true)∧(L 10=true→v 10=.pointer (some ⟨w.heap.size,5,none⟩))∧(L 11=true→v 11=.slice (some ⟨b1,o1,none⟩) ts.length cap)∧(L 12=true→v 12=.int .i64 m)∧(L 13=true→v 13=.pointer (some ⟨b1,o1+m * 10,none⟩))∧(L 14=true→v 14=.agg #[.int .i64 x.kind,.int .u64 (Oc.U x.w0),.int .u64 (Oc.U x.w1),.int .u64 (Oc.U x.w2),.int .u64 (Oc.U x.w3),s1,.int .i64 x.num,.int .i64 x.least,.int .i64 x.most,.bool x.bare])∧(L 15=true→v 15=.bool G)∧(L 16=true→v 16=.bool G)∧(L 17=true→v 17=.bool G))
             ?_ ?_ ?_
           · exact ⟨(Below.refl _ _).drew,by simp,by simp,by simp,by simp,by simp,by simp,by simp,by simp,by simp,by simp,by simp,by simp,by simp,by simp,by simp,by simp,by simp,by simp⟩
           · intro i hi9 L v w9 xa hI hL hd hv ho
             have hi':i=0 ∨ i=1 ∨ i=2 ∨ i=3 ∨ i=4 ∨ i=5 ∨ i=6 ∨ i=7 ∨ i=8 ∨ i=9 ∨ i=10 ∨ i=11 ∨ i=12 ∨ i=13 ∨ i=14 ∨ i=15 ∨ i=16 ∨ i=17:=by simp at hi9;omega
             obtain ⟨hb,q0,q1,q2,q3,q4,q5,q6,q7,q8,q9,q10,q11,q12,q13,q14,q15,q16,q17⟩:=hI
             rcases hi' with rfl | rfl | rfl | rfl | rfl | rfl | rfl | rfl | rfl | rfl | rfl | rfl | rfl | rfl | rfl | rfl | rfl | rfl
             · have e1:xa.tmps.getD 1 undef=.pointer (some ⟨w.heap.size,0,none⟩):=ho 1 (by kernel_rfl)
               refine Ri.step_plain rfl rfl (fun K' hK=>?_)
               go_simp
               exact hK _ _ ⟨_,_,rfl,rfl,hb,fun _=>rfl,q1,q2,q3,q4,q5,q6,q7,q8,q9,q10,q11,q12,q13,q14,q15,q16,q17⟩
             · have l0:L 0=true:=by have:=hd _ rfl;simp [Region.binds] at this;simp [this]
               have f0:=(hv 0 14 rfl l0).trans (q0 l0)
               refine Ri.step_plain rfl rfl (fun K' hK=>?_)
               obtain c0:=(allTen (keep_blk hb Z1.out)).1
               go_simp
               exact hK _ _ ⟨_,_,rfl,rfl,hb,q0,fun _=>rfl,q2,q3,q4,q5,q6,q7,q8,q9,q10,q11,q12,q13,q14,q15,q16,q17⟩
             · have e1:xa.tmps.getD 1 undef=.pointer (some ⟨w.heap.size,0,none⟩):=ho 1 (by kernel_rfl)
               refine Ri.step_plain rfl rfl (fun K' hK=>?_)
               go_simp
               exact hK _ _ ⟨_,_,rfl,rfl,hb,q0,q1,fun _=>rfl,q3,q4,q5,q6,q7,q8,q9,q10,q11,q12,q13,q14,q15,q16,q17⟩
             · have l0:L 2=true:=by have:=hd _ rfl;simp [Region.binds] at this;simp [this]
               have f2:=(hv 2 16 rfl l0).trans (q2 l0)
               refine Ri.step_plain rfl rfl (fun K' hK=>?_)
               obtain c5:=field5 (keep_blk hb Z1.out)
               go_simp
               exact hK _ _ ⟨_,_,rfl,rfl,hb,q0,q1,q2,fun _=>rfl,q4,q5,q6,q7,q8,q9,q10,q11,q12,q13,q14,q15,q16,q17⟩
             · have e3:xa.tmps.getD 3 undef=.int .i64 m:=ho 3 (by kernel_rfl)
               refine Ri.step_plain rfl rfl (fun K' hK=>?_)
               go_simp
               exact hK _ _ ⟨_,_,rfl,rfl,hb,q0,q1,q2,q3,fun _=>rfl,q5,q6,q7,q8,q9,q10,q11,q12,q13,q14,q15,q16,q17⟩
             · have l0:L 3=true∧L 4=true:=by have:=hd _ rfl;simp [Region.binds] at this;simp [this]
               have f3:=(hv 3 17 rfl l0.1).trans (q3 l0.1)
               have f4:=(hv 4 18 rfl l0.2).trans (q4 l0.2)
               refine Ri.step_plain rfl rfl (fun K' hK=>?_)
               go_simp
               exact hK _ _ ⟨_,_,rfl,rfl,hb,q0,q1,q2,q3,q4,fun _=>rfl,q6,q7,q8,q9,q10,q11,q12,q13,q14,q15,q16,q17⟩
             · have l0:L 5=true:=by have:=hd _ rfl;simp [Region.binds] at this;simp [this]
               have f5:=(hv 5 19 rfl l0).trans (q5 l0)
               refine Ri.step_plain rfl rfl (fun K' hK=>?_)
               go_simp
               exact hK _ _ ⟨_,_,rfl,rfl,hb,q0,q1,q2,q3,q4,q5,fun _=>rfl,q7,q8,q9,q10,q11,q12,q13,q14,q15,q16,q17⟩
             · have l0:L 6=true:=by have:=hd _ rfl;simp [Region.binds] at this;simp [this]
               have f6:=(hv 6 20 rfl l0).trans (q6 l0)
               refine Ri.step_plain rfl rfl (fun K' hK=>?_)
               obtain ⟨d0,d1,d2,d3,d4,d5,d6,d7,d8,d9⟩:=(T1.out.keep ((HBW.out.trans (hb.mono HBW.out.size)).block _ l1))
               go_simp
               exact hK _ _ ⟨_,_,rfl,rfl,hb,q0,q1,q2,q3,q4,q5,q6,fun _=>rfl,q8,q9,q10,q11,q12,q13,q14,q15,q16,q17⟩
             · have l0:L 1=true∧L 7=true:=by have:=hd _ rfl;simp [Region.binds] at this;simp [this]
               have f1:=(hv 1 15 rfl l0.1).trans (q1 l0.1)
               have f7:=(hv 7 21 rfl l0.2).trans (q7 l0.2)
               refine Ri.step_plain rfl rfl (fun K' hK=>?_)
               go_simp
               refine (HMF.out _).mono ?_
               rintro e w8 ⟨rfl,rfl⟩
               exact hK _ _ ⟨_,_,rfl,rfl,hb,q0,q1,q2,q3,q4,q5,q6,q7,fun _=>rfl,q9,q10,q11,q12,q13,q14,q15,q16,q17⟩
             · have l0:L 8=true:=by have:=hd _ rfl;simp [Region.binds] at this;simp [this]
               have f8:=(hv 8 22 rfl l0).trans (q8 l0)
               refine Ri.step_plain rfl rfl (fun K' hK=>?_)
               go_simp
               exact hK _ _ ⟨_,_,rfl,rfl,hb,q0,q1,q2,q3,q4,q5,q6,q7,q8,fun _=>rfl,q10,q11,q12,q13,q14,q15,q16,q17⟩
             · have l0:L 9=true:=by have:=hd _ rfl;simp [Region.binds] at this;simp [this]
               have f9:=(hv 9 23 rfl l0).trans (q9 l0)
               have e1:xa.tmps.getD 1 undef=.pointer (some ⟨w.heap.size,0,none⟩):=ho 1 (by kernel_rfl)
               refine Ri.step_wanted (b:=true) rfl rfl rfl f9 (fun K' hK=>?_)
               go_simp
               exact hK _ _ ⟨_,_,rfl,rfl,hb,q0,q1,q2,q3,q4,q5,q6,q7,q8,q9,fun _=>rfl,q11,q12,q13,q14,q15,q16,q17⟩
             · have l0:L 9=true∧L 10=true:=by have:=hd _ rfl;simp [Region.binds] at this;simp [this]
               have f9:=(hv 9 23 rfl l0.1).trans (q9 l0.1)
               have f10:=(hv 10 24 rfl l0.2).trans (q10 l0.2)
               refine Ri.step_wanted (b:=true) rfl rfl rfl f9 (fun K' hK=>?_)
               obtain c5:=field5 (keep_blk hb Z1.out)
               go_simp
               exact hK _ _ ⟨_,_,rfl,rfl,hb,q0,q1,q2,q3,q4,q5,q6,q7,q8,q9,q10,fun _=>rfl,q12,q13,q14,q15,q16,q17⟩
             · have l0:L 9=true:=by have:=hd _ rfl;simp [Region.binds] at this;simp [this]
               have f9:=(hv 9 23 rfl l0).trans (q9 l0)
               have e3:xa.tmps.getD 3 undef=.int .i64 m:=ho 3 (by kernel_rfl)
               refine Ri.step_wanted (b:=true) rfl rfl rfl f9 (fun K' hK=>?_)
               go_simp
               exact hK _ _ ⟨_,_,rfl,rfl,hb,q0,q1,q2,q3,q4,q5,q6,q7,q8,q9,q10,q11,fun _=>rfl,q13,q14,q15,q16,q17⟩
             · have l0:L 9=true∧L 11=true∧L 12=true:=by have:=hd _ rfl;simp [Region.binds] at this;simp [this]
               have f9:=(hv 9 23 rfl l0.1).trans (q9 l0.1)
               have f11:=(hv 11 25 rfl l0.2.1).trans (q11 l0.2.1)
               have f12:=(hv 12 26 rfl l0.2.2).trans (q12 l0.2.2)
               refine Ri.step_wanted (b:=true) rfl rfl rfl f9 (fun K' hK=>?_)
               go_simp
               exact hK _ _ ⟨_,_,rfl,rfl,hb,q0,q1,q2,q3,q4,q5,q6,q7,q8,q9,q10,q11,q12,fun _=>rfl,q14,q15,q16,q17⟩
             · have l0:L 9=true∧L 13=true:=by have:=hd _ rfl;simp [Region.binds] at this;simp [this]
               have f9:=(hv 9 23 rfl l0.1).trans (q9 l0.1)
               have f13:=(hv 13 27 rfl l0.2).trans (q13 l0.2)
               refine Ri.step_wanted (b:=true) rfl rfl rfl f9 (fun K' hK=>?_)
               obtain ⟨d0,d1,d2,d3,d4,d5,d6,d7,d8,d9⟩:=(T1.out.keep ((HBW.out.trans (hb.mono HBW.out.size)).block _ l1))
               go_simp
               exact hK _ _ ⟨_,_,rfl,rfl,hb,q0,q1,q2,q3,q4,q5,q6,q7,q8,q9,q10,q11,q12,q13,fun _=>rfl,q15,q16,q17⟩
             · have l0:L 9=true∧L 14=true:=by have:=hd _ rfl;simp [Region.binds] at this;simp [this]
               have f9:=(hv 9 23 rfl l0.1).trans (q9 l0.1)
               have f14:=(hv 14 28 rfl l0.2).trans (q14 l0.2)
               refine Ri.step_wanted (b:=true) rfl rfl rfl f9 (fun K' hK=>?_)
               go_simp
               refine (HC.out _ hb).mono ?_
               rintro e w8 ⟨rfl,hb8⟩
               exact hK _ _ ⟨_,_,rfl,rfl,hb.trans (hb8.mono hb.size),q0,q1,q2,q3,q4,q5,q6,q7,q8,q9,q10,q11,q12,q13,q14,fun _=>rfl,q16,q17⟩
             · have l0:L 9=true∧L 15=true:=by have:=hd _ rfl;simp [Region.binds] at this;simp [this]
               have f9:=(hv 9 23 rfl l0.1).trans (q9 l0.1)
               have f15:=(hv 15 29 rfl l0.2).trans (q15 l0.2)
               refine Ri.step_plain rfl rfl (fun K' hK=>?_)
               go_simp
               exact hK _ _ ⟨_,_,rfl,rfl,hb,q0,q1,q2,q3,q4,q5,q6,q7,q8,q9,q10,q11,q12,q13,q14,q15,fun _=>rfl,q17⟩
             · have l0:L 16=true:=by have:=hd _ rfl;simp [Region.binds] at this;simp [this]
               have f16:=(hv 16 30 rfl l0).trans (q16 l0)
               refine Ri.step_plain rfl rfl (fun K' hK=>?_)
               go_simp
               exact hK _ _ ⟨_,_,rfl,rfl,hb,q0,q1,q2,q3,q4,q5,q6,q7,q8,q9,q10,q11,q12,q13,q14,q15,q16,fun _=>rfl⟩
           · rintro v w9 ⟨hb,-,-,-,-,-,-,-,-,-,-,-,-,-,-,-,-,-,q17⟩
             have q17':v 17=.bool G:=q17 rfl
             simp only [Ri.frame,List.zipIdx,List.foldl_cons,List.foldl_nil,if_true,List.setIfInBounds_toArray,List.set_cons_zero,List.set_cons_succ,Nat.reduceAdd,q17']
             clear q17 q17'
             generalize v 0=y0;generalize v 1=y1;generalize v 2=y2;generalize v 3=y3;generalize v 4=y4;generalize v 5=y5;generalize v 6=y6;generalize v 7=y7;generalize v 8=y8;generalize v 9=y9;generalize v 10=y10;generalize v 11=y11;generalize v 12=y12;generalize v 13=y13;generalize v 14=y14;generalize v 15=y15;generalize v 16=y16
             have HB10:=Lib.hid (HB.out.trans (hb.mono HB.out.size))
             clear hb
             cases G with
             | true =>
               go_wp2
               exact ⟨⟨m+1,by go_num,by omega,HST,HB10⟩,by simp [intOf];omega⟩
             | false =>
               have hr:=HDF.out
               rw [Tr.shapeS_no HST.out] at hr
               subst hr
               go_wp2
               go_ret
               exact ⟨rfl,HW.out.trans (HB10.out.mono HW.out.size)⟩
         | false =>
           go_wp2
           refine Ri.wp_region_frame (by kernel_rfl) (by kernel_rfl) (by kernel_rfl) (by kernel_rfl)
             (fun L v w'=>Below wr.heap.size wr w'∧(L 0=true→v 0=.pointer (some ⟨w.heap.size,0,none⟩))∧(L 1=true→v 1=.int .i64 t.kind)∧(L 2=true→v 2=.pointer (some ⟨w.heap.size,5,none⟩))∧(L 3=true→v 3=.slice (some ⟨b1,o1,none⟩) ts.length cap)∧(L 4=true→v 4=.int .i64 m)∧(L 5=true→v 5=.pointer (some ⟨b1,o1+m * 10,none⟩))∧(L 6=true→v 6=.pointer (some ⟨b1,o1+m * 10,none⟩))∧(L 7=true→v 7=.int .i64 x.kind)∧(L 8=true→v 8=.bool false)∧(L 9=true→v 9=.bool false)∧(L 10=true→v 10=undef)∧(L 11=true→v 11=undef)∧(L 12=true→v 12=undef)∧(L 13=true→v 13=undef)∧(L 14=true→v 14=undef)∧(L 15=true→v 15=undef)∧(L 16=true→v 16=.bool false)∧(L 17=true→v 17=.bool false))
             ?_ ?_ ?_
           · exact ⟨(Below.refl _ _).drew,by simp,by simp,by simp,by simp,by simp,by simp,by simp,by simp,by simp,by simp,by simp,by simp,by simp,by simp,by simp,by simp,by simp,by simp⟩
           · intro i hi9 L v w9 xa hI hL hd hv ho
             have hi':i=0 ∨ i=1 ∨ i=2 ∨ i=3 ∨ i=4 ∨ i=5 ∨ i=6 ∨ i=7 ∨ i=8 ∨ i=9 ∨ i=10 ∨ i=11 ∨ i=12 ∨ i=13 ∨ i=14 ∨ i=15 ∨ i=16 ∨ i=17:=by simp at hi9;omega
             obtain ⟨hb,q0,q1,q2,q3,q4,q5,q6,q7,q8,q9,q10,q11,q12,q13,q14,q15,q16,q17⟩:=hI
             rcases hi' with rfl | rfl | rfl | rfl | rfl | rfl | rfl | rfl | rfl | rfl | rfl | rfl | rfl | rfl | rfl | rfl | rfl | rfl
             · have e1:xa.tmps.getD 1 undef=.pointer (some ⟨w.heap.size,0,none⟩):=ho 1 (by kernel_rfl)
               refine Ri.step_plain rfl rfl (fun K' hK=>?_)
               go_simp
               exact hK _ _ ⟨_,_,rfl,rfl,hb,fun _=>rfl,q1,q2,q3,q4,q5,q6,q7,q8,q9,q10,q11,q12,q13,q14,q15,q16,q17⟩
             · have l0:L 0=true:=by have:=hd _ rfl;simp [Region.binds] at this;simp [this]
               have f0:=(hv 0 14 rfl l0).trans (q0 l0)
               refine Ri.step_plain rfl rfl (fun K' hK=>?_)
               obtain c0:=(allTen (keep_blk hb Z1.out)).1
               go_simp
               exact hK _ _ ⟨_,_,rfl,rfl,hb,q0,fun _=>rfl,q2,q3,q4,q5,q6,q7,q8,q9,q10,q11,q12,q13,q14,q15,q16,q17⟩
             · have e1:xa.tmps.getD 1 undef=.pointer (some ⟨w.heap.size,0,none⟩):=ho 1 (by kernel_rfl)
               refine Ri.step_plain rfl rfl (fun K' hK=>?_)
               go_simp
               exact hK _ _ ⟨_,_,rfl,rfl,hb,q0,q1,fun _=>rfl,q3,q4,q5,q6,q7,q8,q9,q10,q11,q12,q13,q14,q15,q16,q17⟩
             · have l0:L 2=true:=by have:=hd _ rfl;simp [Region.binds] at this;simp [this]
               have f2:=(hv 2 16 rfl l0).trans (q2 l0)
               refine Ri.step_plain rfl rfl (fun K' hK=>?_)
               obtain c5:=field5 (keep_blk hb Z1.out)
               go_simp
               exact hK _ _ ⟨_,_,rfl,rfl,hb,q0,q1,q2,fun _=>rfl,q4,q5,q6,q7,q8,q9,q10,q11,q12,q13,q14,q15,q16,q17⟩
             · have e3:xa.tmps.getD 3 undef=.int .i64 m:=ho 3 (by kernel_rfl)
               refine Ri.step_plain rfl rfl (fun K' hK=>?_)
               go_simp
               exact hK _ _ ⟨_,_,rfl,rfl,hb,q0,q1,q2,q3,fun _=>rfl,q5,q6,q7,q8,q9,q10,q11,q12,q13,q14,q15,q16,q17⟩
             · have l0:L 3=true∧L 4=true:=by have:=hd _ rfl;simp [Region.binds] at this;simp [this]
               have f3:=(hv 3 17 rfl l0.1).trans (q3 l0.1)
               have f4:=(hv 4 18 rfl l0.2).trans (q4 l0.2)
               refine Ri.step_plain rfl rfl (fun K' hK=>?_)
               go_simp
               exact hK _ _ ⟨_,_,rfl,rfl,hb,q0,q1,q2,q3,q4,fun _=>rfl,q6,q7,q8,q9,q10,q11,q12,q13,q14,q15,q16,q17⟩
             · have l0:L 5=true:=by have:=hd _ rfl;simp [Region.binds] at this;simp [this]
               have f5:=(hv 5 19 rfl l0).trans (q5 l0)
               refine Ri.step_plain rfl rfl (fun K' hK=>?_)
               go_simp
               exact hK _ _ ⟨_,_,rfl,rfl,hb,q0,q1,q2,q3,q4,q5,fun _=>rfl,q7,q8,q9,q10,q11,q12,q13,q14,q15,q16,q17⟩
             · have l0:L 6=true:=by have:=hd _ rfl;simp [Region.binds] at this;simp [this]
               have f6:=(hv 6 20 rfl l0).trans (q6 l0)
               refine Ri.step_plain rfl rfl (fun K' hK=>?_)
               obtain ⟨d0,d1,d2,d3,d4,d5,d6,d7,d8,d9⟩:=(T1.out.keep ((HBW.out.trans (hb.mono HBW.out.size)).block _ l1))
               go_simp
               exact hK _ _ ⟨_,_,rfl,rfl,hb,q0,q1,q2,q3,q4,q5,q6,fun _=>rfl,q8,q9,q10,q11,q12,q13,q14,q15,q16,q17⟩
             · have l0:L 1=true∧L 7=true:=by have:=hd _ rfl;simp [Region.binds] at this;simp [this]
               have f1:=(hv 1 15 rfl l0.1).trans (q1 l0.1)
               have f7:=(hv 7 21 rfl l0.2).trans (q7 l0.2)
               refine Ri.step_plain rfl rfl (fun K' hK=>?_)
               go_simp
               refine (HMF.out _).mono ?_
               rintro e w8 ⟨rfl,rfl⟩
               exact hK _ _ ⟨_,_,rfl,rfl,hb,q0,q1,q2,q3,q4,q5,q6,q7,fun _=>rfl,q9,q10,q11,q12,q13,q14,q15,q16,q17⟩
             · have l0:L 8=true:=by have:=hd _ rfl;simp [Region.binds] at this;simp [this]
               have f8:=(hv 8 22 rfl l0).trans (q8 l0)
               refine Ri.step_plain rfl rfl (fun K' hK=>?_)
               go_simp
               exact hK _ _ ⟨_,_,rfl,rfl,hb,q0,q1,q2,q3,q4,q5,q6,q7,q8,fun _=>rfl,q10,q11,q12,q13,q14,q15,q16,q17⟩
             · have l0:L 9=true:=by have:=hd _ rfl;simp [Region.binds] at this;simp [this]
               have f9:=(hv 9 23 rfl l0).trans (q9 l0)
               exact Ri.step_unwanted (b:=false) rfl rfl rfl f9 ⟨_,_,rfl,rfl,hb,q0,q1,q2,q3,q4,q5,q6,q7,q8,q9,fun _=>rfl,q11,q12,q13,q14,q15,q16,q17⟩
             · have l0:L 9=true:=by have:=hd _ rfl;simp [Region.binds] at this;simp [this]
               have f9:=(hv 9 23 rfl l0).trans (q9 l0)
               exact Ri.step_unwanted (b:=false) rfl rfl rfl f9 ⟨_,_,rfl,rfl,hb,q0,q1,q2,q3,q4,q5,q6,q7,q8,q9,q10,fun _=>rfl,q12,q13,q14,q15,q16,q17⟩
             · have l0:L 9=true:=by have:=hd _ rfl;simp [Region.binds] at this;simp [this]
               have f9:=(hv 9 23 rfl l0).trans (q9 l0)
               exact Ri.step_unwanted (b:=false) rfl rfl rfl f9 ⟨_,_,rfl,rfl,hb,q0,q1,q2,q3,q4,q5,q6,q7,q8,q9,q10,q11,fun _=>rfl,q13,q14,q15,q16,q17⟩
             · have l0:L 9=true:=by have:=hd _ rfl;simp [Region.binds] at this;simp [this]
               have f9:=(hv 9 23 rfl l0).trans (q9 l0)
               exact Ri.step_unwanted (b:=false) rfl rfl rfl f9 ⟨_,_,rfl,rfl,hb,q0,q1,q2,q3,q4,q5,q6,q7,q8,q9,q10,q11,q12,fun _=>rfl,q14,q15,q16,q17⟩
             · have l0:L 9=true:=by have:=hd _ rfl;simp [Region.binds] at this;simp [this]
               have f9:=(hv 9 23 rfl l0).trans (q9 l0)
               exact Ri.step_unwanted (b:=false) rfl rfl rfl f9 ⟨_,_,rfl,rfl,hb,q0,q1,q2,q3,q4,q5,q6,q7,q8,q9,q10,q11,q12,q13,fun _=>rfl,q15,q16,q17⟩
             · have l0:L 9=true:=by have:=hd _ rfl;simp [Region.binds] at this;simp [this]
               have f9:=(hv 9 23 rfl l0).trans (q9 l0)
               exact Ri.step_unwanted (b:=false) rfl rfl rfl f9 ⟨_,_,rfl,rfl,hb,q0,q1,q2,q3,q4,q5,q6,q7,q8,q9,q10,q11,q12,q13,q14,fun _=>rfl,q16,q17⟩
             · have l0:L 9=true∧L 15=true:=by have:=hd _ rfl;simp [Region.binds] at this;simp [this]
               have f9:=(hv 9 23 rfl l0.1).trans (q9 l0.1)
               have f15:=(hv 15 29 rfl l0.2).trans (q15 l0.2)
               refine Ri.step_plain rfl rfl (fun K' hK=>?_)
               go_simp
               exact hK _ _ ⟨_,_,rfl,rfl,hb,q0,q1,q2,q3,q4,q5,q6,q7,q8,q9,q10,q11,q12,q13,q14,q15,fun _=>rfl,q17⟩
             · have l0:L 16=true:=by have:=hd _ rfl;simp [Region.binds] at this;simp [this]
               have f16:=(hv 16 30 rfl l0).trans (q16 l0)
               refine Ri.step_plain rfl rfl (fun K' hK=>?_)
               go_simp
               exact hK _ _ ⟨_,_,rfl,rfl,hb,q0,q1,q2,q3,q4,q5,q6,q7,q8,q9,q10,q11,q12,q13,q14,q15,q16,fun _=>rfl⟩
           · rintro v w9 ⟨hb,-,-,-,-,-,-,-,-,-,-,-,-,-,-,-,-,-,q17⟩
             have q17':v 17=.bool false:=q17 rfl
             simp only [Ri.frame,List.zipIdx,List.foldl_cons,List.foldl_nil,if_true,List.setIfInBounds_toArray,List.set_cons_zero,List.set_cons_succ,Nat.reduceAdd,q17']
             clear q17 q17'
             generalize v 0=y0;generalize v 1=y1;generalize v 2=y2;generalize v 3=y3;generalize v 4=y4;generalize v 5=y5;generalize v 6=y6;generalize v 7=y7;generalize v 8=y8;generalize v 9=y9;generalize v 10=y10;generalize v 11=y11;generalize v 12=y12;generalize v 13=y13;generalize v 14=y14;generalize v 15=y15;generalize v 16=y16
             have HB10:=Lib.hid (HB.out.trans (hb.mono HB.out.size))
             clear hb
             have hr:=HDF.out
             rw [Tr.shapeS_no HST.out] at hr
             subst hr
             go_wp2
             go_ret
             exact ⟨rfl,HW.out.trans (HB10.out.mono HW.out.size)⟩
       · obtain rfl:m=ts.length:=by omega
         rw [List.take_length] at *
         have hr:=HDF.out
         rw [HT.out] at hr
         subst hr
         go_wp2
         go_ret
         exact ⟨rfl,HBW.out⟩
end Go.Proofs.YtnfdknhhkdphhaaGreatDoor
namespace Go.Proofs.YtnfdknhhkdphhaaGreatDoor
open Go.RowKit
namespace Tr
def checkC (t:Tr):Nat:=if t.formB=false then 13 else if 200 < t.dpT then 14 else if 2000 < t.szT then 10 else 0
theorem checkC_zero {t:Tr} : t.checkC=0 ↔ t.InForm∧t.dpT ≤ 200∧t.szT ≤ 2000:=by
 unfold checkC
 rw [← formB_iff]
 cases t.formB with
 | false=>simp
 | true =>
   rw [if_neg (by decide)]
   split
   · simp;omega
   · split
     · simp;omega
     · simp;omega
theorem checkC_lt (t:Tr):t.checkC < 22:=by
 unfold checkC;split;omega;split;omega;split <;> omega
end Tr
def sentV (A:Nat→Addr) (c:Nat):Value:=if c=0 then .nilIface else .iface 232 (.pointer (some (A (c - 1))))
theorem sentV_num (A:Nat→Addr) (c:Nat) (hc:c < 22) (w:World) (hE:Errs w A):Calls Tryz.prog 9 #[sentV A c] w fun e w'=>e=.returned (.int .i64 (c:Int))∧Below w.heap.size w w':=by
 unfold sentV
 by_cases h:c=0
 · subst h
   rw [if_pos rfl]
   refine (num_nil w).mono ?_
   rintro e w' ⟨rfl,rfl⟩
   exact ⟨rfl,Below.refl _ _⟩
 · rw [if_neg h]
   have:=num_any A (c - 1) 0 _ w hE (by omega) .base
   refine this.mono ?_
   rintro e w' ⟨rfl,hb⟩
   exact ⟨ret_int (by omega),hb⟩
theorem treecheck_any (A:Nat→Addr) (t:Tr) (hd:t.dpT ≤ 1000000) (w:World) (hE:Errs w A) (B:Nat→Prop) (v:Value) (hv:NodeV w B v t):Calls Tryz.prog 34 #[v] w fun e w'=>e=.returned (sentV A t.checkC)∧Below w.heap.size w w':=by
 obtain ⟨s,rfl,hs⟩:=hv
 have H1:=Lib.hid (fun w' hb=>treeinform_any t w' B (.agg (t.cells s)) ⟨s,rfl,TreesAt.later (w':=w') hs hb⟩)
 have H2:=Lib.hid (fun w' hb=>treedepth_any t hd w' B (.agg (t.cells s)) ⟨s,rfl,TreesAt.later (w':=w') hs hb⟩)
 have H3:=Lib.hid (fun (hf:t.InForm) w' hb=>treesize_any t hf w' B (.agg (t.cells s)) ⟨s,rfl,TreesAt.later (w':=w') hs hb⟩)
 have HE:=Lib.hid (fun w' (hb:Below w.heap.size w w')=>hE.below hb)
 obtain ⟨p,cap,rfl,hlen⟩:=hs.slice
 have Z0:=Lib.hid (heap_alloc_new w (.cells (t.cells (.slice p t.subs.length cap)) 28))
 have hfi:=Tr.formB_iff t
 have HFI:=Lib.hid hfi
 have HCC:=Lib.hid (show t.checkC=if t.formB=false then 13 else if 200 < t.dpT then 14 else if 2000 < t.szT then 10 else 0 from rfl)
 clear hs hd hE hfi
 unfold Tr.cells at *
 go_enter Tryz.func34,Tryz.ntmps34
 go_wp2_with (first
   | (refine wpList_load_row rfl 28 (.tmp 1) rfl w.heap.size rfl 28 _ (0,0) _ Z0.out Tryz.underlying28 rfl (by kernel_rfl) ?_)
   | fail)
 refine (H1.out _ ((Below.refl _ _).alloc (Nat.le_refl _) _)).mono ?_
 rintro e w1 ⟨rfl,hb1⟩
 have Z1:=Lib.hid (keep_blk hb1 Z0.out)
 have HB1:=Lib.hid (((Below.refl w.heap.size w).alloc (Nat.le_refl _) _).trans (hb1.mono (by simp)))
 clear hb1 Z0
 cases hfb:t.formB with
 | false =>
   have hcc:=HCC.out
   rw [if_pos hfb] at hcc
   have HCV:=Lib.hid (show sentV A t.checkC=.iface 232 (.pointer (some (A 12))) by rw [hcc];rfl)
   have g:=((HE.out w1 HB1.out) 12 (by omega)).1
   have G:w1.cell? ⟨12,0,none⟩=some (.iface 232 (.pointer (some (A 12)))):=g
   clear hcc g HCC HFI hfb
   go_wp2
   go_ret
   exact ⟨congrArg Ending.returned HCV.out.symm,HB1.out⟩
 | true =>
   have hform:=HFI.out.1 hfb
   have H3':=Lib.hid (H3.out hform)
   have hcc:=HCC.out
   rw [if_neg (by rw [hfb];decide)] at hcc
   have HC2:=Lib.hid hcc
   clear hcc HCC HFI hfb hform H3
   go_wp2_with (first
     | (refine wpList_load_row rfl 28 (.tmp 1) rfl w.heap.size rfl 28 _ (0,0) _ Z1.out Tryz.underlying28 rfl (by kernel_rfl) ?_)
     | fail)
   refine (H2.out _ HB1.out).mono ?_
   rintro e w2 ⟨rfl,hb2⟩
   have Z2:=Lib.hid (keep_blk hb2 Z1.out)
   have HB2:=Lib.hid (HB1.out.trans (hb2.mono HB1.out.size))
   clear hb2 Z1
   by_cases hd:200 < t.dpT
   · have hcc:=HC2.out
     rw [if_pos hd] at hcc
     have HCV:=Lib.hid (show sentV A t.checkC=.iface 232 (.pointer (some (A 13))) by rw [hcc];rfl)
     have G:w2.cell? ⟨13,0,none⟩=some (.iface 232 (.pointer (some (A 13)))):=((HE.out w2 HB2.out) 13 (by omega)).1
     have e1:decide ((200:Int) < t.dpT)=true:=by simp;omega
     have e1':decide (200 < t.dpT)=true:=by simpa using hd
     clear hcc HC2 hd
     generalize t.dpT=D at *
     go_wp2
     go_ret
     exact ⟨congrArg Ending.returned HCV.out.symm,HB2.out⟩
   · have e1:decide ((200:Int) < t.dpT)=false:=by simp;omega
     have e1':decide (200 < t.dpT)=false:=by simpa using hd
     have hcc:=HC2.out
     rw [if_neg hd] at hcc
     have HC3:=Lib.hid hcc
     clear hcc HC2 hd
     generalize t.dpT=D at *
     go_wp2_with (first
       | (refine wpList_load_row rfl 28 (.tmp 1) rfl w.heap.size rfl 28 _ (0,0) _ Z2.out Tryz.underlying28 rfl (by kernel_rfl) ?_)
       | fail)
     refine (H3'.out _ HB2.out).mono ?_
     rintro e w3 ⟨rfl,hb3⟩
     have HB3:=Lib.hid (HB2.out.trans (hb3.mono HB2.out.size))
     clear hb3 Z2
     by_cases hz:2000 < t.szT
     · have hcc:=HC3.out
       rw [if_pos hz] at hcc
       have HCV:=Lib.hid (show sentV A t.checkC=.iface 232 (.pointer (some (A 9))) by rw [hcc];rfl)
       have G:w3.cell? ⟨9,0,none⟩=some (.iface 232 (.pointer (some (A 9)))):=((HE.out w3 HB3.out) 9 (by omega)).1
       have z1:decide ((2000:Int) < t.szT)=true:=by simp;omega
       have z1':decide (2000 < t.szT)=true:=by simpa using hz
       clear hcc HC3 hz
       generalize t.szT=ZT at *
       go_wp2
       go_ret
       exact ⟨congrArg Ending.returned HCV.out.symm,HB3.out⟩
     · have z1:decide ((2000:Int) < t.szT)=false:=by simp;omega
       have z1':decide (2000 < t.szT)=false:=by simpa using hz
       have hcc:=HC3.out
       rw [if_neg hz] at hcc
       have HCV:=Lib.hid (show sentV A t.checkC=.nilIface by rw [hcc];rfl)
       clear hcc HC3 hz
       generalize t.szT=ZT at *
       go_wp2
       go_ret
       exact ⟨congrArg Ending.returned HCV.out.symm,HB3.out⟩
end Go.Proofs.YtnfdknhhkdphhaaGreatDoor
namespace Go.Proofs.YtnfdknhhkdphhaaGreatDoor
open Go.RowKit
namespace Tr
def usedT (t:Tr):Tr:=.node t.kind (if t.kind=2 then t.w0 else 0#64) (if t.kind=2 then t.w1 else 0#64) (if t.kind=2 then t.w2 else 0#64) (if t.kind=2 then t.w3 else 0#64) [] (if t.kind=7 then t.num else 0) (if t.kind=8 then t.least else 0) (if t.kind=8 then t.most else 0) (if t.kind=8 then t.bare else false)
end Tr
theorem refused_plain (k:Int) (a b c d:BitVec 64) (n lo hi:Int) (br:Bool) (p:Option Addr) (l cp:Nat) (w:World):Calls Tryz.prog 115 #[.agg #[.int .i64 k,.int .u64 (Oc.U a),.int .u64 (Oc.U b),.int .u64 (Oc.U c),.int .u64 (Oc.U d),.slice p l cp,.int .i64 n,.int .i64 lo,.int .i64 hi,.bool br]] w fun e w' =>
   e=.returned (.agg #[.int .i64 k,.int .u64 (Oc.U (if k=2 then a else 0#64)),.int .u64 (Oc.U (if k=2 then b else 0#64)),.int .u64 (Oc.U (if k=2 then c else 0#64)),.int .u64 (Oc.U (if k=2 then d else 0#64)),.slice none 0 0,.int .i64 (if k=7 then n else 0),.int .i64 (if k=8 then lo else 0),.int .i64 (if k=8 then hi else 0),.bool (if k=8 then br else false)])∧Below w.heap.size w w':=by
 have u0:Oc.U 0#64=0:=by decide
 by_cases h2:k=2
 · subst h2
   simp only [if_true,reduceIte,Int.reduceEq]
   clear u0
   go_enter Tryz.func115,Tryz.ntmps115
   go_wp2
   exact bodyPost_ret (results_cell_row rfl _ _ (w.heap.size+1) 28 _ (0,0) _ rfl (three_new _ _ _ _).2.1 Tryz.underlying28 rfl (by kernel_rfl)) rfl ⟨rfl,by go_grown⟩
 have e2:(k == 2)=false:=by simpa using h2
 simp only [if_neg h2,u0]
 clear u0 h2
 by_cases h7:k=7
 · subst h7
   simp only [if_true,reduceIte,Int.reduceEq]
   go_enter Tryz.func115,Tryz.ntmps115
   go_wp2
   exact bodyPost_ret (results_cell_row rfl _ _ (w.heap.size+1) 28 _ (0,0) _ rfl (three_new _ _ _ _).2.1 Tryz.underlying28 rfl (by kernel_rfl)) rfl ⟨rfl,by go_grown⟩
 have e7:(k == 7)=false:=by simpa using h7
 simp only [if_neg h7]
 clear h7
 by_cases h8:k=8
 · subst h8
   simp only [if_true]
   go_enter Tryz.func115,Tryz.ntmps115
   go_wp2
   exact bodyPost_ret (results_cell_row rfl _ _ (w.heap.size+1) 28 _ (0,0) _ rfl (three_new _ _ _ _).2.1 Tryz.underlying28 rfl (by kernel_rfl)) rfl ⟨rfl,by go_grown⟩
 have e8:(k == 8)=false:=by simpa using h8
 simp only [if_neg h8]
 clear h8
 go_enter Tryz.func115,Tryz.ntmps115
 go_wp2
 exact bodyPost_ret (results_cell_row rfl _ _ (w.heap.size+1) 28 _ (0,0) _ rfl (three_new _ _ _ _).2.1 Tryz.underlying28 rfl (by kernel_rfl)) rfl ⟨rfl,by go_grown⟩
theorem refused_any (t:Tr) (s:Value) (hs:∃ p l c,s=.slice p l c) (w:World):Calls Tryz.prog 115 #[.agg (t.cells s)] w fun e w'=>e=.returned (.agg (t.usedT.cells (.slice none 0 0)))∧Below w.heap.size w w':=by
 obtain ⟨p,l,c,rfl⟩:=hs
 exact refused_plain t.kind t.w0 t.w1 t.w2 t.w3 t.num t.least t.most t.bare p l c w
end Go.Proofs.YtnfdknhhkdphhaaGreatDoor
namespace Go.Proofs.YtnfdknhhkdphhaaGreatDoor
open Go.RowKit
namespace Tr
def misV (k:Int) (S:Bool) (n un lo ulo hi uhi:Int) (br ubr:Bool):Bool:=decide (k < 1) || decide (8 < k) || !S || (n != un) || (lo != ulo) || (hi != uhi) || (br != ubr)
def badV (k:Int) (len:Nat) (n lo hi:Int) (br:Bool):Bool :=
 if k=5 ∨ k=6 then decide (len < 2)
 else if k=7 then len != 1 || decide (n < 1) || decide (999 < n)
 else if k=8 then len != 1 || decide (lo < 0) || decide (255 < lo) || decide (hi < -1) || decide (255 < hi) || (decide (0 ≤ hi) && decide (hi < lo)) || (br && lo != 0)
 else len != 0
def sameW (a b c d a' b' c' d':BitVec 64):Bool:=Oc.U a == Oc.U a' && (Oc.U b == Oc.U b' && (Oc.U c == Oc.U c' && Oc.U d == Oc.U d'))
theorem sameW_iff {a b c d a' b' c' d':BitVec 64} : sameW a b c d a' b' c' d'=true ↔ a=a'∧b=b'∧c=c'∧d=d':=by
 unfold sameW
 rw [Bool.and_eq_true,Bool.and_eq_true,Bool.and_eq_true,beq_iff_eq,beq_iff_eq,beq_iff_eq,beq_iff_eq]
 exact ⟨fun h=>⟨Oc.U_inj h.1,Oc.U_inj h.2.1,Oc.U_inj h.2.2.1,Oc.U_inj h.2.2.2⟩,fun h=>by rw [h.1,h.2.1,h.2.2.1,h.2.2.2];exact ⟨rfl,rfl,rfl,rfl⟩⟩
def mism (t:Tr):Bool:=misV t.kind (sameW t.w0 t.w1 t.w2 t.w3 t.usedT.w0 t.usedT.w1 t.usedT.w2 t.usedT.w3) t.num t.usedT.num t.least t.usedT.least t.most t.usedT.most t.bare t.usedT.bare
def bad (t:Tr):Bool:=badV t.kind t.subs.length t.num t.least t.most t.bare
theorem mism_iff (t:Tr):t.mism=false ↔ (1 ≤ t.kind∧t.kind ≤ 8)∧(t.kind=2 ∨ (t.w0=0#64∧t.w1=0#64∧t.w2=0#64∧t.w3=0#64))∧(t.kind=7 ∨ t.num=0)∧(t.kind=8 ∨ (t.least=0∧t.most=0∧t.bare=false)):=by
 unfold mism misV usedT
 simp only [Bool.or_eq_false_iff,decide_eq_false_iff_not,Bool.not_eq_false',sameW_iff,bne_eq_false_iff_eq,Tr.w0,Tr.w1,Tr.w2,Tr.w3,Tr.num,Tr.least,Tr.most,Tr.bare]
 by_cases h2:t.kind=2
 · simp only [h2];simp [and_assoc]
 · by_cases h7:t.kind=7
   · simp only [h7];simp [and_assoc]
   · by_cases h8:t.kind=8
     · simp only [h8];simp [and_assoc]
     · simp only [h2,h7,h8];simp [and_assoc]
theorem fieldsB_ref (t:Tr):t.fieldsB=(!t.mism && !t.bad):=by
 rw [Bool.eq_iff_iff,fieldsB_iff,Bool.and_eq_true,Bool.not_eq_true',Bool.not_eq_true',mism_iff]
 unfold bad badV fieldsOk
 have hl:∀ m:Nat,(t.subs.length != m)=false ↔ t.subs.length=m:=fun m=>by simp
 constructor
 · rintro (⟨h | h | h,a,b,c,d,i,e,f,g,j⟩ | ⟨h,i,e,f,g,j⟩ | ⟨h | h,a,b,c,d,i,e,f,g,j⟩ | ⟨h,a,b,c,d,i,e1,e2,f,g,j⟩ | ⟨h,a,b,c,d,i,e,f1,f2,f3,f4⟩) <;> simp only [h] at * <;> simp_all <;> omega
 · rintro ⟨⟨⟨h1,h2⟩,h3,h4,h5⟩,h6⟩
   have hk:t.kind=1 ∨ t.kind=2 ∨ t.kind=3 ∨ t.kind=4 ∨ t.kind=5 ∨ t.kind=6 ∨ t.kind=7 ∨ t.kind=8:=by omega
   rcases hk with h | h | h | h | h | h | h | h <;> simp only [h] at * <;> simp_all <;> omega
end Tr
end Go.Proofs.YtnfdknhhkdphhaaGreatDoor
namespace Go.Proofs.YtnfdknhhkdphhaaGreatDoor
open Go.RowKit
theorem refform_step (k:Int) (a b c d:BitVec 64) (us:List Tr) (n lo hi:Int) (br:Bool) (p:Option Addr) (cap:Nat) (ua ub uc ud:BitVec 64) (un ulo uhi:Int) (ubr:Bool) (w:World) (B:Nat→Prop)
   (HU:Hid (∀ w,Calls Tryz.prog 115 #[.agg #[.int .i64 k,.int .u64 (Oc.U a),.int .u64 (Oc.U b),.int .u64 (Oc.U c),.int .u64 (Oc.U d),.slice p us.length cap,.int .i64 n,.int .i64 lo,.int .i64 hi,.bool br]] w fun e w'=>e=.returned (.agg #[.int .i64 k,.int .u64 (Oc.U ua),.int .u64 (Oc.U ub),.int .u64 (Oc.U uc),.int .u64 (Oc.U ud),.slice none 0 0,.int .i64 un,.int .i64 ulo,.int .i64 uhi,.bool ubr])∧Below w.heap.size w w'))
   (HS:Hid (TreesAt w B (.slice p us.length cap) us)) (hlen:us.length * 96 ≤ 140737488351232)
   (IH:Hid (∀ x,x ∈ us→∀ w B v,NodeV w B v x→Calls Tryz.prog 80 #[v] w fun e w'=>e=.returned (.bool x.formB)∧Below w.heap.size w w')) :
   Calls Tryz.prog 80 #[.agg #[.int .i64 k,.int .u64 (Oc.U a),.int .u64 (Oc.U b),.int .u64 (Oc.U c),.int .u64 (Oc.U d),.slice p us.length cap,.int .i64 n,.int .i64 lo,.int .i64 hi,.bool br]] w fun e w'=>e=.returned (.bool ((!Tr.misV k (Tr.sameW a b c d ua ub uc ud) n un lo ulo hi uhi br ubr && !Tr.badV k us.length n lo hi br) && Tr.formS us))∧Below w.heap.size w w':=by
 have he:=eq4
 obtain ⟨S,hS⟩:∃ S,Tr.sameW a b c d ua ub uc ud=S:=⟨_,rfl⟩
 obtain ⟨M,hM⟩:∃ M,Tr.misV k S n un lo ulo hi uhi br ubr=M:=⟨_,rfl⟩
 obtain ⟨Bd,hB⟩:∃ Bd,Tr.badV k us.length n lo hi br=Bd:=⟨_,rfl⟩
 obtain ⟨R,hR⟩:∃ R,((!M && !Bd) && Tr.formS us)=R:=⟨_,rfl⟩
 rw [hS,hM,hB,hR]
 have HR:=Lib.hid hR
 unfold Tr.sameW at hS
 unfold Tr.misV at hM
 unfold Tr.badV at hB
 have HM:=Lib.hid hM;have HBd:=Lib.hid hB;have HSm:=Lib.hid hS;have HLen:=Lib.hid hlen
 clear hM hB hR hS hlen
 go_enter Tryz.func80,Tryz.ntmps80
 go_wp2_with fail
 refine (HU.out _).mono ?_
 rintro e W0 ⟨rfl,hb1⟩
 have Z1:=Lib.hid (keep_blk hb1 (heap_alloc_new w _))
 have HB1:=Lib.hid (((Below.refl _ _).alloc (Nat.le_refl _) _).trans (hb1.mono (by simp)))
 have hs1:w.heap.size < W0.heap.size:=by have:=hb1.size;simp at this;omega
 clear hb1 HU
 go_upto_region 2 with (fail)
 have Z2:=Lib.hid (heap_alloc_lt (o:=.cells #[.int .i64 k,.int .u64 (Oc.U ua),.int .u64 (Oc.U ub),.int .u64 (Oc.U uc),.int .u64 (Oc.U ud),.slice none 0 0,.int .i64 un,.int .i64 ulo,.int .i64 uhi,.bool ubr] 28) Z1.out)
 have Y2:=Lib.hid (heap_alloc_new W0 (.cells #[.int .i64 k,.int .u64 (Oc.U ua),.int .u64 (Oc.U ub),.int .u64 (Oc.U uc),.int .u64 (Oc.U ud),.slice none 0 0,.int .i64 un,.int .i64 ulo,.int .i64 uhi,.bool ubr] 28))
 have HB2:=Lib.hid (HB1.out.alloc HB1.out.size (.cells #[.int .i64 k,.int .u64 (Oc.U ua),.int .u64 (Oc.U ub),.int .u64 (Oc.U uc),.int .u64 (Oc.U ud),.slice none 0 0,.int .i64 un,.int .i64 ulo,.int .i64 uhi,.bool ubr] 28))
 have hs2:w.heap.size < (W0.alloc (.cells #[.int .i64 k,.int .u64 (Oc.U ua),.int .u64 (Oc.U ub),.int .u64 (Oc.U uc),.int .u64 (Oc.U ud),.slice none 0 0,.int .i64 un,.int .i64 ulo,.int .i64 uhi,.bool ubr] 28)).heap.size:=by simp;omega
 clear Z1 HB1
 generalize W0.alloc (.cells #[.int .i64 k,.int .u64 (Oc.U ua),.int .u64 (Oc.U ub),.int .u64 (Oc.U uc),.int .u64 (Oc.U ud),.slice none 0 0,.int .i64 un,.int .i64 ulo,.int .i64 uhi,.bool ubr] 28)=W2 at *
 go_cut [51] (fun u wx=>u=.bool M∧W2=wx)
 case first =>
   have hM:=HM.out;have hS:=HSm.out
   obtain ⟨d0,d1,d2,d3,d4,d5,d6,d7,d8,d9⟩:=allTen Z2.out
   obtain ⟨u0,u1,u2,u3,u4,u5,u6,u7,u8,u9⟩:=allTen Y2.out
   clear HM HBd HSm HR HS IH HB2 hs2
   rcases bool_or (decide (k < 1)) with q0 | q0
   · rw [q0] at hM
     subst hM
     go_wp2
     go_meet
     exact ⟨rfl,rfl⟩
   rcases bool_or (decide (8 < k)) with q1 | q1
   · rw [q0,q1] at hM
     subst hM
     go_wp2
     go_meet
     exact ⟨rfl,rfl⟩
   cases S with
   | false =>
     rw [q0,q1] at hM
     subst hM
     go_wp2
     go_meet
     exact ⟨rfl,rfl⟩
   | true =>
     rcases bool_or (n != un) with q3 | q3
     · rw [q0,q1,q3] at hM
       subst hM
       go_wp2
       go_meet
       exact ⟨rfl,rfl⟩
     rcases bool_or (lo != ulo) with q4 | q4
     · rw [q0,q1,q3,q4] at hM
       subst hM
       go_wp2
       go_meet
       exact ⟨rfl,rfl⟩
     rcases bool_or (hi != uhi) with q5 | q5
     · rw [q0,q1,q3,q4,q5] at hM
       subst hM
       go_wp2
       go_meet
       exact ⟨rfl,rfl⟩
     cases br <;> cases ubr <;> (
       rw [q0,q1,q3,q4,q5] at hM
       subst hM
       go_wp2
       go_meet
       exact ⟨rfl,rfl⟩)
 case rest =>
   obtain ⟨rfl,rfl⟩:=hcut
   clear HM HSm Y2
   cases M with
   | true =>
     have hr:=HR.out
     rw [Bool.not_true,Bool.false_and,Bool.false_and] at hr
     subst hr
     clear HR HBd HS IH
     go_wp2
     go_ret
     exact ⟨rfl,HB2.out⟩
   | false =>
     have hr:=HR.out
     rw [Bool.not_false,Bool.true_and] at hr
     have HR:=Lib.hid hr
     clear hr
     have hB:=HBd.out
     clear HBd
     have z5:=(allTen Z2.out).2.2.2.2.2.1
     obtain ⟨d0,d1,d2,d3,d4,d5,d6,d7,d8,d9⟩:=allTen Z2.out
     by_cases kk5:k=5
     · subst kk5
       rw [if_pos (by decide)] at hB
       have hl2:decide ((us.length:Int) < 2)=decide (us.length < 2):=by
         by_cases h:us.length < 2
         · rw [decide_eq_true h,decide_eq_true (by omega)]
         · rw [decide_eq_false h,decide_eq_false (by omega)]
       cases Bd with
       | true =>
         have hr:=HR.out
         rw [Bool.not_true,Bool.false_and] at hr
         subst hr
         rw [hB] at hl2
         go_wp2
         go_ret
         exact ⟨rfl,HB2.out⟩
       | false =>
         have hr:=HR.out
         rw [Bool.not_false,Bool.true_and] at hr
         have HR:=Lib.hid hr
         clear hr
         rw [hB] at hl2
         go_wp2
         clear d0 d1 d2 d3 d4 d5 d6 d7 d8 d9
         go_loopw [5] (fun iv wr=>∃ m:Nat,iv=.int .i64 m∧m ≤ us.length∧Hid (Tr.formS (us.take m)=true)∧Hid (Below w.heap.size w wr)∧w.heap.size < wr.heap.size∧Hid (wr.cell? ⟨w.heap.size,5,none⟩=some (.slice p us.length cap))) (fun iv _=>us.length - (intOf iv).toNat)
         case atStart=>exact ⟨0,rfl,Nat.zero_le _,Lib.hid rfl,HB2,hs2,Lib.hid z5⟩
         case round =>
           obtain ⟨m,rfl,hm,HT,HB,hsz,Z0⟩:=hrel
           clear z5
           have wm:IntKind.i64.wrap ((m:Int)+1)=(m:Int)+1:=IntWalk.i64_in _ (by have:=HLen.out;omega)
           by_cases hlt:m < us.length
           · obtain ⟨x,hx⟩:∃ x,us[m]? = some x:=⟨_,List.getElem?_eq_getElem hlt⟩
             obtain ⟨b1,o1,s1,rfl,-,t1,sub1⟩:=HS.out.get hx
             obtain ⟨d0,d1,d2,d3,d4,d5,d6,d7,d8,d9⟩:=t1.keep (HB.out.block _ t1.lt)
             have hmem:=List.mem_of_getElem? hx
             have HC:=Lib.hid (IH.out x hmem wr B (.agg (x.cells s1)) ⟨_,rfl,sub1.later HB.out⟩)
             have hst:=Tr.formS_take us m x hx
             rw [HT.out,Bool.true_and] at hst
             have HST:=Lib.hid hst
             have z5:=Z0.out
             clear t1 sub1 hmem hx hst
             unfold Tr.cells at HC
             go_wp2_with fail
             refine HC.out.mono ?_
             rintro e w2 ⟨rfl,hb2⟩
             have HB2:=Lib.hid (HB.out.trans (hb2.mono HB.out.size));have Y2:=Lib.hid ((hb2.cell (p:=⟨w.heap.size,5,none⟩) hsz).trans z5)
             have hsz2:w.heap.size < w2.heap.size:=Nat.lt_of_lt_of_le hsz hb2.size
             clear d0 d1 d2 d3 d4 d5 d6 d7 d8 d9 z5 hb2 HC
             cases hxf:x.formB with
             | false =>
               rw [hxf] at HST
               have hr:=HR.out
               rw [Tr.formS_no HST.out] at hr
               subst hr
               clear hxf
               go_wp2
               go_ret
               exact ⟨rfl,HB2.out⟩
             | true =>
               rw [hxf] at HST
               clear hxf
               go_wp2
               exact ⟨⟨m+1,by go_num,by omega,HST,HB2,hsz2,Y2⟩,by simp [intOf];omega⟩
           · obtain rfl:m=us.length:=by omega
             rw [List.take_length] at *
             have hr:=HR.out
             rw [HT.out] at hr
             subst hr
             go_wp2
             go_ret
             exact ⟨rfl,HB.out⟩
     have n5:(k == 5)=false:=by simpa using kk5
     by_cases kk6:k=6
     · subst kk6
       rw [if_pos (by decide)] at hB
       have hl2:decide ((us.length:Int) < 2)=decide (us.length < 2):=by
         by_cases h:us.length < 2
         · rw [decide_eq_true h,decide_eq_true (by omega)]
         · rw [decide_eq_false h,decide_eq_false (by omega)]
       cases Bd with
       | true =>
         have hr:=HR.out
         rw [Bool.not_true,Bool.false_and] at hr
         subst hr
         rw [hB] at hl2
         go_wp2
         go_ret
         exact ⟨rfl,HB2.out⟩
       | false =>
         have hr:=HR.out
         rw [Bool.not_false,Bool.true_and] at hr
         have HR:=Lib.hid hr
         clear hr
         rw [hB] at hl2
         go_wp2
         clear d0 d1 d2 d3 d4 d5 d6 d7 d8 d9
         go_loopw [5] (fun iv wr=>∃ m:Nat,iv=.int .i64 m∧m ≤ us.length∧Hid (Tr.formS (us.take m)=true)∧Hid (Below w.heap.size w wr)∧w.heap.size < wr.heap.size∧Hid (wr.cell? ⟨w.heap.size,5,none⟩=some (.slice p us.length cap))) (fun iv _=>us.length - (intOf iv).toNat)
         case atStart=>exact ⟨0,rfl,Nat.zero_le _,Lib.hid rfl,HB2,hs2,Lib.hid z5⟩
         case round =>
           obtain ⟨m,rfl,hm,HT,HB,hsz,Z0⟩:=hrel
           clear z5
           have wm:IntKind.i64.wrap ((m:Int)+1)=(m:Int)+1:=IntWalk.i64_in _ (by have:=HLen.out;omega)
           by_cases hlt:m < us.length
           · obtain ⟨x,hx⟩:∃ x,us[m]? = some x:=⟨_,List.getElem?_eq_getElem hlt⟩
             obtain ⟨b1,o1,s1,rfl,-,t1,sub1⟩:=HS.out.get hx
             obtain ⟨d0,d1,d2,d3,d4,d5,d6,d7,d8,d9⟩:=t1.keep (HB.out.block _ t1.lt)
             have hmem:=List.mem_of_getElem? hx
             have HC:=Lib.hid (IH.out x hmem wr B (.agg (x.cells s1)) ⟨_,rfl,sub1.later HB.out⟩)
             have hst:=Tr.formS_take us m x hx
             rw [HT.out,Bool.true_and] at hst
             have HST:=Lib.hid hst
             have z5:=Z0.out
             clear t1 sub1 hmem hx hst
             unfold Tr.cells at HC
             go_wp2_with fail
             refine HC.out.mono ?_
             rintro e w2 ⟨rfl,hb2⟩
             have HB2:=Lib.hid (HB.out.trans (hb2.mono HB.out.size));have Y2:=Lib.hid ((hb2.cell (p:=⟨w.heap.size,5,none⟩) hsz).trans z5)
             have hsz2:w.heap.size < w2.heap.size:=Nat.lt_of_lt_of_le hsz hb2.size
             clear d0 d1 d2 d3 d4 d5 d6 d7 d8 d9 z5 hb2 HC
             cases hxf:x.formB with
             | false =>
               rw [hxf] at HST
               have hr:=HR.out
               rw [Tr.formS_no HST.out] at hr
               subst hr
               clear hxf
               go_wp2
               go_ret
               exact ⟨rfl,HB2.out⟩
             | true =>
               rw [hxf] at HST
               clear hxf
               go_wp2
               exact ⟨⟨m+1,by go_num,by omega,HST,HB2,hsz2,Y2⟩,by simp [intOf];omega⟩
           · obtain rfl:m=us.length:=by omega
             rw [List.take_length] at *
             have hr:=HR.out
             rw [HT.out] at hr
             subst hr
             go_wp2
             go_ret
             exact ⟨rfl,HB.out⟩
     have n6:(k == 6)=false:=by simpa using kk6
     by_cases kk7:k=7
     · subst kk7
       rw [if_neg (by decide),if_pos rfl] at hB
       have hl1:((us.length:Int) != 1)=(us.length != 1):=by
         by_cases h:us.length=1
         · rw [h];rfl
         · have e1:(us.length != 1)=true:=by simpa using h
           have e2:((us.length:Int) != 1)=true:=by rw [bne_iff_ne];omega
           rw [e1,e2]
       rcases bool_or (us.length != 1) with q0 | q0
       · rw [q0] at hB hl1
         simp only [Bool.true_or] at hB
         subst hB
         have hr:=HR.out
         rw [Bool.not_true,Bool.false_and] at hr
         subst hr
         go_wp2
         go_ret
         exact ⟨rfl,HB2.out⟩
       rw [q0] at hl1
       rcases bool_or (decide (n < 1)) with q1 | q1
       · rw [q0,q1] at hB
         simp only [Bool.true_or,Bool.or_true] at hB
         subst hB
         have hr:=HR.out
         rw [Bool.not_true,Bool.false_and] at hr
         subst hr
         go_wp2
         go_ret
         exact ⟨rfl,HB2.out⟩
       rcases bool_or (decide (999 < n)) with q2 | q2
       · rw [q0,q1,q2] at hB
         simp only [Bool.or_false,Bool.or_true] at hB
         subst hB
         have hr:=HR.out
         rw [Bool.not_true,Bool.false_and] at hr
         subst hr
         go_wp2
         go_ret
         exact ⟨rfl,HB2.out⟩
       rw [q0,q1,q2] at hB
       simp only [Bool.or_false] at hB
       subst hB
       have hr:=HR.out
       rw [Bool.not_false,Bool.true_and] at hr
       have HR:=Lib.hid hr
       clear hr
       go_wp2
       clear d0 d1 d2 d3 d4 d5 d6 d7 d8 d9
       go_loopw [5] (fun iv wr=>∃ m:Nat,iv=.int .i64 m∧m ≤ us.length∧Hid (Tr.formS (us.take m)=true)∧Hid (Below w.heap.size w wr)∧w.heap.size < wr.heap.size∧Hid (wr.cell? ⟨w.heap.size,5,none⟩=some (.slice p us.length cap))) (fun iv _=>us.length - (intOf iv).toNat)
       case atStart=>exact ⟨0,rfl,Nat.zero_le _,Lib.hid rfl,HB2,hs2,Lib.hid z5⟩
       case round =>
         obtain ⟨m,rfl,hm,HT,HB,hsz,Z0⟩:=hrel
         clear z5
         have wm:IntKind.i64.wrap ((m:Int)+1)=(m:Int)+1:=IntWalk.i64_in _ (by have:=HLen.out;omega)
         by_cases hlt:m < us.length
         · obtain ⟨x,hx⟩:∃ x,us[m]? = some x:=⟨_,List.getElem?_eq_getElem hlt⟩
           obtain ⟨b1,o1,s1,rfl,-,t1,sub1⟩:=HS.out.get hx
           obtain ⟨d0,d1,d2,d3,d4,d5,d6,d7,d8,d9⟩:=t1.keep (HB.out.block _ t1.lt)
           have hmem:=List.mem_of_getElem? hx
           have HC:=Lib.hid (IH.out x hmem wr B (.agg (x.cells s1)) ⟨_,rfl,sub1.later HB.out⟩)
           have hst:=Tr.formS_take us m x hx
           rw [HT.out,Bool.true_and] at hst
           have HST:=Lib.hid hst
           have z5:=Z0.out
           clear t1 sub1 hmem hx hst
           unfold Tr.cells at HC
           go_wp2_with fail
           refine HC.out.mono ?_
           rintro e w2 ⟨rfl,hb2⟩
           have HB2:=Lib.hid (HB.out.trans (hb2.mono HB.out.size));have Y2:=Lib.hid ((hb2.cell (p:=⟨w.heap.size,5,none⟩) hsz).trans z5)
           have hsz2:w.heap.size < w2.heap.size:=Nat.lt_of_lt_of_le hsz hb2.size
           clear d0 d1 d2 d3 d4 d5 d6 d7 d8 d9 z5 hb2 HC
           cases hxf:x.formB with
           | false =>
             rw [hxf] at HST
             have hr:=HR.out
             rw [Tr.formS_no HST.out] at hr
             subst hr
             clear hxf
             go_wp2
             go_ret
             exact ⟨rfl,HB2.out⟩
           | true =>
             rw [hxf] at HST
             clear hxf
             go_wp2
             exact ⟨⟨m+1,by go_num,by omega,HST,HB2,hsz2,Y2⟩,by simp [intOf];omega⟩
         · obtain rfl:m=us.length:=by omega
           rw [List.take_length] at *
           have hr:=HR.out
           rw [HT.out] at hr
           subst hr
           go_wp2
           go_ret
           exact ⟨rfl,HB.out⟩
     have n7:(k == 7)=false:=by simpa using kk7
     by_cases kk8:k=8
     · subst kk8
       rw [if_neg (by decide),if_neg (by decide),if_pos rfl] at hB
       have hl1:((us.length:Int) != 1)=(us.length != 1):=by
         by_cases h:us.length=1
         · rw [h];rfl
         · have e1:(us.length != 1)=true:=by simpa using h
           have e2:((us.length:Int) != 1)=true:=by rw [bne_iff_ne];omega
           rw [e1,e2]
       have HB:=Lib.hid hB
       clear hB
       go_upto_region 16 with (fail)
       go_cut [122] (fun u wx=>u=.bool Bd∧W2=wx)
       case first =>
         have hB:=HB.out
         clear HB HR HS IH HB2 hs2
         rcases bool_or (us.length != 1) with q0 | q0
         · rw [q0] at hB hl1
           subst hB
           go_wp2
           go_meet
           exact ⟨rfl,rfl⟩
         rw [q0] at hl1
         rcases bool_or (decide (lo < 0)) with q1 | q1
         · rw [q0,q1] at hB
           subst hB
           go_wp2
           go_meet
           exact ⟨rfl,rfl⟩
         rcases bool_or (decide (255 < lo)) with q2 | q2
         · rw [q0,q1,q2] at hB
           subst hB
           go_wp2
           go_meet
           exact ⟨rfl,rfl⟩
         rcases bool_or (decide (hi < -1)) with q3 | q3
         · rw [q0,q1,q2,q3] at hB
           subst hB
           go_wp2
           go_meet
           exact ⟨rfl,rfl⟩
         rcases bool_or (decide (255 < hi)) with q4 | q4
         · rw [q0,q1,q2,q3,q4] at hB
           subst hB
           go_wp2
           go_meet
           exact ⟨rfl,rfl⟩
         rcases bool_or (decide (0 ≤ hi)) with q5 | q5 <;> rcases bool_or (decide (hi < lo)) with q6 | q6 <;> rcases bool_or (lo != 0) with q7 | q7 <;> cases br <;> (
           rw [q0,q1,q2,q3,q4,q5,q6,q7] at hB
           subst hB
           go_wp2
           go_meet
           exact ⟨rfl,rfl⟩)
       case rest =>
         obtain ⟨rfl,rfl⟩:=hcut
         clear HB hl1
         cases Bd with
         | true =>
           have hr:=HR.out
           rw [Bool.not_true,Bool.false_and] at hr
           subst hr
           go_wp2
           go_ret
           exact ⟨rfl,HB2.out⟩
         | false =>
           have hr:=HR.out
           rw [Bool.not_false,Bool.true_and] at hr
           have HR:=Lib.hid hr
           clear hr
           go_wp2
           clear d0 d1 d2 d3 d4 d5 d6 d7 d8 d9
           go_loopw [5] (fun iv wr=>∃ m:Nat,iv=.int .i64 m∧m ≤ us.length∧Hid (Tr.formS (us.take m)=true)∧Hid (Below w.heap.size w wr)∧w.heap.size < wr.heap.size∧Hid (wr.cell? ⟨w.heap.size,5,none⟩=some (.slice p us.length cap))) (fun iv _=>us.length - (intOf iv).toNat)
           case atStart=>exact ⟨0,rfl,Nat.zero_le _,Lib.hid rfl,HB2,hs2,Lib.hid z5⟩
           case round =>
             obtain ⟨m,rfl,hm,HT,HB,hsz,Z0⟩:=hrel
             clear z5
             have wm:IntKind.i64.wrap ((m:Int)+1)=(m:Int)+1:=IntWalk.i64_in _ (by have:=HLen.out;omega)
             by_cases hlt:m < us.length
             · obtain ⟨x,hx⟩:∃ x,us[m]? = some x:=⟨_,List.getElem?_eq_getElem hlt⟩
               obtain ⟨b1,o1,s1,rfl,-,t1,sub1⟩:=HS.out.get hx
               obtain ⟨d0,d1,d2,d3,d4,d5,d6,d7,d8,d9⟩:=t1.keep (HB.out.block _ t1.lt)
               have hmem:=List.mem_of_getElem? hx
               have HC:=Lib.hid (IH.out x hmem wr B (.agg (x.cells s1)) ⟨_,rfl,sub1.later HB.out⟩)
               have hst:=Tr.formS_take us m x hx
               rw [HT.out,Bool.true_and] at hst
               have HST:=Lib.hid hst
               have z5:=Z0.out
               clear t1 sub1 hmem hx hst
               unfold Tr.cells at HC
               go_wp2_with fail
               refine HC.out.mono ?_
               rintro e w2 ⟨rfl,hb2⟩
               have HB2:=Lib.hid (HB.out.trans (hb2.mono HB.out.size));have Y2:=Lib.hid ((hb2.cell (p:=⟨w.heap.size,5,none⟩) hsz).trans z5)
               have hsz2:w.heap.size < w2.heap.size:=Nat.lt_of_lt_of_le hsz hb2.size
               clear d0 d1 d2 d3 d4 d5 d6 d7 d8 d9 z5 hb2 HC
               cases hxf:x.formB with
               | false =>
                 rw [hxf] at HST
                 have hr:=HR.out
                 rw [Tr.formS_no HST.out] at hr
                 subst hr
                 clear hxf
                 go_wp2
                 go_ret
                 exact ⟨rfl,HB2.out⟩
               | true =>
                 rw [hxf] at HST
                 clear hxf
                 go_wp2
                 exact ⟨⟨m+1,by go_num,by omega,HST,HB2,hsz2,Y2⟩,by simp [intOf];omega⟩
             · obtain rfl:m=us.length:=by omega
               rw [List.take_length] at *
               have hr:=HR.out
               rw [HT.out] at hr
               subst hr
               go_wp2
               go_ret
               exact ⟨rfl,HB.out⟩
     have n8:(k == 8)=false:=by simpa using kk8
     rw [if_neg (by omega),if_neg kk7,if_neg kk8] at hB
     have hl0:((us.length:Int) != 0)=(us.length != 0):=by
       by_cases h:us.length=0
       · rw [h];rfl
       · have e1:(us.length != 0)=true:=by simpa using h
         have e2:((us.length:Int) != 0)=true:=by rw [bne_iff_ne];omega
         rw [e1,e2]
     cases Bd with
     | true =>
       have hr:=HR.out
       rw [Bool.not_true,Bool.false_and] at hr
       subst hr
       rw [hB] at hl0
       clear kk5 kk6 kk7 kk8
       go_wp2
       go_ret
       exact ⟨rfl,HB2.out⟩
     | false =>
       have hr:=HR.out
       rw [Bool.not_false,Bool.true_and] at hr
       have HR:=Lib.hid hr
       clear hr
       rw [hB] at hl0
       clear kk5 kk6 kk7 kk8
       go_wp2
       clear d0 d1 d2 d3 d4 d5 d6 d7 d8 d9
       go_loopw [5] (fun iv wr=>∃ m:Nat,iv=.int .i64 m∧m ≤ us.length∧Hid (Tr.formS (us.take m)=true)∧Hid (Below w.heap.size w wr)∧w.heap.size < wr.heap.size∧Hid (wr.cell? ⟨w.heap.size,5,none⟩=some (.slice p us.length cap))) (fun iv _=>us.length - (intOf iv).toNat)
       case atStart=>exact ⟨0,rfl,Nat.zero_le _,Lib.hid rfl,HB2,hs2,Lib.hid z5⟩
       case round =>
         obtain ⟨m,rfl,hm,HT,HB,hsz,Z0⟩:=hrel
         clear z5
         have wm:IntKind.i64.wrap ((m:Int)+1)=(m:Int)+1:=IntWalk.i64_in _ (by have:=HLen.out;omega)
         by_cases hlt:m < us.length
         · obtain ⟨x,hx⟩:∃ x,us[m]? = some x:=⟨_,List.getElem?_eq_getElem hlt⟩
           obtain ⟨b1,o1,s1,rfl,-,t1,sub1⟩:=HS.out.get hx
           obtain ⟨d0,d1,d2,d3,d4,d5,d6,d7,d8,d9⟩:=t1.keep (HB.out.block _ t1.lt)
           have hmem:=List.mem_of_getElem? hx
           have HC:=Lib.hid (IH.out x hmem wr B (.agg (x.cells s1)) ⟨_,rfl,sub1.later HB.out⟩)
           have hst:=Tr.formS_take us m x hx
           rw [HT.out,Bool.true_and] at hst
           have HST:=Lib.hid hst
           have z5:=Z0.out
           clear t1 sub1 hmem hx hst
           unfold Tr.cells at HC
           go_wp2_with fail
           refine HC.out.mono ?_
           rintro e w2 ⟨rfl,hb2⟩
           have HB2:=Lib.hid (HB.out.trans (hb2.mono HB.out.size));have Y2:=Lib.hid ((hb2.cell (p:=⟨w.heap.size,5,none⟩) hsz).trans z5)
           have hsz2:w.heap.size < w2.heap.size:=Nat.lt_of_lt_of_le hsz hb2.size
           clear d0 d1 d2 d3 d4 d5 d6 d7 d8 d9 z5 hb2 HC
           cases hxf:x.formB with
           | false =>
             rw [hxf] at HST
             have hr:=HR.out
             rw [Tr.formS_no HST.out] at hr
             subst hr
             clear hxf
             go_wp2
             go_ret
             exact ⟨rfl,HB2.out⟩
           | true =>
             rw [hxf] at HST
             clear hxf
             go_wp2
             exact ⟨⟨m+1,by go_num,by omega,HST,HB2,hsz2,Y2⟩,by simp [intOf];omega⟩
         · obtain rfl:m=us.length:=by omega
           rw [List.take_length] at *
           have hr:=HR.out
           rw [HT.out] at hr
           subst hr
           go_wp2
           go_ret
           exact ⟨rfl,HB.out⟩
theorem refform_any:∀ t:Tr,∀ (w:World) (B:Nat→Prop) (v:Value),NodeV w B v t→Calls Tryz.prog 80 #[v] w fun e w'=>e=.returned (.bool t.formB)∧Below w.heap.size w w':=by
 intro t
 induction t using Tr.rec_subs with
 | h t ih =>
   intro w B v hv
   obtain ⟨s,rfl,hs⟩:=hv
   obtain ⟨p,cap,rfl,hlen⟩:=hs.slice
   have h:=refform_step t.kind t.w0 t.w1 t.w2 t.w3 t.subs t.num t.least t.most t.bare p cap t.usedT.w0 t.usedT.w1 t.usedT.w2 t.usedT.w3 t.usedT.num t.usedT.least t.usedT.most t.usedT.bare w B (Lib.hid (fun w=>refused_any t _ ⟨p,t.subs.length,cap,rfl⟩ w)) (Lib.hid hs) hlen (Lib.hid (fun x hx w B v hv=>ih x hx w B v hv))
   rw [Tr.formB_eq,Tr.fieldsB_ref]
   exact h
end Go.Proofs.YtnfdknhhkdphhaaGreatDoor
namespace Go.Proofs.YtnfdknhhkdphhaaGreatDoor
open Go.RowKit
theorem Tr.dpT_ref (t:Tr):t.dpT=Tr.dpS t.subs+(if (((t.kind == 8) && decide (0 < t.subs.length)) && !((t.least == 0) && ((t.most == 1) || (t.most == -1))))=true then 2 else 1):=by
 rw [Tr.dpT_eq]
 by_cases h0:t.subs.length=0
 · have e:t.subs=[]:=List.length_eq_zero_iff.1 h0
   rw [if_pos h0,e]
   simp [Tr.dpS]
 · rw [if_neg h0]
   have e:decide (0 < t.subs.length)=true:=by rw [decide_eq_true_eq];omega
   rw [e]
   congr 1
   have:(t.kind=8∧¬ (t.least=0∧(t.most=1 ∨ t.most = -1))) ↔ ((((t.kind == 8) && true) && !((t.least == 0) && ((t.most == 1) || (t.most == -1))))=true):=by by_cases a:t.least=0 <;> simp [a]
   by_cases h:t.kind=8∧¬ (t.least=0∧(t.most=1 ∨ t.most = -1))
   · rw [if_pos h,if_pos (this.1 h)]
   · rw [if_neg h,if_neg (fun h2=>h (this.2 h2))]
theorem refdepth_any:∀ t:Tr,t.dpT ≤ 1000000→∀ (w:World) (B:Nat→Prop) (v:Value),NodeV w B v t→Calls Tryz.prog 81 #[v] w (SizeEnd t.dpT w):=by
 intro t
 induction t using Tr.rec_subs with
 | h t ih =>
   intro hd w B v hv
   obtain ⟨s,rfl,hs⟩:=hv
   obtain ⟨p,cap,rfl,hlen⟩:=hs.slice
   have heq:=Tr.dpT_ref t
   rw [heq] at hd ⊢
   clear heq
   generalize hts:t.subs=ts at *
   have IH:=Lib.hid ih;have HS:=Lib.hid hs
   clear ih hs hts
   unfold Tr.cells at *
   have hle:Tr.dpS ts ≤ 1000000:=by omega
   generalize hD:Tr.dpS ts+(if (((t.kind == 8) && decide (0 < ts.length)) && !((t.least == 0) && ((t.most == 1) || (t.most == -1))))=true then 2 else 1)=D at *
   have HDE:=Lib.hid hD
   have Z0:=Lib.hid (heap_alloc_new w (.cells #[.int .i64 t.kind,.int .u64 (Oc.U t.w0),.int .u64 (Oc.U t.w1),.int .u64 (Oc.U t.w2),.int .u64 (Oc.U t.w3),.slice p ts.length cap,.int .i64 t.num,.int .i64 t.least,.int .i64 t.most,.bool t.bare] 28))
   have HW:=Lib.hid (show Below w.heap.size w (w.alloc (.cells #[.int .i64 t.kind,.int .u64 (Oc.U t.w0),.int .u64 (Oc.U t.w1),.int .u64 (Oc.U t.w2),.int .u64 (Oc.U t.w3),.slice p ts.length cap,.int .i64 t.num,.int .i64 t.least,.int .i64 t.most,.bool t.bare] 28)) from (Below.refl _ _).alloc (Nat.le_refl _) _)
   have hz:w.heap.size < (w.alloc (.cells #[.int .i64 t.kind,.int .u64 (Oc.U t.w0),.int .u64 (Oc.U t.w1),.int .u64 (Oc.U t.w2),.int .u64 (Oc.U t.w3),.slice p ts.length cap,.int .i64 t.num,.int .i64 t.least,.int .i64 t.most,.bool t.bare] 28)).heap.size:=by simp
   have HD:=Lib.hid hd
   clear hd hD
   go_enter Tryz.func81,Tryz.ntmps81
   go_wp2
   generalize w.alloc (.cells #[.int .i64 t.kind,.int .u64 (Oc.U t.w0),.int .u64 (Oc.U t.w1),.int .u64 (Oc.U t.w2),.int .u64 (Oc.U t.w3),.slice p ts.length cap,.int .i64 t.num,.int .i64 t.least,.int .i64 t.most,.bool t.bare] 28)=W0 at *
   go_loopw [3,4] (fun gv iv wr=>∃ m:Nat,iv=.int .i64 m∧m ≤ ts.length∧gv=.int .i64 (Tr.dpS (ts.take m):Nat)∧Hid (Below W0.heap.size W0 wr)) (fun _ iv _=>ts.length - (intOf iv).toNat)
   case atStart=>exact ⟨0,rfl,Nat.zero_le _,rfl,Lib.hid (Below.refl _ _)⟩
   case round =>
     obtain ⟨m,rfl,hm,rfl,HB⟩:=hrel
     have wm:IntKind.i64.wrap ((m:Int)+1)=(m:Int)+1:=IntWalk.i64_in _ (by omega)
     have HBW:=Lib.hid (HW.out.trans (HB.out.mono HW.out.size))
     have Z1:=Lib.hid (keep_blk (HB.out.mono (Nat.le_refl _)) Z0.out)
     have z5:=(allTen Z1.out).2.2.2.2.2.1
     by_cases hlt:m < ts.length
     · obtain ⟨x,hx⟩:∃ x,ts[m]? = some x:=⟨_,List.getElem?_eq_getElem hlt⟩
       obtain ⟨b1,o1,s1,rfl,-,t1,sub1⟩:=HS.out.get hx
       obtain ⟨d0,d1,d2,d3,d4,d5,d6,d7,d8,d9⟩:=t1.keep (HBW.out.block _ t1.lt)
       have hmem:=List.mem_of_getElem? hx
       obtain ⟨p1,c1,rfl,hl1⟩:=sub1.slice
       have hdx:x.dpT ≤ 1000000:=by have:=Tr.dpT_le_dpS hmem;omega
       have HC:=Lib.hid (fun w9 hb=>IH.out x hmem hdx w9 B (.agg (x.cells (.slice p1 x.subs.length c1))) ⟨_,rfl,sub1.later hb⟩)
       have HSTP:=Lib.hid (Tr.dpS_take ts m x hx)
       clear t1 sub1 hmem hx hdx
       generalize hn:Tr.dpS (ts.take m)=n at *
       clear hn
       unfold Tr.cells at HC
       go_wp2_with fail
       refine (HC.out wr HBW.out).mono ?_
       rintro e w2 ⟨rfl,hb2⟩
       have HB2:=Lib.hid (HB.out.trans (hb2.mono HB.out.size))
       clear d0 d1 d2 d3 d4 d5 d6 d7 d8 d9 z5 hb2 HC
       generalize x.dpT=N at *
       go_wp2
       all_goals
         exact ⟨⟨m+1,by go_num,by omega,by rw [HSTP.out];simp;try omega,HB2⟩,by simp [intOf];omega⟩
     · obtain rfl:m=ts.length:=by omega
       rw [List.take_length] at *
       have w2':IntKind.i64.wrap ((Tr.dpS ts:Int)+2)=(Tr.dpS ts:Int)+2:=IntWalk.i64_in _ (by omega)
       have w1':IntKind.i64.wrap ((Tr.dpS ts:Int)+1)=(Tr.dpS ts:Int)+1:=IntWalk.i64_in _ (by omega)
       have hde:=HDE.out
       clear z5
       obtain ⟨d0,d1,d2,d3,d4,d5,d6,d7,d8,d9⟩:=allTen Z1.out
       have hl:decide ((0:Int) < ts.length)=decide (0 < ts.length):=by
         by_cases h:0 < ts.length
         · rw [decide_eq_true h,decide_eq_true (by omega)]
         · rw [decide_eq_false h,decide_eq_false (by omega)]
       rcases bool_or (t.kind == 8) with q1 | q1 <;> rcases bool_or (decide (0 < ts.length)) with q2 | q2 <;> rcases bool_or (t.least == 0) with q3 | q3 <;> rcases bool_or (t.most == 1) with q4 | q4 <;> rcases bool_or (t.most == -1) with q5 | q5 <;> (
         rw [q1,q2,q3,q4,q5] at hde
         rw [q2] at hl
         simp only [Bool.and_true,Bool.and_false,Bool.or_true,Bool.or_false,Bool.not_true,Bool.not_false,if_true,if_false,Bool.false_eq_true] at hde
         have HDF:=Lib.hid hde
         clear hde
         go_wp2
         go_ret
         exact ⟨ret_int (by have:=HDF.out;omega),HBW.out⟩)
theorem refcheck_any (t:Tr) (hd:t.dpT ≤ 1000000) (w:World) (B:Nat→Prop) (v:Value) (hv:NodeV w B v t):Calls Tryz.prog 40 #[v] w (SizeEnd t.checkC w):=by
 obtain ⟨s,rfl,hs⟩:=hv
 have H1:=Lib.hid (fun w' hb=>refform_any t w' B (.agg (t.cells s)) ⟨s,rfl,TreesAt.later (w':=w') hs hb⟩)
 have H2:=Lib.hid (fun w' hb=>refdepth_any t hd w' B (.agg (t.cells s)) ⟨s,rfl,TreesAt.later (w':=w') hs hb⟩)
 have H3:=Lib.hid (fun (hf:t.InForm) w' hb=>refsize_any t hf w' B (.agg (t.cells s)) ⟨s,rfl,TreesAt.later (w':=w') hs hb⟩)
 obtain ⟨p,cap,rfl,hlen⟩:=hs.slice
 have Z0:=Lib.hid (heap_alloc_new w (.cells (t.cells (.slice p t.subs.length cap)) 28))
 have hfi:=Tr.formB_iff t
 have HFI:=Lib.hid hfi
 have HCC:=Lib.hid (show t.checkC=if t.formB=false then 13 else if 200 < t.dpT then 14 else if 2000 < t.szT then 10 else 0 from rfl)
 clear hs hd hfi
 unfold Tr.cells at *
 go_enter Tryz.func40,Tryz.ntmps40
 go_wp2_with (first
   | (refine wpList_load_row rfl 28 (.tmp 1) rfl w.heap.size rfl 28 _ (0,0) _ Z0.out Tryz.underlying28 rfl (by kernel_rfl) ?_)
   | fail)
 refine (H1.out _ ((Below.refl _ _).alloc (Nat.le_refl _) _)).mono ?_
 rintro e w1 ⟨rfl,hb1⟩
 have Z1:=Lib.hid (keep_blk hb1 Z0.out)
 have HB1:=Lib.hid (((Below.refl w.heap.size w).alloc (Nat.le_refl _) _).trans (hb1.mono (by simp)))
 clear hb1 Z0
 have hcc:=HCC.out
 cases hfb:t.formB with
 | false =>
   rw [if_pos hfb] at hcc
   have HCV:=Lib.hid hcc
   clear hcc HCC HFI hfb
   go_wp2
   go_ret
   exact ⟨ret_int (by rw [HCV.out];rfl),HB1.out⟩
 | true =>
   have hform:=HFI.out.1 hfb
   have H3':=Lib.hid (H3.out hform)
   rw [if_neg (by rw [hfb];decide)] at hcc
   have HC2:=Lib.hid hcc
   clear hcc HCC HFI hfb hform H3
   go_wp2_with (first
     | (refine wpList_load_row rfl 28 (.tmp 1) rfl w.heap.size rfl 28 _ (0,0) _ Z1.out Tryz.underlying28 rfl (by kernel_rfl) ?_)
     | fail)
   refine (H2.out _ HB1.out).mono ?_
   rintro e w2 ⟨rfl,hb2⟩
   have Z2:=Lib.hid (keep_blk hb2 Z1.out)
   have HB2:=Lib.hid (HB1.out.trans (hb2.mono HB1.out.size))
   clear hb2 Z1
   have hcc:=HC2.out
   by_cases hd:200 < t.dpT
   · rw [if_pos hd] at hcc
     have HCV:=Lib.hid hcc
     have e1:decide ((200:Int) < t.dpT)=true:=by simp;omega
     have e1':decide (200 < t.dpT)=true:=by simpa using hd
     clear hcc HC2 hd
     generalize t.dpT=D at *
     go_wp2
     go_ret
     exact ⟨ret_int (by rw [HCV.out];rfl),HB2.out⟩
   · have e1:decide ((200:Int) < t.dpT)=false:=by simp;omega
     have e1':decide (200 < t.dpT)=false:=by simpa using hd
     rw [if_neg hd] at hcc
     have HC3:=Lib.hid hcc
     clear hcc HC2 hd
     generalize t.dpT=D at *
     go_wp2_with (first
       | (refine wpList_load_row rfl 28 (.tmp 1) rfl w.heap.size rfl 28 _ (0,0) _ Z2.out Tryz.underlying28 rfl (by kernel_rfl) ?_)
       | fail)
     refine (H3'.out _ HB2.out).mono ?_
     rintro e w3 ⟨rfl,hb3⟩
     have HB3:=Lib.hid (HB2.out.trans (hb3.mono HB2.out.size))
     clear hb3 Z2
     have hcc:=HC3.out
     by_cases hz:2000 < t.szT
     · rw [if_pos hz] at hcc
       have HCV:=Lib.hid hcc
       have z1:decide ((2000:Int) < t.szT)=true:=by simp;omega
       have z1':decide (2000 < t.szT)=true:=by simpa using hz
       clear hcc HC3 hz
       generalize t.szT=ZT at *
       go_wp2
       go_ret
       exact ⟨ret_int (by rw [HCV.out];rfl),HB3.out⟩
     · rw [if_neg hz] at hcc
       have HCV:=Lib.hid hcc
       have z1:decide ((2000:Int) < t.szT)=false:=by simp;omega
       have z1':decide (2000 < t.szT)=false:=by simpa using hz
       clear hcc HC3 hz
       generalize t.szT=ZT at *
       go_wp2
       go_ret
       exact ⟨ret_int (by rw [HCV.out];rfl),HB3.out⟩
end Go.Proofs.YtnfdknhhkdphhaaGreatDoor
namespace Go.Proofs.YtnfdknhhkdphhaaGreatDoor
open Go.RowKit
def countedTo (l:List Int):Nat→Bool
 | 0=>true
 | m+1=>countedTo l m && (l[m]? == some ((m:Int)+1))
theorem countedTo_iff (l:List Int):∀ m,countedTo l m=true ↔ ∀ i,i < m→l[i]? = some ((i:Int)+1)
 | 0=>by simp [countedTo]
 | m+1=>by
   rw [countedTo,Bool.and_eq_true,countedTo_iff l m,beq_iff_eq]
   constructor
   · rintro ⟨h1,h2⟩ i hi
     by_cases h:i=m
     · rw [h];exact h2
     · exact h1 i (by omega)
   · intro h;exact ⟨fun i hi=>h i (by omega),h m (by omega)⟩
def Tr.tidyB (t:Tr):Bool:=decide (t.checkC=0) && (t.shapeT && countedTo t.numsT t.numsT.length)
theorem reftidy_any (t:Tr) (hl:t.numsT.length ≤ 1000000) (hd:t.dpT ≤ 1000000) (w:World) (B:Nat→Prop) (v:Value) (hv:NodeV w B v t):Calls Tryz.prog 19 #[v] w fun e w'=>e=.returned (.bool t.tidyB)∧Below w.heap.size w w':=by
 obtain ⟨s,rfl,hs⟩:=hv
 obtain ⟨p,cap,rfl,hlen⟩:=hs.slice
 have H0:=Lib.hid (fun w' (hb:Below w.heap.size w w')=>refcheck_any t hd w' B (.agg (t.cells (.slice p t.subs.length cap))) ⟨_,rfl,TreesAt.later (w':=w') hs hb⟩)
 have H1:=Lib.hid (fun w' (hb:Below w.heap.size w w')=>refkinds_any t w' B (.agg (t.cells (.slice p t.subs.length cap))) ⟨_,rfl,TreesAt.later (w':=w') hs hb⟩)
 have H2:=Lib.hid (fun w' (hb:Below w.heap.size w w')=>refnumbers_any t hl w' B (.agg (t.cells (.slice p t.subs.length cap))) ⟨_,rfl,TreesAt.later (w':=w') hs hb⟩)
 obtain ⟨R,hR⟩:∃ R,t.tidyB=R:=⟨_,rfl⟩
 rw [hR]
 unfold Tr.tidyB at hR
 have HR:=Lib.hid hR
 clear hs hd hR
 unfold Tr.cells at *
 generalize t.subs=ts at *
 generalize t.numsT=L at *
 generalize t.shapeT=S at *
 generalize t.checkC=C at *
 have Z0:=Lib.hid (heap_alloc_new w (.cells #[.int .i64 t.kind,.int .u64 (Oc.U t.w0),.int .u64 (Oc.U t.w1),.int .u64 (Oc.U t.w2),.int .u64 (Oc.U t.w3),.slice p ts.length cap,.int .i64 t.num,.int .i64 t.least,.int .i64 t.most,.bool t.bare] 28))
 have HW:=Lib.hid (show Below w.heap.size w (w.alloc (.cells #[.int .i64 t.kind,.int .u64 (Oc.U t.w0),.int .u64 (Oc.U t.w1),.int .u64 (Oc.U t.w2),.int .u64 (Oc.U t.w3),.slice p ts.length cap,.int .i64 t.num,.int .i64 t.least,.int .i64 t.most,.bool t.bare] 28)) from (Below.refl _ _).alloc (Nat.le_refl _) _)
 go_enter Tryz.func19,Tryz.ntmps19
 go_wp2_with (first
   | (refine wpList_load_row rfl 28 (.tmp 1) rfl w.heap.size rfl 28 _ (0,0) _ Z0.out Tryz.underlying28 rfl (by kernel_rfl) ?_)
   | fail)
 refine (H0.out _ HW.out).mono ?_
 rintro e w1 ⟨rfl,hb1⟩
 have Z1:=Lib.hid (keep_blk (hb1.mono (Nat.le_refl _)) Z0.out)
 have HB1:=Lib.hid (HW.out.trans (hb1.mono HW.out.size))
 clear hb1 Z0 HW
 by_cases hc:C=0
 · subst hc
   have hr:=HR.out
   rw [decide_eq_true rfl,Bool.true_and] at hr
   have HR2:=Lib.hid hr
   clear hr HR
   go_wp2_with (first
     | (refine wpList_load_row rfl 28 (.tmp 1) rfl w.heap.size rfl 28 _ (0,0) _ Z1.out Tryz.underlying28 rfl (by kernel_rfl) ?_)
     | fail)
   refine (H1.out _ HB1.out).mono ?_
   rintro e w2 ⟨rfl,hb2⟩
   have Z2:=Lib.hid (keep_blk hb2 Z1.out)
   have HB2:=Lib.hid (HB1.out.trans (hb2.mono HB1.out.size))
   clear hb2 Z1
   go_wp2_with (first
     | (refine wpList_load_row rfl 28 (.tmp 1) rfl w.heap.size rfl 28 _ (0,0) _ Z2.out Tryz.underlying28 rfl (by kernel_rfl) ?_)
     | fail)
   refine (H2.out _ HB2.out).mono ?_
   rintro e w3 ⟨v1,rfl,ho1,hb3⟩
   obtain ⟨p1,c1,rfl,hn1,hcl1,hg1⟩:=owns_slice ho1
   have HB3:=Lib.hid (HB2.out.trans (hb3.mono HB2.out.size))
   have HCL:=Lib.hid hcl1;have HN:=Lib.hid hn1;have HG:=Lib.hid hg1
   clear hb3 Z2 ho1 hcl1 hn1 hg1
   go_wp2
   go_loopw [3,5] (fun ov iv wr=>∃ m:Nat,iv=.int .i64 m∧m ≤ L.length∧ov=.bool (S && countedTo L m)∧w3=wr) (fun _ iv _=>L.length - (intOf iv).toNat)
   case atStart=>exact ⟨0,rfl,Nat.zero_le _,by rw [countedTo,Bool.and_true],rfl⟩
   case round =>
     obtain ⟨m,rfl,hm,rfl,rfl⟩:=hrel
     have wm:IntKind.i64.wrap ((m:Int)+1)=(m:Int)+1:=IntWalk.i64_in _ (by omega)
     by_cases hlt:m < L.length
     · obtain ⟨x,hx⟩:∃ x,L[m]? = some x:=⟨_,List.getElem?_eq_getElem hlt⟩
       have hst:(S && countedTo L (m+1))=((S && countedTo L m) && (x == (m:Int)+1)):=by
         rw [countedTo,hx,Bool.and_assoc];rfl
       have HST:=Lib.hid hst
       clear hst
       generalize (S && countedTo L m)=OK at *
       cases p1 with
       | none=>have:=(HN.out rfl).1;omega
       | some ad =>
         obtain ⟨g,rfl,-⟩:=HG.out ad rfl
         have hc1:=HCL.out _ rfl m (.int .i64 x) (by unfold intCells;rw [List.getElem?_map,hx];rfl)
         have ea:(⟨g,0,none⟩:Addr).add m=⟨g,m,none⟩:=by unfold Addr.add;split <;> simp_all
         rw [ea] at hc1
         clear ea hx
         cases OK with
         | true =>
           go_wp2
           exact ⟨⟨m+1,by go_num,by omega,by rw [HST.out,Bool.true_and],trivial⟩,by simp [intOf];omega⟩
         | false =>
           go_wp2
           exact ⟨⟨m+1,by go_num,by omega,by rw [HST.out,Bool.false_and],trivial⟩,by simp [intOf];omega⟩
     · obtain rfl:m=L.length:=by omega
       have hr:=HR2.out
       rw [hr]
       go_wp2
       go_ret
       exact ⟨rfl,HB3.out⟩
 · have hr:=HR.out
   rw [decide_eq_false hc,Bool.false_and] at hr
   subst hr
   have e1:((C:Int) != 0)=true:=by rw [bne_iff_ne];omega
   have e2:(C != 0)=true:=by rw [bne_iff_ne];omega
   have e3:(C == 0)=false:=by rw [beq_eq_false_iff_ne];omega
   clear hc HR
   go_wp2
   go_ret
   exact ⟨rfl,HB1.out⟩
end Go.Proofs.YtnfdknhhkdphhaaGreatDoor
namespace Go.Proofs.YtnfdknhhkdphhaaGreatDoor
open Go.RowKit
theorem countedTo_no {l:List Int} {m:Nat} (h:countedTo l m=false) (hm:m ≤ l.length):countedTo l l.length=false:=by
 cases hc:countedTo l l.length with
 | false=>rfl
 | true =>
   rw [countedTo_iff] at hc
   have:countedTo l m=true:=(countedTo_iff l m).2 fun i hi=>hc i (by omega)
   rw [this] at h;cases h
theorem isspellable_any (t:Tr) (hl:t.numsT.length ≤ 1000000) (w:World) (B:Nat→Prop) (v:Value) (hv:NodeV w B v t):Calls Tryz.prog 35 #[v] w fun e w'=>e=.returned (.bool (t.shapeT && countedTo t.numsT t.numsT.length))∧Below w.heap.size w w':=by
 obtain ⟨s,rfl,hs⟩:=hv
 obtain ⟨p,cap,rfl,hlen⟩:=hs.slice
 have H1:=Lib.hid (fun w' (hb:Below w.heap.size w w')=>numbers_any t hl w' B (.agg (t.cells (.slice p t.subs.length cap))) ⟨_,rfl,TreesAt.later (w':=w') hs hb⟩)
 have H2:=Lib.hid (fun w' (hb:Below w.heap.size w w')=>hasshape_any t w' B (.agg (t.cells (.slice p t.subs.length cap))) ⟨_,rfl,TreesAt.later (w':=w') hs hb⟩)
 clear hs
 unfold Tr.cells at *
 generalize t.subs=ts at *
 generalize t.numsT=L at *
 generalize t.shapeT=D at *
 obtain ⟨R,hR⟩:∃ R,(D && countedTo L L.length)=R:=⟨_,rfl⟩
 rw [hR]
 have HR:=Lib.hid hR
 clear hR
 have Z0:=Lib.hid (heap_alloc_new w (.cells #[.int .i64 t.kind,.int .u64 (Oc.U t.w0),.int .u64 (Oc.U t.w1),.int .u64 (Oc.U t.w2),.int .u64 (Oc.U t.w3),.slice p ts.length cap,.int .i64 t.num,.int .i64 t.least,.int .i64 t.most,.bool t.bare] 28))
 have HW:=Lib.hid (show Below w.heap.size w (w.alloc (.cells #[.int .i64 t.kind,.int .u64 (Oc.U t.w0),.int .u64 (Oc.U t.w1),.int .u64 (Oc.U t.w2),.int .u64 (Oc.U t.w3),.slice p ts.length cap,.int .i64 t.num,.int .i64 t.least,.int .i64 t.most,.bool t.bare] 28)) from (Below.refl _ _).alloc (Nat.le_refl _) _)
 go_enter Tryz.func35,Tryz.ntmps35
 go_wp2_with (first
   | (refine wpList_load_row rfl 28 (.tmp 1) rfl w.heap.size rfl 28 _ (0,0) _ Z0.out Tryz.underlying28 rfl (by kernel_rfl) ?_)
   | fail)
 refine (H1.out _ HW.out).mono ?_
 rintro e w1 ⟨v1,rfl,ho1,hb1⟩
 obtain ⟨p1,c1,rfl,hn1,hcl1,hg1⟩:=owns_slice ho1
 have Z1:=Lib.hid (keep_blk (hb1.mono (Nat.le_refl _)) Z0.out)
 have HB1:=Lib.hid (HW.out.trans (hb1.mono HW.out.size))
 have hz1:w.heap.size < w1.heap.size:=(Array.getElem?_eq_some_iff.1 Z1.out).1
 have HCL:=Lib.hid hcl1;have HN:=Lib.hid hn1;have HG:=Lib.hid hg1
 clear hb1 Z0 ho1 hcl1 hn1 hg1
 go_wp2
 go_loopw [8] (fun iv wr=>∃ m:Nat,iv=.int .i64 m∧m ≤ L.length∧Hid (countedTo L m=true)∧w1=wr) (fun iv _=>L.length - (intOf iv).toNat)
 case atStart=>exact ⟨0,rfl,Nat.zero_le _,Lib.hid rfl,rfl⟩
 case round =>
   obtain ⟨m,rfl,hm,HT,rfl⟩:=hrel
   have wm:IntKind.i64.wrap ((m:Int)+1)=(m:Int)+1:=IntWalk.i64_in _ (by omega)
   by_cases hlt:m < L.length
   · obtain ⟨x,hx⟩:∃ x,L[m]? = some x:=⟨_,List.getElem?_eq_getElem hlt⟩
     have hst:countedTo L (m+1)=(x == (m:Int)+1):=by
       rw [countedTo,HT.out,hx,Bool.true_and];rfl
     have HST:=Lib.hid hst
     clear hst
     cases p1 with
     | none=>have:=(HN.out rfl).1;omega
     | some ad =>
       obtain ⟨g,rfl,-⟩:=HG.out ad rfl
       have hc1:=HCL.out _ rfl m (.int .i64 x) (by unfold intCells;rw [List.getElem?_map,hx];rfl)
       have ea:(⟨g,0,none⟩:Addr).add m=⟨g,m,none⟩:=by unfold Addr.add;split <;> simp_all
       rw [ea] at hc1
       clear ea hx
       by_cases hxm:x=(m:Int)+1
       · have e1:(x != (m:Int)+1)=false:=by rw [bne_eq_false_iff_eq];exact hxm
         have hst:=HST.out
         rw [beq_iff_eq.2 hxm] at hst
         have HST2:=Lib.hid hst
         clear hst hxm
         go_wp2
         exact ⟨⟨m+1,by go_num,by omega,HST2,trivial⟩,by simp [intOf];omega⟩
       · have e1:(x != (m:Int)+1)=true:=by rw [bne_iff_ne];exact hxm
         have hst:=HST.out
         rw [beq_eq_false_iff_ne.2 hxm] at hst
         have hr:=HR.out
         rw [countedTo_no hst (by omega),Bool.and_false] at hr
         subst hr
         clear hst hxm
         go_wp2
         go_ret
         exact ⟨rfl,HB1.out⟩
   · obtain rfl:m=L.length:=by omega
     have hr:=HR.out
     rw [HT.out,Bool.and_true] at hr
     subst hr
     go_wp2_with (first
       | (refine wpList_load_row rfl 28 (.tmp 1) rfl w.heap.size rfl 28 _ (0,0) _ Z1.out Tryz.underlying28 rfl (by kernel_rfl) ?_)
       | fail)
     refine (H2.out _ HB1.out).mono ?_
     rintro e w2 ⟨rfl,hb2⟩
     have HB2:=Lib.hid (HB1.out.trans (hb2.mono HB1.out.size))
     clear hb2
     go_wp2
     go_ret
     exact ⟨rfl,HB2.out⟩
theorem tidy_any (A:Nat→Addr) (t:Tr) (hl:t.numsT.length ≤ 1000000) (hd:t.dpT ≤ 1000000) (w:World) (hE:Errs w A) (B:Nat→Prop) (v:Value) (hv:NodeV w B v t):Calls Tryz.prog 18 #[v] w fun e w'=>e=.returned (.bool t.tidyB)∧Below w.heap.size w w':=by
 obtain ⟨s,rfl,hs⟩:=hv
 have H1:=Lib.hid (fun w' (hb:Below w.heap.size w w')=>treecheck_any A t hd w' (hE.below hb) B (.agg (t.cells s)) ⟨s,rfl,TreesAt.later (w':=w') hs hb⟩)
 have H2:=Lib.hid (fun w' (hb:Below w.heap.size w w')=>isspellable_any t hl w' B (.agg (t.cells s)) ⟨s,rfl,TreesAt.later (w':=w') hs hb⟩)
 obtain ⟨R,hR⟩:∃ R,t.tidyB=R:=⟨_,rfl⟩
 rw [hR]
 unfold Tr.tidyB at hR
 obtain ⟨p,cap,rfl,hlen⟩:=hs.slice
 generalize (t.shapeT && countedTo t.numsT t.numsT.length)=SP at *
 generalize hC:t.checkC=C at *
 have HR:=Lib.hid hR
 clear hs hR hE
 unfold Tr.cells at *
 generalize t.subs=ts at *
 have Z0:=Lib.hid (heap_alloc_new w (.cells #[.int .i64 t.kind,.int .u64 (Oc.U t.w0),.int .u64 (Oc.U t.w1),.int .u64 (Oc.U t.w2),.int .u64 (Oc.U t.w3),.slice p ts.length cap,.int .i64 t.num,.int .i64 t.least,.int .i64 t.most,.bool t.bare] 28))
 have HW:=Lib.hid (show Below w.heap.size w (w.alloc (.cells #[.int .i64 t.kind,.int .u64 (Oc.U t.w0),.int .u64 (Oc.U t.w1),.int .u64 (Oc.U t.w2),.int .u64 (Oc.U t.w3),.slice p ts.length cap,.int .i64 t.num,.int .i64 t.least,.int .i64 t.most,.bool t.bare] 28)) from (Below.refl _ _).alloc (Nat.le_refl _) _)
 by_cases hc:C=0
 · have hr:=HR.out
   rw [decide_eq_true hc,Bool.true_and] at hr
   subst hr
   have HV:=Lib.hid (show sentV A C=.nilIface by unfold sentV;rw [if_pos hc])
   clear hc HR
   go_enter Tryz.func18,Tryz.ntmps18
   go_wp2_with (first
     | (refine wpList_load_row rfl 28 (.tmp 1) rfl w.heap.size rfl 28 _ (0,0) _ Z0.out Tryz.underlying28 rfl (by kernel_rfl) ?_)
     | fail)
   refine (H1.out _ HW.out).mono ?_
   rintro e w1 ⟨rfl,hb1⟩
   rw [HV.out]
   have Z1:=Lib.hid (keep_blk (hb1.mono (Nat.le_refl _)) Z0.out)
   have HB1:=Lib.hid (HW.out.trans (hb1.mono HW.out.size))
   obtain ⟨d0,d1,d2,d3,d4,d5,d6,d7,d8,d9⟩:=allTen Z1.out
   clear hb1 Z0 H1 HV
   go_wp2_with fail
   refine (H2.out _ HB1.out).mono ?_
   rintro e w2 ⟨rfl,hb2⟩
   have HB2:=Lib.hid (HB1.out.trans (hb2.mono HB1.out.size))
   clear hb2
   go_wp2
   go_ret
   exact ⟨rfl,HB2.out⟩
 · have hr:=HR.out
   rw [decide_eq_false hc,Bool.false_and] at hr
   subst hr
   have HV:=Lib.hid (show sentV A C=.iface 232 (.pointer (some (A (C - 1)))) by unfold sentV;rw [if_neg hc])
   clear hc HR
   go_enter Tryz.func18,Tryz.ntmps18
   go_wp2_with (first
     | (refine wpList_load_row rfl 28 (.tmp 1) rfl w.heap.size rfl 28 _ (0,0) _ Z0.out Tryz.underlying28 rfl (by kernel_rfl) ?_)
     | fail)
   refine (H1.out _ HW.out).mono ?_
   rintro e w1 ⟨rfl,hb1⟩
   rw [HV.out]
   have HB1:=Lib.hid (HW.out.trans (hb1.mono HW.out.size))
   clear hb1 Z0 H1 HV
   go_wp2
   go_ret
   exact ⟨rfl,HB1.out⟩
end Go.Proofs.YtnfdknhhkdphhaaGreatDoor
namespace Go.Proofs.YtnfdknhhkdphhaaGreatDoor
open Go.RowKit
theorem drewn_below {base:Nat} {w0 w1:World} (h:Below base w0 w1) (n:Nat):Below base w0 (w1.drewN n):=h.trans ⟨rfl,rfl,rfl,Nat.le_refl _,fun _ _=>rfl⟩
def EreNo (A:Nat→Addr) (c:Nat) (w:World) (e:Ending) (w':World):Prop:=e=.returned (.tuple #[.string ⟨#[]⟩,sentV A c])∧Below w.heap.size w w'
theorem ere_check (A:Nat→Addr) (t:Tr) (hd:t.dpT ≤ 1000000) (hc:t.checkC ≠ 0) (w:World) (hE:Errs w A) (B:Nat→Prop) (v:Value) (hv:NodeV w B v t):Calls Tryz.prog 16 #[v] w (EreNo A t.checkC w):=by
 obtain ⟨s,rfl,hs⟩:=hv
 have H1:=Lib.hid (fun w' (hb:Below w.heap.size w w')=>treecheck_any A t hd w' (hE.below hb) B (.agg (t.cells s)) ⟨s,rfl,TreesAt.later (w':=w') hs hb⟩)
 obtain ⟨p,cap,rfl,hlen⟩:=hs.slice
 generalize hC:t.checkC=C at *
 have HV:=Lib.hid (show sentV A C=.iface 232 (.pointer (some (A (C - 1)))) by unfold sentV;rw [if_neg hc])
 clear hs hE hc
 unfold Tr.cells at *
 generalize t.subs=ts at *
 have Z0:=Lib.hid (heap_alloc_new w (.cells #[.int .i64 t.kind,.int .u64 (Oc.U t.w0),.int .u64 (Oc.U t.w1),.int .u64 (Oc.U t.w2),.int .u64 (Oc.U t.w3),.slice p ts.length cap,.int .i64 t.num,.int .i64 t.least,.int .i64 t.most,.bool t.bare] 28))
 have HW:=Lib.hid (show Below w.heap.size w (w.alloc (.cells #[.int .i64 t.kind,.int .u64 (Oc.U t.w0),.int .u64 (Oc.U t.w1),.int .u64 (Oc.U t.w2),.int .u64 (Oc.U t.w3),.slice p ts.length cap,.int .i64 t.num,.int .i64 t.least,.int .i64 t.most,.bool t.bare] 28)) from (Below.refl _ _).alloc (Nat.le_refl _) _)
 rw [HV.out] at H1
 go_enter Tryz.func16,Tryz.ntmps16
 go_wp2_with (first
   | (refine wpList_load_row rfl 28 (.tmp 1) rfl w.heap.size rfl 28 _ (0,0) _ Z0.out Tryz.underlying28 rfl (by kernel_rfl) ?_)
   | fail)
 refine (H1.out _ HW.out).mono ?_
 rintro e w1 ⟨rfl,hb1⟩
 have HB1:=Lib.hid (HW.out.trans (hb1.mono HW.out.size))
 clear hb1 Z0 H1
 go_wp2
 go_ret2
 exact ⟨by rw [HV.out];rfl,HB1.out⟩
theorem ere_shape (A:Nat→Addr) (t:Tr) (hl:t.numsT.length ≤ 1000000) (hd:t.dpT ≤ 1000000) (hc:t.checkC=0) (hsp:(t.shapeT && countedTo t.numsT t.numsT.length)=false) (w:World) (hE:Errs w A) (B:Nat→Prop) (v:Value) (hv:NodeV w B v t):Calls Tryz.prog 16 #[v] w (EreNo A 13 w):=by
 obtain ⟨s,rfl,hs⟩:=hv
 have H1:=Lib.hid (fun w' (hb:Below w.heap.size w w')=>treecheck_any A t hd w' (hE.below hb) B (.agg (t.cells s)) ⟨s,rfl,TreesAt.later (w':=w') hs hb⟩)
 have H2:=Lib.hid (fun w' (hb:Below w.heap.size w w')=>isspellable_any t hl w' B (.agg (t.cells s)) ⟨s,rfl,TreesAt.later (w':=w') hs hb⟩)
 rw [hsp] at H2
 rw [hc] at H1
 have HE:=Lib.hid (fun w' (hb:Below w.heap.size w w')=>hE.below hb)
 obtain ⟨p,cap,rfl,hlen⟩:=hs.slice
 clear hs hE hc hsp
 unfold Tr.cells at *
 generalize t.subs=ts at *
 have Z0:=Lib.hid (heap_alloc_new w (.cells #[.int .i64 t.kind,.int .u64 (Oc.U t.w0),.int .u64 (Oc.U t.w1),.int .u64 (Oc.U t.w2),.int .u64 (Oc.U t.w3),.slice p ts.length cap,.int .i64 t.num,.int .i64 t.least,.int .i64 t.most,.bool t.bare] 28))
 have HW:=Lib.hid (show Below w.heap.size w (w.alloc (.cells #[.int .i64 t.kind,.int .u64 (Oc.U t.w0),.int .u64 (Oc.U t.w1),.int .u64 (Oc.U t.w2),.int .u64 (Oc.U t.w3),.slice p ts.length cap,.int .i64 t.num,.int .i64 t.least,.int .i64 t.most,.bool t.bare] 28)) from (Below.refl _ _).alloc (Nat.le_refl _) _)
 rw [show sentV A 0=.nilIface from rfl] at H1
 go_enter Tryz.func16,Tryz.ntmps16
 go_wp2_with (first
   | (refine wpList_load_row rfl 28 (.tmp 1) rfl w.heap.size rfl 28 _ (0,0) _ Z0.out Tryz.underlying28 rfl (by kernel_rfl) ?_)
   | fail)
 refine (H1.out _ HW.out).mono ?_
 rintro e w1 ⟨rfl,hb1⟩
 have Z1:=Lib.hid (keep_blk (hb1.mono (Nat.le_refl _)) Z0.out)
 have HB1:=Lib.hid (HW.out.trans (hb1.mono HW.out.size))
 clear hb1 Z0 H1
 go_wp2_with (first
   | (refine wpList_load_row rfl 28 (.tmp 1) rfl w.heap.size rfl 28 _ (0,0) _ Z1.out Tryz.underlying28 rfl (by kernel_rfl) ?_)
   | fail)
 refine (H2.out _ HB1.out).mono ?_
 rintro e w2 ⟨rfl,hb2⟩
 have HB2:=Lib.hid (HB1.out.trans (hb2.mono HB1.out.size))
 clear hb2 Z1 H2
 have G:w2.cell? ⟨12,0,none⟩=some (.iface 232 (.pointer (some (A 12)))):=((HE.out w2 HB2.out) 12 (by omega)).1
 go_wp2
 go_quiet (fail)
 go_wp2
 go_ret2
 exact ⟨rfl,drewn_below HB2.out _⟩
theorem ere_nest (A:Nat→Addr) (t:Tr) (hl:t.numsT.length ≤ 1000000) (hd:t.dpT ≤ 1000000) (hne:t.nestT ≤ 1000000) (hc:t.checkC=0) (hsp:(t.shapeT && countedTo t.numsT t.numsT.length)=true) (hn:32 < t.nestT) (w:World) (hE:Errs w A) (B:Nat→Prop) (v:Value) (hv:NodeV w B v t):Calls Tryz.prog 16 #[v] w (EreNo A 11 w):=by
 obtain ⟨s,rfl,hs⟩:=hv
 have H1:=Lib.hid (fun w' (hb:Below w.heap.size w w')=>treecheck_any A t hd w' (hE.below hb) B (.agg (t.cells s)) ⟨s,rfl,TreesAt.later (w':=w') hs hb⟩)
 have H2:=Lib.hid (fun w' (hb:Below w.heap.size w w')=>isspellable_any t hl w' B (.agg (t.cells s)) ⟨s,rfl,TreesAt.later (w':=w') hs hb⟩)
 have H3:=Lib.hid (fun w' (hb:Below w.heap.size w w')=>nesting_any t hne w' B (.agg (t.cells s)) ⟨s,rfl,TreesAt.later (w':=w') hs hb⟩)
 rw [hsp] at H2
 rw [hc] at H1
 have HE:=Lib.hid (fun w' (hb:Below w.heap.size w w')=>hE.below hb)
 obtain ⟨p,cap,rfl,hlen⟩:=hs.slice
 have e1:decide ((32:Int) < t.nestT)=true:=by simp;omega
 have e1':decide (32 < t.nestT)=true:=by simp;omega
 clear hs hE hc hsp hn hne
 unfold Tr.cells at *
 generalize t.nestT=NE at *
 generalize t.subs=ts at *
 have Z0:=Lib.hid (heap_alloc_new w (.cells #[.int .i64 t.kind,.int .u64 (Oc.U t.w0),.int .u64 (Oc.U t.w1),.int .u64 (Oc.U t.w2),.int .u64 (Oc.U t.w3),.slice p ts.length cap,.int .i64 t.num,.int .i64 t.least,.int .i64 t.most,.bool t.bare] 28))
 have HW:=Lib.hid (show Below w.heap.size w (w.alloc (.cells #[.int .i64 t.kind,.int .u64 (Oc.U t.w0),.int .u64 (Oc.U t.w1),.int .u64 (Oc.U t.w2),.int .u64 (Oc.U t.w3),.slice p ts.length cap,.int .i64 t.num,.int .i64 t.least,.int .i64 t.most,.bool t.bare] 28)) from (Below.refl _ _).alloc (Nat.le_refl _) _)
 rw [show sentV A 0=.nilIface from rfl] at H1
 go_enter Tryz.func16,Tryz.ntmps16
 go_wp2_with (first
   | (refine wpList_load_row rfl 28 (.tmp 1) rfl w.heap.size rfl 28 _ (0,0) _ Z0.out Tryz.underlying28 rfl (by kernel_rfl) ?_)
   | fail)
 refine (H1.out _ HW.out).mono ?_
 rintro e w1 ⟨rfl,hb1⟩
 have Z1:=Lib.hid (keep_blk (hb1.mono (Nat.le_refl _)) Z0.out)
 have HB1:=Lib.hid (HW.out.trans (hb1.mono HW.out.size))
 clear hb1 Z0 H1
 go_wp2_with (first
   | (refine wpList_load_row rfl 28 (.tmp 1) rfl w.heap.size rfl 28 _ (0,0) _ Z1.out Tryz.underlying28 rfl (by kernel_rfl) ?_)
   | fail)
 refine (H2.out _ HB1.out).mono ?_
 rintro e w2 ⟨rfl,hb2⟩
 have Z2:=Lib.hid (keep_blk (hb2.mono (Nat.le_refl _)) Z1.out)
 have HB2:=Lib.hid (HB1.out.trans (hb2.mono HB1.out.size))
 clear hb2 Z1 H2
 go_wp2_with (first
   | (refine wpList_load_row rfl 28 (.tmp 1) rfl w.heap.size rfl 28 _ (0,0) _ Z2.out Tryz.underlying28 rfl (by kernel_rfl) ?_)
   | fail)
 refine (H3.out _ HB2.out).mono ?_
 rintro e w3 ⟨rfl,hb3⟩
 have HB3:=Lib.hid (HB2.out.trans (hb3.mono HB2.out.size))
 clear hb3 Z2 H3
 have G:w3.cell? ⟨10,0,none⟩=some (.iface 232 (.pointer (some (A 10)))):=((HE.out w3 HB3.out) 10 (by omega)).1
 go_wp2
 go_quiet (fail)
 go_wp2
 go_ret2
 exact ⟨rfl,drewn_below HB3.out _⟩
theorem ere_long (A:Nat→Addr) (t:Tr) (hl:t.numsT.length ≤ 1000000) (hd:t.dpT ≤ 1000000) (hc:t.checkC=0) (hsp:(t.shapeT && countedTo t.numsT t.numsT.length)=true) (hn:t.nestT ≤ 32) (S:Tr→List UInt8) (w:World) (hE:Errs w A) (hF:SpPow w) (hS:∀ w0,Below w.heap.size w w0→∀ x,x ∈ Sp.lvsT t→WrSet w0 S x) (hlong:1024 < (Sp.txT S t).length) (hlen:(Sp.txT S t).length ≤ 70368744177664) (B:Nat→Prop) (v:Value) (hv:NodeV w B v t) :
   Calls Tryz.prog 16 #[v] w (EreNo A 12 w):=by
 obtain ⟨s,rfl,hs⟩:=hv
 have H1:=Lib.hid (fun w' (hb:Below w.heap.size w w')=>treecheck_any A t hd w' (hE.below hb) B (.agg (t.cells s)) ⟨s,rfl,TreesAt.later (w':=w') hs hb⟩)
 have H2:=Lib.hid (fun w' (hb:Below w.heap.size w w')=>isspellable_any t hl w' B (.agg (t.cells s)) ⟨s,rfl,TreesAt.later (w':=w') hs hb⟩)
 rw [hsp] at H2
 rw [hc,show sentV A 0=.nilIface from rfl] at H1
 have HE:=Lib.hid (fun w' (hb:Below w.heap.size w w')=>hE.below hb)
 have hform:=(Tr.checkC_zero.1 hc).1
 have H3:=Lib.hid (fun w' (hb:Below w.heap.size w w')=>nesting_any t (by omega) w' B (.agg (t.cells s)) ⟨s,rfl,TreesAt.later (w':=w') hs hb⟩)
 have H4:=Lib.hid (fun W0 (hb:Below w.heap.size w W0)=>writetree_any W0 (hF.later hb) S t hform (hS W0 hb) (.agg (t.cells s)) B)
 have HV:=Lib.hid (fun w' (hb:Below w.heap.size w w')=>(show NodeV w' B (.agg (t.cells s)) t from ⟨s,rfl,TreesAt.later (w':=w') hs hb⟩))
 obtain ⟨p,cap,rfl,hlens⟩:=hs.slice
 have Z0:=Lib.hid (heap_alloc_new w (.cells (t.cells (.slice p t.subs.length cap)) 28))
 have HW:=Lib.hid (show Below w.heap.size w (w.alloc (.cells (t.cells (.slice p t.subs.length cap)) 28)) from (Below.refl _ _).alloc (Nat.le_refl _) _)
 have e1:decide ((32:Int) < t.nestT)=false:=by simp;omega
 have e1':decide (32 < t.nestT)=false:=by simp;omega
 clear hs hE hc hsp hform hS hF hn hd hl
 unfold Tr.cells at *
 generalize t.nestT=NE at *
 generalize hX:Sp.txT S t=X at *
 go_enter Tryz.func16,Tryz.ntmps16
 go_wp2_with (first
   | (refine wpList_load_row rfl 28 (.tmp 1) rfl w.heap.size rfl 28 _ (0,0) _ Z0.out Tryz.underlying28 rfl (by kernel_rfl) ?_)
   | fail)
 refine (H1.out _ HW.out).mono ?_
 rintro e w1 ⟨rfl,hb1⟩
 have Z1:=Lib.hid (keep_blk (hb1.mono (Nat.le_refl _)) Z0.out)
 have HB1:=Lib.hid (HW.out.trans (hb1.mono HW.out.size))
 clear hb1 Z0 H1
 go_wp2_with (first
   | (refine wpList_load_row rfl 28 (.tmp 1) rfl w.heap.size rfl 28 _ (0,0) _ Z1.out Tryz.underlying28 rfl (by kernel_rfl) ?_)
   | fail)
 refine (H2.out _ HB1.out).mono ?_
 rintro e w2 ⟨rfl,hb2⟩
 have Z2:=Lib.hid (keep_blk (hb2.mono (Nat.le_refl _)) Z1.out)
 have HB2:=Lib.hid (HB1.out.trans (hb2.mono HB1.out.size))
 clear hb2 Z1 H2
 go_wp2_with (first
   | (refine wpList_load_row rfl 28 (.tmp 1) rfl w.heap.size rfl 28 _ (0,0) _ Z2.out Tryz.underlying28 rfl (by kernel_rfl) ?_)
   | fail)
 refine (H3.out _ HB2.out).mono ?_
 rintro e w3 ⟨rfl,hb3⟩
 have Z3:=Lib.hid (keep_blk (hb3.mono (Nat.le_refl _)) Z2.out)
 have HB3:=Lib.hid (HB2.out.trans (hb3.mono HB2.out.size))
 clear hb3 Z2 H3
 have hb4:Below w3.heap.size w3 (w3.alloc (.cells #[.pointer none,.slice none 0 0] 75)):=(Below.refl _ _).alloc (Nat.le_refl _) _
 have Z4:=Lib.hid (keep_blk (hb4.mono (Nat.le_refl _)) Z3.out)
 have HN:=Lib.hid (Bl.new w3)
 have HB4:=Lib.hid hb4
 have HC:=Lib.hid (H4.out w3 HB3.out (w3.alloc (.cells #[.pointer none,.slice none 0 0] 75)) w3.heap.size [] (HV.out w3 HB3.out) hb4 HN.out (by simp;omega))
 clear hb4 Z3 H4 HV
 go_upto_region 9 with (fail)
 generalize w3.alloc (.cells #[.pointer none,.slice none 0 0] 75)=W4 at *
 go_wp2_with (first
   | (refine wpList_load_row rfl 28 (.tmp 1) rfl w.heap.size rfl 28 _ (0,0) _ Z4.out Tryz.underlying28 rfl (by kernel_rfl) ?_)
   | fail)
 refine HC.out.mono ?_
 rintro e w5 ⟨rfl,hl5,ht5⟩
 have HB5:=Lib.hid (HB3.out.trans ((HB4.out.trans ht5.1).mono HB3.out.size))
 rw [List.nil_append] at hl5
 have HL5:=Lib.hid hl5
 clear hl5 ht5 Z4 HC HN
 have hbl:(Lib.byteCells X).length=X.length:=by simp [Lib.byteCells]
 have g1:decide ((1024:Int) < ((Lib.byteCells X).length:Nat))=true:=by rw [hbl];simp;omega
 have g1':decide (1024 < (Lib.byteCells X).length)=true:=by rw [hbl];simp;omega
 have hsz5:w3.heap.size ≤ w5.heap.size:=Nat.le_of_lt HL5.out.lt
 go_wp2_with fail
 refine (Tryz.Builder_Len_f w3.heap.size w3.heap.size (Lib.byteCells X) _ HL5.out).mono ?_
 rintro e w6 ⟨rfl,rfl⟩
 have G:w6.cell? ⟨11,0,none⟩=some (.iface 232 (.pointer (some (A 11)))):=((HE.out w6 HB5.out) 11 (by omega)).1
 clear hlong hlen hbl
 go_wp2
 go_quiet (fail)
 go_wp2
 go_ret2
 exact ⟨rfl,drewn_below HB5.out _⟩
end Go.Proofs.YtnfdknhhkdphhaaGreatDoor
namespace Go.Proofs.YtnfdknhhkdphhaaGreatDoor
open Go.RowKit
def ereC (S:Tr→List UInt8) (t:Tr):List UInt8 × Nat :=
 if t.checkC ≠ 0 then ([],t.checkC) else if (t.shapeT && countedTo t.numsT t.numsT.length)=false then ([],13) else if 32 < t.nestT then ([],11) else if 1024 < (Sp.txT S t).length then ([],12) else (Sp.txT S t,0)
theorem refere_any (S:Tr→List UInt8) (t:Tr) (hl:t.numsT.length ≤ 1000000) (hd:t.dpT ≤ 1000000) (hne:t.nestT ≤ 1000000) (hlen:t.InForm→(Sp.txT S t).length ≤ 70368744177664) (hset:∀ x,x ∈ Sp.lvsT t→RefSet S x) (w:World) (B:Nat→Prop) (v:Value) (hv:NodeV w B v t) :
   Calls Tryz.prog 17 #[v] w fun e w'=>e=.returned (.tuple #[.string (tx (ereC S t).1),.int .i64 (ereC S t).2])∧Below w.heap.size w w':=by
 obtain ⟨s,rfl,hs⟩:=hv
 have H1:=Lib.hid (fun w' (hb:Below w.heap.size w w')=>refcheck_any t hd w' B (.agg (t.cells s)) ⟨s,rfl,TreesAt.later (w':=w') hs hb⟩)
 have H2:=Lib.hid (fun w' (hb:Below w.heap.size w w')=>reftidy_any t hl hd w' B (.agg (t.cells s)) ⟨s,rfl,TreesAt.later (w':=w') hs hb⟩)
 have H3:=Lib.hid (fun w' (hb:Below w.heap.size w w')=>refnest_any t hne w' B (.agg (t.cells s)) ⟨s,rfl,TreesAt.later (w':=w') hs hb⟩)
 have H4:=Lib.hid (fun (hf:t.InForm) w' (hb:Below w.heap.size w w')=>reftext_any S t hf hset (hlen hf) w' B (.agg (t.cells s)) ⟨s,rfl,TreesAt.later (w':=w') hs hb⟩)
 have HF:=Lib.hid (fun (h:t.checkC=0)=>(Tr.checkC_zero.1 h).1)
 have HX:=Lib.hid (show t.tidyB=(decide (t.checkC=0) && (t.shapeT && countedTo t.numsT t.numsT.length)) from rfl)
 obtain ⟨R,hR⟩:∃ R,ereC S t=R:=⟨_,rfl⟩
 rw [hR]
 unfold ereC at hR
 have HR:=Lib.hid hR
 have HLZ:=Lib.hid (fun (h:t.checkC=0)=>(show (tx (Sp.txT S t)).size ≤ 70368744177664 by rw [tx_size];exact hlen (Tr.checkC_zero.1 h).1))
 have hls2:=tx_size (Sp.txT S t)
 have HLS:=Lib.hid hls2
 obtain ⟨p,cap,rfl,hlens⟩:=hs.slice
 clear hs hset hR hl hd hne hlen hlens hls2
 generalize t.tidyB=TB at *
 generalize (t.shapeT && countedTo t.numsT t.numsT.length)=SC at *
 generalize t.checkC=C at *
 generalize t.nestT=NE at *
 generalize Sp.txT S t=X at *
 unfold Tr.cells at *
 generalize t.subs=ts at *
 have Z0:=Lib.hid (heap_alloc_new w (.cells #[.int .i64 t.kind,.int .u64 (Oc.U t.w0),.int .u64 (Oc.U t.w1),.int .u64 (Oc.U t.w2),.int .u64 (Oc.U t.w3),.slice p ts.length cap,.int .i64 t.num,.int .i64 t.least,.int .i64 t.most,.bool t.bare] 28))
 have HW:=Lib.hid (show Below w.heap.size w (w.alloc (.cells #[.int .i64 t.kind,.int .u64 (Oc.U t.w0),.int .u64 (Oc.U t.w1),.int .u64 (Oc.U t.w2),.int .u64 (Oc.U t.w3),.slice p ts.length cap,.int .i64 t.num,.int .i64 t.least,.int .i64 t.most,.bool t.bare] 28)) from (Below.refl _ _).alloc (Nat.le_refl _) _)
 go_enter Tryz.func17,Tryz.ntmps17
 go_wp2_with (first
   | (refine wpList_load_row rfl 28 (.tmp 1) rfl w.heap.size rfl 28 _ (0,0) _ Z0.out Tryz.underlying28 rfl (by kernel_rfl) ?_)
   | fail)
 refine (H1.out _ HW.out).mono ?_
 rintro e w1 ⟨rfl,hb1⟩
 have Z1:=Lib.hid (keep_blk (hb1.mono (Nat.le_refl _)) Z0.out)
 have HB1:=Lib.hid (HW.out.trans (hb1.mono HW.out.size))
 clear hb1 Z0 H1
 by_cases hc:C=0
 case neg =>
   have hr:=HR.out
   rw [if_pos hc] at hr
   subst hr
   have e1:((C:Int) != 0)=true:=by rw [bne_iff_ne];omega
   have e2:(C != 0)=true:=by rw [bne_iff_ne];omega
   have e3:(C == 0)=false:=by rw [beq_eq_false_iff_ne];omega
   clear hc HR HX HF HLZ H2 H3 H4
   go_wp2
   go_ret2
   exact ⟨rfl,HB1.out⟩
 have hr:=HR.out
 rw [if_neg (by simpa using hc)] at hr
 have hx:=HX.out
 rw [decide_eq_true hc,Bool.true_and] at hx
 have H4':=Lib.hid (H4.out (HF.out hc))
 have hls:=HLZ.out hc
 subst hc
 subst hx
 have HR2:=Lib.hid hr
 clear hr HR HX HF HLZ H4
 go_wp2_with (first
   | (refine wpList_load_row rfl 28 (.tmp 1) rfl w.heap.size rfl 28 _ (0,0) _ Z1.out Tryz.underlying28 rfl (by kernel_rfl) ?_)
   | fail)
 refine (H2.out _ HB1.out).mono ?_
 rintro e w2 ⟨rfl,hb2⟩
 have Z2:=Lib.hid (keep_blk (hb2.mono (Nat.le_refl _)) Z1.out)
 have HB2:=Lib.hid (HB1.out.trans (hb2.mono HB1.out.size))
 clear hb2 Z1 H2
 cases TB with
 | false =>
   have hr:=HR2.out
   rw [if_pos rfl] at hr
   subst hr
   clear HR2 H3 H4'
   go_wp2
   go_ret2
   exact ⟨rfl,HB2.out⟩
 | true =>
   have hr:=HR2.out
   rw [if_neg (by decide)] at hr
   have HR3:=Lib.hid hr
   clear hr HR2
   go_wp2_with (first
     | (refine wpList_load_row rfl 28 (.tmp 1) rfl w.heap.size rfl 28 _ (0,0) _ Z2.out Tryz.underlying28 rfl (by kernel_rfl) ?_)
     | fail)
   refine (H3.out _ HB2.out).mono ?_
   rintro e w3 ⟨rfl,hb3⟩
   have Z3:=Lib.hid (keep_blk (hb3.mono (Nat.le_refl _)) Z2.out)
   have HB3:=Lib.hid (HB2.out.trans (hb3.mono HB2.out.size))
   clear hb3 Z2 H3
   by_cases hn:32 < NE
   case pos =>
     have hr:=HR3.out
     rw [if_pos hn] at hr
     subst hr
     have e1:decide ((32:Int) < NE)=true:=by simp;omega
     have e2:decide (32 < NE)=true:=by simp;omega
     clear hn HR3 H4'
     go_wp2
     go_ret2
     exact ⟨rfl,HB3.out⟩
   have hr:=HR3.out
   rw [if_neg hn] at hr
   have HR4:=Lib.hid hr
   have e1:decide ((32:Int) < NE)=false:=by simp;omega
   have e2:decide (32 < NE)=false:=by simp;omega
   clear hr hn HR3
   go_wp2_with (first
     | (refine wpList_load_row rfl 28 (.tmp 1) rfl w.heap.size rfl 28 _ (0,0) _ Z3.out Tryz.underlying28 rfl (by kernel_rfl) ?_)
     | fail)
   refine (H4'.out _ HB3.out).mono ?_
   rintro e w4 ⟨rfl,hb4⟩
   have HB4:=Lib.hid (HB3.out.trans (hb4.mono HB3.out.size))
   clear hb4 Z3 H4' e1 e2
   by_cases hg:1024 < X.length
   · have hr:=HR4.out
     rw [if_pos hg] at hr
     subst hr
     have e1:decide ((1024:Int) < ((tx X).size:Nat))=true:=by rw [HLS.out];simp;omega
     have e2:decide (1024 < (tx X).size)=true:=by rw [HLS.out];simp;omega
     clear hg HR4
     go_wp2
     go_ret2
     exact ⟨rfl,HB4.out⟩
   · have hr:=HR4.out
     rw [if_neg hg] at hr
     subst hr
     have e1:decide ((1024:Int) < ((tx X).size:Nat))=false:=by rw [HLS.out];simp;omega
     have e2:decide (1024 < (tx X).size)=false:=by rw [HLS.out];simp;omega
     clear hg HR4
     go_wp2
     go_ret2
     exact ⟨rfl,HB4.out⟩
theorem spere_any (A:Nat→Addr) (S:Tr→List UInt8) (t:Tr) (hl:t.numsT.length ≤ 1000000) (hd:t.dpT ≤ 1000000) (hne:t.nestT ≤ 1000000) (hlen:t.InForm→(Sp.txT S t).length ≤ 70368744177664) (w:World) (hE:Errs w A) (hF:SpPow w) (hS:∀ w0,Below w.heap.size w w0→∀ x,x ∈ Sp.lvsT t→WrSet w0 S x) (B:Nat→Prop) (v:Value) (hv:NodeV w B v t) :
   Calls Tryz.prog 16 #[v] w fun e w'=>e=.returned (.tuple #[.string (tx (ereC S t).1),sentV A (ereC S t).2])∧Below w.heap.size w w':=by
 unfold ereC
 by_cases hc:t.checkC=0
 · rw [if_neg (by simpa using hc)]
   cases hsp:(t.shapeT && countedTo t.numsT t.numsT.length) with
   | false=>rw [if_pos rfl];exact ere_shape A t hl hd hc hsp w hE B v hv
   | true =>
     rw [if_neg (by decide)]
     by_cases hn:32 < t.nestT
     · rw [if_pos hn];exact ere_nest A t hl hd hne hc hsp hn w hE B v hv
     · rw [if_neg hn]
       by_cases hg:1024 < (Sp.txT S t).length
       · rw [if_pos hg];exact ere_long A t hl hd hc hsp (by omega) S w hE hF hS hg (hlen (Tr.checkC_zero.1 hc).1) B v hv
       · rw [if_neg hg]
         have h0:=Tr.checkC_zero.1 hc
         rw [Bool.and_eq_true] at hsp
         exact ere_yes t ⟨h0.1,h0.2.1,h0.2.2,hl,(countedTo_iff _ _).1 hsp.2,hsp.1⟩ (by omega) S w hF hS (by omega) B v hv
 · rw [if_pos hc];exact ere_check A t hd hc w hE B v hv
end Go.Proofs.YtnfdknhhkdphhaaGreatDoor
namespace Go.Proofs.YtnfdknhhkdphhaaGreatDoor
open Go.RowKit
theorem only_any (v:Nat) (hv:v < 256) (w:World):Calls Tryz.prog 67 #[.int .u8 (v:Int)] w fun e w'=>e=.returned (.agg #[.int .u64 (Oc.U (Oc.mk (fun x=>x == v) 0)),.int .u64 (Oc.U (Oc.mk (fun x=>x == v) 1)),.int .u64 (Oc.U (Oc.mk (fun x=>x == v) 2)),.int .u64 (Oc.U (Oc.mk (fun x=>x == v) 3))])∧Below w.heap.size w w':=by
 have ht:∀ j,(fun x=>x == v) j=((fun _=>false) j || j == v):=fun j=>by simp
 have e:∀ k,Oc.mk (fun x=>x == v) k=if v / 64=k then 1#64 <<< (v % 64) else 0#64:=by
   intro k
   by_cases h:v / 64=k
   · rw [if_pos h,Oc.mk_turn ht h,Oc.mk_none,BitVec.zero_or]
   · rw [if_neg h,Oc.mk_same ht h,Oc.mk_none]
 rw [e 0,e 1,e 2,e 3]
 clear e ht
 have hq:v / 64=0 ∨ v / 64=1 ∨ v / 64=2 ∨ v / 64=3:=by omega
 rcases hq with hq | hq | hq | hq
 all_goals
   rw [hq]
   simp (config:={ decide:=true }) only [if_true,if_false]
   have z:=u0
   go_enter Tryz.func67,Tryz.ntmps67
   go_wp2
   go_returns
   refine ⟨?_,by go_grown⟩
   rw [Oc.shlBit,z]
theorem treetext_any (s:ByteArray) (hs:s.size ≤ 1000000) (w:World):Calls Tryz.prog 31 #[.string s] w (OwnEnd (.several 5 (s.data.toList.map fun c=>Tr.bytes (fun x=>x == c.toNat))) w):=by
 obtain ⟨ts,hts⟩:∃ ts,(s.data.toList.map fun c=>Tr.bytes (fun x=>x == c.toNat))=ts:=⟨_,rfl⟩
 have hl:ts.length=s.size:=by rw [← hts];simp
 obtain ⟨CS,hCS,hmk⟩:=make_nodes ts.length (by omega)
 have HTS:=Lib.hid hts;have HCS:=Lib.hid hCS
 rw [hts]
 rw [hl] at hmk
 clear hts hCS
 have HO:=Lib.hid only_any;have HBY:=Lib.hid bytes_any;have HSQ:=Lib.hid seq_any
 go_enter Tryz.func31,Tryz.ntmps31
 go_wp2
 go_loopw [10] (fun iv wr=>∃ m:Nat,iv=.int .i64 m∧m ≤ ts.length∧Hid (Below w.heap.size w wr)∧w.heap.size+1 < wr.heap.size∧Hid (∃ C:Array Value,wr.heap[w.heap.size+1]? = some (.cells C 28)∧C.size=ts.length * 10)∧Hid (CopiedTo wr (w.heap.size+1) ts m)∧Hid (wr.heap[w.heap.size]? = some (.cells noNode 28))) (fun iv _=>ts.length - (intOf iv).toNat)
 case atStart=>exact ⟨0,rfl,Nat.zero_le _,Lib.hid (by go_grown),by simp,Lib.hid ⟨CS,(two_new _ _ _).2,HCS.out⟩,Lib.hid (CopiedTo.zero _ _ _),Lib.hid (two_new _ _ _).1⟩
 case round =>
   obtain ⟨m,rfl,hm,HB,hsz,HC,HD,Z0⟩:=hrel
   have wm:IntKind.i64.wrap ((m:Int)+1)=(m:Int)+1:=IntWalk.i64_in _ (by omega)
   by_cases hlt:m < ts.length
   · have hsm:m < s.size:=by omega
     have hx:ts[m]? = some (Tr.bytes (fun x=>x == s[m].toNat)):=by
       have:s.data.toList[m]? = some s[m]:=by
         rw [List.getElem?_eq_getElem (by simpa using hsm)];rfl
       rw [← HTS.out,List.getElem?_map,this];rfl
     have hd1:decide ((m:Int) < s.size)=true:=by simp;omega
     have hd1':decide (m < s.size)=true:=by simpa using hsm
     have hc:=s[m].toNat_lt
     have HX:=Lib.hid hx
     clear hx
     go_wp2_with fail
     generalize s[m].toNat=n at *
     refine (HO.out n hc wr).mono ?_
     rintro e w1 ⟨rfl,hb1⟩
     generalize hP:(fun x=>x == n)=P at *
     have HB1:=Lib.hid hb1
     clear hb1 hP
     go_wp2_with fail
     refine (HBY.out P w1).mono ?_
     rintro e w2 ⟨s2,F2,rfl,ho2,hF2,hb2⟩
     obtain ⟨p2,c2,rfl,hl2⟩:=ho2.slice
     have hb12:Below wr.heap.size wr w2:=HB1.out.trans (hb2.mono HB1.out.size)
     obtain ⟨C,hC1,hC2⟩:=HC.out
     have hC3:=keep_blk hb12 hC1
     have hth:w2.there (w.heap.size+1) (m * 10) 10:=there_row hC3 (by omega)
     have HTH:=Lib.hid hth
     generalize hxt:Tr.bytes P=x at *
     have HST:=Lib.hid (HD.out.step HX.out hb12 hsz ho2 (fun b hb=>Nat.le_trans HB1.out.size (hF2 b hb)) hth)
     have HB2:=Lib.hid (HB.out.trans (hb12.mono HB.out.size))
     have HC4:Hid (∃ C:Array Value,(w2.setCells (w.heap.size+1) (m * 10) (x.cells (.slice p2 x.subs.length c2)).toList).heap[w.heap.size+1]? = some (.cells C 28)∧C.size=ts.length * 10):=Lib.hid (row_setCells hC3 hC2)
     have Z4:Hid ((w2.setCells (w.heap.size+1) (m * 10) (x.cells (.slice p2 x.subs.length c2)).toList).heap[w.heap.size]? = some (.cells noNode 28)):=Lib.hid (by rw [heap_setCells_other (by omega)];exact keep_blk hb12 Z0.out)
     have hs2:w.heap.size+1 < w2.heap.size:=Nat.lt_of_lt_of_le hsz hb12.size
     clear hb2 hb12 ho2 hF2 hC1 hC2 hC3 hth hxt HBY HO
     go_wp2_with (first
       | (refine wpList_store_mid rfl 28 (.tmp 20) (.tmp 19) rfl (w.heap.size+1) (m * 10) (x.cells (.slice p2 x.subs.length c2)) rfl rfl HTH.out (by kernel_rfl) (nodeC_all _ _ _ _) ?_;generalize hw3:World.setCells w2 _ _ _=w3;have HW3:=Lib.hid hw3;clear hw3)
       | fail)
     rw [← HW3.out]
     exact ⟨⟨m+1,by go_num,by omega,Lib.hid (setCells_below HB2.out (by omega) _ _),by rw [size_setCells];exact hs2,HC4,HST,Z4⟩,by simp [intOf];omega⟩
   · obtain rfl:m=ts.length:=by omega
     obtain ⟨C,hC1,-⟩:=HC.out
     obtain ⟨F,hF,hF2⟩:=HD.out.owned (by omega) ⟨C,_,hC1⟩ ts.length
     have hcall:=HSQ.out ts wr (fun b=>b ∈ F) _ hF.trees
     rw [hl] at hcall
     have HCALL:=Lib.hid hcall
     clear hcall hC1 HC HD hF2
     go_wp2_with fail
     refine HCALL.out.mono ?_
     rintro e w2 ⟨s2,F2,rfl,ho2,hF2',hb2⟩
     obtain ⟨p2,c2,rfl,hl2⟩:=ho2.slice
     have HO2:=Lib.hid ho2;have HF2:=Lib.hid hF2'
     have Y0:=Lib.hid (keep_blk hb2 Z0.out)
     have HB2:=Lib.hid (HB.out.trans (hb2.mono HB.out.size))
     generalize Tr.several 5 ts=t at *
     clear ho2 hF2' hb2 HCALL
     unfold Tr.cells
     go_wp2_with (first
       | (refine wpList_store_row rfl 28 (.tmp 2) (.tmp 23) rfl w.heap.size #[.int .i64 t.kind,.int .u64 (Oc.U t.w0),.int .u64 (Oc.U t.w1),.int .u64 (Oc.U t.w2),.int .u64 (Oc.U t.w3),.slice p2 t.subs.length c2,.int .i64 t.num,.int .i64 t.least,.int .i64 t.most,.bool t.bare] rfl rfl 28 _ Y0.out (by kernel_rfl) rfl (by simp [Value.oneCell']) ?_)
       | fail)
     refine bodyPost_ret (results_cell_row rfl _ _ w.heap.size 28 #[.int .i64 t.kind,.int .u64 (Oc.U t.w0),.int .u64 (Oc.U t.w1),.int .u64 (Oc.U t.w2),.int .u64 (Oc.U t.w3),.slice p2 t.subs.length c2,.int .i64 t.num,.int .i64 t.least,.int .i64 t.most,.bool t.bare] (0,0) _ rfl (heap_setRow Y0.out) Tryz.underlying28 rfl (by kernel_rfl)) rfl ⟨.slice p2 t.subs.length c2,F2,rfl, ?_, ?_, ?_⟩
     · exact HO2.out.keep fun b hb=>by have:=HF2.out b hb;rw [heap_setRow_other _ _ _ (by omega)]
     · intro b hb;have:=HF2.out b hb;omega
     · exact below_setRow HB2.out (Nat.le_refl _) _
end Go.Proofs.YtnfdknhhkdphhaaGreatDoor
namespace Go.Proofs.YtnfdknhhkdphhaaGreatDoor
open Go.RowKit
namespace Sp
def oneTx (x:Tr):List UInt8:=qb true (UInt8.ofNat (Oc.nx (Oc.mem x.w0 x.w1 x.w2 x.w3) 0))
def livT:Tr:=.rep 2 (-1) (.grp 1 (.bytes fun x=>x == 97))
theorem liv_cnt:Oc.cnt (Oc.mem (Tr.bytes fun x=>x == 97).w0 (Tr.bytes fun x=>x == 97).w1 (Tr.bytes fun x=>x == 97).w2 (Tr.bytes fun x=>x == 97).w3) 256=1:=by
 rw [Oc.cnt_congr (q:=fun x=>x == 97) 256 (fun i hi=>Oc.mem_mk _ i hi)]
 exact cnt_single (by omega)
theorem liv_nx:Oc.nx (Oc.mem (Tr.bytes fun x=>x == 97).w0 (Tr.bytes fun x=>x == 97).w1 (Tr.bytes fun x=>x == 97).w2 (Tr.bytes fun x=>x == 97).w3) 0=97 :=
 nx_single (by omega) fun i hi=>Oc.mem_mk _ i hi
theorem liv_tidy:Tidy livT:=by
 have f1:(Tr.bytes fun x=>x == 97).InForm:=.mk _ (.inr (.inl ⟨rfl,rfl,rfl,rfl,rfl,rfl⟩)) (fun u hu=>by cases hu)
 have f2:(Tr.grp 1 (.bytes fun x=>x == 97)).InForm:=.mk _ (.inr (.inr (.inr (.inl ⟨rfl,rfl,rfl,rfl,rfl,rfl,by decide,by decide,rfl,rfl,rfl⟩)))) (fun u hu=>by
   rcases List.mem_cons.1 hu with rfl | hu
   · exact f1
   · cases hu)
 have f3:livT.InForm:=.mk _ (.inr (.inr (.inr (.inr ⟨rfl,rfl,rfl,rfl,rfl,rfl,rfl,by decide,by decide,.inl rfl,fun h=>(by cases h)⟩)))) (fun u hu=>by
   rcases List.mem_cons.1 hu with rfl | hu
   · exact f2
   · cases hu)
 have hn:livT.numsT=[1]:=rfl
 refine ⟨f3, ?_, ?_, ?_, ?_, ?_⟩
 · simp [livT,Tr.rep,Tr.grp,Tr.bytes,Tr.dpT,Tr.dpS]
 · simp [livT,Tr.rep,Tr.grp,Tr.bytes,Tr.szT,Tr.szS,Tr.szH,Tr.repSz,Tr.sat]
 · rw [hn];simp
 · intro i hi
   rw [hn] at hi ⊢
   obtain rfl:i=0:=by simp at hi;omega
   rfl
 · rfl
theorem liv_text:txT oneTx livT=[40,97,41,123,50,44,125]:=by
 have h1:oneTx (Tr.bytes fun x=>x == 97)=[97]:=by
   unfold oneTx;rw [liv_nx];decide
 have h2:Lib.itoa 2=[50]:=by unfold Lib.itoa;rw [if_neg (by omega)];exact dec_small (by omega)
 have h3:txT oneTx (Tr.bytes fun x=>x == 97)=[97]:=by
   rw [← h1];unfold Tr.bytes;rw [txT,if_pos rfl]
 have h5:repTx 2 (-1)=[123,50,44,125]:=by
   unfold repTx;rw [if_pos rfl,if_neg (by decide),if_neg (by decide),h2];rfl
 simp [livT,Tr.rep,Tr.grp,txT,txS,txR,h3,h5]
theorem liv_lvs:∀ x,x ∈ lvsT livT→x=Tr.bytes fun x=>x == 97:=by
 intro x hx
 have:lvsT livT=[Tr.bytes fun x=>x == 97]:=rfl
 rw [this] at hx
 simpa using hx
end Sp
theorem splives_any (w:World) (hF:SpPow w) (hT:SpTab w):Calls Tryz.prog 13 #[] w fun e w'=>e=.returned (.bool true)∧Below w.heap.size w w':=by
 have HF:=Lib.hid hF;have HT:=Lib.hid hT
 have hs1:((tx [40,97,41,123,50,44,125]).toList == [40,97,41,123,50,44,125])=true:=by rw [toList_eq];rfl
 have hs2:((⟨(Sp.quote false [97,46,98,42]).toArray⟩:ByteArray).toList == [97,92,46,98,92,42])=true:=by rw [toList_eq];rfl
 obtain ⟨T1,hT1⟩:∃ T1,Tr.bytes (fun x=>x == 97)=T1:=⟨_,rfl⟩
 have h1:=treetext_any ⟨#[97]⟩ (by decide) w
 have hT0:(Tr.several 5 ((⟨#[97]⟩:ByteArray).data.toList.map fun c=>Tr.bytes (fun x=>x == c.toNat)))=Tr.bytes (fun x=>x == 97):=rfl
 rw [hT0,hT1] at h1
 have H1:=Lib.hid h1
 have HL:=Lib.hid (show Tr.rep 2 (-1) (Tr.grp 1 T1)=Sp.livT from hT1 ▸ rfl)
 clear hF hT hT0 hT1 h1
 go_enter Tryz.func13,Tryz.ntmps13
 go_wp2_with fail
 refine H1.out.mono ?_
 rintro e w1 ⟨s1,F1,rfl,ho1,-,hb1⟩
 have N1:=Lib.hid (show NodeV w1 (fun b=>b ∈ F1) (.agg (T1.cells s1)) T1 from ⟨_,rfl,ho1.trees⟩)
 have HB1:=Lib.hid hb1
 clear ho1 hb1 H1
 go_wp2_with fail
 refine (group_any T1 1 w1 _ _ N1.out).mono ?_
 rintro e w2 ⟨s2,F2,rfl,ho2,-,hb2⟩
 generalize Tr.grp 1 T1=T2 at *
 have N2:=Lib.hid (show NodeV w2 (fun b=>b ∈ F2) (.agg (T2.cells s2)) T2 from ⟨_,rfl,ho2.trees⟩)
 have HB2:=Lib.hid (HB1.out.trans (hb2.mono HB1.out.size))
 clear ho2 hb2 HB1
 go_wp2_with fail
 refine (rep_any T2 2 (-1) w2 _ _ N2.out).mono ?_
 rintro e w3 ⟨s3,F3,rfl,ho3,-,hb3⟩
 obtain ⟨p3,c3,rfl,hl3⟩:=ho3.slice
 rw [HL.out] at ho3 ⊢
 have HB3:=Lib.hid (HB2.out.trans (hb3.mono HB2.out.size))
 clear hb3 HB2 HL N1 N2 hl3
 have N3:=Lib.hid (fun w' (hb:Below w3.heap.size w3 w')=>(show NodeV w' (fun b=>b ∈ F3) (.agg (Sp.livT.cells (.slice p3 Sp.livT.subs.length c3))) Sp.livT from ⟨_,rfl,ho3.trees.later hb⟩))
 clear ho3
 have h4:=fun w' (hb:Below w3.heap.size w3 w')=>ere_yes Sp.livT Sp.liv_tidy (by decide) Sp.oneTx w' (HF.out.later (HB3.out.trans (hb.mono HB3.out.size))) (fun w0 hb0 x hx=>by
   rw [Sp.liv_lvs x hx]
   exact wrset_one w0 (HT.out.later ((HB3.out.trans (hb.mono HB3.out.size)).trans (hb0.mono (Nat.le_trans HB3.out.size hb.size)))) _ _ Sp.liv_cnt rfl) (by rw [Sp.liv_text];decide) _ _ (N3.out w' hb)
 have h5:=fun w' (hb:Below w3.heap.size w3 w')=>tidy_yes Sp.livT Sp.liv_tidy w' _ _ (N3.out w' hb)
 rw [Sp.liv_text] at h4
 have H4:=Lib.hid h4;have H5:=Lib.hid h5
 clear h4 h5 N3
 have HQ:=Lib.hid (fun w'=>quote_any ⟨#[97,46,98,42]⟩ 0 false (by decide) (by decide) w')
 unfold Tr.cells at *
 generalize Sp.livT=T at *
 have Z0:=Lib.hid (heap_alloc_new w3 (.cells #[.int .i64 T.kind,.int .u64 (Oc.U T.w0),.int .u64 (Oc.U T.w1),.int .u64 (Oc.U T.w2),.int .u64 (Oc.U T.w3),.slice p3 T.subs.length c3,.int .i64 T.num,.int .i64 T.least,.int .i64 T.most,.bool T.bare] 28))
 have HW:=Lib.hid (show Below w3.heap.size w3 (w3.alloc (.cells #[.int .i64 T.kind,.int .u64 (Oc.U T.w0),.int .u64 (Oc.U T.w1),.int .u64 (Oc.U T.w2),.int .u64 (Oc.U T.w3),.slice p3 T.subs.length c3,.int .i64 T.num,.int .i64 T.least,.int .i64 T.most,.bool T.bare] 28)) from (Below.refl _ _).alloc (Nat.le_refl _) _)
 go_upto_region 2 with (fail)
 generalize w3.alloc (.cells #[.int .i64 T.kind,.int .u64 (Oc.U T.w0),.int .u64 (Oc.U T.w1),.int .u64 (Oc.U T.w2),.int .u64 (Oc.U T.w3),.slice p3 T.subs.length c3,.int .i64 T.num,.int .i64 T.least,.int .i64 T.most,.bool T.bare] 28)=W3 at *
 obtain ⟨d0,d1,d2,d3,d4,d5,d6,d7,d8,d9⟩:=allTen Z0.out
 go_wp2_with fail
 refine (H4.out _ HW.out).mono ?_
 rintro e w4 ⟨rfl,hb4⟩
 have Z4:=Lib.hid (keep_blk (hb4.mono (Nat.le_refl _)) Z0.out)
 have HB4:=Lib.hid (HW.out.trans (hb4.mono HW.out.size))
 clear hb4 d0 d1 d2 d3 d4 d5 d6 d7 d8 d9 H4
 obtain ⟨d0,d1,d2,d3,d4,d5,d6,d7,d8,d9⟩:=allTen Z4.out
 go_wp2_with fail
 refine (H5.out _ HB4.out).mono ?_
 rintro e w5 ⟨rfl,hb5⟩
 have HB5:=Lib.hid (HB4.out.trans (hb5.mono HB4.out.size))
 clear hb5 d0 d1 d2 d3 d4 d5 d6 d7 d8 d9 H5
 go_wp2_with fail
 refine (HQ.out _).mono ?_
 rintro e w6 ⟨rfl,hb6⟩
 have HB6:=Lib.hid (HB3.out.trans ((HB5.out.trans (hb6.mono HB5.out.size)).mono HB3.out.size))
 clear hb6
 go_wp2
 go_ret
 exact ⟨rfl,HB6.out⟩
end Go.Proofs.YtnfdknhhkdphhaaGreatDoor
namespace Go.Proofs.YtnfdknhhkdphhaaGreatDoor
open Go.RowKit
namespace Tr
mutual
def ndT:Tr→Nat
 | .node _ _ _ _ _ s _ _ _ _=>1+ndS s
def ndS:List Tr→Nat
 | []=>0
 | t :: l=>ndT t+ndS l
end
theorem ndT_eq (t:Tr):t.ndT=1+ndS t.subs:=by cases t;rw [ndT];rfl
mutual
def leftT:Tr→Int→Int
 | .node _ _ _ _ _ s _ _ _ _,m=>leftS s (m - 1)
def leftS:List Tr→Int→Int
 | [],m=>m
 | t :: l,m=>if 0 ≤ m then leftS l (leftT t m) else m
end
theorem leftT_eq (t:Tr) (m:Int):t.leftT m=leftS t.subs (m - 1):=by cases t;rw [leftT];rfl
theorem leftS_neg (l:List Tr) {m:Int} (h:m < 0):leftS l m=m:=by
 cases l with
 | nil=>rfl
 | cons t l=>rw [leftS,if_neg (by omega)]
theorem leftS_spec:∀ (l:List Tr),(∀ t,t ∈ l→∀ m,0 ≤ m→t.leftT m ≤ m∧-1 ≤ t.leftT m∧(0 ≤ t.leftT m→t.leftT m=m - t.ndT)∧((t.ndT:Int) ≤ m→0 ≤ t.leftT m))→∀ m,-1 ≤ m→leftS l m ≤ m∧-1 ≤ leftS l m∧(0 ≤ leftS l m→leftS l m=m - ndS l)∧(0 ≤ m→(ndS l:Int) ≤ m→0 ≤ leftS l m)
 | [],_,m,hm=>by rw [leftS,ndS];exact ⟨Int.le_refl _,hm,fun _=>by omega,fun h _=>h⟩
 | t :: l,ih,m,hm=>by
   rw [leftS,ndS]
   split
   · rename_i h0
     obtain ⟨h1,h2,h3,h4⟩:=ih t List.mem_cons_self m h0
     obtain ⟨k1,k2,k3,k4⟩:=leftS_spec l (fun u hu=>ih u (List.mem_cons_of_mem _ hu)) (t.leftT m) h2
     refine ⟨by omega,k2,fun h=>?_,fun _ h=>?_⟩
     · have:=h3 (by omega)
       have:=k3 h
       omega
     · have a:=h4 (by omega)
       have b:=h3 a
       exact k4 a (by omega)
   · rename_i h0
     exact ⟨Int.le_refl _,hm,fun h=>absurd h h0,fun h=>absurd h h0⟩
theorem leftT_spec:∀ (t:Tr) (m:Int),0 ≤ m→t.leftT m ≤ m∧-1 ≤ t.leftT m∧(0 ≤ t.leftT m→t.leftT m=m - t.ndT)∧((t.ndT:Int) ≤ m→0 ≤ t.leftT m):=by
 intro t
 induction t using Tr.rec_subs with
 | h t ih =>
   intro m hm
   rw [leftT_eq,ndT_eq]
   obtain ⟨k1,k2,k3,k4⟩:=leftS_spec t.subs (fun u hu=>ih u hu) (m - 1) (by omega)
   exact ⟨by omega,k2,fun h=>by have:=k3 h;omega,fun h=>k4 (by omega) (by omega)⟩
end Tr
theorem numleft_any:∀ t:Tr,∀ m0:Nat,m0 ≤ 1000000→∀ (w:World) (B:Nat→Prop) (v:Value),NodeV w B v t→Calls Tryz.prog 33 #[v,.int .i64 m0] w fun e w'=>e=.returned (.int .i64 (t.leftT m0))∧Below w.heap.size w w':=by
 intro t
 induction t using Tr.rec_subs with
 | h t ih =>
   intro m0 hm0 w B v hv
   obtain ⟨s,rfl,hs⟩:=hv
   obtain ⟨p,cap,rfl,hlen⟩:=hs.slice
   have hsp:=Tr.leftS_spec t.subs (fun u _=>Tr.leftT_spec u)
   rw [Tr.leftT_eq]
   generalize hts:t.subs=ts at *
   have IH:=Lib.hid ih;have HS:=Lib.hid hs;have HSP:=Lib.hid hsp
   clear ih hs hts hsp
   unfold Tr.cells at *
   obtain ⟨R,hR⟩:∃ R,Tr.leftS ts ((m0:Int) - 1)=R:=⟨_,rfl⟩
   rw [hR]
   have HR:=Lib.hid hR
   clear hR
   have w0:IntKind.i64.wrap ((m0:Int) - 1)=(m0:Int) - 1:=IntWalk.i64_in _ (by omega)
   have Z0:=Lib.hid (heap_alloc_new w (.cells #[.int .i64 t.kind,.int .u64 (Oc.U t.w0),.int .u64 (Oc.U t.w1),.int .u64 (Oc.U t.w2),.int .u64 (Oc.U t.w3),.slice p ts.length cap,.int .i64 t.num,.int .i64 t.least,.int .i64 t.most,.bool t.bare] 28))
   have HW:=Lib.hid (show Below w.heap.size w (w.alloc (.cells #[.int .i64 t.kind,.int .u64 (Oc.U t.w0),.int .u64 (Oc.U t.w1),.int .u64 (Oc.U t.w2),.int .u64 (Oc.U t.w3),.slice p ts.length cap,.int .i64 t.num,.int .i64 t.least,.int .i64 t.most,.bool t.bare] 28)) from (Below.refl _ _).alloc (Nat.le_refl _) _)
   go_enter Tryz.func33,Tryz.ntmps33
   go_wp2
   generalize w.alloc (.cells #[.int .i64 t.kind,.int .u64 (Oc.U t.w0),.int .u64 (Oc.U t.w1),.int .u64 (Oc.U t.w2),.int .u64 (Oc.U t.w3),.slice p ts.length cap,.int .i64 t.num,.int .i64 t.least,.int .i64 t.most,.bool t.bare] 28)=W0 at *
   go_loopw [1,5] (fun mv iv wr=>∃ (i:Nat) (m:Int),iv=.int .i64 i∧mv=.int .i64 m∧i ≤ ts.length∧-1 ≤ m∧m ≤ 1000000∧Hid (Tr.leftS (ts.drop i) m=R)∧Hid (Below W0.heap.size W0 wr)) (fun _ iv _=>ts.length - (intOf iv).toNat)
   case atStart=>exact ⟨0,(m0:Int) - 1,rfl,rfl,Nat.zero_le _,by omega,by omega,by rw [List.drop_zero];exact HR,Lib.hid (Below.refl _ _)⟩
   case round =>
     obtain ⟨i,m,rfl,rfl,hi,hm1,hm2,HL,HB⟩:=hrel
     have wi:IntKind.i64.wrap ((i:Int)+1)=(i:Int)+1:=IntWalk.i64_in _ (by omega)
     have HBW:=Lib.hid (HW.out.trans (HB.out.mono HW.out.size))
     have Z1:=Lib.hid (keep_blk (HB.out.mono (Nat.le_refl _)) Z0.out)
     obtain ⟨d0,d1,d2,d3,d4,d5,d6,d7,d8,d9⟩:=allTen Z1.out
     by_cases hlt:i < ts.length
     · by_cases hmz:0 ≤ m
       · obtain ⟨mn,rfl⟩:∃ mn:Nat,m=mn:=⟨m.toNat,by omega⟩
         have gm:decide ((0:Int) ≤ (mn:Int))=true:=by simp
         obtain ⟨x,hx⟩:∃ x,ts[i]? = some x:=⟨_,List.getElem?_eq_getElem hlt⟩
         obtain ⟨b1,o1,s1,rfl,-,t1,sub1⟩:=HS.out.get hx
         obtain ⟨e0,e1,e2,e3,e4,e5,e6,e7,e8,e9⟩:=t1.keep (HBW.out.block _ t1.lt)
         have hmem:=List.mem_of_getElem? hx
         obtain ⟨p1,c1,rfl,hl1⟩:=sub1.slice
         have HC:=Lib.hid (IH.out x hmem mn (by omega) wr B (.agg (x.cells (.slice p1 x.subs.length c1))) ⟨_,rfl,sub1.later HBW.out⟩)
         have hdr:ts.drop i=x :: ts.drop (i+1):=by
           rw [List.drop_eq_getElem_cons hlt,(List.getElem?_eq_some_iff.1 hx).2]
         have hl:=HL.out
         rw [hdr,Tr.leftS,if_pos (by omega)] at hl
         have HL2:=Lib.hid hl
         obtain ⟨k1,k2,-,-⟩:=Tr.leftT_spec x mn (by omega)
         clear t1 sub1 hmem hx hdr hl HL
         unfold Tr.cells at HC
         go_wp2_with fail
         refine HC.out.mono ?_
         rintro e w2 ⟨rfl,hb2⟩
         have HB2:=Lib.hid (HB.out.trans (hb2.mono HB.out.size))
         generalize x.leftT mn=mm at *
         clear e0 e1 e2 e3 e4 e5 e6 e7 e8 e9 hb2 HC d0 d1 d2 d3 d4 d5 d6 d7 d8 d9
         go_wp2
         exact ⟨⟨i+1,mm,by go_num,rfl,by omega,k2,by omega,HL2,HB2⟩,by simp [intOf];omega⟩
       · have gm:decide ((0:Int) ≤ m)=false:=by simp;omega
         have hl:=HL.out
         rw [Tr.leftS_neg _ (by omega)] at hl
         have HL2:=Lib.hid hl
         clear hl HL hmz
         go_wp2
         go_ret
         exact ⟨ret_int HL2.out,HBW.out⟩
     · obtain rfl:i=ts.length:=by omega
       have hl:=HL.out
       rw [List.drop_length,Tr.leftS] at hl
       have HL2:=Lib.hid hl
       clear hl HL
       go_wp2
       go_ret
       exact ⟨ret_int HL2.out,HBW.out⟩
theorem few_any (t:Tr) (m:Nat) (hm:m ≤ 1000000) (w:World) (B:Nat→Prop) (v:Value) (hv:NodeV w B v t) :
   Calls Tryz.prog 14 #[v,.int .i64 m] w fun e w'=>e=.returned (.bool (decide (t.ndT ≤ m)))∧Below w.heap.size w w':=by
 obtain ⟨s,rfl,hs⟩:=hv
 have H1:=Lib.hid (fun w' (hb:Below w.heap.size w w')=>numleft_any t m hm w' B (.agg (t.cells s)) ⟨s,rfl,TreesAt.later (w':=w') hs hb⟩)
 obtain ⟨p,cap,rfl,hlen⟩:=hs.slice
 have hsp:=Tr.leftT_spec t m (by omega)
 have hdec:decide ((0:Int) ≤ t.leftT m)=decide (t.ndT ≤ m):=by
   by_cases h:t.ndT ≤ m
   · rw [decide_eq_true h,decide_eq_true (hsp.2.2.2 (by omega))]
   · rw [decide_eq_false h,decide_eq_false (fun h2=>h (by have:=hsp.2.2.1 h2;omega))]
 have HD:=Lib.hid hdec
 have Z0:=Lib.hid (heap_alloc_new w (.cells (t.cells (.slice p t.subs.length cap)) 28))
 have HW:=Lib.hid (show Below w.heap.size w (w.alloc (.cells (t.cells (.slice p t.subs.length cap)) 28)) from (Below.refl _ _).alloc (Nat.le_refl _) _)
 clear hs hsp hdec
 unfold Tr.cells at *
 go_enter Tryz.func14,Tryz.ntmps14
 go_wp2_with (first
   | (refine wpList_load_row rfl 28 (.tmp 2) rfl w.heap.size rfl 28 _ (0,0) _ Z0.out Tryz.underlying28 rfl (by kernel_rfl) ?_)
   | fail)
 refine (H1.out _ HW.out).mono ?_
 rintro e w1 ⟨rfl,hb1⟩
 have HB1:=Lib.hid (HW.out.trans (hb1.mono HW.out.size))
 clear hb1
 generalize t.leftT m=mm at *
 go_wp2
 go_ret
 exact ⟨ret_bool HD.out,HB1.out⟩
end Go.Proofs.YtnfdknhhkdphhaaGreatDoor
namespace Go.Proofs.YtnfdknhhkdphhaaGreatDoor
namespace Tr
theorem dpS_nd:∀ {l:List Tr},(∀ t,t ∈ l→t.dpT ≤ 2 * t.ndT)→dpS l ≤ 2 * ndS l
 | [],_=>by simp [dpS]
 | t :: l,h=>by
   have h1:=h t List.mem_cons_self
   have h2:=dpS_nd (l:=l) fun u hu=>h u (List.mem_cons_of_mem _ hu)
   rw [dpS,ndS];omega
theorem dp_nd (t:Tr):t.dpT ≤ 2 * t.ndT:=by
 induction t using Tr.rec_subs with
 | h t ih =>
   have h:=dpS_nd ih
   rw [dpT_eq,ndT_eq]
   split
   · omega
   · split <;> omega
end Tr
end Go.Proofs.YtnfdknhhkdphhaaGreatDoor
namespace Go.Proofs.YtnfdknhhkdphhaaGreatDoor
namespace Tr
theorem numsS_nd:∀ {l:List Tr},(∀ t,t ∈ l→t.numsT.length ≤ t.ndT)→(numsS l).length ≤ ndS l
 | [],_=>by simp [numsS,ndS]
 | t :: l,h=>by
   have h1:=h t List.mem_cons_self
   have h2:=numsS_nd (l:=l) fun u hu=>h u (List.mem_cons_of_mem _ hu)
   rw [numsS,ndS,List.length_append];omega
theorem nums_nd (t:Tr):t.numsT.length ≤ t.ndT:=by
 induction t using Tr.rec_subs with
 | h t ih =>
   have h:=numsS_nd ih
   rw [numsT_eq,ndT_eq,List.length_append]
   split <;> simp <;> omega
theorem nestS_nd:∀ {l:List Tr},(∀ t,t ∈ l→t.nestT ≤ t.ndT)→nestS l ≤ ndS l
 | [],_=>by simp [nestS,ndS]
 | t :: l,h=>by
   have h1:=h t List.mem_cons_self
   have h2:=nestS_nd (l:=l) fun u hu=>h u (List.mem_cons_of_mem _ hu)
   rw [nestS,ndS];omega
theorem nest_nd (t:Tr):t.nestT ≤ t.ndT:=by
 induction t using Tr.rec_subs with
 | h t ih =>
   have h:=nestS_nd ih
   rw [nestT_eq,ndT_eq]
   split <;> omega
end Tr
namespace Sp
theorem txR_nd (S:Tr→List UInt8) (sep:List UInt8) (hs:sep.length ≤ 1):∀ {l:List Tr},(∀ t,t ∈ l→(txT S t).length+1 ≤ 1000 * t.ndT)→(txR S sep l).length ≤ 1000 * Tr.ndS l
 | [],_=>by simp [txR]
 | t :: l,h=>by
   have h1:=h t List.mem_cons_self
   have h2:=txR_nd S sep hs (l:=l) fun u hu=>h u (List.mem_cons_of_mem _ hu)
   rw [txR,Tr.ndS,List.length_append,List.length_append];omega
theorem txS_nd (S:Tr→List UInt8) (sep:List UInt8) (hs:sep.length ≤ 1) {l:List Tr} (h:∀ t,t ∈ l→(txT S t).length+1 ≤ 1000 * t.ndT):(txS S sep l).length ≤ 1000 * Tr.ndS l:=by
 cases l with
 | nil=>simp [txS]
 | cons t l =>
   have h1:=h t List.mem_cons_self
   have h2:=txR_nd S sep hs (l:=l) fun u hu=>h u (List.mem_cons_of_mem _ hu)
   rw [txS,Tr.ndS,List.length_append];omega
theorem setTx_len (x:Tr):(setTx x).length ≤ 810:=by
 have h1:=itemsW_len x.w0 x.w1 x.w2 x.w3
 have h2:=itemsW_len (~~~x.w0) (~~~x.w1) (~~~x.w2) (~~~x.w3)
 have h3:=qb_len true (UInt8.ofNat (Oc.nx (Oc.mem x.w0 x.w1 x.w2 x.w3) 0))
 unfold setTx setW
 split
 · simp
 · split
   · omega
   · split
     · simp only [List.length_append,List.length_cons,List.length_nil];omega
     · split
       · simp
       · simp only [List.length_append,List.length_cons,List.length_nil];omega
theorem txT_nd (t:Tr):t.InForm→(txT setTx t).length+1 ≤ 1000 * t.ndT:=by
 induction t using Tr.rec_subs with
 | h t ih =>
   intro hf
   have ih':∀ u,u ∈ t.subs→(txT setTx u).length+1 ≤ 1000 * u.ndT:=fun u hu=>ih u hu (hf.sub hu)
   have h0:=txS_nd setTx [] (by simp) ih'
   have h1:=txS_nd setTx [124] (by simp) ih'
   have hs:=setTx_len t
   have hfl:=hf.fields
   have hr:t.kind=8→(repTx t.least t.most).length ≤ 43:=fun hk=>by
     have hb:(0 ≤ t.least∧t.least ≤ 255)∧(t.most = -1 ∨ t.least ≤ t.most∧t.most ≤ 255):=by
       unfold Tr.fieldsOk at hfl
       rcases hfl with ⟨h | h | h,-⟩ | ⟨h,-⟩ | ⟨h | h,-⟩ | ⟨h,-⟩ | ⟨h,-,-,-,-,-,-,h1,h2,h3,-⟩
       all_goals first
         | exact ⟨⟨h1,h2⟩,h3⟩
         | omega
     exact repTx_len _ _ (by omega) (by omega)
   have htx:txT setTx t=if t.kind=2 then setTx t else if t.kind=3 then [94] else if t.kind=4 then [36] else if t.kind=5 then txS setTx [] t.subs else if t.kind=6 then txS setTx [124] t.subs else if t.kind=7 then [40] ++ txS setTx [] t.subs ++ [41] else if t.kind=8 then txS setTx [] t.subs ++ repTx t.least t.most else []:=by
     cases t;rw [txT];rfl
   rw [htx,Tr.ndT_eq]
   by_cases k2:t.kind=2
   · rw [if_pos k2];omega
   rw [if_neg k2]
   by_cases k3:t.kind=3
   · rw [if_pos k3];simp;omega
   rw [if_neg k3]
   by_cases k4:t.kind=4
   · rw [if_pos k4];simp;omega
   rw [if_neg k4]
   by_cases k5:t.kind=5
   · rw [if_pos k5];omega
   rw [if_neg k5]
   by_cases k6:t.kind=6
   · rw [if_pos k6];omega
   rw [if_neg k6]
   by_cases k7:t.kind=7
   · rw [if_pos k7];simp only [List.length_append,List.length_cons,List.length_nil];omega
   rw [if_neg k7]
   by_cases k8:t.kind=8
   · have:=hr k8
     rw [if_pos k8,List.length_append];omega
   · rw [if_neg k8];simp;omega
end Sp
end Go.Proofs.YtnfdknhhkdphhaaGreatDoor
namespace Go.Proofs.YtnfdknhhkdphhaaGreatDoor
open Go.RowKit
theorem spelltexts_any (A:Nat→Addr) (t:Tr) (w:World) (hE:Errs w A) (hF:SpPow w) (hT:SpTab w) (C:Nat→Prop) (v:Value) (hv:NodeV w C v t):Calls Tryz.prog 4 #[v] w fun e w'=>e=.returned (.bool true)∧Below w.heap.size w w':=by
 have HLI:=Lib.hid (fun w' (h:Below w.heap.size w w')=>splives_any w' (hF.later h) (hT.later h))
 have HFE:=Lib.hid (fun w' (h:Below w.heap.size w w')=>few_any t 3000 (by omega) w' C v (hv.later h))
 have HCP:=Lib.hid (fun w' (h:Below w.heap.size w w')=>copynode_any t w' C v (hv.later h))
 have hnums:=Tr.nums_nd t;have hdp:=Tr.dp_nd t;have hnest:=Tr.nest_nd t
 have HTX:=Lib.hid (fun (hd:t.ndT ≤ 3000) (hf:t.InForm)=>show (Sp.txT Sp.setTx t).length ≤ 70368744177664 from by have:=Sp.txT_nd t hf;omega)
 have HEN:=Lib.hid (fun (hd:t.ndT ≤ 3000) w' (h:Below w.heap.size w w') C' v' (hv':NodeV w' C' v' t)=>spere_any A Sp.setTx t (by omega) (by omega) (by omega) (HTX.out hd) w' (hE.below h) (hF.later h) (fun w0 h0 x _=>wrset_any w0 (hT.later (h.trans (h0.mono h.size))) x) C' v' hv')
 have HRE:=Lib.hid (fun (hd:t.ndT ≤ 3000) w' (h:Below w.heap.size w w')=>refere_any Sp.setTx t (by omega) (by omega) (by omega) (HTX.out hd) (fun x _=>refset_any x) w' C v (hv.later h))
 have hc22:(ereC Sp.setTx t).2 < 22:=by
   have:=Tr.checkC_lt t
   unfold ereC
   split
   · exact this
   · split
     · decide
     · split
       · decide
       · split <;> simp
 have HNU:=Lib.hid (fun w' (h:Below w.heap.size w w')=>sentV_num A (ereC Sp.setTx t).2 hc22 w' (hE.below h))
 have HTI:=Lib.hid (fun (hd:t.ndT ≤ 3000) w' (h:Below w.heap.size w w') C' v' (hv':NodeV w' C' v' t)=>tidy_any A t (by omega) (by omega) w' (hE.below h) C' v' hv')
 have HRT:=Lib.hid (fun (hd:t.ndT ≤ 3000) w' (h:Below w.heap.size w w')=>reftidy_any t (by omega) (by omega) w' C v (hv.later h))
 have HSN:=Lib.hid (fun w' (h:Below w.heap.size w w') C' v' (hv':NodeV w' C' v' t)=>samenodes_any t t w' C' C v' v hv' (hv.later h))
 obtain ⟨s,rfl,hs⟩:=hv
 obtain ⟨p,cap,rfl,hlens⟩:=hs.slice
 have Z0:=Lib.hid (heap_alloc_new w (.cells (t.cells (.slice p t.subs.length cap)) 28))
 have HW:=Lib.hid (show Below w.heap.size w (w.alloc (.cells (t.cells (.slice p t.subs.length cap)) 28)) from (Below.refl _ _).alloc (Nat.le_refl _) _)
 clear hs hE hF hT hnums hdp hnest HTX
 unfold Tr.cells at *
 go_enter Tryz.func4,Tryz.ntmps4
 go_wp2_with fail
 refine (HLI.out _ HW.out).mono ?_
 rintro e w1 ⟨rfl,hb1⟩
 have Z1:=Lib.hid (keep_blk (hb1.mono (Nat.le_refl _)) Z0.out)
 have HB1:=Lib.hid (HW.out.trans (hb1.mono HW.out.size))
 clear hb1 Z0 HLI HW
 go_wp2_with (first
   | (refine wpList_load_row rfl 28 (.tmp 1) rfl w.heap.size rfl 28 _ (0,0) _ Z1.out Tryz.underlying28 rfl (by kernel_rfl) ?_)
   | fail)
 refine (HFE.out _ HB1.out).mono ?_
 rintro e w2 ⟨rfl,hb2⟩
 have Z2:=Lib.hid (keep_blk hb2 Z1.out)
 have HB2:=Lib.hid (HB1.out.trans (hb2.mono HB1.out.size))
 clear hb2 Z1 HB1 HFE
 by_cases hd:t.ndT ≤ 3000
 case neg =>
   have e1:decide (t.ndT ≤ 3000)=false:=decide_eq_false hd
   rw [e1]
   go_wp2
   go_ret
   exact ⟨rfl,HB2.out⟩
 have e1:decide (t.ndT ≤ 3000)=true:=decide_eq_true hd
 rw [e1]
 have HEN':=Lib.hid (HEN.out hd);have HRE':=Lib.hid (HRE.out hd);have HTI':=Lib.hid (HTI.out hd);have HRT':=Lib.hid (HRT.out hd)
 clear e1 hd HEN HRE HTI HRT
 go_wp2_with (first
   | (refine wpList_load_row rfl 28 (.tmp 1) rfl w.heap.size rfl 28 _ (0,0) _ Z2.out Tryz.underlying28 rfl (by kernel_rfl) ?_)
   | fail)
 refine (HCP.out _ HB2.out).mono ?_
 rintro e w3 ⟨v3,rfl,hv3,hb3⟩
 have Z3:=Lib.hid (keep_blk hb3 Z2.out)
 have HB3:=Lib.hid (HB2.out.trans (hb3.mono HB2.out.size))
 have HV3:=Lib.hid hv3
 obtain ⟨s3,rfl,hs3⟩:=hv3
 obtain ⟨p3,c3,rfl,-⟩:=hs3.slice
 clear hb3 Z2 HB2 HCP hs3
 unfold Tr.cells at *
 go_upto_region 6 with (fail)
 have HB4':=Lib.hid (fun o=>HB3.out.alloc HB3.out.size o)
 have Z4':=Lib.hid (fun o=>heap_alloc_lt (o:=o) Z3.out)
 have Y4':=Lib.hid (heap_alloc_new w3 (.cells #[.int .i64 t.kind,.int .u64 (Oc.U t.w0),.int .u64 (Oc.U t.w1),.int .u64 (Oc.U t.w2),.int .u64 (Oc.U t.w3),.slice p3 t.subs.length c3,.int .i64 t.num,.int .i64 t.least,.int .i64 t.most,.bool t.bare] 28))
 have HV4':=Lib.hid (fun o=>HV3.out.later ((Below.refl w3.heap.size w3).alloc (Nat.le_refl _) o))
 generalize hW4:World.alloc w3 _=W4 at *
 have HB4:=Lib.hid (show Below w.heap.size w W4 from hW4 ▸ HB4'.out _)
 have Z4:=Lib.hid (hW4 ▸ Z4'.out _)
 have Y4:=Lib.hid Y4'.out
 have HV4:=Lib.hid (hW4 ▸ HV4'.out _)
 clear hW4 HB4' Z4' Y4' HV4' HB3 Z3 HV3
 generalize (ereC Sp.setTx t).2=cc at *
 generalize htx:tx (ereC Sp.setTx t).1=TX at *
 generalize hTB:t.tidyB=TB at *
 go_wp2_with (first
   | (refine wpList_load_row rfl 28 (.tmp 3) rfl w3.heap.size rfl 28 _ (0,0) _ Y4.out Tryz.underlying28 rfl (by kernel_rfl) ?_)
   | fail)
 refine (HEN'.out _ HB4.out _ _ HV4.out).mono ?_
 rintro e w5 ⟨rfl,hb5⟩
 have HB5:=Lib.hid (HB4.out.trans (hb5.mono HB4.out.size))
 have Z5:=Lib.hid (keep_blk hb5 Z4.out);have Y5:=Lib.hid (keep_blk hb5 Y4.out);have HV5:=Lib.hid (HV4.out.later hb5)
 clear hb5 Z4 Y4 HV4 HB4
 go_wp2_with (first
   | (refine wpList_load_row rfl 28 (.tmp 1) rfl w.heap.size rfl 28 _ (0,0) _ Z5.out Tryz.underlying28 rfl (by kernel_rfl) ?_)
   | fail)
 refine (HRE'.out _ HB5.out).mono ?_
 rintro e w7 ⟨rfl,hb7⟩
 have HB7:=Lib.hid (HB5.out.trans (hb7.mono HB5.out.size))
 have Z7:=Lib.hid (keep_blk hb7 Z5.out);have Y7:=Lib.hid (keep_blk hb7 Y5.out);have HV7:=Lib.hid (HV5.out.later hb7)
 clear hb7 Z5 Y5 HV5 HB5 HEN' HRE'
 obtain ⟨SV,hSV⟩:∃ SV,sentV A cc=SV:=⟨_,rfl⟩
 rw [hSV] at HNU ⊢
 have HNU:=Lib.hid (fun w9 (h:Below w7.heap.size w7 w9)=>HNU.out w9 (HB7.out.trans (h.mono HB7.out.size)))
 have HTI:=Lib.hid (fun w9 (h:Below w7.heap.size w7 w9)=>HTI'.out w9 (HB7.out.trans (h.mono HB7.out.size)) _ _ (HV7.out.later h))
 have HRT:=Lib.hid (fun w9 (h:Below w7.heap.size w7 w9)=>HRT'.out w9 (HB7.out.trans (h.mono HB7.out.size)))
 have HSA:=Lib.hid (fun w9 (h:Below w7.heap.size w7 w9)=>(HSN.out w9 (HB7.out.trans (h.mono HB7.out.size)) _ _ (HV7.out.later h)).mono fun e w' hs=>hs.yes rfl)
 clear HTI' HRT' HSN hSV htx hTB
 go_upto_region 8 with (fail)
 refine Ri.wp_region_frame (by kernel_rfl) (by kernel_rfl) (by kernel_rfl) (by kernel_rfl)
   (fun L v w'=>Below w7.heap.size w7 w'∧(L 0=true→v 0=.string TX)∧(L 1=true→v 1=.string TX)∧(L 2=true→v 2=.bool true)∧(L 3=true→v 3=.bool true)∧(L 4=true→v 4=SV)∧(L 5=true→v 5=.int .i64 (cc:Int))∧(L 6=true→v 6=.int .i64 (cc:Int))∧(L 7=true→v 7=.bool true)∧(L 8=true→v 8=.bool true)∧(L 9=true→v 9=.bool true)∧(L 10=true→v 10=.agg #[.int .i64 t.kind,.int .u64 (Oc.U t.w0),.int .u64 (Oc.U t.w1),.int .u64 (Oc.U t.w2),.int .u64 (Oc.U t.w3),.slice p3 t.subs.length c3,.int .i64 t.num,.int .i64 t.least,.int .i64 t.most,.bool t.bare])∧(L 11=true→v 11=.bool TB)∧(L 12=true→v 12=.agg #[.int .i64 t.kind,.int .u64 (Oc.U t.w0),.int .u64 (Oc.U t.w1),.int .u64 (Oc.U t.w2),.int .u64 (Oc.U t.w3),.slice p t.subs.length cap,.int .i64 t.num,.int .i64 t.least,.int .i64 t.most,.bool t.bare])∧(L 13=true→v 13=.bool TB)∧(L 14=true→v 14=.bool true)∧(L 15=true→v 15=.bool true)∧(L 16=true→v 16=.bool true)∧(L 17=true→v 17=.agg #[.int .i64 t.kind,.int .u64 (Oc.U t.w0),.int .u64 (Oc.U t.w1),.int .u64 (Oc.U t.w2),.int .u64 (Oc.U t.w3),.slice p3 t.subs.length c3,.int .i64 t.num,.int .i64 t.least,.int .i64 t.most,.bool t.bare])∧(L 18=true→v 18=.agg #[.int .i64 t.kind,.int .u64 (Oc.U t.w0),.int .u64 (Oc.U t.w1),.int .u64 (Oc.U t.w2),.int .u64 (Oc.U t.w3),.slice p t.subs.length cap,.int .i64 t.num,.int .i64 t.least,.int .i64 t.most,.bool t.bare])∧(L 19=true→v 19=.bool true)∧(L 20=true→v 20=.bool true)∧(L 21=true→v 21=.bool true))
   ?_ ?_ ?_
 · exact ⟨(Below.refl _ _).drew,by simp,by simp,by simp,by simp,by simp,by simp,by simp,by simp,by simp,by simp,by simp,by simp,by simp,by simp,by simp,by simp,by simp,by simp,by simp,by simp,by simp,by simp⟩
 · intro i hi9 L v w9 xa hI hL hd hv ho
   have hi':i=0 ∨ i=1 ∨ i=2 ∨ i=3 ∨ i=4 ∨ i=5 ∨ i=6 ∨ i=7 ∨ i=8 ∨ i=9 ∨ i=10 ∨ i=11 ∨ i=12 ∨ i=13 ∨ i=14 ∨ i=15 ∨ i=16 ∨ i=17 ∨ i=18 ∨ i=19 ∨ i=20 ∨ i=21:=by simp at hi9;omega
   obtain ⟨hb,q0,q1,q2,q3,q4,q5,q6,q7,q8,q9,q10,q11,q12,q13,q14,q15,q16,q17,q18,q19,q20,q21⟩:=hI
   rcases hi' with rfl | rfl | rfl | rfl | rfl | rfl | rfl | rfl | rfl | rfl | rfl | rfl | rfl | rfl | rfl | rfl | rfl | rfl | rfl | rfl | rfl | rfl
   · have e4:xa.tmps.getD 4 undef=.string TX:=ho 4 (by kernel_rfl)
     refine Ri.step_plain rfl rfl (fun K' hK=>?_)
     go_simp
     exact hK _ _ ⟨_,_,rfl,rfl,hb,fun _=>rfl,q1,q2,q3,q4,q5,q6,q7,q8,q9,q10,q11,q12,q13,q14,q15,q16,q17,q18,q19,q20,q21⟩
   · have e6:xa.tmps.getD 6 undef=.string TX:=ho 6 (by kernel_rfl)
     refine Ri.step_plain rfl rfl (fun K' hK=>?_)
     go_simp
     exact hK _ _ ⟨_,_,rfl,rfl,hb,q0,fun _=>rfl,q2,q3,q4,q5,q6,q7,q8,q9,q10,q11,q12,q13,q14,q15,q16,q17,q18,q19,q20,q21⟩
   · have l0:L 0=true∧L 1=true:=by have:=hd _ rfl;simp [Region.binds] at this;simp [this]
     have f0:=(hv 0 25 rfl l0.1).trans (q0 l0.1)
     have f1:=(hv 1 26 rfl l0.2).trans (q1 l0.2)
     refine Ri.step_plain rfl rfl (fun K' hK=>?_)
     go_simp
     exact hK _ _ ⟨_,_,rfl,rfl,hb,q0,q1,fun _=>rfl,q3,q4,q5,q6,q7,q8,q9,q10,q11,q12,q13,q14,q15,q16,q17,q18,q19,q20,q21⟩
   · have l0:L 2=true:=by have:=hd _ rfl;simp [Region.binds] at this;simp [this]
     have f2:=(hv 2 27 rfl l0).trans (q2 l0)
     refine Ri.step_plain rfl rfl (fun K' hK=>?_)
     go_simp
     exact hK _ _ ⟨_,_,rfl,rfl,hb,q0,q1,q2,fun _=>rfl,q4,q5,q6,q7,q8,q9,q10,q11,q12,q13,q14,q15,q16,q17,q18,q19,q20,q21⟩
   · have l0:L 3=true:=by have:=hd _ rfl;simp [Region.binds] at this;simp [this]
     have f3:=(hv 3 28 rfl l0).trans (q3 l0)
     have e5:xa.tmps.getD 5 undef=SV:=ho 5 (by kernel_rfl)
     refine Ri.step_wanted (b:=true) rfl rfl rfl f3 (fun K' hK=>?_)
     go_simp
     exact hK _ _ ⟨_,_,rfl,rfl,hb,q0,q1,q2,q3,fun _=>rfl,q5,q6,q7,q8,q9,q10,q11,q12,q13,q14,q15,q16,q17,q18,q19,q20,q21⟩
   · have l0:L 3=true∧L 4=true:=by have:=hd _ rfl;simp [Region.binds] at this;simp [this]
     have f3:=(hv 3 28 rfl l0.1).trans (q3 l0.1)
     have f4:=(hv 4 29 rfl l0.2).trans (q4 l0.2)
     refine Ri.step_wanted (b:=true) rfl rfl rfl f3 (fun K' hK=>?_)
     go_simp
     refine (HNU.out _ hb).mono ?_
     rintro e w8 ⟨rfl,hb8⟩
     exact hK _ _ ⟨_,_,rfl,rfl,hb.trans (hb8.mono hb.size),q0,q1,q2,q3,q4,fun _=>rfl,q6,q7,q8,q9,q10,q11,q12,q13,q14,q15,q16,q17,q18,q19,q20,q21⟩
   · have l0:L 3=true:=by have:=hd _ rfl;simp [Region.binds] at this;simp [this]
     have f3:=(hv 3 28 rfl l0).trans (q3 l0)
     have e7:xa.tmps.getD 7 undef=.int .i64 (cc:Int):=ho 7 (by kernel_rfl)
     refine Ri.step_wanted (b:=true) rfl rfl rfl f3 (fun K' hK=>?_)
     go_simp
     exact hK _ _ ⟨_,_,rfl,rfl,hb,q0,q1,q2,q3,q4,q5,fun _=>rfl,q7,q8,q9,q10,q11,q12,q13,q14,q15,q16,q17,q18,q19,q20,q21⟩
   · have l0:L 3=true∧L 5=true∧L 6=true:=by have:=hd _ rfl;simp [Region.binds] at this;simp [this]
     have f3:=(hv 3 28 rfl l0.1).trans (q3 l0.1)
     have f5:=(hv 5 30 rfl l0.2.1).trans (q5 l0.2.1)
     have f6:=(hv 6 31 rfl l0.2.2).trans (q6 l0.2.2)
     refine Ri.step_wanted (b:=true) rfl rfl rfl f3 (fun K' hK=>?_)
     go_simp
     exact hK _ _ ⟨_,_,rfl,rfl,hb,q0,q1,q2,q3,q4,q5,q6,fun _=>rfl,q8,q9,q10,q11,q12,q13,q14,q15,q16,q17,q18,q19,q20,q21⟩
   · have l0:L 3=true∧L 7=true:=by have:=hd _ rfl;simp [Region.binds] at this;simp [this]
     have f3:=(hv 3 28 rfl l0.1).trans (q3 l0.1)
     have f7:=(hv 7 32 rfl l0.2).trans (q7 l0.2)
     refine Ri.step_plain rfl rfl (fun K' hK=>?_)
     go_simp
     exact hK _ _ ⟨_,_,rfl,rfl,hb,q0,q1,q2,q3,q4,q5,q6,q7,fun _=>rfl,q9,q10,q11,q12,q13,q14,q15,q16,q17,q18,q19,q20,q21⟩
   · have l0:L 8=true:=by have:=hd _ rfl;simp [Region.binds] at this;simp [this]
     have f8:=(hv 8 33 rfl l0).trans (q8 l0)
     refine Ri.step_plain rfl rfl (fun K' hK=>?_)
     go_simp
     exact hK _ _ ⟨_,_,rfl,rfl,hb,q0,q1,q2,q3,q4,q5,q6,q7,q8,fun _=>rfl,q10,q11,q12,q13,q14,q15,q16,q17,q18,q19,q20,q21⟩
   · have l0:L 9=true:=by have:=hd _ rfl;simp [Region.binds] at this;simp [this]
     have f9:=(hv 9 34 rfl l0).trans (q9 l0)
     have e3:xa.tmps.getD 3 undef=.pointer (some ⟨w3.heap.size,0,none⟩):=ho 3 (by kernel_rfl)
     refine Ri.step_wanted (b:=true) rfl rfl rfl f9 (fun K' hK=>?_)
     obtain ⟨d0,d1,d2,d3,d4,d5,d6,d7,d8,d9⟩:=allTen (keep_blk hb Y7.out)
     go_simp
     exact hK _ _ ⟨_,_,rfl,rfl,hb,q0,q1,q2,q3,q4,q5,q6,q7,q8,q9,fun _=>rfl,q11,q12,q13,q14,q15,q16,q17,q18,q19,q20,q21⟩
   · have l0:L 9=true∧L 10=true:=by have:=hd _ rfl;simp [Region.binds] at this;simp [this]
     have f9:=(hv 9 34 rfl l0.1).trans (q9 l0.1)
     have f10:=(hv 10 35 rfl l0.2).trans (q10 l0.2)
     refine Ri.step_wanted (b:=true) rfl rfl rfl f9 (fun K' hK=>?_)
     go_simp
     refine (HTI.out _ hb).mono ?_
     rintro e w8 ⟨rfl,hb8⟩
     exact hK _ _ ⟨_,_,rfl,rfl,hb.trans (hb8.mono hb.size),q0,q1,q2,q3,q4,q5,q6,q7,q8,q9,q10,fun _=>rfl,q12,q13,q14,q15,q16,q17,q18,q19,q20,q21⟩
   · have l0:L 9=true:=by have:=hd _ rfl;simp [Region.binds] at this;simp [this]
     have f9:=(hv 9 34 rfl l0).trans (q9 l0)
     have e1:xa.tmps.getD 1 undef=.pointer (some ⟨w.heap.size,0,none⟩):=ho 1 (by kernel_rfl)
     refine Ri.step_wanted (b:=true) rfl rfl rfl f9 (fun K' hK=>?_)
     obtain ⟨d0,d1,d2,d3,d4,d5,d6,d7,d8,d9⟩:=allTen (keep_blk hb Z7.out)
     go_simp
     exact hK _ _ ⟨_,_,rfl,rfl,hb,q0,q1,q2,q3,q4,q5,q6,q7,q8,q9,q10,q11,fun _=>rfl,q13,q14,q15,q16,q17,q18,q19,q20,q21⟩
   · have l0:L 9=true∧L 12=true:=by have:=hd _ rfl;simp [Region.binds] at this;simp [this]
     have f9:=(hv 9 34 rfl l0.1).trans (q9 l0.1)
     have f12:=(hv 12 37 rfl l0.2).trans (q12 l0.2)
     refine Ri.step_wanted (b:=true) rfl rfl rfl f9 (fun K' hK=>?_)
     go_simp
     refine (HRT.out _ hb).mono ?_
     rintro e w8 ⟨rfl,hb8⟩
     exact hK _ _ ⟨_,_,rfl,rfl,hb.trans (hb8.mono hb.size),q0,q1,q2,q3,q4,q5,q6,q7,q8,q9,q10,q11,q12,fun _=>rfl,q14,q15,q16,q17,q18,q19,q20,q21⟩
   · have l0:L 9=true∧L 11=true∧L 13=true:=by have:=hd _ rfl;simp [Region.binds] at this;simp [this]
     have f9:=(hv 9 34 rfl l0.1).trans (q9 l0.1)
     have f11:=(hv 11 36 rfl l0.2.1).trans (q11 l0.2.1)
     have f13:=(hv 13 38 rfl l0.2.2).trans (q13 l0.2.2)
     refine Ri.step_wanted (b:=true) rfl rfl rfl f9 (fun K' hK=>?_)
     go_simp
     exact hK _ _ ⟨_,_,rfl,rfl,hb,q0,q1,q2,q3,q4,q5,q6,q7,q8,q9,q10,q11,q12,q13,fun _=>rfl,q15,q16,q17,q18,q19,q20,q21⟩
   · have l0:L 9=true∧L 14=true:=by have:=hd _ rfl;simp [Region.binds] at this;simp [this]
     have f9:=(hv 9 34 rfl l0.1).trans (q9 l0.1)
     have f14:=(hv 14 39 rfl l0.2).trans (q14 l0.2)
     refine Ri.step_plain rfl rfl (fun K' hK=>?_)
     go_simp
     exact hK _ _ ⟨_,_,rfl,rfl,hb,q0,q1,q2,q3,q4,q5,q6,q7,q8,q9,q10,q11,q12,q13,q14,fun _=>rfl,q16,q17,q18,q19,q20,q21⟩
   · have l0:L 15=true:=by have:=hd _ rfl;simp [Region.binds] at this;simp [this]
     have f15:=(hv 15 40 rfl l0).trans (q15 l0)
     refine Ri.step_plain rfl rfl (fun K' hK=>?_)
     go_simp
     exact hK _ _ ⟨_,_,rfl,rfl,hb,q0,q1,q2,q3,q4,q5,q6,q7,q8,q9,q10,q11,q12,q13,q14,q15,fun _=>rfl,q17,q18,q19,q20,q21⟩
   · have l0:L 16=true:=by have:=hd _ rfl;simp [Region.binds] at this;simp [this]
     have f16:=(hv 16 41 rfl l0).trans (q16 l0)
     have e3:xa.tmps.getD 3 undef=.pointer (some ⟨w3.heap.size,0,none⟩):=ho 3 (by kernel_rfl)
     refine Ri.step_wanted (b:=true) rfl rfl rfl f16 (fun K' hK=>?_)
     obtain ⟨d0,d1,d2,d3,d4,d5,d6,d7,d8,d9⟩:=allTen (keep_blk hb Y7.out)
     go_simp
     exact hK _ _ ⟨_,_,rfl,rfl,hb,q0,q1,q2,q3,q4,q5,q6,q7,q8,q9,q10,q11,q12,q13,q14,q15,q16,fun _=>rfl,q18,q19,q20,q21⟩
   · have l0:L 16=true:=by have:=hd _ rfl;simp [Region.binds] at this;simp [this]
     have f16:=(hv 16 41 rfl l0).trans (q16 l0)
     have e1:xa.tmps.getD 1 undef=.pointer (some ⟨w.heap.size,0,none⟩):=ho 1 (by kernel_rfl)
     refine Ri.step_wanted (b:=true) rfl rfl rfl f16 (fun K' hK=>?_)
     obtain ⟨d0,d1,d2,d3,d4,d5,d6,d7,d8,d9⟩:=allTen (keep_blk hb Z7.out)
     go_simp
     exact hK _ _ ⟨_,_,rfl,rfl,hb,q0,q1,q2,q3,q4,q5,q6,q7,q8,q9,q10,q11,q12,q13,q14,q15,q16,q17,fun _=>rfl,q19,q20,q21⟩
   · have l0:L 16=true∧L 17=true∧L 18=true:=by have:=hd _ rfl;simp [Region.binds] at this;simp [this]
     have f16:=(hv 16 41 rfl l0.1).trans (q16 l0.1)
     have f17:=(hv 17 42 rfl l0.2.1).trans (q17 l0.2.1)
     have f18:=(hv 18 43 rfl l0.2.2).trans (q18 l0.2.2)
     refine Ri.step_wanted (b:=true) rfl rfl rfl f16 (fun K' hK=>?_)
     go_simp
     refine (HSA.out _ hb).mono ?_
     rintro e w8 ⟨rfl,hb8⟩
     exact hK _ _ ⟨_,_,rfl,rfl,hb.trans (hb8.mono hb.size),q0,q1,q2,q3,q4,q5,q6,q7,q8,q9,q10,q11,q12,q13,q14,q15,q16,q17,q18,fun _=>rfl,q20,q21⟩
   · have l0:L 16=true∧L 19=true:=by have:=hd _ rfl;simp [Region.binds] at this;simp [this]
     have f16:=(hv 16 41 rfl l0.1).trans (q16 l0.1)
     have f19:=(hv 19 44 rfl l0.2).trans (q19 l0.2)
     refine Ri.step_plain rfl rfl (fun K' hK=>?_)
     go_simp
     exact hK _ _ ⟨_,_,rfl,rfl,hb,q0,q1,q2,q3,q4,q5,q6,q7,q8,q9,q10,q11,q12,q13,q14,q15,q16,q17,q18,q19,fun _=>rfl,q21⟩
   · have l0:L 20=true:=by have:=hd _ rfl;simp [Region.binds] at this;simp [this]
     have f20:=(hv 20 45 rfl l0).trans (q20 l0)
     refine Ri.step_plain rfl rfl (fun K' hK=>?_)
     go_simp
     exact hK _ _ ⟨_,_,rfl,rfl,hb,q0,q1,q2,q3,q4,q5,q6,q7,q8,q9,q10,q11,q12,q13,q14,q15,q16,q17,q18,q19,q20,fun _=>rfl⟩
 · rintro v w9 ⟨hb,-,-,-,-,-,-,-,-,-,-,-,-,-,-,-,-,-,-,-,-,-,q21⟩
   have q21':v 21=.bool true:=q21 rfl
   simp only [Ri.frame,List.zipIdx,List.foldl_cons,List.foldl_nil,if_true,List.setIfInBounds_toArray,List.set_cons_zero,List.set_cons_succ,Nat.reduceAdd,q21']
   clear q21 q21'
   generalize v 0=y0;generalize v 1=y1;generalize v 2=y2;generalize v 3=y3;generalize v 4=y4;generalize v 5=y5;generalize v 6=y6;generalize v 7=y7;generalize v 8=y8;generalize v 9=y9;generalize v 10=y10;generalize v 11=y11;generalize v 12=y12;generalize v 13=y13;generalize v 14=y14;generalize v 15=y15;generalize v 16=y16;generalize v 17=y17;generalize v 18=y18;generalize v 19=y19;generalize v 20=y20
   have HBw:=Lib.hid hb
   clear hb
   go_wp2
   go_ret
   exact ⟨rfl,HB7.out.trans (HBw.out.mono HB7.out.size)⟩
end Go.Proofs.YtnfdknhhkdphhaaGreatDoor
namespace Go.Proofs.YtnfdknhhkdphhaaGreatDoor
open Go.ChangeShapes Go.WideShapes Go.ChangeAt Go.RowKit
theorem Tryz.cellsSet:Tryz.prog.cellsOf 25=4:=by kernel_rfl
theorem Tryz.cellsU64:Tryz.prog.cellsOf 23=1:=by kernel_rfl
theorem word_of {n:Int} (h:(Lit.int .u64 n).wf=true):∃ x:BitVec 64,n=Oc.U x:=by
 simp only [Lit.wf,IntKind.min,IntKind.max,IntKind.signed,IntKind.bits,Bool.and_eq_true] at h
 refine ⟨BitVec.ofInt 64 n, ?_⟩
 unfold Oc.U;rw [BitVec.toNat_ofInt]
 have h1:=h.1;have h2:=h.2
 simp at h1 h2
 omega
theorem open_words {H:Type} {enc:TypeId × Value→H} {w:World} {base:Nat} {spare:Nat→Bool} {held:Bool} {fuel:Nat} {c0 c1 c2 c3:Value} {x:DataW H × List MemPlace}
   (h:DataW.trod enc Tryz.prog w base spare held fuel 25 [c0,c1,c2,c3]=some x):∃ a b c d:BitVec 64,c0=.int .u64 (Oc.U a)∧c1=.int .u64 (Oc.U b)∧c2=.int .u64 (Oc.U c)∧c3=.int .u64 (Oc.U d):=by
 obtain ⟨y0,y1,y2,y3,n,_,h0,h1,h2,h3⟩:=trod_array4 Tryz.underlying25 Tryz.cellsU64 h
 obtain ⟨n0,e0,-,w0⟩:=DataW.trod_int Tryz.underlying23 h0
 obtain ⟨n1,e1,-,w1⟩:=DataW.trod_int Tryz.underlying23 h1
 obtain ⟨n2,e2,-,w2⟩:=DataW.trod_int Tryz.underlying23 h2
 obtain ⟨n3,e3,-,w3⟩:=DataW.trod_int Tryz.underlying23 h3
 obtain ⟨a,rfl⟩:=word_of w0
 obtain ⟨b,rfl⟩:=word_of w1
 obtain ⟨c,rfl⟩:=word_of w2
 obtain ⟨d,rfl⟩:=word_of w3
 simp only [List.cons.injEq,and_true] at e0 e1 e2 e3
 exact ⟨a,b,c,d,e0,e1,e2,e3⟩
theorem Tryz.own:ownKnob Tryz.prog.godebug=none:=by kernel_rfl
theorem Tryz.laidOut:laidOutB Tryz.prog=true:=by kernel_rfl
end Go.Proofs.YtnfdknhhkdphhaaGreatDoor
namespace Go.Proofs.YtnfdknhhkdphhaaGreatDoor
open Go.ChangeShapes Go.WideShapes Go.ChangeAt Go.RowKit
theorem Tryz.cellsNodeO:Tryz.prog.cellsOf 28=10:=by kernel_rfl
theorem Tryz.cellsIntO:Tryz.prog.cellsOf 3=1:=by kernel_rfl
theorem Tryz.cellsBoolO:Tryz.prog.cellsOf 4=1:=by kernel_rfl
theorem Tryz.cellsNodesO:Tryz.prog.cellsOf 26=1:=by kernel_rfl
theorem Tryz.bytesNodeO:Tryz.prog.bytesOf 28=96:=by kernel_rfl
theorem list10 {α:Type} {l:List α} (h:l.length=10):∃ a0 a1 a2 a3 a4 a5 a6 a7 a8 a9,l=[a0,a1,a2,a3,a4,a5,a6,a7,a8,a9]:=by
 match l,h with
 | [a0,a1,a2,a3,a4,a5,a6,a7,a8,a9],_=>exact ⟨a0,a1,a2,a3,a4,a5,a6,a7,a8,a9,rfl⟩
theorem list7 {α:Type} {l:List α} (h:l.length=7):∃ a0 a1 a2 a3 a4 a5 a6,l=[a0,a1,a2,a3,a4,a5,a6]:=by
 match l,h with
 | [a0,a1,a2,a3,a4,a5,a6],_=>exact ⟨a0,a1,a2,a3,a4,a5,a6,rfl⟩
theorem weightsAll_mem {H:Type} {P:Program} {e:TypeId} {k:Nat} {d:DataW H} : ∀ {l:List (DataW H)},d ∈ l→k ∈ d.weights P e→k ∈ DataW.weightsAll P e l
 | [],h,_=>by cases h
 | x :: l,h,hk=>by
   rw [DataW.weightsAll]
   rcases List.mem_cons.1 h with rfl | h
   · exact List.mem_append_left _ hk
   · exact List.mem_append_right _ (weightsAll_mem h hk)
theorem add_at {a:Addr} (h:a.spot=none) (m:Nat):a.add m=⟨a.block,a.off+m,none⟩:=by
 unfold Addr.add
 split
 · rename_i h0;subst h0;cases a;simp_all
 · rfl
theorem open_node {H:Type} {enc:TypeId × Value→H} {W:World} {base:Nat} {spare:Nat→Bool} {held:Bool} : ∀ (fuel:Nat) (cs:List Value) (x:DataW H × List MemPlace),
   DataW.trod enc Tryz.prog W base spare held fuel 28 cs=some x→(∀ k,k ∈ x.1.weights Tryz.prog 28→k ≤ 140737488351232) →
   ∃ (t:Tr) (s:Value),cs=(t.cells s).toList∧TreesAt W (fun _=>True) s t.subs:=by
 intro fuel
 induction fuel using Nat.strongRecOn with
 | _ fuel ih =>
   intro cs x h hw
   obtain ⟨xs,n,rfl,rfl,hlen,hxs,hf⟩:=DataW.trod_struct Tryz.underlying28 h
   rw [Tryz.cellsNodeO] at hlen
   obtain ⟨c0,c1,c2,c3,c4,c5,c6,c7,c8,c9,rfl⟩:=list10 hlen
   obtain ⟨y0,y1,y2,y3,y4,y5,y6,rfl⟩:=list7 (by simpa using hxs)
   have f0:=hf 0 _ rfl;have f1:=hf 1 _ rfl;have f2:=hf 2 _ rfl;have f3:=hf 3 _ rfl;have f4:=hf 4 _ rfl;have f5:=hf 5 _ rfl;have f6:=hf 6 _ rfl
   simp only [List.getElem_toArray,List.getElem_cons_zero,List.getElem_cons_succ,Tryz.cellsIntO,Tryz.cellsBoolO,Tryz.cellsNodesO,Tryz.cellsSet,List.drop_zero,List.drop_succ_cons,List.take_succ_cons,List.take_zero,List.getElem?_cons_zero,List.getElem?_cons_succ] at f0 f1 f2 f3 f4 f5 f6
   obtain ⟨k,e0,-,-⟩:=DataW.trod_int Tryz.underlying3 f0
   obtain ⟨a,b,c,d,rfl,rfl,rfl,rfl⟩:=open_words f1
   obtain ⟨nn,e3,-,-⟩:=DataW.trod_int Tryz.underlying3 f3
   obtain ⟨lo,e4,-,-⟩:=DataW.trod_int Tryz.underlying3 f4
   obtain ⟨hi,e5,-,-⟩:=DataW.trod_int Tryz.underlying3 f5
   obtain ⟨br,e6,-⟩:=DataW.trod_bool Tryz.underlying4 f6
   simp only [List.cons.injEq,and_true] at e0 e3 e4 e5 e6
   subst e0 e3 e4 e5 e6
   have fin:∀ (ts:List Tr),TreesAt W (fun _=>True) c5 ts→∃ (t:Tr) (s:Value),[.int .i64 k,.int .u64 (Oc.U a),.int .u64 (Oc.U b),.int .u64 (Oc.U c),.int .u64 (Oc.U d),c5,.int .i64 nn,.int .i64 lo,.int .i64 hi,.bool br]=(t.cells s).toList∧TreesAt W (fun _=>True) s t.subs :=
     fun ts hts=>⟨.node k a b c d ts nn lo hi br,c5,rfl,hts⟩
   rcases DataW.trod_slice Tryz.underlying26 f2 with ⟨hc5,-⟩ | ⟨ad,len,cap,elems,rest,n',rfl,hc5,hx,-,-,-,hel,hall,-,-⟩
   · simp only [List.cons.injEq,and_true] at hc5
     subst hc5
     exact fin [] TreesAt.nil
   · simp only [List.cons.injEq,and_true] at hc5
     subst hc5
     rw [Tryz.cellsNodeO] at hall
     have hwn:∀ k,k ∈ y2.1.weights Tryz.prog 26→k ≤ 140737488351232:=fun k hk=>hw k (by
       rw [DataW.weights,Tryz.underlying28]
       exact DataW.weights_mem_each (j:=2) rfl rfl k hk)
     have hlen96:len * 96 ≤ 140737488351232:=by
       have:=hwn ((elems.length+rest.length) * 96) (by
         rw [hx]
         simp only [DataW.weights,Tryz.underlying26,Tryz.bytesNodeO,List.length_map]
         exact List.mem_cons_self)
       rw [hel] at this
       have h2:len * 96 ≤ (len+rest.length) * 96:=Nat.mul_le_mul_right _ (by omega)
       omega
     have key:∀ i,∃ (t:Tr) (s:Value),i < len→(∃ b o,some ad=some ⟨b,o,none⟩∧TenAt W b (o+i * 10) t s)∧TreesAt W (fun _=>True) s t.subs:=by
       intro i
       by_cases hi:i < len
       · have h1:=hall i hi
         rw [List.getElem?_eq_getElem (by omega)] at h1
         obtain ⟨csi,hcs,htr⟩:=Option.bind_eq_some_iff.1 h1
         obtain ⟨t,s,hts,hsub⟩:=ih n' (by omega) csi _ htr (fun k hk=>hwn k (by
           rw [hx]
           simp only [DataW.weights,Tryz.underlying26]
           refine List.mem_cons_of_mem _ (List.mem_append_left _ (weightsAll_mem (d:=elems[i].1) ?_ hk))
           exact List.mem_map.2 ⟨elems[i],List.getElem_mem _,rfl⟩))
         obtain ⟨-,-,hcell⟩:=World.cells?_some hcs
         have hspot:ad.spot=none:=by
           have h0:=hall 0 (by omega)
           rw [List.getElem?_eq_getElem (by omega)] at h0
           obtain ⟨cs0,hcs0,htr0⟩:=Option.bind_eq_some_iff.1 h0
           obtain ⟨t0,s0,hts0,-⟩:=ih n' (by omega) cs0 _ htr0 (fun k hk=>hwn k (by
             rw [hx]
             simp only [DataW.weights,Tryz.underlying26]
             refine List.mem_cons_of_mem _ (List.mem_append_left _ (weightsAll_mem (d:=elems[0].1) ?_ hk))
             exact List.mem_map.2 ⟨elems[0],List.getElem_mem _,rfl⟩))
           have h2:=(World.cells?_some hcs0).2.2 0 (by omega)
           rw [hts0] at h2
           have e:(ad.add (0 * 10)).add 0=ad:=by simp [Addr.add]
           rw [e] at h2
           cases hsp:ad.spot with
           | none=>rfl
           | some z =>
             unfold World.cell? at h2
             rw [hsp] at h2
             split at h2 <;> simp [Tr.cells] at h2
         have hadd:∀ j,(ad.add (i * 10)).add j=⟨ad.block,ad.off+i * 10+j,none⟩:=fun j=>by
           rw [add_at hspot,add_at (a:=⟨ad.block,ad.off+i * 10,none⟩) rfl]
         refine ⟨t,s,fun _=>⟨⟨ad.block,ad.off,by cases ad;simp_all, ?_⟩,hsub⟩⟩
         rw [hts] at hcell
         have get:∀ j u,j < 10→(t.cells s).toList[j]? = some u→W.cell? ⟨ad.block,ad.off+i * 10+j,none⟩=some u:=fun j u hj hu=>by
           rw [← hadd j,hcell j hj,hu]
         exact ⟨get 0 _ (by omega) rfl,get 1 _ (by omega) rfl,get 2 _ (by omega) rfl,get 3 _ (by omega) rfl,get 4 _ (by omega) rfl,get 5 _ (by omega) rfl,get 6 _ (by omega) rfl,get 7 _ (by omega) rfl,get 8 _ (by omega) rfl,get 9 _ (by omega) rfl⟩
       · exact ⟨.node 0 0#64 0#64 0#64 0#64 [] 0 0 0 false,.nilIface,fun h=>absurd h hi⟩
     obtain ⟨T,hT⟩:=Classical.axiomOfChoice key
     obtain ⟨S,hS⟩:=Classical.axiomOfChoice hT
     have hl:((List.range len).map T).length=len:=by simp
     have hg:∀ i t,((List.range len).map T)[i]? = some t→i < len∧t=T i:=fun i t h=>by
       rw [List.getElem?_map] at h
       by_cases hi:i < len
       · rw [List.getElem?_range hi] at h
         exact ⟨hi,(Option.some.inj h).symm⟩
       · rw [List.getElem?_eq_none (by simp;omega)] at h;cases h
     have:=TreesAt.mk (w:=W) (B:=fun _=>True) (some ad) cap ((List.range len).map T) S (by rw [hl];exact hlen96) (fun i t h=>by
       obtain ⟨hi,rfl⟩:=hg i t h
       obtain ⟨⟨b,o,e,ht⟩,-⟩:=hS i hi
       exact ⟨b,o,e,trivial,ht⟩) (fun i t h=>by
       obtain ⟨hi,rfl⟩:=hg i t h
       exact (hS i hi).2)
     rw [hl] at this
     exact fin _ this
theorem open_tree {H:Type} {enc:TypeId × Value→H} {w:World} {base b0:Nat} {spare:Nat→Bool} {held:Bool} {v:Value} {y:DataW H} {ps:List MemPlace} {r:Reach}
   (hv:Value.okWide Tryz.prog w r b0 28 v) (h:DataW.Trod enc Tryz.prog w base spare held 28 v y ps) (hw:∀ k,k ∈ y.weights Tryz.prog 28→k ≤ 140737488351232):∃ t,NodeV w (fun _=>True) v t:=by
 unfold Value.okWide at hv
 rw [Tryz.underlying28] at hv
 obtain ⟨cs,rfl,hsz,-⟩:=hv
 obtain ⟨fuel,hf⟩:=h
 obtain ⟨t,s,e,hs⟩:=open_node fuel _ _ hf hw
 refine ⟨t,s, ?_,hs⟩
 simp only [Value.cells] at e
 exact congrArg Value.agg (Array.toList_inj.1 e)
end Go.Proofs.YtnfdknhhkdphhaaGreatDoor
namespace Go.Proofs.YtnfdknhhkdphhaaGreatDoor
open Go.ChangeShapes Go.WideShapes Go.ChangeAt Go.RowKit
theorem laid_split {P:Program} {l:List (String × DataW Unit)} {W:World} (h:laidMetH P l W):laidMet P (l.filter fun x=>x.2.handleName?.isNone) W∧handlesMet P (l.filter fun x=>x.2.handleName?.isSome) W:=by
 unfold laidMetH at h
 generalize hfl:(l.filter fun x=>x.2.handleName?.isSome)=fl at h
 cases fl with
 | nil =>
   have e:(l.filter fun x=>x.2.handleName?.isNone)=l:=by
     rw [List.filter_eq_self]
     intro x hx
     have:=List.filter_eq_nil_iff.1 hfl x hx
     cases hh:x.2.handleName? with
     | none=>rfl
     | some y=>rw [hh] at this;simp at this
   rw [e]
   exact ⟨h,fun x hx=>by cases hx⟩
 | cons x r=>exact h
theorem errList_plain:∀ x,x ∈ errList→x.2.handleName?.isNone=true:=by
 have h:(errList.all fun x=>x.2.handleName?.isNone)=true:=by kernel_rfl
 intro x hx
 exact List.all_eq_true.1 h x hx
end Go.Proofs.YtnfdknhhkdphhaaGreatDoor
namespace Go.Proofs.YtnfdknhhkdphhaaGreatDoor
open Go.ChangeShapes Go.WideShapes Go.ChangeAt Go.RowKit
theorem Tryz.gPow : Tryz.prog.globalNamed "internal/strconv.uint64pow10" = some 24 := by kernel_rfl
theorem Tryz.tPow:(Tryz.prog.globals[24]?).map (·.type)=some 222:=by kernel_rfl
theorem Tryz.cellsU64p:Tryz.prog.cellsOf 23=1:=by kernel_rfl
theorem Tryz.cellsPow:Tryz.prog.cellsOf 222=20:=by kernel_rfl
theorem pow_datum:(Rows.laid_internal_strconv_uint64pow10:DataW Unit)=Lib.tabData .u64 Lib.pow10Tab:=rfl
theorem pow_of : ∀ {l : List (String × DataW Unit)} {W : World}, laidMet Tryz.prog l W → ("internal/strconv.uint64pow10", Rows.laid_internal_strconv_uint64pow10) ∈ l → Lib.TabIs Tryz.prog W "internal/strconv.uint64pow10" .u64 Lib.pow10Tab
 | [],_,_,hm=>by cases hm
 | x :: l,W,h,hm=>by
   rcases List.mem_cons.1 hm with e | hm
   · subst e
     rw [pow_datum] at h
     exact Lib.tabIs_of_head Tryz.gPow Tryz.tPow Tryz.underlying222 Tryz.underlying23 Tryz.cellsU64p Tryz.cellsPow h
   · exact pow_of h.tail hm
end Go.Proofs.YtnfdknhhkdphhaaGreatDoor
namespace Go.Proofs.YtnfdknhhkdphhaaGreatDoor
open Go.ChangeShapes Go.WideShapes Go.ChangeAt Go.RowKit
theorem Tryz.gTabS : Tryz.prog.globalNamed "math/bits.deBruijn64tab" = some 23 := by kernel_rfl
theorem Tryz.tTabS:(Tryz.prog.globals[23]?).map (·.type)=some 205:=by kernel_rfl
theorem Tryz.cellsU8S:Tryz.prog.cellsOf 5=1:=by kernel_rfl
theorem tabS_datum {H:Type} : (Rows.laid_math_bits_deBruijn64tab:DataW H)=.agg (Lib.deBruijn64tab.map fun (n:Nat)=>.lit (.int .u8 (n:Int))):=rfl
theorem tabS_length:Lib.deBruijn64tab.length=64:=by decide
theorem tabS_of_head {W : World} {r : List (String × DataW Unit)} (h : laidMet Tryz.prog (("math/bits.deBruijn64tab", Rows.laid_math_bits_deBruijn64tab) :: r) W) : TabAt 23 Lib.deBruijn64tab W ∧ 23 < W.heap.size := by
 obtain ⟨ps,⟨g0,t0,cs0,f0,p0,q0,hg0,ht0,hv0,hd0,_,_⟩,_,_⟩:=h
 obtain rfl:=Option.some.inj (Tryz.gTabS.symm.trans hg0)
 obtain rfl:=Option.some.inj (Tryz.tTabS.symm.trans ht0)
 obtain ⟨xs,m,rfl,hx,hlen,hn,hel⟩:=DataW.trod_array Tryz.underlying205 hd0
 rw [tabS_datum] at hx
 simp only [Prod.mk.injEq,DataW.agg.injEq] at hx
 have hT:TabAt 23 Lib.deBruijn64tab W:=by
   intro j hj
   rw [tabS_length] at hj
   have h1:=hel j hj
   have hjx:j < xs.length:=by omega
   rw [Tryz.cellsU8S,Nat.mul_one,List.getElem?_eq_getElem hjx] at h1
   obtain ⟨n,hc,hd,-⟩:=DataW.trod_int Tryz.underlying5 h1
   have h2:(Lib.deBruijn64tab.map fun (n:Nat)=>(DataW.lit (.int .u8 (n:Int)):DataW _))[j]? = some xs[j].1:=by
     rw [hx.1,List.getElem?_map,List.getElem?_eq_getElem hjx];rfl
   rw [List.getElem?_map,List.getElem?_eq_getElem (by rw [tabS_length];exact hj),hd] at h2
   simp only [Option.map_some,Option.some.injEq,DataW.lit.injEq,Lit.int.injEq,true_and] at h2
   have h3:cs0[j]? = some (.int .u8 n):=by
     rw [← Array.getElem?_toList]
     have:(cs0.toList.drop j)[0]? = some (.int .u8 n):=by
       have:=congrArg (fun l=>l[0]?) hc
       simpa [List.getElem?_take] using this
     simpa using this
   rw [World.var?_cell hg0 hv0 j,h3,← h2]
   simp [List.getD,List.getElem?_eq_getElem (show j < Lib.deBruijn64tab.length by rw [tabS_length];exact hj)]
 exact ⟨hT,block_lt_of_cell (hT 0 (by rw [tabS_length];omega))⟩
theorem tabS_of : ∀ {l : List (String × DataW Unit)} {W : World}, laidMet Tryz.prog l W → ("math/bits.deBruijn64tab", Rows.laid_math_bits_deBruijn64tab) ∈ l → SpTab W
 | [],_,_,hm=>by cases hm
 | x :: l,W,h,hm=>by
   rcases List.mem_cons.1 hm with e | hm
   · subst e;exact tabS_of_head h
   · exact tabS_of h.tail hm
theorem sp_env_of {l:List (String × DataW Unit)} {W:World} (h:laidMetH Tryz.prog l W) (hl:∀ x,x ∈ errList→x ∈ l)
   (hp : ("internal/strconv.uint64pow10", Rows.laid_internal_strconv_uint64pow10) ∈ l) (ht : ("math/bits.deBruijn64tab", Rows.laid_math_bits_deBruijn64tab) ∈ l) : (∃ A, Errs W A) ∧ SpPow W ∧ SpTab W := by
 have h3:=(laid_split h).1
 exact ⟨errs_of h3 fun x hx=>List.mem_filter.2 ⟨hl x hx,errList_plain x hx⟩,⟨pow_of h3 (List.mem_filter.2 ⟨hp,rfl⟩)⟩,tabS_of h3 (List.mem_filter.2 ⟨ht,rfl⟩)⟩
end Go.Proofs.YtnfdknhhkdphhaaGreatDoor
