/- Part 1 of what these proofs need. -/
import Derived.Deep.Cut
import Derived.Test.YtllfgppjobinnaaDoorNr3
set_option maxRecDepth 100000
set_option maxHeartbeats 16000000
namespace Go.Proofs.YtllfgppjobinnaaDoor
namespace Oc
theorem U_nonneg (x:BitVec 64):0 ≤ U x:=by unfold U;omega
theorem U_lt (x:BitVec 64):U x < 18446744073709551616:=by have:=x.isLt;unfold U;omega
def w4 (a b c d:BitVec 64) (k:Nat):BitVec 64:=if k=0 then a else if k=1 then b else if k=2 then c else d
def mem (a b c d:BitVec 64) (i:Nat):Bool:=(w4 a b c d (i / 64)).getLsbD (i % 64)
theorem mem0 (a b c d:BitVec 64) (i:Nat) (h:i < 64):mem a b c d i=a.getLsbD i:=by
 unfold mem w4;rw [show i / 64=0 by omega,show i % 64=i by omega];rfl
theorem mem1 (a b c d:BitVec 64) (i:Nat) (h:i < 64):mem a b c d (64+i)=b.getLsbD i:=by
 unfold mem w4;rw [show (64+i) / 64=1 by omega,show (64+i) % 64=i by omega];rfl
theorem mem2 (a b c d:BitVec 64) (i:Nat) (h:i < 64):mem a b c d (128+i)=c.getLsbD i:=by
 unfold mem w4;rw [show (128+i) / 64=2 by omega,show (128+i) % 64=i by omega];rfl
theorem mem3 (a b c d:BitVec 64) (i:Nat) (h:i < 64):mem a b c d (192+i)=d.getLsbD i:=by
 unfold mem w4;rw [show (192+i) / 64=3 by omega,show (192+i) % 64=i by omega];rfl
theorem mem_or (a b c d a' b' c' d':BitVec 64) (i:Nat):mem (a ||| a') (b ||| b') (c ||| c') (d ||| d') i=(mem a b c d i || mem a' b' c' d' i):=by
 unfold mem w4;split <;> (try split) <;> (try split) <;> simp
end Oc
end Go.Proofs.YtllfgppjobinnaaDoor
namespace Go.Proofs.YtllfgppjobinnaaDoor
open Go.RowKit
namespace Tr
end Tr
theorem trcount_any (a b:Nat) (ha:a ≤ 2001) (hb:b ≤ 2002) (x y:Int) (hx:x=a) (hy:y=b) (w:World):Calls Tryd.prog 129 #[.int .i64 x,.int .i64 y] w fun e w'=>e=.returned (.int .i64 (Tr.sat (a+b):Nat))∧w=w':=by
 subst hx hy
 have hw:IntKind.i64.wrap ((a:Int)+b)=(a:Int)+b:=IntWalk.i64_in _ (by omega)
 go_enter Tryd.func129,Tryd.ntmps129
 go_wp2
 all_goals
   go_ret
   exact ⟨ret_int (by unfold Tr.sat;omega),rfl⟩
theorem refsize_seq (t:Tr) (ih:∀ u,u ∈ t.subs→u.InForm→∀ (w:World) (B:Nat→Prop) (v:Value),NodeV w B v u→Calls Tryd.prog 95 #[v] w (SizeEnd u.szT w)) (hf:t.InForm) (hk:t.kind ≠ 8)
   (w:World) (B:Nat→Prop) (v:Value) (hv:NodeV w B v t):Calls Tryd.prog 95 #[v] w (SizeEnd t.szT w):=by
 obtain ⟨s,rfl,hs⟩:=hv
 obtain ⟨p,cap,rfl,hlen⟩:=hs.slice
 have HE:=Lib.hid (show t.szT=Tr.sat (1+Tr.szS t.subs) by cases t;rw [Tr.szT];simp only [Tr.kind] at hk;rw [if_neg hk];rfl)
 have HF:=Lib.hid hf
 generalize hts:t.subs=ts at *
 have HTS:=Lib.hid hts;have IH:=Lib.hid ih;have HS:=Lib.hid hs
 have e8:(t.kind != 8)=true:=by simpa using hk
 clear ih hs hf hk hts
 unfold Tr.cells
 go_enter Tryd.func95,Tryd.ntmps95
 go_wp2
 go_loopw [3,4] (fun nv iv wr=>∃ m:Nat,iv=.int .i64 m∧m ≤ ts.length∧nv=.int .i64 (Tr.sat (1+Tr.szS (ts.take m)):Nat)∧Hid (Below w.heap.size w wr)∧w.heap.size < wr.heap.size∧Hid (wr.heap[w.heap.size]? = some (.cells (t.cells (.slice p ts.length cap)) 37))) (fun _ iv _=>ts.length - (intOf iv).toNat)
 case atStart=>exact ⟨0,rfl,Nat.zero_le _,rfl,Lib.hid (by go_grown),by simp,Lib.hid (heap_alloc_new _ _)⟩
 case round =>
   obtain ⟨m,rfl,hm,rfl,HB,hsz,Z0⟩:=hrel
   have wm:IntKind.i64.wrap ((m:Int)+1)=(m:Int)+1:=IntWalk.i64_in _ (by omega)
   obtain ⟨-,-,f5,-,-⟩:=box5 Z0.out
   by_cases hlt:m < ts.length
   · obtain ⟨x,hx⟩:∃ x,ts[m]? = some x:=⟨_,List.getElem?_eq_getElem hlt⟩
     obtain ⟨b1,o1,s1,rfl,-,t1,sub1⟩:=HS.out.get hx
     obtain ⟨d0,d1,d2,d3,d4,d5,d6,d7,d8,d9⟩:=t1.keep (HB.out.block _ t1.lt)
     have hmem:=List.mem_of_getElem? hx
     have HC:=Lib.hid (IH.out x hmem (HF.out.sub (by rw [HTS.out];exact hmem)) wr B (.agg (x.cells s1)) ⟨_,rfl,sub1.later HB.out⟩)
     have hle:=Tr.sat_le (1+Tr.szS (ts.take m));have hlx:=Tr.szT_le x
     have HST:=Lib.hid (Tr.szS_take ts m x hx)
     clear t1 sub1 hmem hx
     generalize hn:Tr.sat (1+Tr.szS (ts.take m))=n at *
     have HN:=Lib.hid hn
     clear hn
     unfold Tr.cells at HC
     go_wp2_with fail
     refine HC.out.mono ?_
     rintro e w2 ⟨rfl,hb2⟩
     have HB2:=Lib.hid (HB.out.trans (hb2.mono HB.out.size));have Z2:=Lib.hid (keep_blk hb2 Z0.out)
     have hsz2:w.heap.size < w2.heap.size:=Nat.lt_of_lt_of_le hsz hb2.size
     clear d0 d1 d2 d3 d4 d5 d6 d7 d8 d9 f5 hb2 HC
     go_wp2_with fail
     refine (trcount_any n x.szT hle (by omega) _ _ rfl rfl _).mono ?_
     rintro e w3 ⟨rfl,rfl⟩
     have hsum:Tr.sat (n+x.szT)=Tr.sat (1+Tr.szS (ts.take (m+1))):=by rw [← HN.out,Tr.sat_sat,HST.out];congr 1;omega
     rw [hsum]
     clear hsum
     go_wp2
     exact ⟨⟨m+1,by go_num,by omega,rfl,HB2,hsz2,Z2⟩,by simp [intOf];omega⟩
   · obtain rfl:m=ts.length:=by omega
     have HX:=Lib.hid (show Tr.sat (1+Tr.szS (ts.take ts.length))=t.szT by rw [List.take_length,HE.out])
     go_wp2
     go_ret
     exact ⟨ret_int (by rw [HX.out]),HB.out⟩
theorem refsize_rep (t x:Tr) (ih:∀ (w:World) (B:Nat→Prop) (v:Value),NodeV w B v x→Calls Tryd.prog 95 #[v] w (SizeEnd x.szT w)) (hsub:t.subs=[x]) (hk:t.kind=8) (h0:0 ≤ t.least) (h1:t.least ≤ 255) (h2:t.most = -1 ∨ (t.least ≤ t.most∧t.most ≤ 255))
   (w:World) (B:Nat→Prop) (v:Value) (hv:NodeV w B v t):Calls Tryd.prog 95 #[v] w (SizeEnd t.szT w):=by
 obtain ⟨s,rfl,hs⟩:=hv
 have hsz0:t.szT=Tr.repSz t.least t.most x.szT:=by
   cases t;simp only [Tr.kind,Tr.subs] at hk hsub;subst hk hsub;rw [Tr.szT,if_pos rfl,Tr.szH];rfl
 rw [hsub] at hs
 obtain ⟨p,cap,rfl,hlen⟩:=hs.slice
 have hs:TreesAt w B (.slice p 1 cap) [x]:=hs
 obtain ⟨b1,o1,s1,rfl,-,t1,sub1⟩:=hs.get (i:=0) (t:=x) rfl
 have HE:=Lib.hid hsz0
 have HC:=Lib.hid ih
 have t1':TenAt w b1 o1 x s1:=by simpa using t1
 have T1:=Lib.hid t1';have SUB:=Lib.hid sub1
 have e8:(t.kind != 8)=false:=by simpa using hk
 have hN:=Tr.szT_le x
 clear ih hs hk hsub hsz0 t1 t1' sub1 hlen
 obtain ⟨lo,hlo⟩:∃ lo:Nat,t.least=lo:=⟨t.least.toNat,by omega⟩
 rw [hlo] at h0 h1 h2
 by_cases hm0:t.most=0
 · have HX:=Lib.hid (show t.szT=1 by rw [HE.out];unfold Tr.repSz;rw [if_pos hm0])
   unfold Tr.cells
   rw [hm0]
   clear hlo hm0
   go_enter Tryd.func95,Tryd.ntmps95
   go_wp2
   go_ret
   exact ⟨ret_int (by rw [HX.out];rfl),by go_grown⟩
 · have em0:(t.most == 0)=false:=by simpa using hm0
   have HM:=Lib.hid hm0;have HLO:=Lib.hid hlo
   unfold Tr.cells
   clear hm0 hlo
   go_enter Tryd.func95,Tryd.ntmps95
   have d:=fun (o:Obj)=>T1.out.keep (w':=w.alloc o) (Below.heap_alloc w o b1 T1.out.lt)
   have e0:=fun o=>(d o).c0;have e1:=fun o=>(d o).c1;have e2:=fun o=>(d o).c2;have e3:=fun o=>(d o).c3;have e4:=fun o=>(d o).c4
   have e5:=fun o=>(d o).c5;have e6:=fun o=>(d o).c6;have e7:=fun o=>(d o).c7;have e8':=fun o=>(d o).c8;have e9:=fun o=>(d o).c9
   clear d
   go_wp2_with fail
   generalize hw1:World.alloc w _=w1
   have hb1:Below w.heap.size w w1:=by rw [← hw1];exact (Below.refl _ _).alloc (Nat.le_refl _) _
   have Z1:Hid (w1.heap[w.heap.size]? = some (.cells (t.cells (.slice (some ⟨b1,o1,none⟩) 1 cap)) 37)):=Lib.hid (by rw [← hw1];exact heap_alloc_new _ _)
   have hs1:w.heap.size < w1.heap.size:=by rw [← hw1];simp
   have hcall:=HC.out w1 B (.agg (x.cells s1)) ⟨_,rfl,SUB.out.later hb1⟩
   unfold Tr.cells at hcall
   have HB1:=Lib.hid hb1
   clear hw1 e0 e1 e2 e3 e4 e5 e6 e7 e8' e9 hb1
   refine hcall.mono ?_
   rintro e w2 ⟨rfl,hb2⟩
   have HB2:=Lib.hid (HB1.out.trans (hb2.mono HB1.out.size));have Z2:=Lib.hid (keep_blk hb2 Z1.out)
   have hs2:w.heap.size < w2.heap.size:=Nat.lt_of_lt_of_le hs1 hb2.size
   clear hb2 hcall HB1 Z1
   generalize hNe:x.szT=N at *
   clear hNe
   have hlo255:lo ≤ 255:=by omega
   go_wp2
   go_loopw [6,7,8] (fun pv nv iv wr=>∃ m:Nat,iv=.int .i64 m∧pv=.int .i64 m∧m ≤ lo∧nv=.int .i64 (Tr.sat (m * N):Nat)∧wr=w2) (fun _ _ iv _=>lo - (intOf iv).toNat)
   case atStart=>exact ⟨0,rfl,rfl,Nat.zero_le _,by simp [Tr.sat],rfl⟩
   case round =>
     obtain ⟨m,rfl,rfl,hm,rfl,rfl⟩:=hrel
     have wm:IntKind.i64.wrap ((m:Int)+1)=(m:Int)+1:=IntWalk.i64_in _ (by omega)
     obtain ⟨-,-,-,f7,f8⟩:=box5 Z2.out
     rw [HLO.out] at f7
     by_cases hlt:m < lo
     · have hsat:=Tr.sat_le (m * N)
       have HS:=Lib.hid (show Tr.sat (Tr.sat (m * N)+N)=Tr.sat ((m+1) * N) by rw [Tr.sat_sat,Nat.succ_mul])
       generalize Tr.sat (m * N)=n at *
       go_wp2_with fail
       refine (trcount_any n N hsat (by omega) _ _ rfl rfl _).mono ?_
       rintro e w3 ⟨rfl,rfl⟩
       rw [HS.out]
       go_wp2
       exact ⟨⟨m+1,by go_num,by go_num,by omega,rfl,trivial⟩,by simp [intOf];omega⟩
     · obtain rfl:m=lo:=by omega
       have hsat0:=Tr.sat_le (m * N)
       generalize hA:m * N=A at *
       have HA:=Lib.hid hA
       clear hA
       generalize hhi:t.most=hi at *
       have HHI:=Lib.hid hhi
       clear hhi
       obtain ⟨J,hJ⟩:∃ J:Nat,J=(hi - m).toNat:=⟨_,rfl⟩
       have HJ:=Lib.hid hJ
       have hJ2:J ≤ 255:=by omega
       clear hJ
       go_wp2
       go_loopw [6,7,9] (fun pv nv iv wz=>∃ j:Nat,iv=.int .i64 ((m+j:Nat):Int)∧pv=.int .i64 ((m+j:Nat):Int)∧j ≤ J∧nv=.int .i64 (Tr.sat (A+j * (N+1)):Nat)∧wz=wr) (fun _ _ iv _=>(m+J) - (intOf iv).toNat)
       case atStart=>exact ⟨0,rfl,rfl,Nat.zero_le _,by simp,rfl⟩
       case round =>
         obtain ⟨j,rfl,rfl,hj,rfl,rfl⟩:=hrel
         have wj:IntKind.i64.wrap (((m+j:Nat):Int)+1)=((m+j:Nat):Int)+1:=IntWalk.i64_in _ (by omega)
         have wj2:IntKind.i64.wrap ((m:Int)+j+1)=(m:Int)+j+1:=IntWalk.i64_in _ (by omega)
         obtain ⟨-,-,-,f7,f8⟩:=box5 Z2.out
         rw [HHI.out] at f8
         by_cases hjJ:j < J
         · have hd:decide (((m+j:Nat):Int) < hi)=true:=by have:=HJ.out;simp;omega
           have hd2:decide ((m:Int)+j < hi)=true:=by have:=HJ.out;simp;omega
           have hsat:=Tr.sat_le (A+j * (N+1))
           have HS:=Lib.hid (show Tr.sat (Tr.sat (Tr.sat (A+j * (N+1))+N)+1)=Tr.sat (A+(j+1) * (N+1)) by rw [Tr.sat_sat,show Tr.sat (A+j * (N+1))+N+1=Tr.sat (A+j * (N+1))+(N+1) by omega,Tr.sat_sat,Nat.succ_mul,Nat.add_assoc])
           generalize Tr.sat (A+j * (N+1))=n at *
           go_wp2_with fail
           refine (trcount_any n N hsat (by omega) _ _ rfl rfl _).mono ?_
           rintro e w3 ⟨rfl,rfl⟩
           have hs2':=Tr.sat_le (n+N)
           generalize Tr.sat (n+N)=n2 at *
           go_wp2_with fail
           refine (trcount_any n2 1 hs2' (by omega) _ _ rfl rfl _).mono ?_
           rintro e w3 ⟨rfl,rfl⟩
           rw [HS.out]
           go_wp2
           exact ⟨⟨j+1,by go_num,by go_num,by omega,rfl,trivial⟩,by simp [intOf];omega⟩
         · obtain rfl:j=J:=by omega
           have hd:decide (((m+j:Nat):Int) < hi)=false:=by have:=HJ.out;simp;omega
           have hd2:decide ((m:Int)+j < hi)=false:=by have:=HJ.out;simp;omega
           have hsat:=Tr.sat_le (A+j * (N+1))
           by_cases hend:hi = -1
           · have hj0:j=0:=by have:=HJ.out;omega
             subst hj0
             have eend:(hi == -1)=true:=by simpa using hend
             have HS:=Lib.hid (show Tr.sat (Tr.sat (Tr.sat (A+0 * (N+1))+N)+1)=Tr.sat (A+N+1) by rw [Tr.sat_sat,show Tr.sat (A+0 * (N+1))+N+1=Tr.sat (A+0 * (N+1))+(N+1) by omega,Tr.sat_sat];congr 1;omega)
             generalize Tr.sat (A+0 * (N+1))=n at *
             go_wp2_with fail
             refine (trcount_any n N hsat (by omega) _ _ rfl rfl _).mono ?_
             rintro e w3 ⟨rfl,rfl⟩
             have hs2':=Tr.sat_le (n+N)
             generalize Tr.sat (n+N)=n2 at *
             go_wp2_with fail
             refine (trcount_any n2 1 hs2' (by omega) _ _ rfl rfl _).mono ?_
             rintro e w3 ⟨rfl,rfl⟩
             rw [HS.out]
             by_cases hm1:m=0
             · subst hm1
               have HX:=Lib.hid (show Tr.sat (A+N+1)=t.szT by
                 rw [HE.out,HLO.out];unfold Tr.repSz;rw [if_neg (by omega),if_neg (by omega),if_pos ⟨rfl,.inr hend⟩]
                 have:=HA.out;congr 1;omega)
               go_wp2
               go_ret
               exact ⟨ret_int (by rw [HX.out]),HB2.out⟩
             · have HX:=Lib.hid (show Tr.sat (Tr.sat (A+N+1)+1)=t.szT by
                 rw [HE.out,HLO.out];unfold Tr.repSz;rw [if_neg (by omega),if_neg (by omega),if_neg (by omega),if_pos hend,Tr.sat_sat]
                 have:=HA.out;congr 1;simp;omega)
               have hgt:decide ((1:Int) < (m:Int)+1)=true:=by simp;omega
               have hgt2:decide ((0:Int) < (m:Int))=true:=by simp;omega
               have hs3:=Tr.sat_le (A+N+1)
               generalize Tr.sat (A+N+1)=n3 at *
               go_wp2_with fail
               refine (trcount_any n3 1 hs3 (by omega) _ _ rfl rfl _).mono ?_
               rintro e w3 ⟨rfl,rfl⟩
               rw [HX.out]
               go_wp2
               go_ret
               exact ⟨rfl,HB2.out⟩
           · have eend:(hi == -1)=false:=by simpa using hend
             have hhim:(m:Int) ≤ hi:=by omega
             have hJm:((m+j:Nat):Int)=hi:=by have:=HJ.out;omega
             have hpos:1 ≤ m+j:=by have:=HM.out;omega
             by_cases h1':m+j=1
             · have HX:=Lib.hid (show Tr.sat (A+j * (N+1))=t.szT by
                 rw [HE.out,HLO.out];unfold Tr.repSz;rw [if_neg (by omega)]
                 have hA:=HA.out
                 by_cases hm1:m=1
                 · rw [if_pos ⟨by omega,by omega⟩]
                   have:j=0:=by omega
                   subst this hm1
                   unfold Tr.sat;omega
                 · have:m=0:=by omega
                   have:j=1:=by omega
                   subst this;subst m
                   rw [if_neg (by omega),if_pos ⟨rfl,.inl (by omega)⟩];congr 1;omega)
               have hgt:decide ((1:Int) < ((m+j:Nat):Int))=false:=by simp;omega
               have hgt2:decide ((1:Int) < (m:Int)+j)=false:=by simp;omega
               rw [HX.out]
               go_wp2
               go_ret
               exact ⟨rfl,HB2.out⟩
             · have HX:=Lib.hid (show Tr.sat (Tr.sat (A+j * (N+1))+1)=t.szT by
                 rw [HE.out,HLO.out];unfold Tr.repSz;rw [if_neg (by omega),if_neg (by omega),if_neg (by omega),if_neg (by omega),Tr.sat_sat]
                 have hA:=HA.out
                 have hjj:(hi - (m:Int)).toNat=j:=by omega
                 rw [hjj]
                 congr 1
                 rw [show ((m:Int)).toNat=m by simp,hA,Nat.add_comm 1 N]
                 omega)
               have hgt:decide ((1:Int) < ((m+j:Nat):Int))=true:=by simp;omega
               have hgt2:decide ((1:Int) < (m:Int)+j)=true:=by simp;omega
               generalize Tr.sat (A+j * (N+1))=n3 at *
               go_wp2_with fail
               refine (trcount_any n3 1 hsat (by omega) _ _ rfl rfl _).mono ?_
               rintro e w3 ⟨rfl,rfl⟩
               rw [HX.out]
               go_wp2
               go_ret
               exact ⟨rfl,HB2.out⟩
theorem refsize_any:∀ t:Tr,t.InForm→∀ (w:World) (B:Nat→Prop) (v:Value),NodeV w B v t→Calls Tryd.prog 95 #[v] w (SizeEnd t.szT w):=by
 intro t
 induction t using Tr.rec_subs with
 | h t ih =>
   intro hf w B v hv
   by_cases hk:t.kind=8
   · have hfl:=hf.fields
     unfold Tr.fieldsOk at hfl
     obtain ⟨-,-,-,-,-,hl,-,h0,h1,h2,-⟩:t.kind=8∧t.w0=0#64∧t.w1=0#64∧t.w2=0#64∧t.w3=0#64∧t.subs.length=1∧t.num=0∧0 ≤ t.least∧t.least ≤ 255∧(t.most = -1 ∨ (t.least ≤ t.most∧t.most ≤ 255))∧(t.bare=true→t.least=0):=by
       rcases hfl with h | h | h | h | h
       · omega
       · omega
       · omega
       · omega
       · exact h
     obtain ⟨x,hx⟩:=List.length_eq_one_iff.1 hl
     have hmem:x ∈ t.subs:=by rw [hx];exact List.mem_cons_self
     exact refsize_rep t x (fun w B v hv=>ih x hmem (hf.sub hmem) w B v hv) hx hk h0 h1 h2 w B v hv
   · exact refsize_seq t ih hf hk w B v hv
end Go.Proofs.YtllfgppjobinnaaDoor
namespace Go.Proofs.YtllfgppjobinnaaDoor
open Go.RowKit
structure Touch (F:List Nat) (w w':World):Prop where
 os:w'.os=w.os
 tape:w'.tape=w.tape
 output:w'.output=w.output
 size:w.heap.size ≤ w'.heap.size
 block:∀ k,k < w.heap.size→k ∉ F→w'.heap[k]? = w.heap[k]?
theorem Touch.of_below {w w':World} (F:List Nat) (h:Below w.heap.size w w'):Touch F w w':=⟨h.os,h.tape,h.output,h.size,fun k hk _=>h.block k hk⟩
theorem Touch.trans {F:List Nat} {a b c:World} (h:Touch F a b) (k:Touch F b c):Touch F a c :=
 ⟨k.os.trans h.os,k.tape.trans h.tape,k.output.trans h.output,Nat.le_trans h.size k.size,fun i hi hn=>(k.block i (Nat.lt_of_lt_of_le hi h.size) hn).trans (h.block i hi hn)⟩
theorem Touch.mono {F G:List Nat} {a b:World} (h:Touch F a b) (hs:∀ k,k ∈ F→k ∈ G):Touch G a b:=⟨h.os,h.tape,h.output,h.size,fun k hk hn=>h.block k hk fun hm=>hn (hs k hm)⟩
theorem Touch.below {F:List Nat} {a b:World} {B:Nat} (h:Touch F a b) (hB:∀ k,k ∈ F→B ≤ k) (hs:B ≤ a.heap.size):Below B a b :=
 ⟨h.os,h.tape,h.output,h.size,fun k hk=>h.block k (by omega) fun hm=>by have:=hB k hm;omega⟩
theorem cells_setCells {b:Nat} : ∀ (vs:List Value) (o:Nat) (w:World),(∃ cs ty,w.heap[b]? = some (.cells cs ty (0,0)))→∃ cs ty,(w.setCells b o vs).heap[b]? = some (.cells cs ty (0,0))
 | [],_,_,h=>h
 | v :: r,o,w,⟨cs,ty,h⟩=>by
   rw [World.setCells]
   exact cells_setCells r (o+1) _ ⟨cs.setIfInBounds o v,ty,by simp [World.setCell,Array.getElem?_modify,h]⟩
theorem Touch.setCells {F:List Nat} {a w:World} {b:Nat} (h:Touch F a w) (hb:b ∈ F) (o:Nat) (vs:List Value):Touch F a (w.setCells b o vs):=by
 obtain ⟨h1,h2,h3⟩:=streams_setCells b vs o w
 exact ⟨h1.trans h.os,h2.trans h.tape,h3.trans h.output,by rw [size_setCells];exact h.size,fun k hk hn=>by
   rw [heap_setCells_other (k:=k) (b:=b) (fun e=>by subst e;exact hn hb)];exact h.block k hk hn⟩
end Go.Proofs.YtllfgppjobinnaaDoor
namespace Go.Proofs.YtllfgppjobinnaaDoor
open Go.RowKit
theorem field5' {w:World} {b:Nat} {t:Tr} {s:Value} {ty:TypeId} (h:w.heap[b]? = some (.cells (t.cells s) ty)):w.cell? ⟨b,5,none⟩=some s:=by
 simp [World.cell?,h,Tr.cells]
def SpoilEnd (F:List Nat) (w:World) (e:Ending) (w':World):Prop:=e=.returned (.tuple #[])∧Touch F w w'
theorem TenAt.there {w:World} {g o:Nat} {t:Tr} {s:Value} (h:TenAt w g o t s) (hf:∃ cs ty,w.heap[g]? = some (.cells cs ty (0,0))):w.there g o 10:=by
 intro j hj
 refine ⟨?_,frozen_of hf⟩
 have:j=0 ∨ j=1 ∨ j=2 ∨ j=3 ∨ j=4 ∨ j=5 ∨ j=6 ∨ j=7 ∨ j=8 ∨ j=9:=by omega
 rcases this with rfl | rfl | rfl | rfl | rfl | rfl | rfl | rfl | rfl | rfl
 · simpa using congrArg Option.isSome h.c0
 · simpa using congrArg Option.isSome h.c1
 · simpa using congrArg Option.isSome h.c2
 · simpa using congrArg Option.isSome h.c3
 · simpa using congrArg Option.isSome h.c4
 · simpa using congrArg Option.isSome h.c5
 · simpa using congrArg Option.isSome h.c6
 · simpa using congrArg Option.isSome h.c7
 · simpa using congrArg Option.isSome h.c8
 · simpa using congrArg Option.isSome h.c9
theorem spoil_nil (t:Tr) (w:World) (p:Option Addr) (cap:Nat):Calls Tryd.prog 49 #[.agg (t.cells (.slice p 0 cap))] w (SpoilEnd [] w):=by
 unfold Tr.cells
 go_enter Tryd.func49,Tryd.ntmps49
 go_wp2
 go_loopw [6] (fun iv wr=>iv=.int .i64 0∧Hid (Below w.heap.size w wr)) (fun _ _=>0)
 case atStart=>exact ⟨rfl,Lib.hid (by go_grown)⟩
 case round =>
   obtain ⟨rfl,HB⟩:=hrel
   go_wp2
   go_end0
   exact ⟨rfl,Touch.of_below _ HB.out⟩
theorem spoil_any:∀ t:Tr,∀ (w:World) (s:Value) (F:List Nat),Owned w s t.subs F→Calls Tryd.prog 49 #[.agg (t.cells s)] w (SpoilEnd F w):=by
 intro t
 induction t using Tr.rec_subs with
 | h t ih =>
   intro w s F hO
   have IH:=Lib.hid ih
   clear ih
   have hlt:=hO.lt
   generalize hts:t.subs=ts at hO
   cases hO with
   | nil p cap=>exact spoil_nil t w p cap
   | row g o cap _ S L hlen hf hc hs hgL hd =>
     have HC:=Lib.hid hc;have HO:=Lib.hid hs;have HF:=Lib.hid hf;have HG:=Lib.hid hgL;have HDJ:=Lib.hid hd;have HTS:=Lib.hid hts;have HLT:=Lib.hid hlt
     have hgw:g < w.heap.size:=by obtain ⟨cs,ty,h⟩:=hf;exact (Array.getElem?_eq_some_iff.1 h).1
     have hbytes:ts.length ≤ 1152921504606846976:=by omega
     clear hc hs hf hgL hd hts hlt
     unfold Tr.cells
     go_enter Tryd.func49,Tryd.ntmps49
     go_wp2
     go_loopw [6] (fun iv wr=>∃ m:Nat,iv=.int .i64 m∧m ≤ ts.length∧Hid (Touch (g :: (List.range ts.length).flatMap L) w wr)∧w.heap.size < wr.heap.size∧Hid (wr.heap[w.heap.size]? = some (.cells (t.cells (.slice (some ⟨g,o,none⟩) ts.length cap)) 37)) ∧
       Hid (∀ j u,m ≤ j→ts[j]? = some u→TenAt wr g (o+j * 10) u (S j)∧Owned wr (S j) u.subs (L j))∧Hid (∃ cs ty,wr.heap[g]? = some (.cells cs ty (0,0)))) (fun iv _=>ts.length - (intOf iv).toNat)
     case atStart =>
       have hb:Below w.heap.size w (w.alloc (.cells #[.int .i64 t.kind,.int .u64 (Oc.U t.w0),.int .u64 (Oc.U t.w1),.int .u64 (Oc.U t.w2),.int .u64 (Oc.U t.w3),.slice (some ⟨g,o,none⟩) ts.length cap,.int .i64 t.num,.int .i64 t.least,.int .i64 t.most,.bool t.bare] 37)):=(Below.refl _ _).alloc (Nat.le_refl _) _
       exact ⟨0,rfl,Nat.zero_le _,Lib.hid (Touch.of_below _ hb),by simp,Lib.hid (heap_alloc_new _ _),Lib.hid (fun j u _ hj=>⟨(HC.out j u hj).keep (hb.block g hgw),(HO.out j u hj).later hb⟩),Lib.hid (by obtain ⟨cs,ty,h⟩:=HF.out;exact ⟨cs,ty,(hb.block g hgw).trans h⟩)⟩
     case round =>
       obtain ⟨m,rfl,hm,HT,hsz,Z0,hrest,hfr⟩:=hrel
       have wm:IntKind.i64.wrap ((m:Int)+1)=(m:Int)+1:=IntWalk.i64_in _ (by omega)
       by_cases hlt:m < ts.length
       · obtain ⟨x,hx⟩:∃ x,ts[m]? = some x:=⟨_,List.getElem?_eq_getElem hlt⟩
         obtain ⟨t10,own1⟩:=hrest.out m x (Nat.le_refl _) hx
         obtain ⟨d0,d1,d2,d3,d4,d5,d6,d7,d8,d9⟩:=t10
         have hmem:x ∈ t.subs:=by rw [HTS.out];exact List.mem_of_getElem? hx
         have HCALL:=Lib.hid (IH.out x hmem wr (S m) (L m) own1)
         have f5:=field5' Z0.out
         have OWN:=Lib.hid own1
         have HX:=Lib.hid hx
         clear own1 hmem hx
         go_wp2_with fail
         unfold Tr.cells at HCALL
         refine HCALL.out.mono ?_
         rintro e w2 ⟨rfl,ht2⟩
         have hgm:=HG.out m hlt
         have hgr:g < wr.heap.size:=Nat.lt_of_lt_of_le hgw HT.out.size
         have hg2:w2.heap[g]? = wr.heap[g]?:=ht2.block g hgr hgm
         have hwm:w.heap.size ∉ L m:=fun h=>by
           have:=HLT.out w.heap.size (List.mem_cons_of_mem _ (mem_range_flatMap.2 ⟨m,hlt,h⟩));omega
         have Z2:Hid (w2.heap[w.heap.size]? = some (.cells (t.cells (.slice (some ⟨g,o,none⟩) ts.length cap)) 37)):=Lib.hid ((ht2.block _ hsz hwm).trans Z0.out)
         have hf2:∃ cs ty,w2.heap[g]? = some (.cells cs ty (0,0)):=by rw [hg2];exact hfr.out
         have HTH:=Lib.hid (((hrest.out m x (Nat.le_refl _) HX.out).1.keep hg2).there hf2)
         have HT2:=Lib.hid (HT.out.trans (ht2.mono fun b hb=>List.mem_cons_of_mem _ (mem_range_flatMap.2 ⟨m,hlt,hb⟩)))
         have HF2:=Lib.hid hf2;have HG2:=Lib.hid hg2;have HTT:=Lib.hid ht2
         have f6:=field5' Z2.out
         have hsz2:w.heap.size < w2.heap.size:=Nat.lt_of_lt_of_le hsz ht2.size
         have hne:w.heap.size ≠ g:=by omega
         clear d0 d1 d2 d3 d4 d5 d6 d7 d8 d9 f5 hg2 hf2 ht2
         go_wp2_with (first
           | (refine wpList_store_mid rfl 37 (.tmp 20) (.tmp 19) rfl g (o+m * 10) #[.int .i64 77,.int .u64 0,.int .u64 0,.int .u64 0,.int .u64 0,.slice none 0 0,.int .i64 m,.int .i64 0,.int .i64 0,.bool false] rfl rfl HTH.out (by kernel_rfl) (by simp [Value.oneCell']) ?_;generalize hw3:World.setCells w2 _ _ _=w3;have HW3:=Lib.hid hw3;clear hw3)
           | fail)
         rw [← HW3.out]
         refine ⟨⟨m+1,by go_num,by omega,Lib.hid (HT2.out.setCells List.mem_cons_self _ _),by rw [size_setCells];exact hsz2,Lib.hid ((heap_setCells_other hne _ _ _).trans Z2.out),Lib.hid ?_,Lib.hid (cells_setCells _ _ _ HF2.out)⟩,by simp [intOf];omega⟩
         intro j u hj hu
         have hjl:=lt_of_some hu
         obtain ⟨q1,q2⟩:=hrest.out j u (by omega) hu
         refine ⟨(q1.keep HG2.out).setCells rfl (by omega), ?_⟩
         have q3:Owned w2 (S j) u.subs (L j):=q2.keep fun b hb=>HTT.out.block b (q2.lt b hb) (HDJ.out j m b hjl hlt (by omega) hb)
         exact q3.keep fun b hb=>heap_setCells_other (fun e=>by subst e;exact HG.out j hjl hb) _ _ _
       · obtain rfl:m=ts.length:=by omega
         go_wp2
         go_end0
         exact ⟨rfl,HT.out⟩
end Go.Proofs.YtllfgppjobinnaaDoor
namespace Go.Proofs.YtllfgppjobinnaaDoor
open Go.RowKit
def NewEnd (t:Tr) (w:World) (e:Ending) (w':World):Prop:=∃ v,e=.returned v∧NodeV w' (fun b=>w.heap.size ≤ b) v t∧Below w.heap.size w w'
theorem NewEnd.of {t:Tr} {w:World} {e:Ending} {w':World} (h:NewEnd t w e w'):∃ s,e=.returned (.agg (t.cells s))∧TreesAt w' (fun b=>w.heap.size ≤ b) s t.subs∧Below w.heap.size w w':=by
 obtain ⟨v,rfl,⟨s,rfl,hs⟩,hb⟩:=h;exact ⟨s,rfl,hs,hb⟩
end Go.Proofs.YtllfgppjobinnaaDoor
namespace Go.Proofs.YtllfgppjobinnaaDoor
open Go.RowKit
def RowLo (lo base:Nat) (w:World) (v:Value) (ps:List (Tr × Value)):Prop :=
 w.ownsRow base 37 10 v ps.length (rowOf ps)∧∀ (i:Nat) (t:Tr) (s:Value),ps[i]? = some (t,s)→TreesAt w (fun b=>lo ≤ b∧v.ownBlock ≠ some b) s t.subs
theorem RowLo.nil (lo base:Nat) (w:World):RowLo lo base w (.slice none 0 0) []:=⟨World.ownsRow_nil _ _ _ _,fun i t s h=>by simp at h⟩
theorem RowLo.lt {lo base:Nat} {w:World} {v:Value} {ps:List (Tr × Value)} (h:RowLo lo base w v ps):∀ k,v.ownBlock=some k→base ≤ k∧k < w.heap.size:=h.1.lt
theorem RowLo.below {lo base:Nat} {w w':World} {v:Value} {ps:List (Tr × Value)} (h:RowLo lo base w v ps) (hb:Below w.heap.size w w'):RowLo lo base w' v ps:=by
 refine ⟨h.1.kept (w':=w') (row:=none) ⟨hb.os,hb.tape,hb.output,hb.size,fun k hk _=>hb.block k hk⟩ ?_,fun i t s hi=>(h.2 i t s hi).later hb⟩
 cases h:Value.ownBlock v with
 | none=>exact .inl rfl
 | some g=>exact .inr (by simp)
theorem RowLo.trees {lo base:Nat} {w:World} {v:Value} {ps:List (Tr × Value)} (h:RowLo lo base w v ps) (hlo:lo ≤ base) (hn:ps.length * 96 ≤ 140737488351232):TreesAt w (fun b=>lo ≤ b) v (ps.map (·.1)) :=
 trees_of_row (B':=fun b=>lo ≤ b) h.1 hn (fun i t s hi=>h.2 i t s hi) (fun _ hb=>hb.1) (fun g hg=>Nat.le_trans hlo (h.1.lt g hg).1)
theorem RowLo.step {lo base:Nat} {w3 w4:World} {v v':Value} {ps:List (Tr × Value)} {x:Tr} {s:Value} (h3:RowLo lo base w3 v ps) (hx:TreesAt w3 (fun b=>lo ≤ b∧v.ownBlock ≠ some b) s x.subs)
   (hown:w4.ownsRow base 37 10 v' (ps.length+1) (rowOf ps ++ (x.cells s).toList)) (hg:w3.grownBy w4 v.ownBlock) (hw:v'.ownBlock=v.ownBlock ∨ v'.ownBlock=some w3.heap.size):RowLo lo base w4 v' (ps ++ [(x,s)]):=by
 refine ⟨by rw [rowOf_snoc,List.length_append];exact hown,fun i t r hi=>?_⟩
 by_cases hip:i < ps.length
 · rw [List.getElem?_append_left hip] at hi
   exact subs_step (h3.2 i t r hi) hg hw
 · rw [List.getElem?_append_right (by omega)] at hi
   have hi0:i - ps.length=0:=by
     by_cases h0:i - ps.length=0
     · exact h0
     · rw [List.getElem?_eq_none (by simp;omega)] at hi;cases hi
   rw [hi0] at hi
   simp only [List.getElem?_cons_zero,Option.some.injEq,Prod.mk.injEq] at hi
   obtain ⟨rfl,rfl⟩:=hi
   exact subs_step hx hg hw
theorem RowLo.setCell {base:Nat} {w:World} {v:Value} {ps:List (Tr × Value)} (h:RowLo base base w v ps) {b:Nat} (hb:b < base) (o:Nat) (u:Value):RowLo base base (w.setCell ⟨b,o,none⟩ u) v ps :=
 ⟨ownsRow_setCell_below h.1 hb u,fun i t s hi=>(h.2 i t s hi).keep fun k _ hk=>Below.heap_setCell _ _ _ _ (by have:=hk.1;show k ≠ b;omega)⟩
theorem RowLo.slice {lo base:Nat} {w:World} {v:Value} {ps:List (Tr × Value)} (h:RowLo lo base w v ps):∃ q l c,v=.slice q l c:=by
 rcases h.1.2 with ⟨rfl,_⟩ | ⟨g,cap,_,rfl,_⟩
 · exact ⟨_,_,_,rfl⟩
 · exact ⟨_,_,_,rfl⟩
theorem wp_append_node {P:Program} (w:World) {Q:Exit→Act→World→Prop} {K:Act→World→Prop} {o:Oper} {a:Act} (s x:Operand) (t:TypeId)
   (ho:o.op=.call { callee:=.builtin .append,args:=#[s,x],argTypes:=#[t,t] })
   (base:Nat) (e:TypeId) (i:TypeInfo) (z:Value) (size bytes:Nat) (ht:P.underlying t=some (.slice e)) (hi:P.info? e=some i) (hz:i.zero=some z)
   (hsize:i.size=size) (hby:i.bytes=bytes) (hzs:z.cells.size=size) (hsz:0 < size)
   (v:Value) (n:Nat) (xs:List Value) (hs:a.eval s=v) (hown:w.ownsRow base e size v n xs)
   (ad:Addr) (m c:Nat) (news:List Value) (hx:a.eval x=.slice (some ad) m c) (hl:news.length=m * size) (hnews:∀ j u,news[j]? = some u→w.cell? (ad.add j)=some u) (h1:∀ u ∈ news,u.oneCell'=true) (hm:0 < m)
   (h63:n+m ≤ maxLen) (hbytes:(n+m) * bytes ≤ 140737488355328) (hbase:base ≤ w.heap.size)
   (h:∀ v' w',w'.ownsRow base e size v' (n+m) (xs ++ news)→w.grownBy w' v.ownBlock→(v'.ownBlock=v.ownBlock ∨ v'.ownBlock=some w.heap.size)→K (a.put o.dst v') w'):Oper.wp P o a w K Q:=by
 obtain ⟨v',w',hr,h2,h3,-⟩:=run_append_own (P:=P) w base t o.type e i z size bytes ht hi hz hsize hby hzs hsz v n xs hown ad m c news hl hnews h1 h63 hbytes hbase
 have h4:=append_block base t o.type e i z size bytes ht hi hz hsize hby v v' n xs hown ad m c news hl hnews h1 hm h63 hbytes hr
 unfold Oper.wp execOp
 simp only [ho,resolve,invoke,builtin,Sem.run_bind,Sem.run_pure,Result.andThen_ok,List.map_toArray,List.map_cons,List.map_nil,hs,hx,hr]
 exact h v' w' h2 h3 h4
def OneAt (w:World) (lo:Nat) (y:Tr) (v:Value):Prop:=∃ p2 c2 g,v=.slice (some ⟨g,0,none⟩) 1 1∧TreesAt w (fun b=>lo ≤ b) (.slice p2 y.subs.length c2) y.subs∧(∀ (j:Nat) (u:Value),(y.cells (.slice p2 y.subs.length c2)).toList[j]? = some u→w.cell? ((⟨g,0,none⟩:Addr).add j)=some u)
theorem OneAt.below {w w':World} {lo:Nat} {y:Tr} {v:Value} (h:OneAt w lo y v) (hb:Below w.heap.size w w'):OneAt w' lo y v:=by
 obtain ⟨p2,c2,g,h1,h2,h3⟩:=h
 refine ⟨p2,c2,g,h1,h2.later hb,fun j u hu=>?_⟩
 have h9:=h3 j u hu
 have ea:(⟨g,0,none⟩:Addr).add j=⟨g,0+j,none⟩:=by (unfold Addr.add;split <;> simp_all)
 rw [ea] at h9 ⊢
 rw [World.cell?,hb.block g (block_lt_of_cell h9)];exact h9
theorem OneAt.new {w:World} {lo:Nat} {y:Tr} {p2:Option Addr} {c2:Nat} (ty:TypeId) (h:TreesAt w (fun b=>lo ≤ b) (.slice p2 y.subs.length c2) y.subs):OneAt (w.alloc (.cells (y.cells (.slice p2 y.subs.length c2)) ty)) lo y (.slice (some ⟨w.heap.size,0,none⟩) 1 1) :=
 ⟨p2,c2,w.heap.size,rfl,h.later ((Below.refl _ _).alloc (Nat.le_refl _) _),news_one w y p2 y.subs.length c2 ty⟩
theorem wp_node1 {w:World} {o:Oper} {a:Act} {K:Act→World→Prop} {Q:Exit→Act→World→Prop} (x:Operand) (t:Tr) (p:Option Addr) (len cap:Nat) (ho:o.op=.buildSlice 35 1 #[(0,x)]) (hx:a.eval x=.agg (t.cells (.slice p len cap)))
   (h:K (a.put o.dst (.slice (some ⟨w.heap.size,0,none⟩) 1 1)) (w.alloc (.cells (t.cells (.slice p len cap)) 37))):Oper.wp Tryd.prog o a w K Q:=by
 obtain ⟨ie,hi,hz0,hz1,-⟩:=info_parts Tryd.infoNode
 refine wp_buildSlice 35 37 1 _ ho _ ie _ Tryd.underlying35 hi hz0 (by rw [hz1];decide) (by rw [hz1];decide) ?_ h
 rw [hz1]
 simp only [List.map_toArray,List.map_cons,List.map_nil,hx]
 kernel_rfl
end Go.Proofs.YtllfgppjobinnaaDoor
namespace Go.Proofs.YtllfgppjobinnaaDoor
open Go.RowKit
def pw (n:Nat):Int:=((2 ^ n:Nat):Int)
theorem pw_succ (n:Nat) (h:n < 63):IntKind.u64.wrap (pw n * 2)=pw (n+1):=by
 rw [IntKind.wrap_u64];unfold pw
 have:2 ^ (n+1) ≤ 2 ^ 63:=Nat.pow_le_pow_right (by omega) (by omega)
 rw [Nat.pow_succ] at *
 omega
theorem power_any (n:Nat) (hn:n < 64) (w:World) :
   Calls Tryd.prog 91 #[.int .i64 n] w fun e w'=>e=.returned (.int .u64 (pw n))∧w=w':=by
 go_enter Tryd.func91,Tryd.ntmps91
 go_wp2
 go_loop [3,4] (fun p i=>∃ k:Nat,k ≤ n∧i=.int .i64 k∧p=.int .u64 (pw k)) (fun _ i=>n - (intOf i).toNat)
 case atStart=>exact ⟨0,Nat.zero_le _,rfl,rfl⟩
 case round =>
   obtain ⟨k,hk,rfl,rfl⟩:=hrel
   by_cases hlt:k < n
   · have hs:=pw_succ k (by omega)
     go_wp2
     go_round
     case rel=>exact ⟨k+1,by omega,by go_num,rfl⟩
     case measure=>simp [intOf];omega
   · obtain rfl:k=n:=by omega
     go_wp2
     go_ret
     exact ⟨rfl,rfl⟩
theorem power_mod (k:Nat) (w:World) :
   Calls Tryd.prog 91 #[.int .i64 ((k:Int) % 64)] w fun e w'=>e=.returned (.int .u64 (pw (k % 64)))∧w=w':=by
 rw [show ((k:Int) % 64)=((k % 64:Nat):Int) by omega];exact power_any (k % 64) (by omega) w
theorem pw_pos (n:Nat):1 ≤ pw n:=by have:=Nat.two_pow_pos n;unfold pw;omega
theorem bit_of (x:BitVec 64) (n:Nat):(Oc.U x / pw n % 2 == 1)=x.getLsbD n:=by
 have e:Oc.U x / pw n % 2=((x.toNat / 2 ^ n % 2:Nat):Int):=by
   show (x.toNat:Int) / ((2 ^ n:Nat):Int) % 2=_
   omega
 rw [e,show x.getLsbD n=x.toNat.testBit n from rfl,Nat.testBit_eq_decide_div_mod_eq]
 generalize x.toNat / 2 ^ n % 2=m
 rw [Bool.eq_iff_iff,beq_iff_eq,decide_eq_true_iff];omega
theorem quo_eq (x:BitVec 64) (n:Nat):IntKind.u64.wrap ((Oc.U x).tdiv (pw n))=Oc.U x / pw n:=by
 have h0:=Oc.U_nonneg x;have h1:=Oc.U_lt x;have h2:=pw_pos n
 rw [Int.tdiv_eq_ediv_of_nonneg h0,IntKind.wrap_u64]
 have h3:0 ≤ Oc.U x / pw n:=Int.ediv_nonneg h0 (by omega)
 have h4:Oc.U x / pw n ≤ Oc.U x:=Int.ediv_le_self _ h0
 omega
theorem rem_eq (x:BitVec 64) (n:Nat):(Oc.U x / pw n).tmod 2=Oc.U x / pw n % 2 :=
 Int.tmod_eq_emod_of_nonneg (Int.ediv_nonneg (Oc.U_nonneg x) (by have:=pw_pos n;omega))
theorem pw_ne (n:Nat):¬ pw n=0:=by have:=pw_pos n;omega
def bools (f:Nat→Bool):Array Value:=Array.ofFn (n:=256) fun i=>.bool (f i.val)
theorem bools_get (f:Nat→Bool) (k:Nat) (h:k < 256):(bools f)[k]? = some (.bool (f k)):=by
 unfold bools;rw [Array.getElem?_eq_getElem (by simpa using h)];simp
theorem bools_set {f g:Nat→Bool} {k:Nat} {v:Bool} (h:k < 256) (hk:g k=v) (ho:∀ j,j ≠ k→g j=f j):(bools f).setIfInBounds k (.bool v)=bools g:=by
 apply Array.ext
 · simp [bools]
 · intro i h1 h2
   by_cases e:i=k
   · subst e;simp [bools,hk]
   · have:=ho i e
     rw [Array.getElem_setIfInBounds_ne (by simpa using h1) (Ne.symm e)]
     simp [bools,this]
theorem bools_congr {f g:Nat→Bool} (h:∀ i,i < 256→f i=g i):bools f=bools g:=by
 unfold bools;congr 1;funext i;rw [h i.val i.isLt]
theorem one_cell {w:World} {b k:Nat} {f:Nat→Bool} {t:TypeId} (hk:k < 256) (h:w.heap[b]? = some (.cells (bools f) t)) :
   w.cell? ⟨b,k,none⟩=some (.bool (f k))∧w.frozen? ⟨b,k,none⟩=false:=by
 constructor
 · unfold World.cell?;rw [h];exact bools_get f k hk
 · unfold World.frozen?;rw [h];simp
theorem one_set {w:World} {b k:Nat} {f g:Nat→Bool} {v:Bool} {t:TypeId} (hk:k < 256) (h:w.heap[b]? = some (.cells (bools f) t)) (hv:g k=v) (ho:∀ j,j ≠ k→g j=f j) :
   (w.setCell ⟨b,k,none⟩ (.bool v)).heap[b]? = some (.cells (bools g) t):=by
 simp [World.setCell,Array.getElem?_modify,h,bools_set hk hv ho]
theorem bools_size (f:Nat→Bool):(bools f).size=256:=by simp [bools]
theorem bools_one (f:Nat→Bool):(bools f).all (·.oneCell')=true:=by
 rw [Array.all_eq_true_iff_forall_mem];intro v hv
 simp only [bools,Array.mem_ofFn] at hv
 obtain ⟨i,rfl⟩:=hv;rfl
theorem bits_rel {w wr:World} {a b c d:BitVec 64} {k:Nat} {v:Bool} {x y:Obj} (hlt:k < 256) (hbel:Below w.heap.size w wr) (hsz:w.heap.size+1+1 < wr.heap.size) (h0:wr.heap[w.heap.size]? = some x) (h1:wr.heap[w.heap.size+1]? = some y)
   (h2:wr.heap[w.heap.size+1+1]? = some (.cells (bools fun j=>decide (j < k) && Oc.mem a b c d j) 87)) (hv:v=Oc.mem a b c d k) :
   Below w.heap.size w (wr.setCell ⟨w.heap.size+1+1,k,none⟩ (.bool v)).drew∧w.heap.size+1+1 < (wr.setCell ⟨w.heap.size+1+1,k,none⟩ (.bool v)).drew.heap.size ∧
   (wr.setCell ⟨w.heap.size+1+1,k,none⟩ (.bool v)).drew.heap[w.heap.size]? = some x∧(wr.setCell ⟨w.heap.size+1+1,k,none⟩ (.bool v)).drew.heap[w.heap.size+1]? = some y ∧
   (wr.setCell ⟨w.heap.size+1+1,k,none⟩ (.bool v)).drew.heap[w.heap.size+1+1]? = some (.cells (bools fun j=>decide (j < k+1) && Oc.mem a b c d j) 87):=by
 refine ⟨by go_grown, ?_, ?_, ?_, ?_⟩
 · show w.heap.size+1+1 < (wr.setCell _ _).heap.size;simpa using hsz
 · show (wr.setCell _ _).heap[w.heap.size]? = _;rw [Below.heap_setCell _ _ _ _ (by simp;omega)];exact h0
 · show (wr.setCell _ _).heap[w.heap.size+1]? = _;rw [Below.heap_setCell _ _ _ _ (by simp)];exact h1
 · show (wr.setCell _ _).heap[w.heap.size+1+1]? = _
   refine one_set hlt h2 (by simp [hv]) fun j hj=>?_
   have:decide (j < k+1)=decide (j < k):=by simp;omega
   simp only [this]
theorem bits_any (a b c d:BitVec 64) (w:World) :
   Calls Tryd.prog 57 #[(.agg #[.int .u64 (Oc.U a),.int .u64 (Oc.U b),.int .u64 (Oc.U c),.int .u64 (Oc.U d)])] w fun e w'=>e=.returned (.agg (bools (Oc.mem a b c d)))∧Below w.heap.size w w':=by
 have ha:=Oc.U_nonneg a;have hb:=Oc.U_nonneg b;have hc:=Oc.U_nonneg c;have hd:=Oc.U_nonneg d
 have hz:∀ w,(zeroValue 87).run Tryd.prog w=.ok (.agg (bools fun _=>false)) w:=fun _=>by kernel_rfl
 go_enter Tryd.func57,Tryd.ntmps57
 go_wp2
 go_loopw [4] (fun i wr=>∃ k:Nat,k ≤ 256∧i=.int .i64 k∧Below w.heap.size w wr∧w.heap.size+1+1 < wr.heap.size∧wr.heap[w.heap.size]? = some (.cells #[.int .u64 (Oc.U a),.int .u64 (Oc.U b),.int .u64 (Oc.U c),.int .u64 (Oc.U d)] 24)∧wr.heap[w.heap.size+1]? = some (.cells (bools fun _=>false) 87)∧wr.heap[w.heap.size+1+1]? = some (.cells (bools fun j=>decide (j < k) && Oc.mem a b c d j) 87)) (fun i _=>256 - (intOf i).toNat)
 case atStart =>
   exact ⟨0,Nat.zero_le _,rfl,by go_grown,by simp,(three_new _ _ _ _).1,(three_new _ _ _ _).2.1,(three_new _ _ _ _).2.2.trans (by simp)⟩
 case round =>
   obtain ⟨k,hk,rfl,hbel,hsz,hz0,hz1,hz2⟩:=hrel
   by_cases hlt:k < 256
   · obtain ⟨c0,c1,c2,c3,-⟩:=four hz0
     obtain ⟨v0,l0,l1⟩:∃ v,wr.cell? ⟨w.heap.size+1+1,k,none⟩=some v∧wr.frozen? ⟨w.heap.size+1+1,k,none⟩=false:=⟨_,one_cell hlt hz2⟩
     have HZ0:=Lib.hid hz0
     have HZ1:=Lib.hid hz1
     have HZ2:=Lib.hid hz2
     clear hz0 hz1 hz2
     have hq:k / 64=0 ∨ k / 64=1 ∨ k / 64=2 ∨ k / 64=3:=by omega
     have hp:=pw_ne (k % 64)
     have t2:(k:Int).tmod 64=(k:Int) % 64:=Int.tmod_eq_emod_of_nonneg (by omega)
     have d0:=Int.tdiv_eq_ediv_of_nonneg (a:=(k:Int)) (b:=64) (by omega)
     have e1:=quo_eq (Oc.w4 a b c d (k / 64)) (k % 64)
     have e2:=rem_eq (Oc.w4 a b c d (k / 64)) (k % 64)
     have e3:=bit_of (Oc.w4 a b c d (k / 64)) (k % 64)
     have hm:Oc.mem a b c d k=(Oc.w4 a b c d (k / 64)).getLsbD (k % 64):=rfl
     have HM:=Lib.hid hm
     clear hm
     rcases hq with hq | hq | hq | hq
     · have t1:(k:Int).tdiv 64=0:=by rw [d0];omega
       have t3:IntKind.i64.wrap 0=0:=by decide
       rw [hq] at e1 e2 e3 HM
       change IntKind.u64.wrap ((Oc.U a).tdiv (pw (k % 64)))=_ at e1
       change (Oc.U a / pw (k % 64)).tmod 2=_ at e2
       change (Oc.U a / pw (k % 64) % 2 == 1)=_ at e3
       clear d0
       go_wp2_with fail
       refine wp_region_still_tail 12 (by kernel_rfl) (by kernel_rfl) ?_
       simp only [List.take_succ_cons,List.take_zero,List.drop_succ_cons,List.drop_zero]
       change wpStill _ _ wr.drew (fun a'=>wpList _ _ _ _ a' wr.drew) _ _
       iterate 7 still_step
       still_call (power_mod _ _).mono (by rintro e w' ⟨rfl,rfl⟩;exact ⟨rfl,rfl⟩)
       iterate 4 still_step
       refine wpStill_nil ?_
       go_wp2
       refine ⟨⟨k+1,by omega,by go_num,bits_rel hlt hbel hsz HZ0.out HZ1.out HZ2.out ?_⟩,by simp [intOf];omega⟩
       rw [HM.out]
       first
         | exact (congrArg (fun z=>z == 1) (rem_eq _ _)).trans e3
         | simp only [e3]
     · have t1:(k:Int).tdiv 64=1:=by rw [d0];omega
       have t3:IntKind.i64.wrap 1=1:=by decide
       rw [hq] at e1 e2 e3 HM
       change IntKind.u64.wrap ((Oc.U b).tdiv (pw (k % 64)))=_ at e1
       change (Oc.U b / pw (k % 64)).tmod 2=_ at e2
       change (Oc.U b / pw (k % 64) % 2 == 1)=_ at e3
       clear d0
       go_wp2_with fail
       refine wp_region_still_tail 12 (by kernel_rfl) (by kernel_rfl) ?_
       simp only [List.take_succ_cons,List.take_zero,List.drop_succ_cons,List.drop_zero]
       change wpStill _ _ wr.drew (fun a'=>wpList _ _ _ _ a' wr.drew) _ _
       iterate 7 still_step
       still_call (power_mod _ _).mono (by rintro e w' ⟨rfl,rfl⟩;exact ⟨rfl,rfl⟩)
       iterate 4 still_step
       refine wpStill_nil ?_
       go_wp2
       refine ⟨⟨k+1,by omega,by go_num,bits_rel hlt hbel hsz HZ0.out HZ1.out HZ2.out ?_⟩,by simp [intOf];omega⟩
       rw [HM.out]
       first
         | exact (congrArg (fun z=>z == 1) (rem_eq _ _)).trans e3
         | simp only [e3]
     · have t1:(k:Int).tdiv 64=2:=by rw [d0];omega
       have t3:IntKind.i64.wrap 2=2:=by decide
       rw [hq] at e1 e2 e3 HM
       change IntKind.u64.wrap ((Oc.U c).tdiv (pw (k % 64)))=_ at e1
       change (Oc.U c / pw (k % 64)).tmod 2=_ at e2
       change (Oc.U c / pw (k % 64) % 2 == 1)=_ at e3
       clear d0
       go_wp2_with fail
       refine wp_region_still_tail 12 (by kernel_rfl) (by kernel_rfl) ?_
       simp only [List.take_succ_cons,List.take_zero,List.drop_succ_cons,List.drop_zero]
       change wpStill _ _ wr.drew (fun a'=>wpList _ _ _ _ a' wr.drew) _ _
       iterate 7 still_step
       still_call (power_mod _ _).mono (by rintro e w' ⟨rfl,rfl⟩;exact ⟨rfl,rfl⟩)
       iterate 4 still_step
       refine wpStill_nil ?_
       go_wp2
       refine ⟨⟨k+1,by omega,by go_num,bits_rel hlt hbel hsz HZ0.out HZ1.out HZ2.out ?_⟩,by simp [intOf];omega⟩
       rw [HM.out]
       first
         | exact (congrArg (fun z=>z == 1) (rem_eq _ _)).trans e3
         | simp only [e3]
     · have t1:(k:Int).tdiv 64=3:=by rw [d0];omega
       have t3:IntKind.i64.wrap 3=3:=by decide
       rw [hq] at e1 e2 e3 HM
       change IntKind.u64.wrap ((Oc.U d).tdiv (pw (k % 64)))=_ at e1
       change (Oc.U d / pw (k % 64)).tmod 2=_ at e2
       change (Oc.U d / pw (k % 64) % 2 == 1)=_ at e3
       clear d0
       go_wp2_with fail
       refine wp_region_still_tail 12 (by kernel_rfl) (by kernel_rfl) ?_
       simp only [List.take_succ_cons,List.take_zero,List.drop_succ_cons,List.drop_zero]
       change wpStill _ _ wr.drew (fun a'=>wpList _ _ _ _ a' wr.drew) _ _
       iterate 7 still_step
       still_call (power_mod _ _).mono (by rintro e w' ⟨rfl,rfl⟩;exact ⟨rfl,rfl⟩)
       iterate 4 still_step
       refine wpStill_nil ?_
       go_wp2
       refine ⟨⟨k+1,by omega,by go_num,bits_rel hlt hbel hsz HZ0.out HZ1.out HZ2.out ?_⟩,by simp [intOf];omega⟩
       rw [HM.out]
       first
         | exact (congrArg (fun z=>z == 1) (rem_eq _ _)).trans e3
         | simp only [e3]
   · obtain rfl:k=256:=by omega
     have HZ1:=Lib.hid hz1
     have hz3:wr.heap[w.heap.size+1+1]? = some (.cells (bools (Oc.mem a b c d)) 87):=by
       rw [hz2,bools_congr (g:=Oc.mem a b c d) fun i hi=>by simp [hi]]
     have HZ3:=Lib.hid hz3
     clear hz0 hz1 hz2 hz3 hz
     go_wp2_with (first
       | (refine wpList_load_row rfl _ _ rfl (w.heap.size+1+1) rfl 87 (bools (Oc.mem a b c d)) (0,0) _ HZ3.out Tryd.underlying87 rfl (by rw [bools_size];kernel_rfl) ?_)
       | (refine wpList_store_row rfl _ _ _ rfl (w.heap.size+1) (bools (Oc.mem a b c d)) rfl rfl 87 (bools fun _=>false) HZ1.out (by rw [bools_size];kernel_rfl) (by rw [bools_size,bools_size]) (bools_one _) ?_))
     exact bodyPost_ret (results_cell_row rfl _ _ (w.heap.size+1) 87 (bools (Oc.mem a b c d)) (0,0) _ rfl (heap_setRow HZ1.out) Tryd.underlying87 rfl (by rw [bools_size];kernel_rfl)) rfl ⟨rfl,below_setRow hbel (by omega) _⟩
theorem part_zero (p:Nat→Bool) (q:Nat):part p q 0=0#64:=by unfold part;simp [Oc.wn]
theorem part_whole (p:Nat→Bool) (q:Nat) (h:q < 4):part p q 256=Oc.mk p q:=by
 unfold part Oc.mk;rw [show min 64 (256 - 64 * q)=64 by omega]
theorem part_other (p:Nat→Bool) (q n:Nat) (h:n / 64 ≠ q):part p q (n+1)=part p q n:=by
 unfold part
 rcases Nat.lt_or_gt_of_ne h with h' | h'
 · rw [show n+1 - 64 * q=0 by omega,show n - 64 * q=0 by omega]
 · rw [show min 64 (n+1 - 64 * q)=64 by omega,show min 64 (n - 64 * q)=64 by omega]
theorem part_no (p:Nat→Bool) (q n:Nat) (h:p n=false):part p q (n+1)=part p q n:=by
 by_cases e:n / 64=q
 · unfold part
   rw [show min 64 (n+1 - 64 * q)=(n - 64 * q)+1 by omega,show min 64 (n - 64 * q)=n - 64 * q by omega]
   simp only [Oc.wn]
   rw [show 64 * q+(n - 64 * q)=n by omega,h];simp
 · exact part_other p q n e
theorem part_yes (p:Nat→Bool) (q n:Nat) (h:p n=true) (e:n / 64=q):IntKind.u64.wrap (Oc.U (part p q n)+pw (n % 64))=Oc.U (part p q (n+1)):=by
 unfold part
 rw [show min 64 (n+1 - 64 * q)=n % 64+1 by omega,show min 64 (n - 64 * q)=n % 64 by omega]
 simp only [Oc.wn]
 rw [show 64 * q+n % 64=n by omega,h,if_pos rfl]
 have h1:=Oc.wn_lt p q (n % 64)
 have h2:2 ^ (n % 64+1) ≤ 2 ^ 64:=Nat.pow_le_pow_right (by omega) (by omega)
 rw [Nat.pow_succ] at h2
 unfold Oc.U pw
 rw [IntKind.wrap_u64,BitVec.toNat_ofNat,BitVec.toNat_ofNat]
 omega
theorem set_one {w:World} {b q:Nat} {x0 x1 x2 x3 v:Value} {t:TypeId} (h:w.heap[b]? = some (.cells #[x0,x1,x2,x3] t)) :
   (w.setCell ⟨b,q,none⟩ v).heap[b]? = some (.cells (#[x0,x1,x2,x3].setIfInBounds q v) t):=by
 simp [World.setCell,Array.getElem?_modify,h]
theorem made_rel {w wr:World} {p:Nat→Bool} {k q:Nat} {x y:Obj} (hq:k / 64=q) (hlt:k < 256) (hp:p k=true) (hbel:Below w.heap.size w wr) (hsz:w.heap.size+1+1 < wr.heap.size) (h0:wr.heap[w.heap.size]? = some x) (h1:wr.heap[w.heap.size+1]? = some y)
   (h2:wr.heap[w.heap.size+1+1]? = some (.cells #[.int .u64 (Oc.U (part p 0 k)),.int .u64 (Oc.U (part p 1 k)),.int .u64 (Oc.U (part p 2 k)),.int .u64 (Oc.U (part p 3 k))] 24)) :
   Below w.heap.size w (wr.setCell ⟨w.heap.size+1+1,q,none⟩ (.int .u64 (IntKind.u64.wrap (Oc.U (part p q k)+pw (k % 64))))).drew∧w.heap.size+1+1 < (wr.setCell ⟨w.heap.size+1+1,q,none⟩ (.int .u64 (IntKind.u64.wrap (Oc.U (part p q k)+pw (k % 64))))).drew.heap.size ∧
   (wr.setCell ⟨w.heap.size+1+1,q,none⟩ (.int .u64 (IntKind.u64.wrap (Oc.U (part p q k)+pw (k % 64))))).drew.heap[w.heap.size]? = some x∧(wr.setCell ⟨w.heap.size+1+1,q,none⟩ (.int .u64 (IntKind.u64.wrap (Oc.U (part p q k)+pw (k % 64))))).drew.heap[w.heap.size+1]? = some y ∧
   (wr.setCell ⟨w.heap.size+1+1,q,none⟩ (.int .u64 (IntKind.u64.wrap (Oc.U (part p q k)+pw (k % 64))))).drew.heap[w.heap.size+1+1]? = some (.cells #[.int .u64 (Oc.U (part p 0 (k+1))),.int .u64 (Oc.U (part p 1 (k+1))),.int .u64 (Oc.U (part p 2 (k+1))),.int .u64 (Oc.U (part p 3 (k+1)))] 24):=by
 rw [part_yes p q k hp hq]
 refine ⟨by go_grown, ?_, ?_, ?_, ?_⟩
 · show w.heap.size+1+1 < (wr.setCell _ _).heap.size;simpa using hsz
 · show (wr.setCell _ _).heap[w.heap.size]? = _;rw [Below.heap_setCell _ _ _ _ (by simp;omega)];exact h0
 · show (wr.setCell _ _).heap[w.heap.size+1]? = _;rw [Below.heap_setCell _ _ _ _ (by simp)];exact h1
 · show (wr.setCell _ _).heap[w.heap.size+1+1]? = _
   rw [set_one h2]
   have:q=0 ∨ q=1 ∨ q=2 ∨ q=3:=by omega
   rcases this with rfl | rfl | rfl | rfl
   · rw [part_other p 1 k (by omega),part_other p 2 k (by omega),part_other p 3 k (by omega)];rfl
   · rw [part_other p 0 k (by omega),part_other p 2 k (by omega),part_other p 3 k (by omega)];rfl
   · rw [part_other p 0 k (by omega),part_other p 1 k (by omega),part_other p 3 k (by omega)];rfl
   · rw [part_other p 0 k (by omega),part_other p 1 k (by omega),part_other p 2 k (by omega)];rfl
theorem made_any (p:Nat→Bool) (w:World) :
   Calls Tryd.prog 55 #[.agg (bools p)] w fun e w'=>e=.returned (.agg #[.int .u64 (Oc.U (Oc.mk p 0)),.int .u64 (Oc.U (Oc.mk p 1)),.int .u64 (Oc.U (Oc.mk p 2)),.int .u64 (Oc.U (Oc.mk p 3))])∧Below w.heap.size w w':=by
 go_enter Tryd.func55,Tryd.ntmps55
 go_wp2
 go_loopw [4] (fun i wr=>∃ k:Nat,k ≤ 256∧i=.int .i64 k∧Below w.heap.size w wr∧w.heap.size+1+1 < wr.heap.size∧wr.heap[w.heap.size]? = some (.cells (bools p) 87)∧wr.heap[w.heap.size+1]? = some (.cells #[.int .u64 0,.int .u64 0,.int .u64 0,.int .u64 0] 24)∧wr.heap[w.heap.size+1+1]? = some (.cells #[.int .u64 (Oc.U (part p 0 k)),.int .u64 (Oc.U (part p 1 k)),.int .u64 (Oc.U (part p 2 k)),.int .u64 (Oc.U (part p 3 k))] 24)) (fun i _=>256 - (intOf i).toNat)
 case atStart =>
   exact ⟨0,Nat.zero_le _,rfl,by go_grown,by simp,(three_new _ _ _ _).1,(three_new _ _ _ _).2.1,(three_new _ _ _ _).2.2.trans (by rw [part_zero,part_zero,part_zero,part_zero];rfl)⟩
 case round =>
   obtain ⟨k,hk,rfl,hbel,hsz,hz0,hz1,hz2⟩:=hrel
   by_cases hlt:k < 256
   · obtain ⟨c0,c1,c2,c3,f0,f1,f2,f3⟩:=four hz2
     have l0:=(one_cell hlt hz0).1
     have HZ0:=Lib.hid hz0
     have HZ1:=Lib.hid hz1
     have HZ2:=Lib.hid hz2
     clear hz0 hz1 hz2
     cases hp:p k with
     | false =>
       rw [hp] at l0
       have HP:=Lib.hid hp
       clear hp
       go_wp2
       refine ⟨⟨k+1,by omega,by go_num,hbel,hsz,HZ0.out,HZ1.out, ?_⟩,by simp [intOf];omega⟩
       rw [part_no p 0 k HP.out,part_no p 1 k HP.out,part_no p 2 k HP.out,part_no p 3 k HP.out]
       exact HZ2.out
     | true =>
       rw [hp] at l0
       have HP:=Lib.hid hp
       clear hp
       have t2:(k:Int).tmod 64=(k:Int) % 64:=Int.tmod_eq_emod_of_nonneg (by omega)
       have d0:=Int.tdiv_eq_ediv_of_nonneg (a:=(k:Int)) (b:=64) (by omega)
       have hq:k / 64=0 ∨ k / 64=1 ∨ k / 64=2 ∨ k / 64=3:=by omega
       rcases hq with hq | hq | hq | hq
       · have t1:(k:Int).tdiv 64=0:=by rw [d0];omega
         have t3:IntKind.i64.wrap 0=0:=by decide
         clear d0
         go_wp2_with fail
         refine wp_region_still_tail 11 (by kernel_rfl) (by kernel_rfl) ?_
         simp only [List.take_succ_cons,List.take_zero,List.drop_succ_cons,List.drop_zero]
         change wpStill _ _ wr.drew (fun a'=>wpList _ _ _ _ a' wr.drew) _ _
         iterate 8 still_step
         still_call (power_mod _ _).mono (by rintro e w' ⟨rfl,rfl⟩;exact ⟨rfl,rfl⟩)
         iterate 2 still_step
         refine wpStill_nil ?_
         go_wp2
         exact ⟨⟨k+1,by omega,by go_num,made_rel hq hlt HP.out hbel hsz HZ0.out HZ1.out HZ2.out⟩,by simp [intOf];omega⟩
       · have t1:(k:Int).tdiv 64=1:=by rw [d0];omega
         have t3:IntKind.i64.wrap 1=1:=by decide
         clear d0
         go_wp2_with fail
         refine wp_region_still_tail 11 (by kernel_rfl) (by kernel_rfl) ?_
         simp only [List.take_succ_cons,List.take_zero,List.drop_succ_cons,List.drop_zero]
         change wpStill _ _ wr.drew (fun a'=>wpList _ _ _ _ a' wr.drew) _ _
         iterate 8 still_step
         still_call (power_mod _ _).mono (by rintro e w' ⟨rfl,rfl⟩;exact ⟨rfl,rfl⟩)
         iterate 2 still_step
         refine wpStill_nil ?_
         go_wp2
         exact ⟨⟨k+1,by omega,by go_num,made_rel hq hlt HP.out hbel hsz HZ0.out HZ1.out HZ2.out⟩,by simp [intOf];omega⟩
       · have t1:(k:Int).tdiv 64=2:=by rw [d0];omega
         have t3:IntKind.i64.wrap 2=2:=by decide
         clear d0
         go_wp2_with fail
         refine wp_region_still_tail 11 (by kernel_rfl) (by kernel_rfl) ?_
         simp only [List.take_succ_cons,List.take_zero,List.drop_succ_cons,List.drop_zero]
         change wpStill _ _ wr.drew (fun a'=>wpList _ _ _ _ a' wr.drew) _ _
         iterate 8 still_step
         still_call (power_mod _ _).mono (by rintro e w' ⟨rfl,rfl⟩;exact ⟨rfl,rfl⟩)
         iterate 2 still_step
         refine wpStill_nil ?_
         go_wp2
         exact ⟨⟨k+1,by omega,by go_num,made_rel hq hlt HP.out hbel hsz HZ0.out HZ1.out HZ2.out⟩,by simp [intOf];omega⟩
       · have t1:(k:Int).tdiv 64=3:=by rw [d0];omega
         have t3:IntKind.i64.wrap 3=3:=by decide
         clear d0
         go_wp2_with fail
         refine wp_region_still_tail 11 (by kernel_rfl) (by kernel_rfl) ?_
         simp only [List.take_succ_cons,List.take_zero,List.drop_succ_cons,List.drop_zero]
         change wpStill _ _ wr.drew (fun a'=>wpList _ _ _ _ a' wr.drew) _ _
         iterate 8 still_step
         still_call (power_mod _ _).mono (by rintro e w' ⟨rfl,rfl⟩;exact ⟨rfl,rfl⟩)
         iterate 2 still_step
         refine wpStill_nil ?_
         go_wp2
         exact ⟨⟨k+1,by omega,by go_num,made_rel hq hlt HP.out hbel hsz HZ0.out HZ1.out HZ2.out⟩,by simp [intOf];omega⟩
   · obtain rfl:k=256:=by omega
     rw [part_whole p 0 (by omega),part_whole p 1 (by omega),part_whole p 2 (by omega),part_whole p 3 (by omega)] at hz2
     obtain ⟨c0,c1,c2,c3,-⟩:=four hz2
     obtain ⟨d0,e0,d1,e1,d2,e2,d3,e3,r0,r1,r2,r3⟩:=four_st hz1
     clear hz0 hz1 hz2
     go_wp2
     refine bodyPost_ret (v:=(.agg #[.int .u64 (Oc.U (Oc.mk p 0)),.int .u64 (Oc.U (Oc.mk p 1)),.int .u64 (Oc.U (Oc.mk p 2)),.int .u64 (Oc.U (Oc.mk p 3))])) (by simp [results,Tryd.results55,go_sem,r0,r1,r2,r3]) rfl ⟨rfl, ?_⟩
     go_grown
theorem mk_mem (a b c d:BitVec 64):Oc.mk (Oc.mem a b c d) 0=a∧Oc.mk (Oc.mem a b c d) 1=b∧Oc.mk (Oc.mem a b c d) 2=c∧Oc.mk (Oc.mem a b c d) 3=d :=
 ⟨Oc.mk_eq fun i hi=>by rw [show 64 * 0+i=i by omega];exact Oc.mem0 a b c d i hi,Oc.mk_eq fun i hi=>Oc.mem1 a b c d i hi,Oc.mk_eq fun i hi=>Oc.mem2 a b c d i hi,Oc.mk_eq fun i hi=>Oc.mem3 a b c d i hi⟩
theorem mk_same4 {p q:Nat→Bool} (h:∀ i,i < 256→p i=q i):Oc.mk p 0=Oc.mk q 0∧Oc.mk p 1=Oc.mk q 1∧Oc.mk p 2=Oc.mk q 2∧Oc.mk p 3=Oc.mk q 3 :=
 ⟨Oc.mk_eq fun i hi=>by rw [Oc.mk_bit q 0 i hi,h _ (by omega)],Oc.mk_eq fun i hi=>by rw [Oc.mk_bit q 1 i hi,h _ (by omega)],Oc.mk_eq fun i hi=>by rw [Oc.mk_bit q 2 i hi,h _ (by omega)],Oc.mk_eq fun i hi=>by rw [Oc.mk_bit q 3 i hi,h _ (by omega)]⟩
end Go.Proofs.YtllfgppjobinnaaDoor
namespace Go.Proofs.YtllfgppjobinnaaDoor
open Go.RowKit
namespace Tr
-- a row
def ddL:Option Int→List Tr→List Tr
 | _,[]=>[]
 | p,t :: r=>if isAnc t=true∧p=some t.kind then ddL (some t.kind) r else t :: ddL (some t.kind) r
def no1 (l:List Tr):List Tr:=l.filter fun t=>decide (t.kind ≠ 1)
theorem no1_cons (t:Tr) (l:List Tr):no1 (t :: l)=if t.kind=1 then no1 l else t :: no1 l:=by
 unfold no1;rw [List.filter_cons]
 by_cases h:t.kind=1
 · rw [if_neg (by simpa using h),if_pos h]
 · rw [if_pos (by simpa using h),if_neg h]
theorem seq_dd':∀ (l acc:List Tr),l.foldl sStep acc=acc ++ ddL (acc.getLast?.map kind) (no1 l)
 | [],acc=>by simp [no1,ddL]
 | t :: l,acc=>by
   rw [List.foldl_cons,no1_cons]
   by_cases h1:t.kind=1
   · have e:sStep acc t=acc:=by unfold sStep;rw [if_neg (fun h=>h.1 h1)]
     rw [if_pos h1,e];exact seq_dd' l acc
   · rw [if_neg h1,ddL]
     cases hag:again acc t with
     | true =>
       have e:sStep acc t=acc:=by unfold sStep;rw [if_neg (by rw [hag];simp)]
       have hp:isAnc t=true∧acc.getLast?.map kind=some t.kind:=by
         unfold again at hag
         rw [Bool.and_eq_true] at hag
         cases hl:acc.getLast? with
         | none=>rw [hl] at hag;cases hag.2
         | some u=>rw [hl] at hag;exact ⟨hag.1,by simpa using hag.2⟩
       rw [if_pos hp,e,seq_dd' l acc,hp.2]
     | false =>
       have e:sStep acc t=acc ++ [t]:=by unfold sStep;rw [if_pos ⟨h1,hag⟩]
       have hp:¬ (isAnc t=true∧acc.getLast?.map kind=some t.kind):=by
         rintro ⟨a,b⟩
         unfold again at hag
         cases hl:acc.getLast? with
         | none=>rw [hl] at b;cases b
         | some u =>
           rw [hl] at hag b
           rw [a] at hag
           simp at hag b
           exact hag b
       rw [if_neg hp,e,seq_dd' l (acc ++ [t])]
       simp
theorem seq_dd (l:List Tr):seqL l=ddL none (no1 l):=by unfold seqL;rw [seq_dd'];simp
-- a choice
def no2 (l:List Tr):List Tr:=l.filter fun t=>decide (t.kind ≠ 2)
theorem no2_cons (t:Tr) (l:List Tr):no2 (t :: l)=if t.kind=2 then no2 l else t :: no2 l:=by
 unfold no2;rw [List.filter_cons]
 by_cases h:t.kind=2
 · rw [if_neg (by simpa using h),if_pos h]
 · rw [if_pos (by simpa using h),if_neg h]
structure W4 where
 a:BitVec 64
 b:BitVec 64
 c:BitVec 64
 d:BitVec 64
def W4.or (x y:W4):W4:=⟨x.a ||| y.a,x.b ||| y.b,x.c ||| y.c,x.d ||| y.d⟩
def W4.zero:W4:=⟨0#64,0#64,0#64,0#64⟩
def ws (t:Tr):W4:=⟨t.w0,t.w1,t.w2,t.w3⟩
theorem W4.zero_or (x:W4):W4.zero.or x=x:=by unfold W4.zero W4.or;simp
theorem W4.or_zero (x:W4):x.or W4.zero=x:=by unfold W4.zero W4.or;simp
theorem W4.or_assoc (x y z:W4):(x.or y).or z=x.or (y.or z):=by unfold W4.or;simp [BitVec.or_assoc]
def orL:List Tr→W4
 | []=>.zero
 | t :: r=>if t.kind=2 then (ws t).or (orL r) else orL r
theorem orL_append:∀ l m:List Tr,orL (l ++ m)=(orL l).or (orL m)
 | [],m=>(W4.zero_or _).symm
 | t :: l,m=>by
   rw [List.cons_append,orL,orL,orL_append l m]
   split
   · rw [W4.or_assoc]
   · rfl
def setT (t:Tr) (x:W4):Tr:=.node t.kind x.a x.b x.c x.d t.subs t.num t.least t.most t.bare
def goL (x:W4):List Tr→List Tr
 | []=>[]
 | t :: r=>if t.kind=2 then (if isNone t=true then goL x r else setT t x :: no2 r) else t :: goL x r
noncomputable def cStep (x:W4) (s:List Tr × Bool) (t:Tr):List Tr × Bool :=
 if t.kind=2 then (if s.2=true ∨ isNone t=true then s else (uStep s.1 (setT t x),true)) else (uStep s.1 t,s.2)
theorem c_laid (x:W4):∀ (l out:List Tr),l.foldl (cStep x) (out,true)=((no2 l).foldl uStep out,true)
 | [],out=>rfl
 | t :: l,out=>by
   rw [List.foldl_cons,no2_cons]
   by_cases h:t.kind=2
   · rw [if_pos h]
     have e:cStep x (out,true) t=(out,true):=by unfold cStep;rw [if_pos h,if_pos (.inl rfl)]
     rw [e];exact c_laid x l out
   · rw [if_neg h,List.foldl_cons]
     have e:cStep x (out,true) t=(uStep out t,true):=by unfold cStep;rw [if_neg h]
     rw [e];exact c_laid x l _
theorem c_go (x:W4):∀ (l out:List Tr),(l.foldl (cStep x) (out,false)).1=(goL x l).foldl uStep out
 | [],out=>rfl
 | t :: l,out=>by
   rw [List.foldl_cons,goL]
   by_cases h:t.kind=2
   · rw [if_pos h]
     by_cases hn:isNone t=true
     · rw [if_pos hn]
       have e:cStep x (out,false) t=(out,false):=by unfold cStep;rw [if_pos h,if_pos (.inr hn)]
       rw [e];exact c_go x l out
     · rw [if_neg hn,List.foldl_cons]
       have e:cStep x (out,false) t=(uStep out (setT t x),true):=by unfold cStep;rw [if_pos h,if_neg (by simp [hn])]
       rw [e,c_laid]
   · rw [if_neg h,List.foldl_cons]
     have e:cStep x (out,false) t=(uStep out t,false):=by unfold cStep;rw [if_neg h]
     rw [e];exact c_go x l _
def joinsT (u:Tr):List Tr→Tr
 | []=>u
 | t :: r=>if t.kind=2 then joinsT (joinT u t) r else joinsT u r
theorem joinsT_set (u:Tr):∀ l:List Tr,joinsT u l=setT u ((ws u).or (orL l))
 | []=>by rw [joinsT,orL,W4.or_zero];cases u;rfl
 | t :: l=>by
   rw [joinsT,orL]
   split
   · rw [joinsT_set (joinT u t) l,← W4.or_assoc];rfl
   · exact joinsT_set u l
theorem addSet_mid {t:Tr} : ∀ {p q:List Tr} {u:Tr},(∀ v,v ∈ p→v.kind ≠ 2)→u.kind=2→addSet (p ++ u :: q) t=p ++ joinT u t :: q
 | [],q,u,_,hu=>by rw [List.nil_append,addSet,if_pos hu];rfl
 | a :: p,q,u,hp,hu=>by
   rw [List.cons_append,addSet,if_neg (hp a List.mem_cons_self),addSet_mid (fun v hv=>hp v (List.mem_cons_of_mem _ hv)) hu];rfl
theorem one_mid:∀ (l p q:List Tr) (u:Tr),(∀ v,v ∈ p→v.kind ≠ 2)→u.kind=2→l.foldl oStep (p ++ u :: q)=p ++ joinsT u l :: (q ++ no2 l)
 | [],p,q,u,_,_=>by simp [joinsT,no2]
 | t :: l,p,q,u,hp,hu=>by
   rw [List.foldl_cons,joinsT,no2_cons]
   unfold oStep
   by_cases h:t.kind=2
   · rw [if_pos h,if_pos h,if_pos h,addSet_mid hp hu]
     exact one_mid l p q (joinT u t) hp hu
   · rw [if_neg h,if_neg h,if_neg h]
     have:=one_mid l p (q ++ [t]) u hp hu
     simp only [List.append_assoc,List.cons_append,List.nil_append] at this ⊢
     exact this
def hdL:List Tr→List Tr
 | []=>[]
 | t :: r=>if t.kind=2 then joinsT t r :: no2 r else t :: hdL r
theorem cnt2_no2 {p:List Tr} (hp:∀ v,v ∈ p→v.kind ≠ 2):cnt2 p=0:=by
 unfold cnt2
 rw [List.length_eq_zero_iff,List.filter_eq_nil_iff]
 intro u hu;simpa using hp u hu
theorem one_hd:∀ (l p:List Tr),(∀ v,v ∈ p→v.kind ≠ 2)→l.foldl oStep p=p ++ hdL l
 | [],p,_=>by simp [hdL]
 | t :: l,p,hp=>by
   rw [List.foldl_cons,hdL]
   by_cases h:t.kind=2
   · have e:oStep p t=p ++ [t]:=by unfold oStep;rw [if_pos h,addSet_none (cnt2_no2 hp)]
     rw [if_pos h,e]
     have:=one_mid l p [] t hp h
     simpa using this
   · have e:oStep p t=p ++ [t]:=by unfold oStep;rw [if_neg h]
     rw [if_neg h,e,one_hd l (p ++ [t]) (fun v hv=>by
       rcases List.mem_append.1 hv with hv | hv
       · exact hp v hv
       · rw [List.mem_singleton.1 hv];exact h)]
     simp
theorem none_ws {t:Tr} (h:isNone t=true):ws t=W4.zero:=by
 unfold isNone at h
 rw [decide_eq_true_eq] at h
 unfold ws W4.zero
 rw [h.2.1,h.2.2.1,h.2.2.2.1,h.2.2.2.2]
def some2 (l:List Tr):List Tr:=l.filter fun t=>!isNone t
theorem some2_cons (t:Tr) (l:List Tr):some2 (t :: l)=if isNone t=true then some2 l else t :: some2 l:=by
 unfold some2;rw [List.filter_cons]
 cases h:isNone t <;> simp
theorem isNone_kind {t:Tr} (h:isNone t=true):t.kind=2:=by
 unfold isNone at h;rw [decide_eq_true_eq] at h;exact h.1
theorem or_some:∀ l:List Tr,orL (some2 l)=orL l
 | []=>rfl
 | t :: l=>by
   rw [some2_cons,orL]
   by_cases h:isNone t=true
   · rw [if_pos h,if_pos (isNone_kind h),none_ws h,W4.zero_or,or_some l]
   · rw [if_neg h,orL,or_some l]
theorem no2_some:∀ l:List Tr,no2 (some2 l)=no2 l
 | []=>rfl
 | t :: l=>by
   rw [some2_cons,no2_cons]
   by_cases h:isNone t=true
   · rw [if_pos h,if_pos (isNone_kind h),no2_some l]
   · rw [if_neg h,no2_cons,no2_some l]
theorem hd_go:∀ l:List Tr,hdL (some2 l)=goL (orL l) l
 | []=>rfl
 | t :: l=>by
   rw [some2_cons,goL,orL]
   by_cases h:isNone t=true
   · rw [if_pos h,if_pos (isNone_kind h),if_pos (isNone_kind h),if_pos h,none_ws h,W4.zero_or]
     exact hd_go l
   · rw [if_neg h,hdL]
     by_cases h2:t.kind=2
     · rw [if_pos h2,if_pos h2,if_pos h2,if_neg h,joinsT_set,or_some,no2_some]
     · rw [if_neg h2,if_neg h2,if_neg h2,hd_go l]
theorem choice_is (l:List Tr):(l.foldl (cStep (orL l)) ([],false)).1=uniqL (oneL (l.filter fun t=>!isNone t)):=by
 rw [c_go]
 unfold uniqL oneL
 rw [one_hd _ [] (fun v hv=>by cases hv),List.nil_append]
 have:=hd_go l
 unfold some2 at this
 rw [this]
end Tr
end Go.Proofs.YtllfgppjobinnaaDoor
namespace Go.Proofs.YtllfgppjobinnaaDoor
open Go.RowKit
def AtEnd (t:Tr) (BB:Nat→Prop) (w:World) (e:Ending) (w':World):Prop:=∃ s,e=.returned (.agg (t.cells s))∧TreesAt w' BB s t.subs∧Below w.heap.size w w'
theorem refis_is (t:Tr) (p:Option Addr) (l c:Nat) (w:World):Calls Tryd.prog 190 #[.agg (t.cells (.slice p l c))] w fun e w'=>e=.returned (.bool t.isNone)∧Below w.heap.size w w':=by
 by_cases h2:t.kind=2
 · rw [Tr.isNone_noSet t h2]
   unfold Tr.cells Tr.noSet
   rw [h2]
   clear h2
   have heq:=fun w9=>eq4 (Oc.U t.w0) (Oc.U t.w1) (Oc.U t.w2) (Oc.U t.w3) 0 0 0 0 w9
   go_enter Tryd.func190,Tryd.ntmps190
   go_wp2
   go_ret
   exact ⟨rfl,by go_grown⟩
 · rw [Tr.isNone_not t h2]
   have e2:(t.kind == 2)=false:=by simpa using h2
   unfold Tr.cells
   clear h2
   go_enter Tryd.func190,Tryd.ntmps190
   go_wp2
   go_ret
   exact ⟨rfl,by go_grown⟩
theorem noneT_cells (s:Value):Tr.noneT.cells s=#[.int .i64 2,.int .u64 0,.int .u64 0,.int .u64 0,.int .u64 0,s,.int .i64 0,.int .i64 0,.int .i64 0,.bool false]:=by
 unfold Tr.noneT Tr.cells
 simp only [Tr.kind,Tr.w0,Tr.w1,Tr.w2,Tr.w3,Tr.num,Tr.least,Tr.most,Tr.bare,u0]
theorem leaf1_cells (s:Value):(Tr.leaf 1).cells s=#[.int .i64 1,.int .u64 0,.int .u64 0,.int .u64 0,.int .u64 0,s,.int .i64 0,.int .i64 0,.int .i64 0,.bool false]:=by
 unfold Tr.leaf Tr.cells
 simp only [Tr.kind,Tr.w0,Tr.w1,Tr.w2,Tr.w3,Tr.num,Tr.least,Tr.most,Tr.bare,u0]
theorem many_cells (k:Int) (l:List Tr) (s:Value):(Tr.many k l).cells s=#[.int .i64 k,.int .u64 0,.int .u64 0,.int .u64 0,.int .u64 0,s,.int .i64 0,.int .i64 0,.int .i64 0,.bool false]:=by
 unfold Tr.many Tr.cells
 simp only [Tr.kind,Tr.w0,Tr.w1,Tr.w2,Tr.w3,Tr.num,Tr.least,Tr.most,Tr.bare,u0]
theorem rep_cells (lo hi:Int) (x:Tr) (s:Value):(Tr.rep lo hi x).cells s=#[.int .i64 8,.int .u64 0,.int .u64 0,.int .u64 0,.int .u64 0,s,.int .i64 0,.int .i64 lo,.int .i64 hi,.bool false]:=by
 unfold Tr.rep Tr.cells
 simp only [Tr.kind,Tr.w0,Tr.w1,Tr.w2,Tr.w3,Tr.num,Tr.least,Tr.most,Tr.bare,u0]
theorem refnothing_is (w:World):Calls Tryd.prog 191 #[] w fun e w'=>e=.returned (.agg (Tr.noneT.cells (.slice none 0 0)))∧Below w.heap.size w w':=by
 rw [noneT_cells]
 have Z0:=Lib.hid (heap_alloc_new w (.cells noNode 37))
 go_enter Tryd.func191,Tryd.ntmps191
 go_wp2_with (first
   | (refine wpList_store_row rfl 37 (.tmp 0) (.tmp 1) rfl w.heap.size #[.int .i64 2,.int .u64 0,.int .u64 0,.int .u64 0,.int .u64 0,.slice none 0 0,.int .i64 0,.int .i64 0,.int .i64 0,.bool false] rfl rfl 37 _ Z0.out (by kernel_rfl) rfl (by simp [Value.oneCell']) ?_)
   | fail)
 exact bodyPost_ret (results_cell_row rfl _ _ w.heap.size 37 #[.int .i64 2,.int .u64 0,.int .u64 0,.int .u64 0,.int .u64 0,.slice none 0 0,.int .i64 0,.int .i64 0,.int .i64 0,.bool false] (0,0) _ rfl (heap_setRow Z0.out) Tryd.underlying37 rfl (by kernel_rfl)) rfl ⟨rfl,below_setRow ((Below.refl _ _).alloc (Nat.le_refl _) _) (Nat.le_refl _) _⟩
theorem reffree_any:∀ t:Tr,∀ (w:World) (B:Nat→Prop) (v:Value),NodeV w B v t→Calls Tryd.prog 48 #[v] w fun e w'=>e=.returned (.bool t.freeT)∧Below w.heap.size w w':=by
 intro t
 induction t using Tr.rec_subs with
 | h t ih =>
   intro w B v hv
   obtain ⟨s,rfl,hs⟩:=hv
   obtain ⟨p,cap,rfl,hlen⟩:=hs.slice
   rw [Tr.freeT_eq]
   by_cases h7:t.kind=7
   · have e7:(decide (t.kind ≠ 7) && Tr.freeL t.subs)=false:=by simp [h7]
     rw [e7]
     unfold Tr.cells
     rw [h7]
     clear ih hs hlen h7 e7
     go_enter Tryd.func48,Tryd.ntmps48
     go_wp2
     go_ret
     exact ⟨rfl,by go_grown⟩
   have e7:(decide (t.kind ≠ 7) && Tr.freeL t.subs)=Tr.freeL t.subs:=by simp [h7]
   rw [e7]
   have e7b:(t.kind == 7)=false:=by simpa using h7
   have Z0:=Lib.hid (heap_alloc_new w (.cells (t.cells (.slice p t.subs.length cap)) 37))
   have HB0:=Lib.hid ((Below.refl w.heap.size w).alloc (Nat.le_refl _) (.cells (t.cells (.slice p t.subs.length cap)) 37))
   have HS0:=Lib.hid (show w.heap.size < (w.alloc (.cells (t.cells (.slice p t.subs.length cap)) 37)).heap.size by simp)
   generalize hts:t.subs=ts at *
   have HTS:=Lib.hid hts;have IH:=Lib.hid ih;have HS:=Lib.hid hs
   clear ih hs hts h7 e7
   unfold Tr.cells at *
   go_enter Tryd.func48,Tryd.ntmps48
   go_upto_region 1 with (fail)
   generalize w.alloc _=W0 at *
   obtain ⟨q0,q1,q2,q3,q4,q5,q6,q7,q8,q9⟩:=allTen Z0.out
   go_wp2_with fail
   clear q0 q1 q2 q3 q4 q5 q6 q7 q8 q9
   go_loopw [3] (fun iv wr=>∃ m:Nat,iv=.int .i64 m∧m ≤ ts.length∧Hid (Tr.freeL (ts.take m)=true)∧Hid (Below w.heap.size w wr)∧Hid (wr.heap[w.heap.size]? = some (.cells #[.int .i64 t.kind,.int .u64 (Oc.U t.w0),.int .u64 (Oc.U t.w1),.int .u64 (Oc.U t.w2),.int .u64 (Oc.U t.w3),.slice p ts.length cap,.int .i64 t.num,.int .i64 t.least,.int .i64 t.most,.bool t.bare] 37))) (fun iv _=>ts.length - (intOf iv).toNat)
   case atStart=>exact ⟨0,rfl,Nat.zero_le _,Lib.hid rfl,HB0,Z0⟩
   case round =>
     clear Z0 HB0 HS0
     obtain ⟨m,rfl,hm,HF,HB,Z0⟩:=hrel
     have wm:IntKind.i64.wrap ((m:Int)+1)=(m:Int)+1:=IntWalk.i64_in _ (by omega)
     obtain ⟨f5,-⟩:=at5 Z0.out
     by_cases hlt:m < ts.length
     · obtain ⟨x,hx⟩:∃ x,ts[m]? = some x:=⟨_,List.getElem?_eq_getElem hlt⟩
       obtain ⟨b1,o1,s1,rfl,-,t1,sub1⟩:=HS.out.get hx
       obtain ⟨d0,d1,d2,d3,d4,d5,d6,d7,d8,d9⟩:=t1.keep (HB.out.block _ t1.lt)
       have hmem:=List.mem_of_getElem? hx
       obtain ⟨p1,c1,rfl,hl1⟩:=sub1.slice
       have HC:=Lib.hid (fun w9 hb=>IH.out x hmem w9 B (.agg (x.cells (.slice p1 x.subs.length c1))) ⟨_,rfl,sub1.later hb⟩)
       have HSTP:=Lib.hid (Tr.freeL_take ts m x hx)
       clear t1 sub1 hmem hx
       unfold Tr.cells at HC
       go_wp2_with fail
       refine (HC.out wr HB.out).mono ?_
       rintro e w2 ⟨rfl,hb2⟩
       have HB2:=Lib.hid (HB.out.trans (hb2.mono HB.out.size))
       have Z2:=Lib.hid (keep_blk hb2 Z0.out)
       clear d0 d1 d2 d3 d4 d5 d6 d7 d8 d9 hb2 HC f5
       cases hfx:x.freeT with
       | true =>
         have HX:=Lib.hid hfx
         clear hfx
         go_wp2
         exact ⟨⟨m+1,by go_num,by omega,Lib.hid (by rw [HSTP.out,HF.out,HX.out];rfl),HB2,Z2⟩,by simp [intOf];omega⟩
       | false =>
         have HX:=Lib.hid (show Tr.freeL ts=false from Tr.freeL_no (m:=m+1) (by rw [HSTP.out,HF.out,hfx];rfl))
         clear hfx
         go_wp2
         go_ret
         exact ⟨by rw [HX.out];rfl,HB2.out⟩
     · obtain rfl:m=ts.length:=by omega
       go_wp2
       go_ret
       exact ⟨by rw [List.take_length] at HF;rw [HF.out];rfl,HB.out⟩
theorem refrepeat_any (t x:Tr) (w:World) (pt:Option Addr) (lt ct:Nat) (sx:Value) (BB:Nat→Prop) (hbase:∀ b,w.heap.size ≤ b→BB b) (hx:TreesAt w BB sx x.subs) :
   Calls Tryd.prog 164 #[.agg (t.cells (.slice pt lt ct)),.agg (x.cells sx)] w (AtEnd (Tr.repF t.least t.most x) BB w):=by
 obtain ⟨px,cx,rfl,hlen⟩:=hx.slice
 have HN:=Lib.hid (fun w9=>refis_is x px x.subs.length cx w9)
 have HX:=Lib.hid (fun w9 (hb:Below w.heap.size w w9)=>(hx.mono (B':=fun b=>BB b∧b < w.heap.size) fun b hlt h=>⟨h,hlt⟩).later hb)
 have HBA:=Lib.hid hbase
 obtain ⟨z0,z1,z2⟩:=three_new w (.cells (t.cells (.slice pt lt ct)) 37) (.cells (x.cells (.slice px x.subs.length cx)) 37) (.cells noNode 37)
 obtain ⟨hb0,hs0⟩:=three_box w (.cells (t.cells (.slice pt lt ct)) 37) (.cells (x.cells (.slice px x.subs.length cx)) 37) (.cells noNode 37)
 have Z0:=Lib.hid z0;have Z1:=Lib.hid z1;have Z2:=Lib.hid z2;have HB:=Lib.hid hb0;have HSZ:=Lib.hid (Nat.le_of_eq hs0.symm)
 generalize hRR:Tr.repF t.least t.most x=R
 have HRR:=Lib.hid hRR
 clear hx z0 z1 z2 hb0 hs0 hlen hRR hbase
 unfold Tr.cells at HN Z0 Z1 Z2 HB HSZ ⊢
 go_enter Tryd.func164,Tryd.ntmps164
 go_upto_region 1 with (fail)
 generalize ((w.alloc _).alloc _).alloc _=w1 at *
 by_cases h0:t.most=0
 · skip
   have e0:(t.most == 0)=true:=by simpa using h0
   obtain ⟨p0,p1,p2,p3,p4,p5,p6,p7,p8,p9⟩:=allTen Z0.out
   obtain ⟨q0,q1,q2,q3,q4,q5,q6,q7,q8,q9⟩:=allTen Z1.out
   have HL:=Lib.hid (show R=Tr.leaf 1 by rw [← HRR.out];exact Tr.rep_leaf (.inl h0))
   go_wp2_with (first
     | (refine wpList_store_row rfl 37 (.tmp 4) (.tmp 13) rfl (w.heap.size+1+1) #[.int .i64 1,.int .u64 0,.int .u64 0,.int .u64 0,.int .u64 0,.slice none 0 0,.int .i64 0,.int .i64 0,.int .i64 0,.bool false] rfl rfl 37 _ Z2.out (by kernel_rfl) rfl (by simp [Value.oneCell']) ?_)
     | fail)
   refine bodyPost_ret (results_cell_row rfl _ _ (w.heap.size+1+1) 37 #[.int .i64 1,.int .u64 0,.int .u64 0,.int .u64 0,.int .u64 0,.slice none 0 0,.int .i64 0,.int .i64 0,.int .i64 0,.bool false] (0,0) _ rfl (heap_setRow Z2.out) Tryd.underlying37 rfl (by kernel_rfl)) rfl ⟨.slice none 0 0, ?_, ?_,below_setRow HB.out (by omega) _⟩
   · rw [HL.out,leaf1_cells]
   · rw [HL.out];exact TreesAt.nil
 have e0:(t.most == 0)=false:=by simpa using h0
 by_cases h1:x.kind=1
 · skip
   have e1:(x.kind == 1)=true:=by simpa using h1
   obtain ⟨p0,p1,p2,p3,p4,p5,p6,p7,p8,p9⟩:=allTen Z0.out
   obtain ⟨q0,q1,q2,q3,q4,q5,q6,q7,q8,q9⟩:=allTen Z1.out
   have HL:=Lib.hid (show R=Tr.leaf 1 by rw [← HRR.out];exact Tr.rep_leaf (.inr h1))
   go_wp2_with (first
     | (refine wpList_store_row rfl 37 (.tmp 4) (.tmp 13) rfl (w.heap.size+1+1) #[.int .i64 1,.int .u64 0,.int .u64 0,.int .u64 0,.int .u64 0,.slice none 0 0,.int .i64 0,.int .i64 0,.int .i64 0,.bool false] rfl rfl 37 _ Z2.out (by kernel_rfl) rfl (by simp [Value.oneCell']) ?_)
     | fail)
   refine bodyPost_ret (results_cell_row rfl _ _ (w.heap.size+1+1) 37 #[.int .i64 1,.int .u64 0,.int .u64 0,.int .u64 0,.int .u64 0,.slice none 0 0,.int .i64 0,.int .i64 0,.int .i64 0,.bool false] (0,0) _ rfl (heap_setRow Z2.out) Tryd.underlying37 rfl (by kernel_rfl)) rfl ⟨.slice none 0 0, ?_, ?_,below_setRow HB.out (by omega) _⟩
   · rw [HL.out,leaf1_cells]
   · rw [HL.out];exact TreesAt.nil
 have e1:(x.kind == 1)=false:=by simpa using h1
 have H01:=Lib.hid (show ¬ (t.most=0 ∨ x.kind=1) from fun h=>h.elim h0 h1)
 obtain ⟨p0,p1,p2,p3,p4,p5,p6,p7,p8,p9⟩:=allTen Z0.out
 obtain ⟨q0,q1,q2,q3,q4,q5,q6,q7,q8,q9⟩:=allTen Z1.out
 go_wp2_with (first
   | (refine wpList_load_row rfl 37 (.tmp 3) rfl (w.heap.size+1) rfl 37 _ (0,0) _ Z1.out Tryd.underlying37 rfl (by kernel_rfl) ?_)
   | fail)
 clear p0 p1 p2 p3 p4 p5 p6 p7 p8 p9 q0 q1 q2 q3 q4 q5 q6 q7 q8 q9
 refine (HN.out _).mono ?_
 rintro e w1 ⟨rfl,hb9⟩
 replace Z0:=Lib.hid (keep_blk hb9 Z0.out);replace Z1:=Lib.hid (keep_blk hb9 Z1.out);replace Z2:=Lib.hid (keep_blk hb9 Z2.out)
 replace HSZ:=Lib.hid (Nat.le_trans HSZ.out hb9.size)
 replace HB:=Lib.hid (HB.out.trans (hb9.mono HB.out.size))
 clear hb9 h0 h1 HN
 cases hnn:x.isNone with
 | true =>
   by_cases h2:t.least=0
   · skip
     have e2:(t.least == 0)=true:=by simpa using h2
     obtain ⟨p0,p1,p2,p3,p4,p5,p6,p7,p8,p9⟩:=allTen Z0.out
     obtain ⟨q0,q1,q2,q3,q4,q5,q6,q7,q8,q9⟩:=allTen Z1.out
     have HL:=Lib.hid (show R=Tr.leaf 1 by rw [← HRR.out];exact Tr.rep_leaf2 ⟨h2,.inl hnn⟩)
     go_wp2_with (first
       | (refine wpList_store_row rfl 37 (.tmp 4) (.tmp 29) rfl (w.heap.size+1+1) #[.int .i64 1,.int .u64 0,.int .u64 0,.int .u64 0,.int .u64 0,.slice none 0 0,.int .i64 0,.int .i64 0,.int .i64 0,.bool false] rfl rfl 37 _ Z2.out (by kernel_rfl) rfl (by simp [Value.oneCell']) ?_)
       | fail)
     refine bodyPost_ret (results_cell_row rfl _ _ (w.heap.size+1+1) 37 #[.int .i64 1,.int .u64 0,.int .u64 0,.int .u64 0,.int .u64 0,.slice none 0 0,.int .i64 0,.int .i64 0,.int .i64 0,.bool false] (0,0) _ rfl (heap_setRow Z2.out) Tryd.underlying37 rfl (by kernel_rfl)) rfl ⟨.slice none 0 0, ?_, ?_,below_setRow HB.out (by omega) _⟩
     · rw [HL.out,leaf1_cells]
     · rw [HL.out];exact TreesAt.nil
   · skip
     have e2:(t.least == 0)=false:=by simpa using h2
     obtain ⟨p0,p1,p2,p3,p4,p5,p6,p7,p8,p9⟩:=allTen Z0.out
     obtain ⟨q0,q1,q2,q3,q4,q5,q6,q7,q8,q9⟩:=allTen Z1.out
     have HL:=Lib.hid (show R=x by rw [← HRR.out];exact Tr.rep_same H01.out h2 (.inl hnn))
     go_wp2_with (first
       | (refine wpList_load_row rfl 37 (.tmp 3) rfl (w.heap.size+1) rfl 37 _ (0,0) _ Z1.out Tryd.underlying37 rfl (by kernel_rfl) ?_)
       | (refine wpList_store_row rfl 37 (.tmp 4) (.tmp 30) rfl (w.heap.size+1+1) #[.int .i64 x.kind,.int .u64 (Oc.U x.w0),.int .u64 (Oc.U x.w1),.int .u64 (Oc.U x.w2),.int .u64 (Oc.U x.w3),.slice px x.subs.length cx,.int .i64 x.num,.int .i64 x.least,.int .i64 x.most,.bool x.bare] rfl rfl 37 _ Z2.out (by kernel_rfl) rfl (by simp [Value.oneCell']) ?_)
       | fail)
     refine bodyPost_ret (results_cell_row rfl _ _ (w.heap.size+1+1) 37 #[.int .i64 x.kind,.int .u64 (Oc.U x.w0),.int .u64 (Oc.U x.w1),.int .u64 (Oc.U x.w2),.int .u64 (Oc.U x.w3),.slice px x.subs.length cx,.int .i64 x.num,.int .i64 x.least,.int .i64 x.most,.bool x.bare] (0,0) _ rfl (heap_setRow Z2.out) Tryd.underlying37 rfl (by kernel_rfl)) rfl ⟨.slice px x.subs.length cx, ?_, ?_,below_setRow HB.out (by omega) _⟩
     · rw [HL.out];rfl
     · rw [HL.out];exact (HX.out _ (below_setRow HB.out (by omega) _)).mono fun b _ h=>h.1
 | false =>
   by_cases h3:x.kind=3
   · skip
     have e3:(x.kind == 3)=true:=by simpa using h3
     by_cases h2:t.least=0
     · skip
       have e2:(t.least == 0)=true:=by simpa using h2
       obtain ⟨p0,p1,p2,p3,p4,p5,p6,p7,p8,p9⟩:=allTen Z0.out
       obtain ⟨q0,q1,q2,q3,q4,q5,q6,q7,q8,q9⟩:=allTen Z1.out
       have HL:=Lib.hid (show R=Tr.leaf 1 by rw [← HRR.out];exact Tr.rep_leaf2 ⟨h2,.inr (Tr.isAnc_yes x (.inl h3))⟩)
       go_wp2_with (first
         | (refine wpList_store_row rfl 37 (.tmp 4) (.tmp 29) rfl (w.heap.size+1+1) #[.int .i64 1,.int .u64 0,.int .u64 0,.int .u64 0,.int .u64 0,.slice none 0 0,.int .i64 0,.int .i64 0,.int .i64 0,.bool false] rfl rfl 37 _ Z2.out (by kernel_rfl) rfl (by simp [Value.oneCell']) ?_)
         | fail)
       refine bodyPost_ret (results_cell_row rfl _ _ (w.heap.size+1+1) 37 #[.int .i64 1,.int .u64 0,.int .u64 0,.int .u64 0,.int .u64 0,.slice none 0 0,.int .i64 0,.int .i64 0,.int .i64 0,.bool false] (0,0) _ rfl (heap_setRow Z2.out) Tryd.underlying37 rfl (by kernel_rfl)) rfl ⟨.slice none 0 0, ?_, ?_,below_setRow HB.out (by omega) _⟩
       · rw [HL.out,leaf1_cells]
       · rw [HL.out];exact TreesAt.nil
     · skip
       have e2:(t.least == 0)=false:=by simpa using h2
       obtain ⟨p0,p1,p2,p3,p4,p5,p6,p7,p8,p9⟩:=allTen Z0.out
       obtain ⟨q0,q1,q2,q3,q4,q5,q6,q7,q8,q9⟩:=allTen Z1.out
       have HL:=Lib.hid (show R=x by rw [← HRR.out];exact Tr.rep_same H01.out h2 (.inr (Tr.isAnc_yes x (.inl h3))))
       go_wp2_with (first
         | (refine wpList_load_row rfl 37 (.tmp 3) rfl (w.heap.size+1) rfl 37 _ (0,0) _ Z1.out Tryd.underlying37 rfl (by kernel_rfl) ?_)
         | (refine wpList_store_row rfl 37 (.tmp 4) (.tmp 30) rfl (w.heap.size+1+1) #[.int .i64 x.kind,.int .u64 (Oc.U x.w0),.int .u64 (Oc.U x.w1),.int .u64 (Oc.U x.w2),.int .u64 (Oc.U x.w3),.slice px x.subs.length cx,.int .i64 x.num,.int .i64 x.least,.int .i64 x.most,.bool x.bare] rfl rfl 37 _ Z2.out (by kernel_rfl) rfl (by simp [Value.oneCell']) ?_)
         | fail)
       refine bodyPost_ret (results_cell_row rfl _ _ (w.heap.size+1+1) 37 #[.int .i64 x.kind,.int .u64 (Oc.U x.w0),.int .u64 (Oc.U x.w1),.int .u64 (Oc.U x.w2),.int .u64 (Oc.U x.w3),.slice px x.subs.length cx,.int .i64 x.num,.int .i64 x.least,.int .i64 x.most,.bool x.bare] (0,0) _ rfl (heap_setRow Z2.out) Tryd.underlying37 rfl (by kernel_rfl)) rfl ⟨.slice px x.subs.length cx, ?_, ?_,below_setRow HB.out (by omega) _⟩
       · rw [HL.out];rfl
       · rw [HL.out];exact (HX.out _ (below_setRow HB.out (by omega) _)).mono fun b _ h=>h.1
   have e3:(x.kind == 3)=false:=by simpa using h3
   by_cases h4:x.kind=4
   · skip
     have e4:(x.kind == 4)=true:=by simpa using h4
     by_cases h2:t.least=0
     · skip
       have e2:(t.least == 0)=true:=by simpa using h2
       obtain ⟨p0,p1,p2,p3,p4,p5,p6,p7,p8,p9⟩:=allTen Z0.out
       obtain ⟨q0,q1,q2,q3,q4,q5,q6,q7,q8,q9⟩:=allTen Z1.out
       have HL:=Lib.hid (show R=Tr.leaf 1 by rw [← HRR.out];exact Tr.rep_leaf2 ⟨h2,.inr (Tr.isAnc_yes x (.inr h4))⟩)
       go_wp2_with (first
         | (refine wpList_store_row rfl 37 (.tmp 4) (.tmp 29) rfl (w.heap.size+1+1) #[.int .i64 1,.int .u64 0,.int .u64 0,.int .u64 0,.int .u64 0,.slice none 0 0,.int .i64 0,.int .i64 0,.int .i64 0,.bool false] rfl rfl 37 _ Z2.out (by kernel_rfl) rfl (by simp [Value.oneCell']) ?_)
         | fail)
       refine bodyPost_ret (results_cell_row rfl _ _ (w.heap.size+1+1) 37 #[.int .i64 1,.int .u64 0,.int .u64 0,.int .u64 0,.int .u64 0,.slice none 0 0,.int .i64 0,.int .i64 0,.int .i64 0,.bool false] (0,0) _ rfl (heap_setRow Z2.out) Tryd.underlying37 rfl (by kernel_rfl)) rfl ⟨.slice none 0 0, ?_, ?_,below_setRow HB.out (by omega) _⟩
       · rw [HL.out,leaf1_cells]
       · rw [HL.out];exact TreesAt.nil
     · skip
       have e2:(t.least == 0)=false:=by simpa using h2
       obtain ⟨p0,p1,p2,p3,p4,p5,p6,p7,p8,p9⟩:=allTen Z0.out
       obtain ⟨q0,q1,q2,q3,q4,q5,q6,q7,q8,q9⟩:=allTen Z1.out
       have HL:=Lib.hid (show R=x by rw [← HRR.out];exact Tr.rep_same H01.out h2 (.inr (Tr.isAnc_yes x (.inr h4))))
       go_wp2_with (first
         | (refine wpList_load_row rfl 37 (.tmp 3) rfl (w.heap.size+1) rfl 37 _ (0,0) _ Z1.out Tryd.underlying37 rfl (by kernel_rfl) ?_)
         | (refine wpList_store_row rfl 37 (.tmp 4) (.tmp 30) rfl (w.heap.size+1+1) #[.int .i64 x.kind,.int .u64 (Oc.U x.w0),.int .u64 (Oc.U x.w1),.int .u64 (Oc.U x.w2),.int .u64 (Oc.U x.w3),.slice px x.subs.length cx,.int .i64 x.num,.int .i64 x.least,.int .i64 x.most,.bool x.bare] rfl rfl 37 _ Z2.out (by kernel_rfl) rfl (by simp [Value.oneCell']) ?_)
         | fail)
       refine bodyPost_ret (results_cell_row rfl _ _ (w.heap.size+1+1) 37 #[.int .i64 x.kind,.int .u64 (Oc.U x.w0),.int .u64 (Oc.U x.w1),.int .u64 (Oc.U x.w2),.int .u64 (Oc.U x.w3),.slice px x.subs.length cx,.int .i64 x.num,.int .i64 x.least,.int .i64 x.most,.bool x.bare] (0,0) _ rfl (heap_setRow Z2.out) Tryd.underlying37 rfl (by kernel_rfl)) rfl ⟨.slice px x.subs.length cx, ?_, ?_,below_setRow HB.out (by omega) _⟩
       · rw [HL.out];rfl
       · rw [HL.out];exact (HX.out _ (below_setRow HB.out (by omega) _)).mono fun b _ h=>h.1
   have e4:(x.kind == 4)=false:=by simpa using h4
   have HAN:=Lib.hid (Tr.isAnc_not x h3 h4)
   have HNO:=Lib.hid hnn
   clear h3 h4 hnn
   by_cases hone:t.least=1∧t.most=1
   · skip
     have f1:(t.least == 1)=true:=by simpa using hone.1
     have f2:(t.most == 1)=true:=by simpa using hone.2
     obtain ⟨p0,p1,p2,p3,p4,p5,p6,p7,p8,p9⟩:=allTen Z0.out
     obtain ⟨q0,q1,q2,q3,q4,q5,q6,q7,q8,q9⟩:=allTen Z1.out
     have HL:=Lib.hid (show R=x by rw [← HRR.out];exact Tr.rep_same2 H01.out HNO.out HAN.out (.inl hone))
     go_wp2_with (first
       | (refine wpList_load_row rfl 37 (.tmp 3) rfl (w.heap.size+1) rfl 37 _ (0,0) _ Z1.out Tryd.underlying37 rfl (by kernel_rfl) ?_)
       | (refine wpList_store_row rfl 37 (.tmp 4) (.tmp 39) rfl (w.heap.size+1+1) #[.int .i64 x.kind,.int .u64 (Oc.U x.w0),.int .u64 (Oc.U x.w1),.int .u64 (Oc.U x.w2),.int .u64 (Oc.U x.w3),.slice px x.subs.length cx,.int .i64 x.num,.int .i64 x.least,.int .i64 x.most,.bool x.bare] rfl rfl 37 _ Z2.out (by kernel_rfl) rfl (by simp [Value.oneCell']) ?_)
       | fail)
     refine bodyPost_ret (results_cell_row rfl _ _ (w.heap.size+1+1) 37 #[.int .i64 x.kind,.int .u64 (Oc.U x.w0),.int .u64 (Oc.U x.w1),.int .u64 (Oc.U x.w2),.int .u64 (Oc.U x.w3),.slice px x.subs.length cx,.int .i64 x.num,.int .i64 x.least,.int .i64 x.most,.bool x.bare] (0,0) _ rfl (heap_setRow Z2.out) Tryd.underlying37 rfl (by kernel_rfl)) rfl ⟨.slice px x.subs.length cx, ?_, ?_,below_setRow HB.out (by omega) _⟩
     · rw [HL.out];rfl
     · rw [HL.out];exact (HX.out _ (below_setRow HB.out (by omega) _)).mono fun b _ h=>h.1
   have HONE:=Lib.hid hone
   have hone2:(t.least == 1)=false ∨ ((t.least == 1)=true∧(t.most == 1)=false):=by
     by_cases h:t.least=1
     · exact .inr ⟨by simpa using h,by simpa using fun e=>hone ⟨h,e⟩⟩
     · exact .inl (by simpa using h)
   clear hone
   rcases hone2 with f1 | ⟨f1,f2⟩
   · skip
     by_cases h8:x.kind=8
     · skip
       have g8:(x.kind == 8)=true:=by simpa using h8
       by_cases hl:x.least=0
       · skip
         have gl:(x.least == 0)=true:=by simpa using hl
         by_cases hm:x.most = -1
         · skip
           have gm:(x.most == -1)=true:=by simpa using hm
           obtain ⟨p0,p1,p2,p3,p4,p5,p6,p7,p8,p9⟩:=allTen Z0.out
           obtain ⟨q0,q1,q2,q3,q4,q5,q6,q7,q8,q9⟩:=allTen Z1.out
           have HL:=Lib.hid (show R=x by rw [← HRR.out];exact Tr.rep_same2 H01.out HNO.out HAN.out (.inr (by unfold Tr.isStar;rw [decide_eq_true_eq];exact ⟨h8,hl,hm⟩)))
           go_wp2_with (first
             | (refine wpList_load_row rfl 37 (.tmp 3) rfl (w.heap.size+1) rfl 37 _ (0,0) _ Z1.out Tryd.underlying37 rfl (by kernel_rfl) ?_)
             | (refine wpList_store_row rfl 37 (.tmp 4) (.tmp 53) rfl (w.heap.size+1+1) #[.int .i64 x.kind,.int .u64 (Oc.U x.w0),.int .u64 (Oc.U x.w1),.int .u64 (Oc.U x.w2),.int .u64 (Oc.U x.w3),.slice px x.subs.length cx,.int .i64 x.num,.int .i64 x.least,.int .i64 x.most,.bool x.bare] rfl rfl 37 _ Z2.out (by kernel_rfl) rfl (by simp [Value.oneCell']) ?_)
             | fail)
           refine bodyPost_ret (results_cell_row rfl _ _ (w.heap.size+1+1) 37 #[.int .i64 x.kind,.int .u64 (Oc.U x.w0),.int .u64 (Oc.U x.w1),.int .u64 (Oc.U x.w2),.int .u64 (Oc.U x.w3),.slice px x.subs.length cx,.int .i64 x.num,.int .i64 x.least,.int .i64 x.most,.bool x.bare] (0,0) _ rfl (heap_setRow Z2.out) Tryd.underlying37 rfl (by kernel_rfl)) rfl ⟨.slice px x.subs.length cx, ?_, ?_,below_setRow HB.out (by omega) _⟩
           · rw [HL.out];rfl
           · rw [HL.out];exact (HX.out _ (below_setRow HB.out (by omega) _)).mono fun b _ h=>h.1
         · skip
           have gm:(x.most == -1)=false:=by simpa using hm
           obtain ⟨p0,p1,p2,p3,p4,p5,p6,p7,p8,p9⟩:=allTen Z0.out
           obtain ⟨q0,q1,q2,q3,q4,q5,q6,q7,q8,q9⟩:=allTen Z1.out
           have HL:=Lib.hid (show R=Tr.rep t.least t.most x by rw [← HRR.out];exact Tr.rep_rep H01.out HNO.out HAN.out (fun h=>h.elim HONE.out (fun h=>by unfold Tr.isStar at h;rw [decide_eq_true_eq] at h;exact hm h.2.2)))
           have HT:=Lib.hid (one_list (HX.out w1 HB.out) 37 w1.heap.size (by simp))
           have Z3:=Lib.hid (heap_alloc_lt (o:=.cells #[.int .i64 x.kind,.int .u64 (Oc.U x.w0),.int .u64 (Oc.U x.w1),.int .u64 (Oc.U x.w2),.int .u64 (Oc.U x.w3),.slice px x.subs.length cx,.int .i64 x.num,.int .i64 x.least,.int .i64 x.most,.bool x.bare] 37) Z2.out)
           have HB3:=Lib.hid (HB.out.alloc HB.out.size (.cells #[.int .i64 x.kind,.int .u64 (Oc.U x.w0),.int .u64 (Oc.U x.w1),.int .u64 (Oc.U x.w2),.int .u64 (Oc.U x.w3),.slice px x.subs.length cx,.int .i64 x.num,.int .i64 x.least,.int .i64 x.most,.bool x.bare] 37))
           unfold Tr.cells at HT
           go_wp2_with (first
             | (refine wpList_load_row rfl 37 (.tmp 3) rfl (w.heap.size+1) rfl 37 _ (0,0) _ Z1.out Tryd.underlying37 rfl (by kernel_rfl) ?_)
             | (refine wpList_node1 rfl (.tmp 58) x px x.subs.length cx rfl rfl ?_)
             | (refine wpList_store_row rfl 37 (.tmp 4) (.tmp 60) rfl (w.heap.size+1+1) #[.int .i64 8,.int .u64 0,.int .u64 0,.int .u64 0,.int .u64 0,.slice (some ⟨w1.heap.size,0,none⟩) 1 1,.int .i64 0,.int .i64 t.least,.int .i64 t.most,.bool false] rfl rfl 37 _ Z3.out (by kernel_rfl) rfl (by simp [Value.oneCell']) ?_)
             | fail)
           refine bodyPost_ret (results_cell_row rfl _ _ (w.heap.size+1+1) 37 #[.int .i64 8,.int .u64 0,.int .u64 0,.int .u64 0,.int .u64 0,.slice (some ⟨w1.heap.size,0,none⟩) 1 1,.int .i64 0,.int .i64 t.least,.int .i64 t.most,.bool false] (0,0) _ rfl (heap_setRow Z3.out) Tryd.underlying37 rfl (by kernel_rfl)) rfl ⟨.slice (some ⟨w1.heap.size,0,none⟩) 1 1, ?_, ?_,below_setRow HB3.out (by omega) _⟩
           · rw [HL.out,rep_cells]
           · rw [HL.out]
             refine (HT.out.keep fun b _ hb=>?_).mono fun b _ hb=>hb.elim (fun h=>h.1) (fun h=>HBA.out b (by have:=HSZ.out;omega))
             have hb2:b < w.heap.size ∨ b=w1.heap.size:=hb.imp And.right id
             have:=HSZ.out
             rw [heap_setRow_other _ _ _ (by omega)]
             rfl
       · skip
         have gl:(x.least == 0)=false:=by simpa using hl
         obtain ⟨p0,p1,p2,p3,p4,p5,p6,p7,p8,p9⟩:=allTen Z0.out
         obtain ⟨q0,q1,q2,q3,q4,q5,q6,q7,q8,q9⟩:=allTen Z1.out
         have HL:=Lib.hid (show R=Tr.rep t.least t.most x by rw [← HRR.out];exact Tr.rep_rep H01.out HNO.out HAN.out (fun h=>h.elim HONE.out (fun h=>by unfold Tr.isStar at h;rw [decide_eq_true_eq] at h;exact hl h.2.1)))
         have HT:=Lib.hid (one_list (HX.out w1 HB.out) 37 w1.heap.size (by simp))
         have Z3:=Lib.hid (heap_alloc_lt (o:=.cells #[.int .i64 x.kind,.int .u64 (Oc.U x.w0),.int .u64 (Oc.U x.w1),.int .u64 (Oc.U x.w2),.int .u64 (Oc.U x.w3),.slice px x.subs.length cx,.int .i64 x.num,.int .i64 x.least,.int .i64 x.most,.bool x.bare] 37) Z2.out)
         have HB3:=Lib.hid (HB.out.alloc HB.out.size (.cells #[.int .i64 x.kind,.int .u64 (Oc.U x.w0),.int .u64 (Oc.U x.w1),.int .u64 (Oc.U x.w2),.int .u64 (Oc.U x.w3),.slice px x.subs.length cx,.int .i64 x.num,.int .i64 x.least,.int .i64 x.most,.bool x.bare] 37))
         unfold Tr.cells at HT
         go_wp2_with (first
           | (refine wpList_load_row rfl 37 (.tmp 3) rfl (w.heap.size+1) rfl 37 _ (0,0) _ Z1.out Tryd.underlying37 rfl (by kernel_rfl) ?_)
           | (refine wpList_node1 rfl (.tmp 58) x px x.subs.length cx rfl rfl ?_)
           | (refine wpList_store_row rfl 37 (.tmp 4) (.tmp 60) rfl (w.heap.size+1+1) #[.int .i64 8,.int .u64 0,.int .u64 0,.int .u64 0,.int .u64 0,.slice (some ⟨w1.heap.size,0,none⟩) 1 1,.int .i64 0,.int .i64 t.least,.int .i64 t.most,.bool false] rfl rfl 37 _ Z3.out (by kernel_rfl) rfl (by simp [Value.oneCell']) ?_)
           | fail)
         refine bodyPost_ret (results_cell_row rfl _ _ (w.heap.size+1+1) 37 #[.int .i64 8,.int .u64 0,.int .u64 0,.int .u64 0,.int .u64 0,.slice (some ⟨w1.heap.size,0,none⟩) 1 1,.int .i64 0,.int .i64 t.least,.int .i64 t.most,.bool false] (0,0) _ rfl (heap_setRow Z3.out) Tryd.underlying37 rfl (by kernel_rfl)) rfl ⟨.slice (some ⟨w1.heap.size,0,none⟩) 1 1, ?_, ?_,below_setRow HB3.out (by omega) _⟩
         · rw [HL.out,rep_cells]
         · rw [HL.out]
           refine (HT.out.keep fun b _ hb=>?_).mono fun b _ hb=>hb.elim (fun h=>h.1) (fun h=>HBA.out b (by have:=HSZ.out;omega))
           have hb2:b < w.heap.size ∨ b=w1.heap.size:=hb.imp And.right id
           have:=HSZ.out
           rw [heap_setRow_other _ _ _ (by omega)]
           rfl
     · skip
       have g8:(x.kind == 8)=false:=by simpa using h8
       obtain ⟨p0,p1,p2,p3,p4,p5,p6,p7,p8,p9⟩:=allTen Z0.out
       obtain ⟨q0,q1,q2,q3,q4,q5,q6,q7,q8,q9⟩:=allTen Z1.out
       have HL:=Lib.hid (show R=Tr.rep t.least t.most x by rw [← HRR.out];exact Tr.rep_rep H01.out HNO.out HAN.out (fun h=>h.elim HONE.out (fun h=>by unfold Tr.isStar at h;rw [decide_eq_true_eq] at h;exact h8 h.1)))
       have HT:=Lib.hid (one_list (HX.out w1 HB.out) 37 w1.heap.size (by simp))
       have Z3:=Lib.hid (heap_alloc_lt (o:=.cells #[.int .i64 x.kind,.int .u64 (Oc.U x.w0),.int .u64 (Oc.U x.w1),.int .u64 (Oc.U x.w2),.int .u64 (Oc.U x.w3),.slice px x.subs.length cx,.int .i64 x.num,.int .i64 x.least,.int .i64 x.most,.bool x.bare] 37) Z2.out)
       have HB3:=Lib.hid (HB.out.alloc HB.out.size (.cells #[.int .i64 x.kind,.int .u64 (Oc.U x.w0),.int .u64 (Oc.U x.w1),.int .u64 (Oc.U x.w2),.int .u64 (Oc.U x.w3),.slice px x.subs.length cx,.int .i64 x.num,.int .i64 x.least,.int .i64 x.most,.bool x.bare] 37))
       unfold Tr.cells at HT
       go_wp2_with (first
         | (refine wpList_load_row rfl 37 (.tmp 3) rfl (w.heap.size+1) rfl 37 _ (0,0) _ Z1.out Tryd.underlying37 rfl (by kernel_rfl) ?_)
         | (refine wpList_node1 rfl (.tmp 58) x px x.subs.length cx rfl rfl ?_)
         | (refine wpList_store_row rfl 37 (.tmp 4) (.tmp 60) rfl (w.heap.size+1+1) #[.int .i64 8,.int .u64 0,.int .u64 0,.int .u64 0,.int .u64 0,.slice (some ⟨w1.heap.size,0,none⟩) 1 1,.int .i64 0,.int .i64 t.least,.int .i64 t.most,.bool false] rfl rfl 37 _ Z3.out (by kernel_rfl) rfl (by simp [Value.oneCell']) ?_)
         | fail)
       refine bodyPost_ret (results_cell_row rfl _ _ (w.heap.size+1+1) 37 #[.int .i64 8,.int .u64 0,.int .u64 0,.int .u64 0,.int .u64 0,.slice (some ⟨w1.heap.size,0,none⟩) 1 1,.int .i64 0,.int .i64 t.least,.int .i64 t.most,.bool false] (0,0) _ rfl (heap_setRow Z3.out) Tryd.underlying37 rfl (by kernel_rfl)) rfl ⟨.slice (some ⟨w1.heap.size,0,none⟩) 1 1, ?_, ?_,below_setRow HB3.out (by omega) _⟩
       · rw [HL.out,rep_cells]
       · rw [HL.out]
         refine (HT.out.keep fun b _ hb=>?_).mono fun b _ hb=>hb.elim (fun h=>h.1) (fun h=>HBA.out b (by have:=HSZ.out;omega))
         have hb2:b < w.heap.size ∨ b=w1.heap.size:=hb.imp And.right id
         have:=HSZ.out
         rw [heap_setRow_other _ _ _ (by omega)]
         rfl
   · skip
     by_cases h8:x.kind=8
     · skip
       have g8:(x.kind == 8)=true:=by simpa using h8
       by_cases hl:x.least=0
       · skip
         have gl:(x.least == 0)=true:=by simpa using hl
         by_cases hm:x.most = -1
         · skip
           have gm:(x.most == -1)=true:=by simpa using hm
           obtain ⟨p0,p1,p2,p3,p4,p5,p6,p7,p8,p9⟩:=allTen Z0.out
           obtain ⟨q0,q1,q2,q3,q4,q5,q6,q7,q8,q9⟩:=allTen Z1.out
           have HL:=Lib.hid (show R=x by rw [← HRR.out];exact Tr.rep_same2 H01.out HNO.out HAN.out (.inr (by unfold Tr.isStar;rw [decide_eq_true_eq];exact ⟨h8,hl,hm⟩)))
           go_wp2_with (first
             | (refine wpList_load_row rfl 37 (.tmp 3) rfl (w.heap.size+1) rfl 37 _ (0,0) _ Z1.out Tryd.underlying37 rfl (by kernel_rfl) ?_)
             | (refine wpList_store_row rfl 37 (.tmp 4) (.tmp 53) rfl (w.heap.size+1+1) #[.int .i64 x.kind,.int .u64 (Oc.U x.w0),.int .u64 (Oc.U x.w1),.int .u64 (Oc.U x.w2),.int .u64 (Oc.U x.w3),.slice px x.subs.length cx,.int .i64 x.num,.int .i64 x.least,.int .i64 x.most,.bool x.bare] rfl rfl 37 _ Z2.out (by kernel_rfl) rfl (by simp [Value.oneCell']) ?_)
             | fail)
           refine bodyPost_ret (results_cell_row rfl _ _ (w.heap.size+1+1) 37 #[.int .i64 x.kind,.int .u64 (Oc.U x.w0),.int .u64 (Oc.U x.w1),.int .u64 (Oc.U x.w2),.int .u64 (Oc.U x.w3),.slice px x.subs.length cx,.int .i64 x.num,.int .i64 x.least,.int .i64 x.most,.bool x.bare] (0,0) _ rfl (heap_setRow Z2.out) Tryd.underlying37 rfl (by kernel_rfl)) rfl ⟨.slice px x.subs.length cx, ?_, ?_,below_setRow HB.out (by omega) _⟩
           · rw [HL.out];rfl
           · rw [HL.out];exact (HX.out _ (below_setRow HB.out (by omega) _)).mono fun b _ h=>h.1
         · skip
           have gm:(x.most == -1)=false:=by simpa using hm
           obtain ⟨p0,p1,p2,p3,p4,p5,p6,p7,p8,p9⟩:=allTen Z0.out
           obtain ⟨q0,q1,q2,q3,q4,q5,q6,q7,q8,q9⟩:=allTen Z1.out
           have HL:=Lib.hid (show R=Tr.rep t.least t.most x by rw [← HRR.out];exact Tr.rep_rep H01.out HNO.out HAN.out (fun h=>h.elim HONE.out (fun h=>by unfold Tr.isStar at h;rw [decide_eq_true_eq] at h;exact hm h.2.2)))
           have HT:=Lib.hid (one_list (HX.out w1 HB.out) 37 w1.heap.size (by simp))
           have Z3:=Lib.hid (heap_alloc_lt (o:=.cells #[.int .i64 x.kind,.int .u64 (Oc.U x.w0),.int .u64 (Oc.U x.w1),.int .u64 (Oc.U x.w2),.int .u64 (Oc.U x.w3),.slice px x.subs.length cx,.int .i64 x.num,.int .i64 x.least,.int .i64 x.most,.bool x.bare] 37) Z2.out)
           have HB3:=Lib.hid (HB.out.alloc HB.out.size (.cells #[.int .i64 x.kind,.int .u64 (Oc.U x.w0),.int .u64 (Oc.U x.w1),.int .u64 (Oc.U x.w2),.int .u64 (Oc.U x.w3),.slice px x.subs.length cx,.int .i64 x.num,.int .i64 x.least,.int .i64 x.most,.bool x.bare] 37))
           unfold Tr.cells at HT
           go_wp2_with (first
             | (refine wpList_load_row rfl 37 (.tmp 3) rfl (w.heap.size+1) rfl 37 _ (0,0) _ Z1.out Tryd.underlying37 rfl (by kernel_rfl) ?_)
             | (refine wpList_node1 rfl (.tmp 58) x px x.subs.length cx rfl rfl ?_)
             | (refine wpList_store_row rfl 37 (.tmp 4) (.tmp 60) rfl (w.heap.size+1+1) #[.int .i64 8,.int .u64 0,.int .u64 0,.int .u64 0,.int .u64 0,.slice (some ⟨w1.heap.size,0,none⟩) 1 1,.int .i64 0,.int .i64 t.least,.int .i64 t.most,.bool false] rfl rfl 37 _ Z3.out (by kernel_rfl) rfl (by simp [Value.oneCell']) ?_)
             | fail)
           refine bodyPost_ret (results_cell_row rfl _ _ (w.heap.size+1+1) 37 #[.int .i64 8,.int .u64 0,.int .u64 0,.int .u64 0,.int .u64 0,.slice (some ⟨w1.heap.size,0,none⟩) 1 1,.int .i64 0,.int .i64 t.least,.int .i64 t.most,.bool false] (0,0) _ rfl (heap_setRow Z3.out) Tryd.underlying37 rfl (by kernel_rfl)) rfl ⟨.slice (some ⟨w1.heap.size,0,none⟩) 1 1, ?_, ?_,below_setRow HB3.out (by omega) _⟩
           · rw [HL.out,rep_cells]
           · rw [HL.out]
             refine (HT.out.keep fun b _ hb=>?_).mono fun b _ hb=>hb.elim (fun h=>h.1) (fun h=>HBA.out b (by have:=HSZ.out;omega))
             have hb2:b < w.heap.size ∨ b=w1.heap.size:=hb.imp And.right id
             have:=HSZ.out
             rw [heap_setRow_other _ _ _ (by omega)]
             rfl
       · skip
         have gl:(x.least == 0)=false:=by simpa using hl
         obtain ⟨p0,p1,p2,p3,p4,p5,p6,p7,p8,p9⟩:=allTen Z0.out
         obtain ⟨q0,q1,q2,q3,q4,q5,q6,q7,q8,q9⟩:=allTen Z1.out
         have HL:=Lib.hid (show R=Tr.rep t.least t.most x by rw [← HRR.out];exact Tr.rep_rep H01.out HNO.out HAN.out (fun h=>h.elim HONE.out (fun h=>by unfold Tr.isStar at h;rw [decide_eq_true_eq] at h;exact hl h.2.1)))
         have HT:=Lib.hid (one_list (HX.out w1 HB.out) 37 w1.heap.size (by simp))
         have Z3:=Lib.hid (heap_alloc_lt (o:=.cells #[.int .i64 x.kind,.int .u64 (Oc.U x.w0),.int .u64 (Oc.U x.w1),.int .u64 (Oc.U x.w2),.int .u64 (Oc.U x.w3),.slice px x.subs.length cx,.int .i64 x.num,.int .i64 x.least,.int .i64 x.most,.bool x.bare] 37) Z2.out)
         have HB3:=Lib.hid (HB.out.alloc HB.out.size (.cells #[.int .i64 x.kind,.int .u64 (Oc.U x.w0),.int .u64 (Oc.U x.w1),.int .u64 (Oc.U x.w2),.int .u64 (Oc.U x.w3),.slice px x.subs.length cx,.int .i64 x.num,.int .i64 x.least,.int .i64 x.most,.bool x.bare] 37))
         unfold Tr.cells at HT
         go_wp2_with (first
           | (refine wpList_load_row rfl 37 (.tmp 3) rfl (w.heap.size+1) rfl 37 _ (0,0) _ Z1.out Tryd.underlying37 rfl (by kernel_rfl) ?_)
           | (refine wpList_node1 rfl (.tmp 58) x px x.subs.length cx rfl rfl ?_)
           | (refine wpList_store_row rfl 37 (.tmp 4) (.tmp 60) rfl (w.heap.size+1+1) #[.int .i64 8,.int .u64 0,.int .u64 0,.int .u64 0,.int .u64 0,.slice (some ⟨w1.heap.size,0,none⟩) 1 1,.int .i64 0,.int .i64 t.least,.int .i64 t.most,.bool false] rfl rfl 37 _ Z3.out (by kernel_rfl) rfl (by simp [Value.oneCell']) ?_)
           | fail)
         refine bodyPost_ret (results_cell_row rfl _ _ (w.heap.size+1+1) 37 #[.int .i64 8,.int .u64 0,.int .u64 0,.int .u64 0,.int .u64 0,.slice (some ⟨w1.heap.size,0,none⟩) 1 1,.int .i64 0,.int .i64 t.least,.int .i64 t.most,.bool false] (0,0) _ rfl (heap_setRow Z3.out) Tryd.underlying37 rfl (by kernel_rfl)) rfl ⟨.slice (some ⟨w1.heap.size,0,none⟩) 1 1, ?_, ?_,below_setRow HB3.out (by omega) _⟩
         · rw [HL.out,rep_cells]
         · rw [HL.out]
           refine (HT.out.keep fun b _ hb=>?_).mono fun b _ hb=>hb.elim (fun h=>h.1) (fun h=>HBA.out b (by have:=HSZ.out;omega))
           have hb2:b < w.heap.size ∨ b=w1.heap.size:=hb.imp And.right id
           have:=HSZ.out
           rw [heap_setRow_other _ _ _ (by omega)]
           rfl
     · skip
       have g8:(x.kind == 8)=false:=by simpa using h8
       obtain ⟨p0,p1,p2,p3,p4,p5,p6,p7,p8,p9⟩:=allTen Z0.out
       obtain ⟨q0,q1,q2,q3,q4,q5,q6,q7,q8,q9⟩:=allTen Z1.out
       have HL:=Lib.hid (show R=Tr.rep t.least t.most x by rw [← HRR.out];exact Tr.rep_rep H01.out HNO.out HAN.out (fun h=>h.elim HONE.out (fun h=>by unfold Tr.isStar at h;rw [decide_eq_true_eq] at h;exact h8 h.1)))
       have HT:=Lib.hid (one_list (HX.out w1 HB.out) 37 w1.heap.size (by simp))
       have Z3:=Lib.hid (heap_alloc_lt (o:=.cells #[.int .i64 x.kind,.int .u64 (Oc.U x.w0),.int .u64 (Oc.U x.w1),.int .u64 (Oc.U x.w2),.int .u64 (Oc.U x.w3),.slice px x.subs.length cx,.int .i64 x.num,.int .i64 x.least,.int .i64 x.most,.bool x.bare] 37) Z2.out)
       have HB3:=Lib.hid (HB.out.alloc HB.out.size (.cells #[.int .i64 x.kind,.int .u64 (Oc.U x.w0),.int .u64 (Oc.U x.w1),.int .u64 (Oc.U x.w2),.int .u64 (Oc.U x.w3),.slice px x.subs.length cx,.int .i64 x.num,.int .i64 x.least,.int .i64 x.most,.bool x.bare] 37))
       unfold Tr.cells at HT
       go_wp2_with (first
         | (refine wpList_load_row rfl 37 (.tmp 3) rfl (w.heap.size+1) rfl 37 _ (0,0) _ Z1.out Tryd.underlying37 rfl (by kernel_rfl) ?_)
         | (refine wpList_node1 rfl (.tmp 58) x px x.subs.length cx rfl rfl ?_)
         | (refine wpList_store_row rfl 37 (.tmp 4) (.tmp 60) rfl (w.heap.size+1+1) #[.int .i64 8,.int .u64 0,.int .u64 0,.int .u64 0,.int .u64 0,.slice (some ⟨w1.heap.size,0,none⟩) 1 1,.int .i64 0,.int .i64 t.least,.int .i64 t.most,.bool false] rfl rfl 37 _ Z3.out (by kernel_rfl) rfl (by simp [Value.oneCell']) ?_)
         | fail)
       refine bodyPost_ret (results_cell_row rfl _ _ (w.heap.size+1+1) 37 #[.int .i64 8,.int .u64 0,.int .u64 0,.int .u64 0,.int .u64 0,.slice (some ⟨w1.heap.size,0,none⟩) 1 1,.int .i64 0,.int .i64 t.least,.int .i64 t.most,.bool false] (0,0) _ rfl (heap_setRow Z3.out) Tryd.underlying37 rfl (by kernel_rfl)) rfl ⟨.slice (some ⟨w1.heap.size,0,none⟩) 1 1, ?_, ?_,below_setRow HB3.out (by omega) _⟩
       · rw [HL.out,rep_cells]
       · rw [HL.out]
         refine (HT.out.keep fun b _ hb=>?_).mono fun b _ hb=>hb.elim (fun h=>h.1) (fun h=>HBA.out b (by have:=HSZ.out;omega))
         have hb2:b < w.heap.size ∨ b=w1.heap.size:=hb.imp And.right id
         have:=HSZ.out
         rw [heap_setRow_other _ _ _ (by omega)]
         rfl
end Go.Proofs.YtllfgppjobinnaaDoor
namespace Go.Proofs.YtllfgppjobinnaaDoor
open Go.RowKit
def RowP (P:Nat→Prop) (base:Nat) (w:World) (v:Value) (ps:List (Tr × Value)):Prop :=
 w.ownsRow base 37 10 v ps.length (rowOf ps)∧∀ (i:Nat) (t:Tr) (s:Value),ps[i]? = some (t,s)→TreesAt w (fun b=>P b∧v.ownBlock ≠ some b) s t.subs
theorem RowP.nil (P:Nat→Prop) (base:Nat) (w:World):RowP P base w (.slice none 0 0) []:=⟨World.ownsRow_nil _ _ _ _,fun i t s h=>by simp at h⟩
theorem RowP.lt {P:Nat→Prop} {base:Nat} {w:World} {v:Value} {ps:List (Tr × Value)} (h:RowP P base w v ps):∀ k,v.ownBlock=some k→base ≤ k∧k < w.heap.size:=h.1.lt
theorem RowP.below {P:Nat→Prop} {base:Nat} {w w':World} {v:Value} {ps:List (Tr × Value)} (h:RowP P base w v ps) (hb:Below w.heap.size w w'):RowP P base w' v ps:=by
 refine ⟨h.1.kept (w':=w') (row:=none) ⟨hb.os,hb.tape,hb.output,hb.size,fun k hk _=>hb.block k hk⟩ ?_,fun i t s hi=>(h.2 i t s hi).later hb⟩
 cases h:Value.ownBlock v with
 | none=>exact .inl rfl
 | some g=>exact .inr (by simp)
theorem subs_stepP {P:Nat→Prop} {w3 w4:World} {v v':Value} {s:Value} {ts:List Tr} (h:TreesAt w3 (fun b=>P b∧v.ownBlock ≠ some b) s ts) (hg:w3.grownBy w4 v.ownBlock) (hw:v'.ownBlock=v.ownBlock ∨ v'.ownBlock=some w3.heap.size) :
   TreesAt w4 (fun b=>P b∧v'.ownBlock ≠ some b) s ts:=by
 have h1:TreesAt w3 (fun b=>(P b∧v.ownBlock ≠ some b)∧v'.ownBlock ≠ some b) s ts:=h.mono fun b hb hB=>⟨hB,by
   rcases hw with e | e
   · rw [e];exact hB.2
   · rw [e];intro h;have:=Option.some.inj h;omega⟩
 exact (h1.keep (w':=w4) fun b hb hB=>hg.block b hb (fun e=>hB.1.2 e.symm)).mono fun b _ hB=>⟨hB.1.1,hB.2⟩
theorem RowP.more {P:Nat→Prop} {base:Nat} {w3 w4:World} {v v':Value} {ps qs:List (Tr × Value)} (h:RowP P base w3 v ps) (hx:∀ (i:Nat) (t:Tr) (s:Value),qs[i]? = some (t,s)→TreesAt w3 (fun b=>P b∧v.ownBlock ≠ some b) s t.subs)
   (hown:w4.ownsRow base 37 10 v' (ps.length+qs.length) (rowOf ps ++ rowOf qs)) (hg:w3.grownBy w4 v.ownBlock) (hw:v'.ownBlock=v.ownBlock ∨ v'.ownBlock=some w3.heap.size):RowP P base w4 v' (ps ++ qs):=by
 refine ⟨by rw [rowOf_append,List.length_append];exact hown,fun i t r hi=>?_⟩
 by_cases hip:i < ps.length
 · rw [List.getElem?_append_left hip] at hi
   exact subs_stepP (h.2 i t r hi) hg hw
 · rw [List.getElem?_append_right (by omega)] at hi
   exact subs_stepP (hx _ t r hi) hg hw
theorem RowP.app {P:Nat→Prop} {base:Nat} {w0 w3 w4:World} {v v':Value} {ps:List (Tr × Value)} {x:Tr} {p:Option Addr} {l c:Nat} {ty:TypeId} (h:RowP P base w0 v ps) (hb:Below w0.heap.size w0 w3) (hx:TreesAt w3 (fun b=>P b∧v.ownBlock ≠ some b) (.slice p l c) x.subs)
   (hown:w4.ownsRow base 37 10 v' (ps.length+1) (rowOf ps ++ (x.cells (.slice p l c)).toList)) (hg:(w3.alloc (.cells (x.cells (.slice p l c)) ty)).grownBy w4 v.ownBlock) (hw:v'.ownBlock=v.ownBlock ∨ v'.ownBlock=some (w3.alloc (.cells (x.cells (.slice p l c)) ty)).heap.size):RowP P base w4 v' (ps ++ [(x,.slice p l c)]):=by
 have ha:Below w3.heap.size w3 (w3.alloc (.cells (x.cells (.slice p l c)) ty)):=(Below.refl _ _).alloc (Nat.le_refl _) _
 refine RowP.more ((h.below hb).below ha) (fun i t s hi=>?_) (by
   have e:rowOf [(x,.slice p l c)]=(x.cells (.slice p l c)).toList:=by unfold rowOf;simp
   rw [e];exact hown) hg hw
 match i,hi with
 | 0,hi =>
   simp only [List.getElem?_cons_zero,Option.some.injEq,Prod.mk.injEq] at hi
   obtain ⟨rfl,rfl⟩:=hi
   exact hx.later ha
 | i+1,hi=>simp at hi
theorem RowP.trees {P:Nat→Prop} {base:Nat} {w:World} {v:Value} {ps:List (Tr × Value)} (h:RowP P base w v ps) (hP:∀ b,base ≤ b→P b) (hn:ps.length * 96 ≤ 140737488351232):TreesAt w P v (ps.map (·.1)) :=
 trees_of_row (B':=P) h.1 hn (fun i t s hi=>h.2 i t s hi) (fun _ hb=>hb.1) (fun g hg=>hP g (h.1.lt g hg).1)
namespace Tr
theorem no1_take (l:List Tr) (m:Nat) (x:Tr) (h:l[m]? = some x):no1 (l.take (m+1))=if x.kind=1 then no1 (l.take m) else no1 (l.take m) ++ [x]:=by
 unfold no1
 rw [List.take_add_one,h,Option.toList_some,List.filter_append,List.filter_cons]
 by_cases hx:x.kind=1
 · rw [if_neg (by simpa using hx),if_pos hx];simp
 · rw [if_pos (by simpa using hx),if_neg hx];rfl
theorem no1_le (l:List Tr) (m:Nat):(no1 (l.take m)).length ≤ m:=Nat.le_trans (List.length_filter_le _ _) (by rw [List.length_take];omega)
theorem no1_mem {l:List Tr} {u:Tr} (h:u ∈ no1 l):u.kind ≠ 1:=by
 unfold no1 at h
 have:=(List.mem_filter.1 h).2
 simpa using this
theorem no1_no1 (l:List Tr):no1 (no1 l)=no1 l:=by
 unfold no1;rw [List.filter_filter];congr 1;funext t;simp
theorem seq_no1 (l:List Tr):seqL (no1 l)=seqL l:=by rw [seq_dd,seq_dd,no1_no1]
theorem seq_last':∀ (l acc:List Tr),(∀ u,u ∈ l→u.kind ≠ 1)→(l.foldl sStep acc).getLast?.map kind=(acc ++ l).getLast?.map kind
 | [],acc,_=>by simp
 | t :: l,acc,h=>by
   rw [List.foldl_cons,seq_last' l _ fun u hu=>h u (List.mem_cons_of_mem _ hu)]
   have h1:=h t List.mem_cons_self
   unfold sStep
   cases ha:again acc t with
   | true =>
     rw [if_neg (by simp)]
     unfold again at ha
     rw [Bool.and_eq_true] at ha
     cases l with
     | nil =>
       rw [List.append_nil]
       cases hl:acc.getLast? with
       | none=>rw [hl] at ha;cases ha.2
       | some u =>
         rw [hl] at ha
         have:=ha.2
         simp at this ⊢
         exact this
     | cons a l=>simp [List.getLast?_append,List.getLast?_cons]
   | false =>
     rw [if_pos ⟨h1,rfl⟩]
     simp
theorem seq_last {l:List Tr} (h:∀ u,u ∈ l→u.kind ≠ 1) (m:Nat):(seqL (l.take m)).getLast?.map kind=(l.take m).getLast?.map kind:=by
 unfold seqL
 rw [seq_last' (l.take m) [] fun u hu=>h u (List.mem_of_mem_take hu)];simp
theorem last_take {l:List Tr} {n:Nat} {y:Tr} (h:l[n]? = some y):(l.take (n+1)).getLast? = some y:=by
 rw [List.take_add_one,h,Option.toList_some];simp
theorem again_zero (l:List Tr) (x:Tr):again (seqL (l.take 0)) x=false:=by
 unfold again;simp [seqL]
theorem again_next {l:List Tr} (hl:∀ u,u ∈ l→u.kind ≠ 1) {n:Nat} {y:Tr} (h:l[n]? = some y) (x:Tr):again (seqL (l.take (n+1))) x=(isAnc x && decide (y.kind=x.kind)):=by
 have e:=seq_last hl (n+1)
 rw [last_take h] at e
 unfold again
 cases hg:(seqL (l.take (n+1))).getLast? with
 | none=>rw [hg] at e;cases e
 | some u =>
   rw [hg] at e
   simp only [Option.map_some,Option.some.injEq] at e
   simp only [e]
theorem seq_step {l:List Tr} (hl:∀ u,u ∈ l→u.kind ≠ 1) {m:Nat} {x:Tr} (h:l[m]? = some x):seqL (l.take (m+1))=if again (seqL (l.take m)) x=true then seqL (l.take m) else seqL (l.take m) ++ [x]:=by
 have e:seqL (l.take (m+1))=sStep (seqL (l.take m)) x:=by
   unfold seqL
   rw [List.take_add_one,h,Option.toList_some,fold_snoc]
 rw [e]
 have h1:=hl x (List.mem_of_getElem? h)
 unfold sStep
 cases again (seqL (l.take m)) x with
 | true=>rw [if_neg (by simp),if_pos rfl]
 | false=>rw [if_pos ⟨h1,rfl⟩,if_neg (by simp)]
end Tr
end Go.Proofs.YtllfgppjobinnaaDoor
namespace Go.Proofs.YtllfgppjobinnaaDoor
open Go.RowKit
theorem Tr.several0:Tr.several 5 []=Tr.leaf 1:=rfl
theorem Tr.several2 {l:List Tr} (h:2 ≤ l.length):Tr.several 5 l=Tr.many 5 l:=by
 match l,h with
 | _ :: _ :: _,_=>rfl
theorem list_by (l:List Tr):l=[] ∨ (∃ y,l=[y]) ∨ 2 ≤ l.length:=by
 match l with
 | []=>exact .inl rfl
 | [y]=>exact .inr (.inl ⟨y,rfl⟩)
 | _ :: _ :: _=>exact .inr (.inr (by simp))
theorem refrow_any (l:List Tr) (hN:l.length ≤ 1000000) (w:World) (BB:Nat→Prop) (hbase:∀ b,w.heap.size ≤ b→BB b) (s:Value) (hs0:TreesAt w BB s l) :
   Calls Tryd.prog 162 #[s] w (AtEnd (if l.any Tr.isNone=true then Tr.noneT else Tr.several 5 (Tr.seqL l)) BB w):=by
 obtain ⟨P,hP1,hP2,hP3,hs⟩:∃ P:Nat→Prop,(∀ b,P b→BB b)∧(∀ b,P b→b ≠ w.heap.size)∧(∀ b,w.heap.size < b→P b)∧TreesAt w P s l :=
   ⟨fun b=>BB b∧b ≠ w.heap.size,fun b h=>h.1,fun b h=>h.2,fun b h=>⟨hbase b (by omega),by omega⟩,hs0.mono fun b hlt h=>⟨h,by omega⟩⟩
 obtain ⟨p,cap,rfl,hlen⟩:=hs.slice
 obtain ⟨ie,hi0,hz0,hz1,hz2⟩:=info_parts Tryd.infoNode
 have HI:=Lib.hid hi0;have HZ0:=Lib.hid hz0;have HZ1:=Lib.hid hz1;have HZ2:=Lib.hid hz2
 have HP1:=Lib.hid hP1;have HP2:=Lib.hid hP2;have HP3:=Lib.hid hP3
 have hE:∃ R,R=(if l.any Tr.isNone=true then Tr.noneT else Tr.several 5 (Tr.seqL l)):=⟨_,rfl⟩
 obtain ⟨R,hE⟩:=hE
 rw [← hE]
 have HE:=Lib.hid hE;have HN:=Lib.hid hN
 have z0:=heap_alloc_new w (.cells noNode 37)
 have hb0:Below w.heap.size w (w.alloc (.cells noNode 37)):=(Below.refl _ _).alloc (Nat.le_refl _) _
 have hw0:(w.alloc (.cells noNode 37)).heap.size=w.heap.size+1:=by simp
 have Z0:=Lib.hid z0;have HB0:=Lib.hid hb0;have HS0:=Lib.hid hw0
 have HX:=Lib.hid (fun w9 (hb:Below w.heap.size w w9)=>hs.later hb)
 have HXS:=Lib.hid hs
 clear hi0 hz0 hz1 hz2 hs hs0 hE hN z0 hb0 hw0 hP1 hP2 hP3 hbase
 go_enter Tryd.func162,Tryd.ntmps162
 go_upto_region 1 with (fail)
 generalize w.alloc _=W0 at *
 go_wp2
 go_loopw [4,3] (fun iv sv wr=>∃ (m:Nat) (ps:List (Tr × Value)),iv=.int .i64 m∧m ≤ l.length∧Hid (∀ u,u ∈ l.take m→Tr.isNone u=false)∧Hid (ps.map (·.1)=Tr.no1 (l.take m))∧Hid (RowP P W0.heap.size wr sv ps)∧Hid (Below W0.heap.size W0 wr)) (fun iv _ _=>l.length - (intOf iv).toNat)
 case atStart=>exact ⟨0,[],rfl,Nat.zero_le _,Lib.hid (by simp),Lib.hid rfl,Lib.hid (RowP.nil _ _ _),Lib.hid (Below.refl _ _)⟩
 case round =>
   obtain ⟨m,ps,rfl,hm,HNO,HP,HR,HB⟩:=hrel
   have hN:=HN.out
   have wm:IntKind.i64.wrap ((m:Int)+1)=(m:Int)+1:=IntWalk.i64_in _ (by omega)
   by_cases hlt:m < l.length
   · obtain ⟨x,hx⟩:∃ x,l[m]? = some x:=⟨_,List.getElem?_eq_getElem hlt⟩
     obtain ⟨b1,o1,s1,rfl,hB1,t1,sub1⟩:=HXS.out.get hx
     have T1:=Lib.hid (fun w9 (hb:Below W0.heap.size W0 w9)=>t1.keep ((HB0.out.trans (hb.mono HB0.out.size)).block _ t1.lt))
     obtain ⟨p1,c1,rfl,hl1⟩:=sub1.slice
     have HSUB:=Lib.hid (sub1.mono (B':=fun b=>P b∧b < w.heap.size) fun b hlt h=>⟨h,hlt⟩)
     have HST:=Lib.hid (Tr.no1_take l m x hx)
     have HTN:=Lib.hid (Tr.take_none hx HNO.out)
     have HMEM:=Lib.hid (List.mem_of_getElem? hx)
     have hpl:Hid (ps.length ≤ m):=Lib.hid (by rw [len_fst HP.out];exact Tr.no1_le l m)
     clear t1 sub1 hx hB1
     have HNT:=Lib.hid (fun w9=>refis_is x p1 x.subs.length c1 w9)
     unfold Tr.cells at HNT
     obtain ⟨d0,d1,d2,d3,d4,d5,d6,d7,d8,d9⟩:=T1.out wr HB.out
     go_wp2_with fail
     clear d0 d1 d2 d3 d4 d5 d6 d7 d8 d9
     refine (HNT.out wr).mono ?_
     rintro e w3 ⟨rfl,hb3⟩
     have HB3:=Lib.hid (HB.out.trans (hb3.mono HB.out.size))
     have HR3:=Lib.hid (HR.out.below hb3)
     clear hb3 HNT HR HB
     cases hnn:x.isNone with
     | true =>
       have HR1:Hid (R=Tr.noneT):=Lib.hid (by
         rw [HE.out,if_pos (List.any_eq_true.2 ⟨x,HMEM.out,hnn⟩)])
       have HNG:=Lib.hid (refnothing_is w3)
       rw [noneT_cells] at HNG
       clear hnn HST HTN
       go_wp2_with fail
       refine HNG.out.mono ?_
       rintro e w4 ⟨rfl,hb4⟩
       have ZR4:=Lib.hid (keep_blk hb4 ((HB3.out.block _ (by have:=HS0.out;omega)).trans Z0.out))
       have HB4:=Lib.hid (HB0.out.trans ((HB3.out.trans (hb4.mono HB3.out.size)).mono HB0.out.size))
       clear hb4
       go_wp2_with (first
         | (refine wpList_store_row rfl 37 (.tmp 2) (.tmp 26) rfl w.heap.size #[.int .i64 2,.int .u64 0,.int .u64 0,.int .u64 0,.int .u64 0,.slice none 0 0,.int .i64 0,.int .i64 0,.int .i64 0,.bool false] rfl rfl 37 _ ZR4.out (by kernel_rfl) rfl (by simp [Value.oneCell']) ?_)
         | fail)
       refine bodyPost_ret (results_cell_row rfl _ _ w.heap.size 37 #[.int .i64 2,.int .u64 0,.int .u64 0,.int .u64 0,.int .u64 0,.slice none 0 0,.int .i64 0,.int .i64 0,.int .i64 0,.bool false] (0,0) _ rfl (heap_setRow ZR4.out) Tryd.underlying37 rfl (by kernel_rfl)) rfl ⟨.slice none 0 0, ?_, ?_,below_setRow HB4.out (Nat.le_refl _) _⟩
       · rw [HR1.out,noneT_cells]
       · rw [HR1.out];exact TreesAt.nil
     | false =>
       have HTN1:=Lib.hid (HTN.out hnn)
       clear hnn HTN
       by_cases hk1:x.kind=1
       · have HSQ:Hid (Tr.no1 (l.take (m+1))=Tr.no1 (l.take m)):=Lib.hid (by rw [HST.out,if_pos hk1])
         have ek:(x.kind != 1)=false:=by simp [hk1]
         clear hk1 HST
         go_wp2_with fail
         exact ⟨⟨m+1,ps,by go_num,by omega,HTN1,Lib.hid (by rw [HP.out,HSQ.out]),HR3,HB3⟩,by simp [intOf];omega⟩
       · have ek:(x.kind != 1)=true:=by simpa using hk1
         have HSQ:Hid (Tr.no1 (l.take (m+1))=Tr.no1 (l.take m) ++ [x]):=Lib.hid (by rw [HST.out,if_neg hk1])
         clear hk1 HST
         obtain ⟨d0,d1,d2,d3,d4,d5,d6,d7,d8,d9⟩:=T1.out w3 HB3.out
         have HOWN2:=Lib.hid (HR3.out.1.alloc (.cells (x.cells (.slice p1 x.subs.length c1)) 37))
         have HNW:=Lib.hid (news_one w3 x p1 x.subs.length c1 37)
         have HBA:Hid (W0.heap.size ≤ (w3.alloc (.cells (x.cells (.slice p1 x.subs.length c1)) 37)).heap.size):=Lib.hid (by have:=HB3.out.size;simp;omega)
         have htot:Hid (ps.length+1 ≤ 1000000):=Lib.hid (by have:=hpl.out;omega)
         have hml:ps.length+1 ≤ maxLen:=by have:=htot.out;unfold maxLen;omega
         have hbyt:(ps.length+1) * 96 ≤ 140737488355328:=by have:=htot.out;omega
         go_wp2_with (first
           | (refine wpList_node1 rfl (.tmp 33) x p1 x.subs.length c1 rfl rfl ?_)
           | (refine wpList_append_fresh _ rfl (.tmp 29) (.tmp 34) 35 rfl W0.heap.size 37 ie _ 10 96 Tryd.underlying35 HI.out HZ0.out HZ1.out HZ2.out rfl (by decide) _ _ _ rfl HOWN2.out ⟨w3.heap.size,0,none⟩ 1 1 (x.cells (.slice p1 x.subs.length c1)).toList rfl rfl HNW.out (nodeC_one _ _ _ _) (by decide) hml hbyt HBA.out ?_;intro v' w5 hown5 hgrow5 hwhere)
           | fail)
         have HG5:=Lib.hid hgrow5;have HW5:=Lib.hid hwhere
         have HSB:Hid (TreesAt w3 (fun b=>P b∧u3.ownBlock ≠ some b) (.slice p1 x.subs.length c1) x.subs):=Lib.hid ((HSUB.out.later (HB0.out.trans (HB3.out.mono HB0.out.size))).mono fun b _ hb=>⟨hb.1,fun e=>by have:=(HR3.out.lt b e).1;have:=hb.2;have:=HS0.out;omega⟩)
         have HR5:=Lib.hid (HR3.out.app (Below.refl w3.heap.size w3) HSB.out hown5 HG5.out HW5.out)
         have hb6:Below w3.heap.size w3 (w3.alloc (.cells (x.cells (.slice p1 x.subs.length c1)) 37)):=(Below.refl w3.heap.size w3).alloc (Nat.le_refl _) _
         have HB5:=Lib.hid ((HB3.out.trans (hb6.mono HB3.out.size)).grown HG5.out HBA.out (fun k e=>(HR3.out.lt k e).1))
         exact ⟨⟨m+1,ps ++ [(x,.slice p1 x.subs.length c1)],by go_num,by omega,HTN1,Lib.hid (by rw [List.map_append,HP.out,HSQ.out];rfl),HR5,HB5⟩,by simp [intOf];omega⟩
   · obtain rfl:m=l.length:=by omega
     have hLT:=HR.out.trees (fun b hb=>HP3.out b (by have:=HS0.out;omega)) (by have:=HN.out;rw [len_fst HP.out];have:=Tr.no1_le l l.length;omega)
     rw [HP.out,List.take_length] at hLT
     have hLN:(Tr.no1 l).length ≤ 1000000:=by have:=Tr.no1_le l l.length;rw [List.take_length] at this;omega
     have hL1:∀ u,u ∈ Tr.no1 l→u.kind ≠ 1:=fun u hu=>Tr.no1_mem hu
     have hRE:R=Tr.several 5 (Tr.seqL (Tr.no1 l)):=by
       rw [HE.out,if_neg,Tr.seq_no1]
       intro h
       obtain ⟨u,hu,hn⟩:=List.any_eq_true.1 h
       have h9:=HNO.out u (by rw [List.take_length];exact hu)
       rw [h9] at hn;cases hn
     generalize Tr.no1 l=L at *
     obtain ⟨p2,c2,rfl,-⟩:=hLT.slice
     have HL:=Lib.hid hLT;have HRE:=Lib.hid hRE;have HLN:=Lib.hid hLN;have HL1:=Lib.hid hL1
     have HB1:=Lib.hid (HB0.out.trans (HB.out.mono HB0.out.size))
     have Z1:=Lib.hid ((HB.out.block _ (by have:=HS0.out;omega)).trans Z0.out)
     have HS1:=Lib.hid (show w.heap.size < wr.heap.size from by have:=HB.out.size;have:=HS0.out;omega)
     clear hLT hRE hLN hL1 HR HB HP HNO HE hN HX HXS Z0 HB0 HS0 hlt wm hm
     generalize wr=w1 at *
     go_wp2
     go_loopw [7,6] (fun iv sv wr=>∃ (m:Nat) (ps:List (Tr × Value)),iv=.int .i64 m∧m ≤ L.length∧Hid (ps.map (·.1)=Tr.seqL (L.take m))∧Hid (RowP P w1.heap.size wr sv ps)∧Hid (Below w1.heap.size w1 wr)) (fun iv _ _=>L.length - (intOf iv).toNat)
     case atStart=>exact ⟨0,[],rfl,Nat.zero_le _,Lib.hid rfl,Lib.hid (RowP.nil _ _ _),Lib.hid (Below.refl _ _)⟩
     case round =>
       obtain ⟨m,ps,rfl,hm,HP,HR,HB⟩:=hrel
       have hN:=HLN.out
       have wm:IntKind.i64.wrap ((m:Int)+1)=(m:Int)+1:=IntWalk.i64_in _ (by omega)
       by_cases hlt:m < L.length
       · obtain ⟨x,hx⟩:∃ x,L[m]? = some x:=⟨_,List.getElem?_eq_getElem hlt⟩
         obtain ⟨b1,o1,s1,rfl,hB1,t1,sub1⟩:=HL.out.get hx
         obtain ⟨d0,d1,d2,d3,d4,d5,d6,d7,d8,d9⟩:=t1.keep (HB.out.block _ t1.lt)
         obtain ⟨p1,c1,rfl,hl1⟩:=sub1.slice
         have HSUB:=Lib.hid (sub1.mono (B':=fun b=>P b∧b < w1.heap.size) fun b hlt h=>⟨h,hlt⟩)
         have HST:=Lib.hid (Tr.seq_step HL1.out hx)
         have hpl:Hid (ps.length+1 ≤ 1000000):=Lib.hid (by rw [len_fst HP.out];have:=Tr.seqL_le L m;omega)
         have HXM:=Lib.hid hx
         clear t1 sub1 hx hB1
         by_cases hm0:m=0
         · subst hm0
           have hag:Tr.again (Tr.seqL (L.take 0)) x=false:=Tr.again_zero L x
           have HSQ:Hid (Tr.seqL (L.take (0+1))=Tr.seqL (L.take 0) ++ [x]):=Lib.hid (by rw [HST.out,if_neg (by rw [hag];simp)])
           clear HST
           clear hag
           simp only [Nat.zero_mul,Nat.add_zero] at d0 d1 d2 d3 d4 d5 d6 d7 d8 d9
           have HOWN2:=Lib.hid (HR.out.1.alloc (.cells (x.cells (.slice p1 x.subs.length c1)) 37))
           have HNW:=Lib.hid (news_one wr x p1 x.subs.length c1 37)
           have HBA:Hid (w1.heap.size ≤ (wr.alloc (.cells (x.cells (.slice p1 x.subs.length c1)) 37)).heap.size):=Lib.hid (by have:=HB.out.size;simp;omega)
           have hml:ps.length+1 ≤ maxLen:=by have:=hpl.out;unfold maxLen;omega
           have hbyt:(ps.length+1) * 96 ≤ 140737488355328:=by have:=hpl.out;omega
           go_wp2_with (first
             | (refine wpList_node1 rfl (.tmp 73) x p1 x.subs.length c1 rfl rfl ?_)
             | (refine wpList_append_fresh _ rfl (.tmp 69) (.tmp 74) 35 rfl w1.heap.size 37 ie _ 10 96 Tryd.underlying35 HI.out HZ0.out HZ1.out HZ2.out rfl (by decide) _ _ _ rfl HOWN2.out ⟨wr.heap.size,0,none⟩ 1 1 (x.cells (.slice p1 x.subs.length c1)).toList rfl rfl HNW.out (nodeC_one _ _ _ _) (by decide) hml hbyt HBA.out ?_;intro v' w5 hown5 hgrow5 hwhere)
             | fail)
           have HG5:=Lib.hid hgrow5;have HW5:=Lib.hid hwhere
           have HSB:Hid (TreesAt wr (fun b=>P b∧u6.ownBlock ≠ some b) (.slice p1 x.subs.length c1) x.subs):=Lib.hid ((HSUB.out.later HB.out).mono fun b _ hb=>⟨hb.1,fun e=>by have:=(HR.out.lt b e).1;have:=hb.2;omega⟩)
           have HR5:=Lib.hid (HR.out.app (Below.refl wr.heap.size wr) HSB.out hown5 HG5.out HW5.out)
           have hb6:Below wr.heap.size wr (wr.alloc (.cells (x.cells (.slice p1 x.subs.length c1)) 37)):=(Below.refl wr.heap.size wr).alloc (Nat.le_refl _) _
           have HB5:=Lib.hid ((HB.out.trans (hb6.mono HB.out.size)).grown HG5.out HBA.out (fun k e=>(HR.out.lt k e).1))
           exact ⟨⟨0+1,ps ++ [(x,.slice p1 x.subs.length c1)],by go_num,by omega,Lib.hid (by rw [List.map_append,HP.out,HSQ.out];rfl),HR5,HB5⟩,by simp [intOf];omega⟩
         obtain ⟨n,rfl⟩:∃ n,m=n+1:=⟨m - 1,by omega⟩
         obtain ⟨y,hy⟩:∃ y,L[n]? = some y:=⟨_,List.getElem?_eq_getElem (by omega)⟩
         have hag:=Tr.again_next HL1.out hy x
         have hty:TenAt w1 b1 (o1+n * 10) y undef ∨ True:=.inr trivial
         obtain ⟨b2,o2,s2,e2,-,t2,sub2⟩:=HL.out.get hy
         obtain ⟨rfl,rfl⟩:b2=b1∧o2=o1:=by injection e2 with e2;injection e2 with e2 e3;exact ⟨e2.symm,e3.symm⟩
         have g0:=(t2.keep (HB.out.block _ t2.lt)).c0
         clear t2 sub2 hy hty e2
         have wn:IntKind.i64.wrap (((n+1:Nat):Int) - 1)=(n:Int):=by rw [show (((n+1:Nat):Int) - 1)=(n:Int) by omega];exact IntWalk.i64_in _ (by omega)
         have hgt:decide (((n+1:Nat):Int) > 0)=true:=decide_eq_true (by omega)
         have hnl:n < L.length:=by omega
         generalize hmm:n+1=m at *
         by_cases hyx:y.kind=x.kind
         · have eyx:(y.kind == x.kind)=true:=by simpa using hyx
           by_cases h3:x.kind=3
           · have ex3:(x.kind == 3)=true:=by simpa using h3
             have hag2:Tr.again (Tr.seqL (L.take m)) x=true:=by rw [hag,Tr.isAnc_yes x (.inl h3)];simp [hyx]
             clear hag hyx h3
             have HSQ:Hid (Tr.seqL (L.take (m+1))=Tr.seqL (L.take m)):=Lib.hid (by rw [HST.out,if_pos hag2])
             clear HST
             go_wp2_with fail
             exact ⟨⟨m+1,ps,by go_num,by omega,Lib.hid (by rw [HP.out,HSQ.out]),HR,HB⟩,by simp [intOf];omega⟩
           have ex3:(x.kind == 3)=false:=by simpa using h3
           by_cases h4:x.kind=4
           · have ex4:(x.kind == 4)=true:=by simpa using h4
             have hag2:Tr.again (Tr.seqL (L.take m)) x=true:=by rw [hag,Tr.isAnc_yes x (.inr h4)];simp [hyx]
             clear hag hyx h3 h4
             have HSQ:Hid (Tr.seqL (L.take (m+1))=Tr.seqL (L.take m)):=Lib.hid (by rw [HST.out,if_pos hag2])
             clear HST
             go_wp2_with fail
             exact ⟨⟨m+1,ps,by go_num,by omega,Lib.hid (by rw [HP.out,HSQ.out]),HR,HB⟩,by simp [intOf];omega⟩
           have ex4:(x.kind == 4)=false:=by simpa using h4
           have hag2:Tr.again (Tr.seqL (L.take m)) x=false:=by rw [hag,Tr.isAnc_not x h3 h4];rfl
           have HSQ:Hid (Tr.seqL (L.take (m+1))=Tr.seqL (L.take m) ++ [x]):=Lib.hid (by rw [HST.out,if_neg (by rw [hag2];simp)])
           clear HST
           clear hag hag2 hyx h3 h4
           have HOWN2:=Lib.hid (HR.out.1.alloc (.cells (x.cells (.slice p1 x.subs.length c1)) 37))
           have HNW:=Lib.hid (news_one wr x p1 x.subs.length c1 37)
           have HBA:Hid (w1.heap.size ≤ (wr.alloc (.cells (x.cells (.slice p1 x.subs.length c1)) 37)).heap.size):=Lib.hid (by have:=HB.out.size;simp;omega)
           have hml:ps.length+1 ≤ maxLen:=by have:=hpl.out;unfold maxLen;omega
           have hbyt:(ps.length+1) * 96 ≤ 140737488355328:=by have:=hpl.out;omega
           go_wp2_with (first
             | (refine wpList_node1 rfl (.tmp 73) x p1 x.subs.length c1 rfl rfl ?_)
             | (refine wpList_append_fresh _ rfl (.tmp 69) (.tmp 74) 35 rfl w1.heap.size 37 ie _ 10 96 Tryd.underlying35 HI.out HZ0.out HZ1.out HZ2.out rfl (by decide) _ _ _ rfl HOWN2.out ⟨wr.heap.size,0,none⟩ 1 1 (x.cells (.slice p1 x.subs.length c1)).toList rfl rfl HNW.out (nodeC_one _ _ _ _) (by decide) hml hbyt HBA.out ?_;intro v' w5 hown5 hgrow5 hwhere)
             | fail)
           have HG5:=Lib.hid hgrow5;have HW5:=Lib.hid hwhere
           have HSB:Hid (TreesAt wr (fun b=>P b∧u6.ownBlock ≠ some b) (.slice p1 x.subs.length c1) x.subs):=Lib.hid ((HSUB.out.later HB.out).mono fun b _ hb=>⟨hb.1,fun e=>by have:=(HR.out.lt b e).1;have:=hb.2;omega⟩)
           have HR5:=Lib.hid (HR.out.app (Below.refl wr.heap.size wr) HSB.out hown5 HG5.out HW5.out)
           have hb6:Below wr.heap.size wr (wr.alloc (.cells (x.cells (.slice p1 x.subs.length c1)) 37)):=(Below.refl wr.heap.size wr).alloc (Nat.le_refl _) _
           have HB5:=Lib.hid ((HB.out.trans (hb6.mono HB.out.size)).grown HG5.out HBA.out (fun k e=>(HR.out.lt k e).1))
           exact ⟨⟨m+1,ps ++ [(x,.slice p1 x.subs.length c1)],by go_num,by omega,Lib.hid (by rw [List.map_append,HP.out,HSQ.out];rfl),HR5,HB5⟩,by simp [intOf];omega⟩
         have eyx:(y.kind == x.kind)=false:=by simpa using hyx
         have hag2:Tr.again (Tr.seqL (L.take m)) x=false:=by rw [hag];simp [hyx]
         have HSQ:Hid (Tr.seqL (L.take (m+1))=Tr.seqL (L.take m) ++ [x]):=Lib.hid (by rw [HST.out,if_neg (by rw [hag2];simp)])
         clear HST
         clear hag hag2 hyx
         have HOWN2:=Lib.hid (HR.out.1.alloc (.cells (x.cells (.slice p1 x.subs.length c1)) 37))
         have HNW:=Lib.hid (news_one wr x p1 x.subs.length c1 37)
         have HBA:Hid (w1.heap.size ≤ (wr.alloc (.cells (x.cells (.slice p1 x.subs.length c1)) 37)).heap.size):=Lib.hid (by have:=HB.out.size;simp;omega)
         have hml:ps.length+1 ≤ maxLen:=by have:=hpl.out;unfold maxLen;omega
         have hbyt:(ps.length+1) * 96 ≤ 140737488355328:=by have:=hpl.out;omega
         go_wp2_with (first
           | (refine wpList_node1 rfl (.tmp 73) x p1 x.subs.length c1 rfl rfl ?_)
           | (refine wpList_append_fresh _ rfl (.tmp 69) (.tmp 74) 35 rfl w1.heap.size 37 ie _ 10 96 Tryd.underlying35 HI.out HZ0.out HZ1.out HZ2.out rfl (by decide) _ _ _ rfl HOWN2.out ⟨wr.heap.size,0,none⟩ 1 1 (x.cells (.slice p1 x.subs.length c1)).toList rfl rfl HNW.out (nodeC_one _ _ _ _) (by decide) hml hbyt HBA.out ?_;intro v' w5 hown5 hgrow5 hwhere)
           | fail)
         have HG5:=Lib.hid hgrow5;have HW5:=Lib.hid hwhere
         have HSB:Hid (TreesAt wr (fun b=>P b∧u6.ownBlock ≠ some b) (.slice p1 x.subs.length c1) x.subs):=Lib.hid ((HSUB.out.later HB.out).mono fun b _ hb=>⟨hb.1,fun e=>by have:=(HR.out.lt b e).1;have:=hb.2;omega⟩)
         have HR5:=Lib.hid (HR.out.app (Below.refl wr.heap.size wr) HSB.out hown5 HG5.out HW5.out)
         have hb6:Below wr.heap.size wr (wr.alloc (.cells (x.cells (.slice p1 x.subs.length c1)) 37)):=(Below.refl wr.heap.size wr).alloc (Nat.le_refl _) _
         have HB5:=Lib.hid ((HB.out.trans (hb6.mono HB.out.size)).grown HG5.out HBA.out (fun k e=>(HR.out.lt k e).1))
         exact ⟨⟨m+1,ps ++ [(x,.slice p1 x.subs.length c1)],by go_num,by omega,Lib.hid (by rw [List.map_append,HP.out,HSQ.out];rfl),HR5,HB5⟩,by simp [intOf];omega⟩
       · obtain rfl:m=L.length:=by omega
         have hTT:=HR.out.trees (fun b hb=>HP3.out b (by have:=HS1.out;omega)) (by rw [len_fst HP.out];have:=Tr.seqL_le L L.length;omega)
         rw [HP.out,List.take_length] at hTT
         have hRE:=HRE.out
         have hSN:(Tr.seqL L).length ≤ 1000000:=by have:=Tr.seqL_le L L.length;rw [List.take_length] at this;omega
         generalize Tr.seqL L=S at *
         have HTT:=Lib.hid hTT
         obtain ⟨p3,c3,rfl,-⟩:=hTT.slice
         have ZE:=Lib.hid ((HB.out.block _ HS1.out).trans Z1.out)
         have HBE:=Lib.hid (HB1.out.trans (HB.out.mono HB1.out.size))
         clear hTT HR HP HB HRE
         rcases list_by S with rfl | ⟨y,rfl⟩ | h2
         · have hRR:=Lib.hid hRE
           clear hRE
           rw [show ([]:List Tr).length=0 from rfl]
           go_wp2_with (first
             | (refine wpList_store_row rfl 37 (.tmp 2) (.tmp 80) rfl w.heap.size #[.int .i64 1,.int .u64 0,.int .u64 0,.int .u64 0,.int .u64 0,.slice none 0 0,.int .i64 0,.int .i64 0,.int .i64 0,.bool false] rfl rfl 37 _ ZE.out (by kernel_rfl) rfl (by simp [Value.oneCell']) ?_)
             | fail)
           refine bodyPost_ret (results_cell_row rfl _ _ w.heap.size 37 #[.int .i64 1,.int .u64 0,.int .u64 0,.int .u64 0,.int .u64 0,.slice none 0 0,.int .i64 0,.int .i64 0,.int .i64 0,.bool false] (0,0) _ rfl (heap_setRow ZE.out) Tryd.underlying37 rfl (by kernel_rfl)) rfl ⟨.slice none 0 0, ?_, ?_,below_setRow HBE.out (Nat.le_refl _) _⟩
           · rw [hRR.out,Tr.several0,leaf1_cells]
           · rw [hRR.out];exact TreesAt.nil
         · have hRR:=Lib.hid (show R=y from hRE)
           clear hRE
           obtain ⟨b1,o1,s1,rfl,-,t1,sub1⟩:=HTT.out.get (i:=0) (t:=y) rfl
           have t1':TenAt wr b1 o1 y s1:=by simpa using t1
           obtain ⟨d0,d1,d2,d3,d4,d5,d6,d7,d8,d9⟩:=t1'
           obtain ⟨p1,c1,rfl,hl1⟩:=sub1.slice
           have HSUB:=Lib.hid sub1
           clear t1 sub1
           rw [show [y].length=1 from rfl]
           go_wp2_with (first
             | (refine wpList_store_row rfl 37 (.tmp 2) (.tmp 85) rfl w.heap.size #[.int .i64 y.kind,.int .u64 (Oc.U y.w0),.int .u64 (Oc.U y.w1),.int .u64 (Oc.U y.w2),.int .u64 (Oc.U y.w3),.slice p1 y.subs.length c1,.int .i64 y.num,.int .i64 y.least,.int .i64 y.most,.bool y.bare] rfl rfl 37 _ ZE.out (by kernel_rfl) rfl (by simp [Value.oneCell']) ?_)
             | fail)
           refine bodyPost_ret (results_cell_row rfl _ _ w.heap.size 37 #[.int .i64 y.kind,.int .u64 (Oc.U y.w0),.int .u64 (Oc.U y.w1),.int .u64 (Oc.U y.w2),.int .u64 (Oc.U y.w3),.slice p1 y.subs.length c1,.int .i64 y.num,.int .i64 y.least,.int .i64 y.most,.bool y.bare] (0,0) _ rfl (heap_setRow ZE.out) Tryd.underlying37 rfl (by kernel_rfl)) rfl ⟨.slice p1 y.subs.length c1, ?_, ?_,below_setRow HBE.out (Nat.le_refl _) _⟩
           · rw [hRR.out];rfl
           · rw [hRR.out]
             exact (HSUB.out.keep fun b _ hb=>by rw [heap_setRow_other _ _ _ (HP2.out b hb)]).mono fun b _ hb=>HP1.out b hb
         · have hRR:=Lib.hid (show R=Tr.many 5 S by rw [hRE,Tr.several2 h2])
           have e0:((S.length:Int) == 0)=false:=by rw [beq_eq_false_iff_ne];omega
           have e1:((S.length:Int) == 1)=false:=by rw [beq_eq_false_iff_ne];omega
           clear hRE
           go_wp2_with (first
             | (refine wpList_store_row rfl 37 (.tmp 2) (.tmp 87) rfl w.heap.size #[.int .i64 5,.int .u64 0,.int .u64 0,.int .u64 0,.int .u64 0,.slice p3 S.length c3,.int .i64 0,.int .i64 0,.int .i64 0,.bool false] rfl rfl 37 _ ZE.out (by kernel_rfl) rfl (by simp [Value.oneCell']) ?_)
             | fail)
           refine bodyPost_ret (results_cell_row rfl _ _ w.heap.size 37 #[.int .i64 5,.int .u64 0,.int .u64 0,.int .u64 0,.int .u64 0,.slice p3 S.length c3,.int .i64 0,.int .i64 0,.int .i64 0,.bool false] (0,0) _ rfl (heap_setRow ZE.out) Tryd.underlying37 rfl (by kernel_rfl)) rfl ⟨.slice p3 S.length c3, ?_, ?_,below_setRow HBE.out (Nat.le_refl _) _⟩
           · rw [hRR.out,many_cells]
           · rw [hRR.out]
             exact (HTT.out.keep fun b _ hb=>by rw [heap_setRow_other _ _ _ (HP2.out b hb)]).mono fun b _ hb=>HP1.out b hb
end Go.Proofs.YtllfgppjobinnaaDoor
namespace Go.Proofs.YtllfgppjobinnaaDoor
open Go.RowKit
theorem exsame_any:∀ t u:Tr,∀ (w:World) (B C:Nat→Prop) (va vb:Value),NodeV w B va t→NodeV w C vb u →
   Calls Tryd.prog 193 #[va,vb] w (SameEnd t u w):=by
 intro t
 induction t using Tr.rec_subs with
 | h t ih =>
   intro u w B C va vb ha hb
   obtain ⟨sa,rfl,hsa⟩:=ha
   obtain ⟨sb,rfl,hsb⟩:=hb
   obtain ⟨p,cap,rfl,hla⟩:=hsa.slice
   obtain ⟨q,cbp,rfl,hlb⟩:=hsb.slice
   have he:=eq4
   cases t with | node k a b c d ts n lo hi br =>
   cases u with | node k' a' b' c' d' us n' lo' hi' br' =>
   simp only [Tr.cells,Tr.kind,Tr.w0,Tr.w1,Tr.w2,Tr.w3,Tr.num,Tr.least,Tr.most,Tr.bare,Tr.subs] at *
   have IH:=Lib.hid ih
   clear ih
   by_cases hx:k=k'
   case neg =>
     have HN:=Lib.hid (show Tr.node k a b c d ts n lo hi br ≠ .node k' a' b' c' d' us n' lo' hi' br' from fun h=>by cases h;exact hx rfl)
     have e1:(k != k')=true:=by simpa using hx
     clear hx
     go_enter Tryd.func193,Tryd.ntmps193
     go_wp2
     go_ret
     exact sameEnd_no HN.out (by go_grown)
   obtain rfl:=hx
   by_cases hx:a=a'∧b=b'∧c=c'∧d=d'
   case neg =>
     have HN:=Lib.hid (show Tr.node k a b c d ts n lo hi br ≠ .node k a' b' c' d' us n' lo' hi' br' from fun h=>by cases h;exact hx ⟨rfl,rfl,rfl,rfl⟩)
     have e2:=U_ne hx
     clear hx
     go_enter Tryd.func193,Tryd.ntmps193
     go_wp2
     go_ret
     exact sameEnd_no HN.out (by go_grown)
   obtain ⟨rfl,rfl,rfl,rfl⟩:=hx
   by_cases hx:n=n'
   case neg =>
     have HN:=Lib.hid (show Tr.node k a b c d ts n lo hi br ≠ .node k a b c d us n' lo' hi' br' from fun h=>by cases h;exact hx rfl)
     have e1:(n != n')=true:=by simpa using hx
     clear hx
     go_enter Tryd.func193,Tryd.ntmps193
     go_wp2
     go_ret
     exact sameEnd_no HN.out (by go_grown)
   obtain rfl:=hx
   by_cases hx:lo=lo'
   case neg =>
     have HN:=Lib.hid (show Tr.node k a b c d ts n lo hi br ≠ .node k a b c d us n lo' hi' br' from fun h=>by cases h;exact hx rfl)
     have e1:(lo != lo')=true:=by simpa using hx
     clear hx
     go_enter Tryd.func193,Tryd.ntmps193
     go_wp2
     go_ret
     exact sameEnd_no HN.out (by go_grown)
   obtain rfl:=hx
   by_cases hx:hi=hi'
   case neg =>
     have HN:=Lib.hid (show Tr.node k a b c d ts n lo hi br ≠ .node k a b c d us n lo hi' br' from fun h=>by cases h;exact hx rfl)
     have e1:(hi != hi')=true:=by simpa using hx
     clear hx
     go_enter Tryd.func193,Tryd.ntmps193
     go_wp2
     go_ret
     exact sameEnd_no HN.out (by go_grown)
   obtain rfl:=hx
   by_cases hx:br=br'
   case neg =>
     have HN:=Lib.hid (show Tr.node k a b c d ts n lo hi br ≠ .node k a b c d us n lo hi br' from fun h=>by cases h;exact hx rfl)
     have hbb:(br=true∧br'=false) ∨ (br=false∧br'=true):=by cases br <;> cases br' <;> simp at hx ⊢
     clear hx
     rcases hbb with ⟨rfl,rfl⟩ | ⟨rfl,rfl⟩
     all_goals
       go_enter Tryd.func193,Tryd.ntmps193
       go_wp2
       go_ret
       exact sameEnd_no HN.out (by go_grown)
   obtain rfl:=hx
   by_cases hx:ts.length=us.length
   case neg =>
     have HN:=Lib.hid (show Tr.node k a b c d ts n lo hi br ≠ .node k a b c d us n lo hi br from fun h=>by cases h;exact hx rfl)
     have e1:((ts.length:Int) != (us.length:Int))=true:=by simp;omega
     have e2:(ts.length != us.length)=true:=by simpa using hx
     have e3:(ts.length == us.length)=false:=by simpa using hx
     clear hx
     go_enter Tryd.func193,Tryd.ntmps193
     go_wp2
     go_ret
     exact sameEnd_no HN.out (by go_grown)
   have hlen:us.length=ts.length:=hx.symm
   clear hx
   have HSA:=Lib.hid hsa;have HSB:=Lib.hid hsb
   clear hsa hsb
   rw [hlen] at HSB hlb ⊢
   go_enter Tryd.func193,Tryd.ntmps193
   go_wp2
   go_loopw [5] (fun iv wr=>∃ m:Nat,iv=.int .i64 m∧m ≤ ts.length∧Hid (∀ j,j < m→ts[j]? = us[j]?)∧Below w.heap.size w wr∧w.heap.size+1 < wr.heap.size ∧
     wr.heap[w.heap.size]? = some (.cells #[.int .i64 k,.int .u64 (Oc.U a),.int .u64 (Oc.U b),.int .u64 (Oc.U c),.int .u64 (Oc.U d),.slice p ts.length cap,.int .i64 n,.int .i64 lo,.int .i64 hi,.bool br] 37)∧wr.heap[w.heap.size+1]? = some (.cells #[.int .i64 k,.int .u64 (Oc.U a),.int .u64 (Oc.U b),.int .u64 (Oc.U c),.int .u64 (Oc.U d),.slice q ts.length cbp,.int .i64 n,.int .i64 lo,.int .i64 hi,.bool br] 37)) (fun iv _=>ts.length - (intOf iv).toNat)
   case atStart=>exact ⟨0,rfl,Nat.zero_le _,Lib.hid (fun j hj=>absurd hj (Nat.not_lt_zero _)),by go_grown,by simp,(two_new _ _ _).1,(two_new _ _ _).2⟩
   case round =>
     obtain ⟨m,rfl,hm,hall,hbel,hsz,z2,z3⟩:=hrel
     have Z2:=Lib.hid z2;have Z3:=Lib.hid z3;have HB:=Lib.hid hbel
     clear z2 z3 hbel
     have c5z:=field5 Z2.out
     have wm:IntKind.i64.wrap ((m:Int)+1)=(m:Int)+1:=IntWalk.i64_in _ (by omega)
     by_cases hlt:m < ts.length
     · obtain ⟨x,hx⟩:∃ x,ts[m]? = some x:=⟨_,List.getElem?_eq_getElem hlt⟩
       obtain ⟨y,hy⟩:∃ y,us[m]? = some y:=⟨_,List.getElem?_eq_getElem (by omega)⟩
       obtain ⟨b1,o1,s1,rfl,-,t1,sub1⟩:=HSA.out.get hx
       obtain ⟨b2,o2,s2,rfl,-,t2,sub2⟩:=HSB.out.get hy
       have T1:=Lib.hid t1;have T2:=Lib.hid t2
       have l1:=t1.lt;have l2:=t2.lt
       have HS:=Lib.hid (fun w9 (hb:Below wr.heap.size wr w9)=>IH.out x (List.mem_of_getElem? hx) y w9 B C (.agg #[.int .i64 x.kind,.int .u64 (Oc.U x.w0),.int .u64 (Oc.U x.w1),.int .u64 (Oc.U x.w2),.int .u64 (Oc.U x.w3),s1,.int .i64 x.num,.int .i64 x.least,.int .i64 x.most,.bool x.bare]) (.agg #[.int .i64 y.kind,.int .u64 (Oc.U y.w0),.int .u64 (Oc.U y.w1),.int .u64 (Oc.U y.w2),.int .u64 (Oc.U y.w3),s2,.int .i64 y.num,.int .i64 y.least,.int .i64 y.most,.bool y.bare]) ⟨s1,rfl,sub1.later (HB.out.trans (hb.mono HB.out.size))⟩ ⟨s2,rfl,sub2.later (HB.out.trans (hb.mono HB.out.size))⟩)
       clear t1 t2 sub1 sub2
       have HX:=Lib.hid hx;have HY:=Lib.hid hy
       clear hx hy
       by_cases heq:x=y
       · have HQ:=Lib.hid heq
         clear heq
         go_wp2
         refine Ri.wp_region_frame (by kernel_rfl) (by kernel_rfl) (by kernel_rfl) (by kernel_rfl)
           (fun L v w'=>Below wr.heap.size wr w'∧(L 0=true→v 0=.pointer (some ⟨w.heap.size,5,none⟩))∧(L 1=true→v 1=.slice (some ⟨b1,o1,none⟩) ts.length cap)∧(L 2=true→v 2=.int .i64 m)∧(L 3=true→v 3=.pointer (some ⟨b1,o1+m * 10,none⟩))∧(L 4=true→v 4=.agg #[.int .i64 x.kind,.int .u64 (Oc.U x.w0),.int .u64 (Oc.U x.w1),.int .u64 (Oc.U x.w2),.int .u64 (Oc.U x.w3),s1,.int .i64 x.num,.int .i64 x.least,.int .i64 x.most,.bool x.bare])∧(L 5=true→v 5=.pointer (some ⟨w.heap.size+1,5,none⟩))∧(L 6=true→v 6=.slice (some ⟨b2,o2,none⟩) ts.length cbp)∧(L 7=true→v 7=.int .i64 m)∧(L 8=true→v 8=.pointer (some ⟨b2,o2+m * 10,none⟩))∧(L 9=true→v 9=.agg #[.int .i64 y.kind,.int .u64 (Oc.U y.w0),.int .u64 (Oc.U y.w1),.int .u64 (Oc.U y.w2),.int .u64 (Oc.U y.w3),s2,.int .i64 y.num,.int .i64 y.least,.int .i64 y.most,.bool y.bare])∧(L 10=true→v 10=.bool true)∧(L 11=true→v 11=.bool true))
           ?_ ?_ ?_
         · exact ⟨(Below.refl _ _).drew,by simp,by simp,by simp,by simp,by simp,by simp,by simp,by simp,by simp,by simp,by simp,by simp⟩
         · intro i hi9 L v w9 xa hI hL hd hv ho
           have hi':i=0 ∨ i=1 ∨ i=2 ∨ i=3 ∨ i=4 ∨ i=5 ∨ i=6 ∨ i=7 ∨ i=8 ∨ i=9 ∨ i=10 ∨ i=11:=by simp at hi9;omega
           obtain ⟨hb,q0,q1,q2,q3,q4,q5,q6,q7,q8,q9,q10,q11⟩:=hI
           rcases hi' with rfl | rfl | rfl | rfl | rfl | rfl | rfl | rfl | rfl | rfl | rfl | rfl
           · have e2:xa.tmps.getD 2 undef=.pointer (some ⟨w.heap.size,0,none⟩):=ho 2 (by kernel_rfl)
             refine Ri.step_plain rfl rfl (fun K' hK=>?_)
             go_simp
             exact hK _ _ ⟨_,_,rfl,rfl,hb,fun _=>rfl,q1,q2,q3,q4,q5,q6,q7,q8,q9,q10,q11⟩
           · have l0:L 0=true:=by have:=hd _ rfl;simp [Region.binds] at this;simp [this]
             have f0:=(hv 0 63 rfl l0).trans (q0 l0)
             refine Ri.step_plain rfl rfl (fun K' hK=>?_)
             obtain c5:=field5 (keep_blk hb Z2.out)
             go_simp
             exact hK _ _ ⟨_,_,rfl,rfl,hb,q0,fun _=>rfl,q2,q3,q4,q5,q6,q7,q8,q9,q10,q11⟩
           · have e5:xa.tmps.getD 5 undef=.int .i64 m:=ho 5 (by kernel_rfl)
             refine Ri.step_plain rfl rfl (fun K' hK=>?_)
             go_simp
             exact hK _ _ ⟨_,_,rfl,rfl,hb,q0,q1,fun _=>rfl,q3,q4,q5,q6,q7,q8,q9,q10,q11⟩
           · have l0:L 1=true∧L 2=true:=by have:=hd _ rfl;simp [Region.binds] at this;simp [this]
             have f1:=(hv 1 64 rfl l0.1).trans (q1 l0.1)
             have f2:=(hv 2 65 rfl l0.2).trans (q2 l0.2)
             refine Ri.step_plain rfl rfl (fun K' hK=>?_)
             go_simp
             exact hK _ _ ⟨_,_,rfl,rfl,hb,q0,q1,q2,fun _=>rfl,q4,q5,q6,q7,q8,q9,q10,q11⟩
           · have l0:L 3=true:=by have:=hd _ rfl;simp [Region.binds] at this;simp [this]
             have f3:=(hv 3 66 rfl l0).trans (q3 l0)
             refine Ri.step_plain rfl rfl (fun K' hK=>?_)
             obtain ⟨d0,d1,d2,d3,d4,d5,d6,d7,d8,d9⟩:=(T1.out.keep ((HB.out.trans (hb.mono HB.out.size)).block _ l1))
             go_simp
             exact hK _ _ ⟨_,_,rfl,rfl,hb,q0,q1,q2,q3,fun _=>rfl,q5,q6,q7,q8,q9,q10,q11⟩
           · have e3:xa.tmps.getD 3 undef=.pointer (some ⟨w.heap.size+1,0,none⟩):=ho 3 (by kernel_rfl)
             refine Ri.step_plain rfl rfl (fun K' hK=>?_)
             go_simp
             exact hK _ _ ⟨_,_,rfl,rfl,hb,q0,q1,q2,q3,q4,fun _=>rfl,q6,q7,q8,q9,q10,q11⟩
           · have l0:L 5=true:=by have:=hd _ rfl;simp [Region.binds] at this;simp [this]
             have f5:=(hv 5 68 rfl l0).trans (q5 l0)
             refine Ri.step_plain rfl rfl (fun K' hK=>?_)
             obtain c5:=field5 (keep_blk hb Z3.out)
             go_simp
             exact hK _ _ ⟨_,_,rfl,rfl,hb,q0,q1,q2,q3,q4,q5,fun _=>rfl,q7,q8,q9,q10,q11⟩
           · have e5:xa.tmps.getD 5 undef=.int .i64 m:=ho 5 (by kernel_rfl)
             refine Ri.step_plain rfl rfl (fun K' hK=>?_)
             go_simp
             exact hK _ _ ⟨_,_,rfl,rfl,hb,q0,q1,q2,q3,q4,q5,q6,fun _=>rfl,q8,q9,q10,q11⟩
           · have l0:L 6=true∧L 7=true:=by have:=hd _ rfl;simp [Region.binds] at this;simp [this]
             have f6:=(hv 6 69 rfl l0.1).trans (q6 l0.1)
             have f7:=(hv 7 70 rfl l0.2).trans (q7 l0.2)
             refine Ri.step_plain rfl rfl (fun K' hK=>?_)
             go_simp
             exact hK _ _ ⟨_,_,rfl,rfl,hb,q0,q1,q2,q3,q4,q5,q6,q7,fun _=>rfl,q9,q10,q11⟩
           · have l0:L 8=true:=by have:=hd _ rfl;simp [Region.binds] at this;simp [this]
             have f8:=(hv 8 71 rfl l0).trans (q8 l0)
             refine Ri.step_plain rfl rfl (fun K' hK=>?_)
             obtain ⟨d0,d1,d2,d3,d4,d5,d6,d7,d8,d9⟩:=(T2.out.keep ((HB.out.trans (hb.mono HB.out.size)).block _ l2))
             go_simp
             exact hK _ _ ⟨_,_,rfl,rfl,hb,q0,q1,q2,q3,q4,q5,q6,q7,q8,fun _=>rfl,q10,q11⟩
           · have l0:L 4=true∧L 9=true:=by have:=hd _ rfl;simp [Region.binds] at this;simp [this]
             have f4:=(hv 4 67 rfl l0.1).trans (q4 l0.1)
             have f9:=(hv 9 72 rfl l0.2).trans (q9 l0.2)
             refine Ri.step_plain rfl rfl (fun K' hK=>?_)
             go_simp
             refine ((HS.out _ hb).mono fun _ _ h=>h.yes HQ.out).mono ?_
             rintro e w8 ⟨rfl,hb8⟩
             exact hK _ _ ⟨_,_,rfl,rfl,hb.trans (hb8.mono hb.size),q0,q1,q2,q3,q4,q5,q6,q7,q8,q9,fun _=>rfl,q11⟩
           · have l0:L 10=true:=by have:=hd _ rfl;simp [Region.binds] at this;simp [this]
             have f10:=(hv 10 73 rfl l0).trans (q10 l0)
             refine Ri.step_plain rfl rfl (fun K' hK=>?_)
             go_simp
             exact hK _ _ ⟨_,_,rfl,rfl,hb,q0,q1,q2,q3,q4,q5,q6,q7,q8,q9,q10,fun _=>rfl⟩
         · rintro v w9 ⟨hb,-,-,-,-,-,-,-,-,-,-,-,q11⟩
           have q11':v 11=.bool true:=q11 rfl
           simp only [Ri.frame,List.zipIdx,List.foldl_cons,List.foldl_nil,if_true,List.setIfInBounds_toArray,List.set_cons_zero,List.set_cons_succ,Nat.reduceAdd,q11']
           clear q11 q11'
           generalize v 0=y0;generalize v 1=y1;generalize v 2=y2;generalize v 3=y3;generalize v 4=y4;generalize v 5=y5;generalize v 6=y6;generalize v 7=y7;generalize v 8=y8;generalize v 9=y9;generalize v 10=y10
           have Y2:=keep_blk hb Z2.out;have Y3:=keep_blk hb Z3.out;have HB9:=HB.out.trans (hb.mono HB.out.size);have hz9:=hb.size
           have W2:=Lib.hid Y2;have W3:=Lib.hid Y3;have HB10:=Lib.hid HB9
           clear hb Y2 Y3 HB9
           go_wp2
           exact ⟨⟨m+1,by go_num,by omega,Lib.hid (fun j hj=>by
             by_cases hjm:j=m
             · rw [hjm,HX.out,HY.out,HQ.out]
             · exact hall.out j (by omega)),HB10.out,by omega,W2.out,W3.out⟩,by simp [intOf];omega⟩
       · have HQ:=Lib.hid heq
         clear heq
         go_wp2
         refine Ri.wp_region_frame (by kernel_rfl) (by kernel_rfl) (by kernel_rfl) (by kernel_rfl)
           (fun L v w'=>Below wr.heap.size wr w'∧(L 0=true→v 0=.pointer (some ⟨w.heap.size,5,none⟩))∧(L 1=true→v 1=.slice (some ⟨b1,o1,none⟩) ts.length cap)∧(L 2=true→v 2=.int .i64 m)∧(L 3=true→v 3=.pointer (some ⟨b1,o1+m * 10,none⟩))∧(L 4=true→v 4=.agg #[.int .i64 x.kind,.int .u64 (Oc.U x.w0),.int .u64 (Oc.U x.w1),.int .u64 (Oc.U x.w2),.int .u64 (Oc.U x.w3),s1,.int .i64 x.num,.int .i64 x.least,.int .i64 x.most,.bool x.bare])∧(L 5=true→v 5=.pointer (some ⟨w.heap.size+1,5,none⟩))∧(L 6=true→v 6=.slice (some ⟨b2,o2,none⟩) ts.length cbp)∧(L 7=true→v 7=.int .i64 m)∧(L 8=true→v 8=.pointer (some ⟨b2,o2+m * 10,none⟩))∧(L 9=true→v 9=.agg #[.int .i64 y.kind,.int .u64 (Oc.U y.w0),.int .u64 (Oc.U y.w1),.int .u64 (Oc.U y.w2),.int .u64 (Oc.U y.w3),s2,.int .i64 y.num,.int .i64 y.least,.int .i64 y.most,.bool y.bare])∧(L 10=true→v 10=.bool false)∧(L 11=true→v 11=.bool false))
           ?_ ?_ ?_
         · exact ⟨(Below.refl _ _).drew,by simp,by simp,by simp,by simp,by simp,by simp,by simp,by simp,by simp,by simp,by simp,by simp⟩
         · intro i hi9 L v w9 xa hI hL hd hv ho
           have hi':i=0 ∨ i=1 ∨ i=2 ∨ i=3 ∨ i=4 ∨ i=5 ∨ i=6 ∨ i=7 ∨ i=8 ∨ i=9 ∨ i=10 ∨ i=11:=by simp at hi9;omega
           obtain ⟨hb,q0,q1,q2,q3,q4,q5,q6,q7,q8,q9,q10,q11⟩:=hI
           rcases hi' with rfl | rfl | rfl | rfl | rfl | rfl | rfl | rfl | rfl | rfl | rfl | rfl
           · have e2:xa.tmps.getD 2 undef=.pointer (some ⟨w.heap.size,0,none⟩):=ho 2 (by kernel_rfl)
             refine Ri.step_plain rfl rfl (fun K' hK=>?_)
             go_simp
             exact hK _ _ ⟨_,_,rfl,rfl,hb,fun _=>rfl,q1,q2,q3,q4,q5,q6,q7,q8,q9,q10,q11⟩
           · have l0:L 0=true:=by have:=hd _ rfl;simp [Region.binds] at this;simp [this]
             have f0:=(hv 0 63 rfl l0).trans (q0 l0)
             refine Ri.step_plain rfl rfl (fun K' hK=>?_)
             obtain c5:=field5 (keep_blk hb Z2.out)
             go_simp
             exact hK _ _ ⟨_,_,rfl,rfl,hb,q0,fun _=>rfl,q2,q3,q4,q5,q6,q7,q8,q9,q10,q11⟩
           · have e5:xa.tmps.getD 5 undef=.int .i64 m:=ho 5 (by kernel_rfl)
             refine Ri.step_plain rfl rfl (fun K' hK=>?_)
             go_simp
             exact hK _ _ ⟨_,_,rfl,rfl,hb,q0,q1,fun _=>rfl,q3,q4,q5,q6,q7,q8,q9,q10,q11⟩
           · have l0:L 1=true∧L 2=true:=by have:=hd _ rfl;simp [Region.binds] at this;simp [this]
             have f1:=(hv 1 64 rfl l0.1).trans (q1 l0.1)
             have f2:=(hv 2 65 rfl l0.2).trans (q2 l0.2)
             refine Ri.step_plain rfl rfl (fun K' hK=>?_)
             go_simp
             exact hK _ _ ⟨_,_,rfl,rfl,hb,q0,q1,q2,fun _=>rfl,q4,q5,q6,q7,q8,q9,q10,q11⟩
           · have l0:L 3=true:=by have:=hd _ rfl;simp [Region.binds] at this;simp [this]
             have f3:=(hv 3 66 rfl l0).trans (q3 l0)
             refine Ri.step_plain rfl rfl (fun K' hK=>?_)
             obtain ⟨d0,d1,d2,d3,d4,d5,d6,d7,d8,d9⟩:=(T1.out.keep ((HB.out.trans (hb.mono HB.out.size)).block _ l1))
             go_simp
             exact hK _ _ ⟨_,_,rfl,rfl,hb,q0,q1,q2,q3,fun _=>rfl,q5,q6,q7,q8,q9,q10,q11⟩
           · have e3:xa.tmps.getD 3 undef=.pointer (some ⟨w.heap.size+1,0,none⟩):=ho 3 (by kernel_rfl)
             refine Ri.step_plain rfl rfl (fun K' hK=>?_)
             go_simp
             exact hK _ _ ⟨_,_,rfl,rfl,hb,q0,q1,q2,q3,q4,fun _=>rfl,q6,q7,q8,q9,q10,q11⟩
           · have l0:L 5=true:=by have:=hd _ rfl;simp [Region.binds] at this;simp [this]
             have f5:=(hv 5 68 rfl l0).trans (q5 l0)
             refine Ri.step_plain rfl rfl (fun K' hK=>?_)
             obtain c5:=field5 (keep_blk hb Z3.out)
             go_simp
             exact hK _ _ ⟨_,_,rfl,rfl,hb,q0,q1,q2,q3,q4,q5,fun _=>rfl,q7,q8,q9,q10,q11⟩
           · have e5:xa.tmps.getD 5 undef=.int .i64 m:=ho 5 (by kernel_rfl)
             refine Ri.step_plain rfl rfl (fun K' hK=>?_)
             go_simp
             exact hK _ _ ⟨_,_,rfl,rfl,hb,q0,q1,q2,q3,q4,q5,q6,fun _=>rfl,q8,q9,q10,q11⟩
           · have l0:L 6=true∧L 7=true:=by have:=hd _ rfl;simp [Region.binds] at this;simp [this]
             have f6:=(hv 6 69 rfl l0.1).trans (q6 l0.1)
             have f7:=(hv 7 70 rfl l0.2).trans (q7 l0.2)
             refine Ri.step_plain rfl rfl (fun K' hK=>?_)
             go_simp
             exact hK _ _ ⟨_,_,rfl,rfl,hb,q0,q1,q2,q3,q4,q5,q6,q7,fun _=>rfl,q9,q10,q11⟩
           · have l0:L 8=true:=by have:=hd _ rfl;simp [Region.binds] at this;simp [this]
             have f8:=(hv 8 71 rfl l0).trans (q8 l0)
             refine Ri.step_plain rfl rfl (fun K' hK=>?_)
             obtain ⟨d0,d1,d2,d3,d4,d5,d6,d7,d8,d9⟩:=(T2.out.keep ((HB.out.trans (hb.mono HB.out.size)).block _ l2))
             go_simp
             exact hK _ _ ⟨_,_,rfl,rfl,hb,q0,q1,q2,q3,q4,q5,q6,q7,q8,fun _=>rfl,q10,q11⟩
           · have l0:L 4=true∧L 9=true:=by have:=hd _ rfl;simp [Region.binds] at this;simp [this]
             have f4:=(hv 4 67 rfl l0.1).trans (q4 l0.1)
             have f9:=(hv 9 72 rfl l0.2).trans (q9 l0.2)
             refine Ri.step_plain rfl rfl (fun K' hK=>?_)
             go_simp
             refine ((HS.out _ hb).mono fun _ _ h=>h.no HQ.out).mono ?_
             rintro e w8 ⟨rfl,hb8⟩
             exact hK _ _ ⟨_,_,rfl,rfl,hb.trans (hb8.mono hb.size),q0,q1,q2,q3,q4,q5,q6,q7,q8,q9,fun _=>rfl,q11⟩
           · have l0:L 10=true:=by have:=hd _ rfl;simp [Region.binds] at this;simp [this]
             have f10:=(hv 10 73 rfl l0).trans (q10 l0)
             refine Ri.step_plain rfl rfl (fun K' hK=>?_)
             go_simp
             exact hK _ _ ⟨_,_,rfl,rfl,hb,q0,q1,q2,q3,q4,q5,q6,q7,q8,q9,q10,fun _=>rfl⟩
         · rintro v w9 ⟨hb,-,-,-,-,-,-,-,-,-,-,-,q11⟩
           have q11':v 11=.bool false:=q11 rfl
           simp only [Ri.frame,List.zipIdx,List.foldl_cons,List.foldl_nil,if_true,List.setIfInBounds_toArray,List.set_cons_zero,List.set_cons_succ,Nat.reduceAdd,q11']
           clear q11 q11'
           generalize v 0=y0;generalize v 1=y1;generalize v 2=y2;generalize v 3=y3;generalize v 4=y4;generalize v 5=y5;generalize v 6=y6;generalize v 7=y7;generalize v 8=y8;generalize v 9=y9;generalize v 10=y10
           have HB10:=Lib.hid (HB.out.trans (hb.mono HB.out.size))
           clear hb
           go_wp2
           go_ret
           refine sameEnd_no (fun h=>?_) HB10.out
           have hts:ts=us:=by injection h
           have:=HX.out
           rw [hts,HY.out] at this
           exact HQ.out (Option.some.inj this).symm
     · obtain rfl:m=ts.length:=by omega
       have hts:ts=us:=List.ext_getElem? fun j=>by
         by_cases hj:j < ts.length
         · exact hall.out j hj
         · rw [List.getElem?_eq_none (by omega),List.getElem?_eq_none (by omega)]
       have HTS:=Lib.hid hts
       clear hts hlt
       go_wp2
       go_ret
       exact sameEnd_yes (by rw [HTS.out]) HB.out
end Go.Proofs.YtllfgppjobinnaaDoor
namespace Go.Proofs.YtllfgppjobinnaaDoor
open Go.RowKit
def mix (op:Bool→Bool→Bool) (f g:Nat→Bool) (k:Nat):Nat→Bool:=fun j=>if j < k then op (f j) (g j) else f j
theorem mix_zero (op:Bool→Bool→Bool) (f g:Nat→Bool):mix op f g 0=f:=by funext j;simp [mix]
theorem mix_at (op:Bool→Bool→Bool) (f g:Nat→Bool) (k:Nat):mix op f g k k=f k:=by simp [mix]
theorem mix_new (op:Bool→Bool→Bool) (f g:Nat→Bool) (k:Nat):mix op f g (k+1) k=op (f k) (g k):=by simp [mix]
theorem mix_old (op:Bool→Bool→Bool) (f g:Nat→Bool) (k j:Nat) (h:j ≠ k):mix op f g (k+1) j=mix op f g k j:=by
 unfold mix;have:(j < k+1)=(j < k):=by rw [eq_iff_iff];omega
 simp only [this]
theorem mix_words {op:Bool→Bool→Bool} {a b c d a' b' c' d' x y z t:BitVec 64} (h:∀ i,Oc.mem x y z t i=op (Oc.mem a b c d i) (Oc.mem a' b' c' d' i)) :
   Oc.mk (mix op (Oc.mem a b c d) (Oc.mem a' b' c' d') 256) 0=x∧Oc.mk (mix op (Oc.mem a b c d) (Oc.mem a' b' c' d') 256) 1=y∧Oc.mk (mix op (Oc.mem a b c d) (Oc.mem a' b' c' d') 256) 2=z∧Oc.mk (mix op (Oc.mem a b c d) (Oc.mem a' b' c' d') 256) 3=t:=by
 have e:=mk_same4 (p:=mix op (Oc.mem a b c d) (Oc.mem a' b' c' d') 256) (q:=Oc.mem x y z t) fun i hi=>by unfold mix;rw [if_pos hi,h]
 have m:=mk_mem x y z t
 exact ⟨e.1.trans m.1,e.2.1.trans m.2.1,e.2.2.1.trans m.2.2.1,e.2.2.2.trans m.2.2.2⟩
theorem refjoin_any (a b c d a' b' c' d':BitVec 64) (w:World) :
   Calls Tryd.prog 192 #[(.agg #[.int .u64 (Oc.U a),.int .u64 (Oc.U b),.int .u64 (Oc.U c),.int .u64 (Oc.U d)]),(.agg #[.int .u64 (Oc.U a'),.int .u64 (Oc.U b'),.int .u64 (Oc.U c'),.int .u64 (Oc.U d')])] w fun e w'=>e=.returned (.agg #[.int .u64 (Oc.U (a ||| a')),.int .u64 (Oc.U (b ||| b')),.int .u64 (Oc.U (c ||| c')),.int .u64 (Oc.U (d ||| d'))])∧Below w.heap.size w w':=by
 have hz:∀ w,(zeroValue 87).run Tryd.prog w=.ok (.agg (bools fun _=>false)) w:=fun _=>by kernel_rfl
 go_enter Tryd.func192,Tryd.ntmps192
 go_wp2_with fail
 have t3:=three_new w (.cells #[.int .u64 (Oc.U a),.int .u64 (Oc.U b),.int .u64 (Oc.U c),.int .u64 (Oc.U d)] 24) (.cells #[.int .u64 (Oc.U a'),.int .u64 (Oc.U b'),.int .u64 (Oc.U c'),.int .u64 (Oc.U d')] 24) (.cells #[.int .u64 0,.int .u64 0,.int .u64 0,.int .u64 0] 24)
 have hbw:Below w.heap.size w (((w.alloc (.cells #[.int .u64 (Oc.U a),.int .u64 (Oc.U b),.int .u64 (Oc.U c),.int .u64 (Oc.U d)] 24)).alloc (.cells #[.int .u64 (Oc.U a'),.int .u64 (Oc.U b'),.int .u64 (Oc.U c'),.int .u64 (Oc.U d')] 24)).alloc (.cells #[.int .u64 0,.int .u64 0,.int .u64 0,.int .u64 0] 24)):=by go_grown
 have hsz:(((w.alloc (.cells #[.int .u64 (Oc.U a),.int .u64 (Oc.U b),.int .u64 (Oc.U c),.int .u64 (Oc.U d)] 24)).alloc (.cells #[.int .u64 (Oc.U a'),.int .u64 (Oc.U b'),.int .u64 (Oc.U c'),.int .u64 (Oc.U d')] 24)).alloc (.cells #[.int .u64 0,.int .u64 0,.int .u64 0,.int .u64 0] 24)).heap.size=w.heap.size+3:=by simp
 generalize (((w.alloc (.cells #[.int .u64 (Oc.U a),.int .u64 (Oc.U b),.int .u64 (Oc.U c),.int .u64 (Oc.U d)] 24)).alloc (.cells #[.int .u64 (Oc.U a'),.int .u64 (Oc.U b'),.int .u64 (Oc.U c'),.int .u64 (Oc.U d')] 24)).alloc (.cells #[.int .u64 0,.int .u64 0,.int .u64 0,.int .u64 0] 24))=W at *
 have T3:=Lib.hid t3
 have HSZ:=Lib.hid hsz
 clear t3 hsz
 refine Ri.wp_region_frame (by kernel_rfl) (by kernel_rfl) (by kernel_rfl) (by kernel_rfl)
   (fun L v w'=>Below W.heap.size W w'∧(L 0=true→v 0=(.agg #[.int .u64 (Oc.U a),.int .u64 (Oc.U b),.int .u64 (Oc.U c),.int .u64 (Oc.U d)]))∧(L 1=true→v 1=.agg (bools (Oc.mem a b c d)))∧(L 2=true→v 2=(.agg #[.int .u64 (Oc.U a'),.int .u64 (Oc.U b'),.int .u64 (Oc.U c'),.int .u64 (Oc.U d')]))∧(L 3=true→v 3=.agg (bools (Oc.mem a' b' c' d'))) ∧
     (L 4=true→∃ g,v 4=.pointer (some ⟨g,0,none⟩)∧W.heap.size ≤ g∧w'.heap[g]? = some (.cells (bools (if L 6 then Oc.mem a b c d else fun _=>false)) 87)) ∧
     (L 5=true→∃ g,v 5=.pointer (some ⟨g,0,none⟩)∧W.heap.size ≤ g∧w'.heap[g]? = some (.cells (bools (if L 7 then Oc.mem a' b' c' d' else fun _=>false)) 87)) ∧
     (L 4=true→L 5=true→v 4 ≠ v 5)∧(L 6=true→L 4=true)∧(L 7=true→L 5=true))
   ?_ ?_ ?_
 · exact ⟨(Below.refl _ _).drew,by simp,by simp,by simp,by simp,by simp,by simp,by simp,by simp,by simp⟩
 · intro i hi L v w1 x hI hL hd hv ho
   have hi':i=0 ∨ i=1 ∨ i=2 ∨ i=3 ∨ i=4 ∨ i=5 ∨ i=6 ∨ i=7:=by simp at hi;omega
   obtain ⟨hb,q0,q1,q2,q3,q4,q5,q6,q7,q8⟩:=hI
   obtain ⟨m0,m1,m2⟩:=T3.out
   have hsz:=HSZ.out
   rcases hi' with rfl | rfl | rfl | rfl | rfl | rfl | rfl | rfl
   · have e2:x.tmps.getD 2 undef=.pointer (some ⟨w.heap.size,0,none⟩):=ho 2 (by kernel_rfl)
     obtain ⟨c0,c1,c2,c3,-⟩:=four ((hb.block w.heap.size (by omega)).trans m0)
     refine wpOp_step rfl (fun K' hK=>?_)
     clear m0 m1 m2 hsz
     go_simp
     exact hK _ _ ⟨_,_,rfl,rfl,hb,fun _=>rfl,q1,q2,q3,q4,q5,q6,q7,q8⟩
   · have l0:L 0=true:=by have:=hd _ rfl;simp [Region.binds] at this;simp [this]
     have e8:=(hv 0 8 rfl l0).trans (q0 l0)
     refine wpOp_step rfl (fun K' hK=>?_)
     clear m0 m1 m2 hsz
     go_simp
     refine (bits_any _ _ _ _ _).mono ?_
     rintro e w2 ⟨rfl,hb2⟩
     refine hK _ _ ⟨_,_,rfl,rfl,hb.trans (hb2.mono hb.size),q0,fun _=>rfl,q2,q3,fun h=>?_,fun h=>?_,q6,q7,q8⟩
     · obtain ⟨g,h1,h2,h3⟩:=q4 h;exact ⟨g,h1,h2,keep_blk hb2 h3⟩
     · obtain ⟨g,h1,h2,h3⟩:=q5 h;exact ⟨g,h1,h2,keep_blk hb2 h3⟩
   · have e3:x.tmps.getD 3 undef=.pointer (some ⟨w.heap.size+1,0,none⟩):=ho 3 (by kernel_rfl)
     obtain ⟨c0,c1,c2,c3,-⟩:=four ((hb.block (w.heap.size+1) (by omega)).trans m1)
     refine wpOp_step rfl (fun K' hK=>?_)
     clear m0 m1 m2 hsz
     go_simp
     exact hK _ _ ⟨_,_,rfl,rfl,hb,q0,q1,fun _=>rfl,q3,q4,q5,q6,q7,q8⟩
   · have l0:L 2=true:=by have:=hd _ rfl;simp [Region.binds] at this;simp [this]
     have e8:=(hv 2 10 rfl l0).trans (q2 l0)
     refine wpOp_step rfl (fun K' hK=>?_)
     clear m0 m1 m2 hsz
     go_simp
     refine (bits_any _ _ _ _ _).mono ?_
     rintro e w2 ⟨rfl,hb2⟩
     refine hK _ _ ⟨_,_,rfl,rfl,hb.trans (hb2.mono hb.size),q0,q1,q2,fun _=>rfl,fun h=>?_,fun h=>?_,q6,q7,q8⟩
     · obtain ⟨g,h1,h2,h3⟩:=q4 h;exact ⟨g,h1,h2,keep_blk hb2 h3⟩
     · obtain ⟨g,h1,h2,h3⟩:=q5 h;exact ⟨g,h1,h2,keep_blk hb2 h3⟩
   · refine wpOp_step rfl (fun K' hK=>?_)
     have hl6:L 6=false:=by cases h:L 6 with | false=>rfl | true=>rw [q7 h] at hL;cases hL
     clear m0 m1 m2 hsz
     go_simp
     refine hK _ _ ⟨_,_,rfl,rfl,hb.alloc hb.size _,q0,q1,q2,q3,fun _=>⟨w1.heap.size,rfl,hb.size, ?_⟩,fun h=>?_,fun _ h e=>?_,fun h=>rfl,q8⟩
     · show (w1.alloc _).heap[w1.heap.size]? = some (.cells (bools (if L 6 then _ else _)) _)
       rw [hl6];exact heap_alloc_new _ _
     · obtain ⟨g,h1,h2,h3⟩:=q5 h;exact ⟨g,h1,h2,heap_alloc_lt h3⟩
     · obtain ⟨g,h1,h2,h3⟩:=q5 h
       have e':Value.pointer (some ⟨w1.heap.size,0,none⟩)=v 5:=e
       rw [h1] at e'
       have:=(Array.getElem?_eq_some_iff.1 h3).1
       (simp at e') <;> omega
   · refine wpOp_step rfl (fun K' hK=>?_)
     have hl6:L 7=false:=by cases h:L 7 with | false=>rfl | true=>rw [q8 h] at hL;cases hL
     clear m0 m1 m2 hsz
     go_simp
     refine hK _ _ ⟨_,_,rfl,rfl,hb.alloc hb.size _,q0,q1,q2,q3,fun h=>?_,fun _=>⟨w1.heap.size,rfl,hb.size, ?_⟩,fun h _ e=>?_,q7,fun h=>rfl⟩
     · obtain ⟨g,h1,h2,h3⟩:=q4 h;exact ⟨g,h1,h2,heap_alloc_lt h3⟩
     · show (w1.alloc _).heap[w1.heap.size]? = some (.cells (bools (if L 7 then _ else _)) _)
       rw [hl6];exact heap_alloc_new _ _
     · obtain ⟨g,h1,h2,h3⟩:=q4 h
       have e':v 4=Value.pointer (some ⟨w1.heap.size,0,none⟩):=e
       rw [h1] at e'
       have:=(Array.getElem?_eq_some_iff.1 h3).1
       (simp at e') <;> omega
   · have l14:L 4=true∧L 1=true:=by have:=hd _ rfl;simp [Region.binds] at this;simp [this]
     obtain ⟨g,h1,h2,h3⟩:=q4 l14.1
     have e5:=(hv 4 5 rfl l14.1).trans h1
     have e9:=(hv 1 9 rfl l14.2).trans (q1 l14.2)
     refine Ri.step_plain rfl rfl (fun K' hK=>?_)
     refine wp_store_row _ _ _ rfl g (bools (Oc.mem a b c d)) e5 e9 87 _ h3 (by rw [bools_size];kernel_rfl) (by rw [bools_size,bools_size]) (bools_one _) ?_
     refine hK _ _ ⟨_,undef,rfl,rfl,below_setRow hb h2 _,q0,q1,q2,q3,fun _=>⟨g,h1,h2,heap_setRow h3⟩,fun h=>?_,q6,fun _=>l14.1,q8⟩
     obtain ⟨g',k1,k2,k3⟩:=q5 h
     have hne:g' ≠ g:=fun e=>q6 l14.1 h (by rw [h1,k1,e])
     exact ⟨g',k1,k2,(heap_setRow_other _ _ _ hne).trans k3⟩
   · have l14:L 5=true∧L 3=true:=by have:=hd _ rfl;simp [Region.binds] at this;simp [this]
     obtain ⟨g,h1,h2,h3⟩:=q5 l14.1
     have e5:=(hv 5 6 rfl l14.1).trans h1
     have e9:=(hv 3 11 rfl l14.2).trans (q3 l14.2)
     refine Ri.step_plain rfl rfl (fun K' hK=>?_)
     refine wp_store_row _ _ _ rfl g (bools (Oc.mem a' b' c' d')) e5 e9 87 _ h3 (by rw [bools_size];kernel_rfl) (by rw [bools_size,bools_size]) (bools_one _) ?_
     refine hK _ _ ⟨_,undef,rfl,rfl,below_setRow hb h2 _,q0,q1,q2,q3,fun h=>?_,fun _=>⟨g,h1,h2,heap_setRow h3⟩,q6,q7,fun _=>l14.1⟩
     obtain ⟨g',k1,k2,k3⟩:=q4 h
     have hne:g' ≠ g:=fun e=>q6 h l14.1 (by rw [h1,k1,e])
     exact ⟨g',k1,k2,(heap_setRow_other _ _ _ hne).trans k3⟩
 · rintro v w1 ⟨hb,-,-,-,-,q4,q5,q6,-,-⟩
   obtain ⟨g,h1,h2,h3⟩:=q4 rfl
   obtain ⟨g',k1,k2,k3⟩:=q5 rfl
   have hne:g' ≠ g:=fun e=>q6 rfl rfl (by rw [h1,k1,e])
   have h3':w1.heap[g]? = some (.cells (bools (Oc.mem a b c d)) 87):=h3
   have k3':w1.heap[g']? = some (.cells (bools (Oc.mem a' b' c' d')) 87):=k3
   clear h3 k3 q4 q5 q6
   simp only [Ri.frame,List.zipIdx,List.foldl_cons,List.foldl_nil,if_true,List.setIfInBounds_toArray,List.set_cons_zero,List.set_cons_succ]
   rw [h1,k1]
   have hb0:Below w.heap.size w w1:=hbw.trans (hb.mono hbw.size)
   have hr:w1.heap[w.heap.size+1+1]? = some (.cells #[.int .u64 0,.int .u64 0,.int .u64 0,.int .u64 0] 24):=(hb.block _ (by have:=HSZ.out;omega)).trans T3.out.2.2
   have hg:w.heap.size+3 ≤ g:=by have:=HSZ.out;omega
   have hg':w.heap.size+3 ≤ g':=by have:=HSZ.out;omega
   generalize v 0=y8;generalize v (0+1)=y9;generalize v (0+1+1)=y10;generalize v (0+1+1+1)=y11
   clear h1 k1 h2 k2 hb T3 HSZ hbw
   go_wp2
   go_loopw [7] (fun i wr=>∃ k:Nat,k ≤ 256∧i=.int .i64 k∧Below w.heap.size w wr∧wr.heap[w.heap.size+1+1]? = some (.cells #[.int .u64 0,.int .u64 0,.int .u64 0,.int .u64 0] 24) ∧
     wr.heap[g]? = some (.cells (bools (mix or (Oc.mem a b c d) (Oc.mem a' b' c' d') k)) 87)∧wr.heap[g']? = some (.cells (bools (Oc.mem a' b' c' d')) 87)) (fun i _=>256 - (intOf i).toNat)
   case atStart=>exact ⟨0,Nat.zero_le _,rfl,hb0,hr,by rw [mix_zero];exact h3',k3'⟩
   case round =>
     clear hb0 hr h3' k3'
     obtain ⟨k,hk,rfl,hbel,hz0,hz1,hz2⟩:=hrel
     by_cases hlt:k < 256
     · obtain ⟨l0,f0⟩:=one_cell hlt hz1
       have m0:=(one_cell hlt hz2).1
       rw [mix_at] at l0
       have hnew:=mix_new or (Oc.mem a b c d) (Oc.mem a' b' c' d') k
       generalize Oc.mem a b c d k=x at *
       generalize Oc.mem a' b' c' d' k=y at *
       have HN:=Lib.hid hnew
       have HZ0:=Lib.hid hz0
       have HZ1:=Lib.hid hz1
       have HZ2:=Lib.hid hz2
       clear hnew hz0 hz1 hz2
       cases x
       all_goals
         go_wp2
         exact ⟨⟨k+1,by omega,by go_num,hbel.setCell (by show w.heap.size ≤ g;omega) _,by rw [Below.heap_setCell _ _ _ _ (by show w.heap.size+1+1 ≠ g;omega)];exact HZ0.out,one_set hlt HZ1.out (by rw [HN.out];rfl) (fun j hj=>mix_old _ _ _ _ _ hj),by rw [Below.heap_setCell _ _ _ _ (by show g' ≠ g;exact hne)];exact HZ2.out⟩,by simp [intOf];omega⟩
     · obtain rfl:k=256:=by omega
       have hw:=mix_words (op:=or) (a:=a) (b:=b) (c:=c) (d:=d) (a':=a') (b':=b') (c':=c') (d':=d') (Oc.mem_or a b c d a' b' c' d')
       have HW:=Lib.hid hw
       have HZ0:=Lib.hid hz0
       have HZ1:=Lib.hid hz1
       clear hw hz0 hz1 hz2
       go_wp2_with (first
         | (refine wpList_load_row rfl _ _ rfl g rfl 87 (bools (mix or (Oc.mem a b c d) (Oc.mem a' b' c' d') 256)) (0,0) _ HZ1.out Tryd.underlying87 rfl (by rw [bools_size];kernel_rfl) ?_)
         | fail)
       refine (made_any _ _).mono ?_
       rintro e w2 ⟨rfl,hb2⟩
       rw [HW.out.1,HW.out.2.1,HW.out.2.2.1,HW.out.2.2.2]
       obtain ⟨d0,e0,d1,e1,d2,e2,d3,e3,r0,r1,r2,r3⟩:=four_st (keep_blk hb2 HZ0.out)
       have hbw2:=hbel.trans (hb2.mono hbel.size)
       go_wp2
       refine bodyPost_ret (v:=(.agg #[.int .u64 (Oc.U (a ||| a')),.int .u64 (Oc.U (b ||| b')),.int .u64 (Oc.U (c ||| c')),.int .u64 (Oc.U (d ||| d'))])) (by simp [results,Tryd.results192,go_sem,r0,r1,r2,r3]) rfl ⟨rfl, ?_⟩
       go_grown
end Go.Proofs.YtllfgppjobinnaaDoor
namespace Go.Proofs.YtllfgppjobinnaaDoor
open Go.RowKit
namespace Tr
theorem orL_take (l:List Tr) (m:Nat) (x:Tr) (h:l[m]? = some x):orL (l.take (m+1))=if x.kind=2 then (orL (l.take m)).or (ws x) else orL (l.take m):=by
 rw [List.take_add_one,h,Option.toList_some,orL_append,orL]
 split
 · show (orL (l.take m)).or ((ws x).or W4.zero)=_
   rw [W4.or_zero]
 · exact W4.or_zero _
noncomputable def chF (X:W4) (l:List Tr):List Tr × Bool:=l.foldl (cStep X) ([],false)
theorem chF_take (X:W4) (l:List Tr) (m:Nat) (x:Tr) (h:l[m]? = some x):chF X (l.take (m+1))=cStep X (chF X (l.take m)) x:=by
 unfold chF
 rw [List.take_add_one,h,Option.toList_some,List.foldl_append];rfl
theorem uStep_len (l:List Tr) (t:Tr):(uStep l t).length ≤ l.length+1:=by
 rcases uStep_or l t with e | e <;> rw [e] <;> simp
theorem chF_len' (X:W4):∀ (l:List Tr) (s:List Tr × Bool),(l.foldl (cStep X) s).1.length ≤ s.1.length+l.length
 | [],s=>Nat.le_refl _
 | t :: l,s=>by
   rw [List.foldl_cons]
   have h1:=chF_len' X l (cStep X s t)
   have h2:(cStep X s t).1.length ≤ s.1.length+1:=by
     unfold cStep
     split
     · split
       · omega
       · exact uStep_len _ _
     · exact uStep_len _ _
   rw [List.length_cons];omega
theorem chF_le (X:W4) (l:List Tr) (m:Nat):(chF X (l.take m)).1.length ≤ m:=by
 have:=chF_len' X (l.take m) ([],false)
 unfold chF
 rw [List.length_take] at this
 simp at this;omega
theorem uStep_in {l:List Tr} {t:Tr} (h:t ∈ l):uStep l t=l:=by unfold uStep;rw [if_pos h]
theorem uStep_out {l:List Tr} {t:Tr} (h:t ∉ l):uStep l t=l ++ [t]:=by unfold uStep;rw [if_neg h]
theorem cStep_other {X:W4} {s:List Tr × Bool} {t:Tr} (h:t.kind ≠ 2):cStep X s t=(uStep s.1 t,s.2):=by unfold cStep;rw [if_neg h]
theorem cStep_laid {X:W4} {s:List Tr × Bool} {t:Tr} (h:t.kind=2) (h2:s.2=true ∨ isNone t=true):cStep X s t=s:=by unfold cStep;rw [if_pos h,if_pos h2]
theorem cStep_first {X:W4} {s:List Tr × Bool} {t:Tr} (h:t.kind=2) (h2:s.2=false) (h3:isNone t=false):cStep X s t=(uStep s.1 (setT t X),true):=by
 unfold cStep;rw [if_pos h,if_neg (by rw [h2,h3];simp)]
theorem many6 {l:List Tr} (h:2 ≤ l.length):altT l=many 6 l:=by
 match l,h with
 | _ :: _ :: _,_=>rfl
theorem mem_take_next {l:List Tr} {n:Nat} {z:Tr} (h:l[n]? = some z) (y:Tr):y ∈ l.take (n+1) ↔ y ∈ l.take n ∨ z=y:=by
 rw [List.take_add_one,h,Option.toList_some,List.mem_append,List.mem_singleton]
 constructor
 · rintro (h | h)
   · exact .inl h
   · exact .inr h.symm
 · rintro (h | h)
   · exact .inl h
   · exact .inr h.symm
end Tr
theorem there_at1 {w:World} {b:Nat} {x0 x1 x2 x3 x4 x5 x6 x7 x8 x9:Value} {t:TypeId} (h:w.heap[b]? = some (.cells #[x0,x1,x2,x3,x4,x5,x6,x7,x8,x9] t)):w.there b 1 4:=by
 intro j hj
 rcases (show j=0 ∨ j=1 ∨ j=2 ∨ j=3 by omega) with rfl | rfl | rfl | rfl <;> simp [World.cell?,World.frozen?,h]
theorem four_at1 {w:World} {b:Nat} {x0 x1 x2 x3 x4 x5 x6 x7 x8 x9:Value} {t:TypeId} (h:w.heap[b]? = some (.cells #[x0,x1,x2,x3,x4,x5,x6,x7,x8,x9] t)) (a b' c d:Value) :
   (w.setCells b 1 [a,b',c,d]).heap[b]? = some (.cells #[x0,a,b',c,d,x5,x6,x7,x8,x9] t):=by
 simp [World.setCells,World.setCell,Array.getElem?_modify,h]
theorem refchoice_any (l:List Tr) (hN:l.length ≤ 1000000) (w:World) (BB:Nat→Prop) (hbase:∀ b,w.heap.size ≤ b→BB b) (s:Value) (hs0:TreesAt w BB s l) :
   Calls Tryd.prog 163 #[s] w (AtEnd (Tr.altT (Tr.chF (Tr.orL l) l).1) BB w):=by
 obtain ⟨P,hP1,hP2,hP3,hs⟩:∃ P:Nat→Prop,(∀ b,P b→BB b)∧(∀ b,P b→b ≠ w.heap.size)∧(∀ b,w.heap.size < b→P b)∧TreesAt w P s l :=
   ⟨fun b=>BB b∧b ≠ w.heap.size,fun b h=>h.1,fun b h=>h.2,fun b h=>⟨hbase b (by omega),by omega⟩,hs0.mono fun b hlt h=>⟨h,by omega⟩⟩
 obtain ⟨p,cap,rfl,hlen⟩:=hs.slice
 obtain ⟨ie,hi0,hz0,hz1,hz2⟩:=info_parts Tryd.infoNode
 have HI:=Lib.hid hi0;have HZ0:=Lib.hid hz0;have HZ1:=Lib.hid hz1;have HZ2:=Lib.hid hz2
 have HP1:=Lib.hid hP1;have HP2:=Lib.hid hP2;have HP3:=Lib.hid hP3
 obtain ⟨R,hE⟩:∃ R,R=Tr.altT (Tr.chF (Tr.orL l) l).1:=⟨_,rfl⟩
 rw [← hE]
 have HE:=Lib.hid hE;have HN:=Lib.hid hN
 obtain ⟨z0,z1⟩:=two_new w (.cells noNode 37) (.cells #[.int .u64 0,.int .u64 0,.int .u64 0,.int .u64 0] 24)
 have hb0:Below w.heap.size w ((w.alloc (.cells noNode 37)).alloc (.cells #[.int .u64 0,.int .u64 0,.int .u64 0,.int .u64 0] 24)):=by go_grown
 have hw0:((w.alloc (.cells noNode 37)).alloc (.cells #[.int .u64 0,.int .u64 0,.int .u64 0,.int .u64 0] 24)).heap.size=w.heap.size+2:=by simp
 have Z0:=Lib.hid z0;have ZS:=Lib.hid z1;have HB0:=Lib.hid hb0;have HS0:=Lib.hid hw0
 have HXS:=Lib.hid hs
 clear hi0 hz0 hz1 hz2 hs hs0 hE hN z0 z1 hb0 hw0 hP1 hP2 hP3 hbase
 go_enter Tryd.func163,Tryd.ntmps163
 go_upto_region 2 with (fail)
 generalize (w.alloc _).alloc _=W0 at *
 go_wp2
 go_loopw [4] (fun iv wr=>∃ m:Nat,iv=.int .i64 m∧m ≤ l.length∧Hid (wr.heap[w.heap.size+1]? = some (.cells #[.int .u64 (Oc.U (Tr.orL (l.take m)).a),.int .u64 (Oc.U (Tr.orL (l.take m)).b),.int .u64 (Oc.U (Tr.orL (l.take m)).c),.int .u64 (Oc.U (Tr.orL (l.take m)).d)] 24))∧Hid (wr.heap[w.heap.size]? = some (.cells noNode 37))∧Hid (Below w.heap.size w wr)∧Hid (w.heap.size+2 ≤ wr.heap.size)) (fun iv _=>l.length - (intOf iv).toNat)
 case atStart=>exact ⟨0,rfl,Nat.zero_le _,ZS,Z0,HB0,Lib.hid (Nat.le_of_eq HS0.out.symm)⟩
 case round =>
   clear Z0 ZS HB0 HS0
   obtain ⟨m,rfl,hm,ZS,Z0,HB,HS⟩:=hrel
   have hN:=HN.out
   have wm:IntKind.i64.wrap ((m:Int)+1)=(m:Int)+1:=IntWalk.i64_in _ (by omega)
   by_cases hlt:m < l.length
   · obtain ⟨x,hx⟩:∃ x,l[m]? = some x:=⟨_,List.getElem?_eq_getElem hlt⟩
     obtain ⟨b1,o1,s1,rfl,hB1,t1,sub1⟩:=HXS.out.get hx
     have T1:=Lib.hid (fun w9 (hb:Below w.heap.size w w9)=>t1.keep (hb.block _ t1.lt))
     obtain ⟨p1,c1,rfl,hl1⟩:=sub1.slice
     have HST:=Lib.hid (Tr.orL_take l m x hx)
     have HLT:=Lib.hid hlt
     clear t1 sub1 hx hB1
     by_cases hk:x.kind=2
     · have ek:(x.kind == 2)=true:=by simpa using hk
       have HSQ:Hid (Tr.orL (l.take (m+1))=(Tr.orL (l.take m)).or (Tr.ws x)):=Lib.hid (by rw [HST.out,if_pos hk])
       clear hk HST
       generalize hC:Tr.orL (l.take m)=C at *
       have HC:=Lib.hid hC
       clear hC
       obtain ⟨d0,d1,d2,d3,d4,d5,d6,d7,d8,d9⟩:=T1.out wr HB.out
       go_upto_region 6 with (fail)
       clear d0 d1 d2 d3 d4 d5 d6 d7 d8 d9
       refine Ri.wp_region_late (by kernel_rfl) (by kernel_rfl) (by kernel_rfl) (by kernel_rfl) 7 (by kernel_rfl) (by kernel_rfl) (fun kk ww vv=>match kk with | 0=>vv=.agg #[.int .u64 (Oc.U C.a),.int .u64 (Oc.U C.b),.int .u64 (Oc.U C.c),.int .u64 (Oc.U C.d)] | 1=>vv=.slice (some ⟨b1,o1,none⟩) l.length cap | 2=>vv=.int .i64 (m:Int) | 3=>vv=.pointer (some ⟨b1,o1+m * 10,none⟩) | 4=>vv=.pointer (some ⟨b1,o1+m * 10+1,none⟩) | 5=>vv=.agg #[.int .u64 (Oc.U x.w0),.int .u64 (Oc.U x.w1),.int .u64 (Oc.U x.w2),.int .u64 (Oc.U x.w3)] | 6=>vv=.agg #[.int .u64 (Oc.U (C.a ||| x.w0)),.int .u64 (Oc.U (C.b ||| x.w1)),.int .u64 (Oc.U (C.c ||| x.w2)),.int .u64 (Oc.U (C.d ||| x.w3))] | _=>True) (fun vv ww=>ww.heap[w.heap.size+1]? = some (.cells #[.int .u64 (Oc.U (C.a ||| x.w0)),.int .u64 (Oc.U (C.b ||| x.w1)),.int .u64 (Oc.U (C.c ||| x.w2)),.int .u64 (Oc.U (C.d ||| x.w3))] 24)∧ww.heap[w.heap.size]? = some (.cells noNode 37)∧Below w.heap.size w ww∧w.heap.size+2 ≤ ww.heap.size) (fun kk ww vv w8 h hb=>by
                   match kk,h with
                   | 0,h=>exact h
                   | 1,h=>exact h
                   | 2,h=>exact h
                   | 3,h=>exact h
                   | 4,h=>exact h
                   | 5,h=>exact h
                   | 6,h=>exact h
                   | _+7,_=>trivial) ?_ ?_ ?_
       · intro i hi9 L v w9 xa hF9 hL hd hv ho
         obtain ⟨hb,hk⟩:=hF9
         have hi':i=0 ∨ i=1 ∨ i=2 ∨ i=3 ∨ i=4 ∨ i=5 ∨ i=6:=by omega
         rcases hi' with rfl | rfl | rfl | rfl | rfl | rfl | rfl
         · have e3:xa.tmps.getD 3 undef=.pointer (some ⟨(w.heap.size+1),0,none⟩):=ho 3 (by kernel_rfl)
           refine Ri.step_plain rfl rfl (fun K' hK'=>?_)
           refine wp_load_row _ _ rfl _ e3 _ _ _ _ (keep_blk hb ZS.out) Tryd.underlying24 rfl (by kernel_rfl) ?_
           exact hK' _ _ ⟨_,_,rfl,rfl,Below.refl _ _,rfl⟩
         · have e0:xa.tmps.getD 0 undef=.slice (some ⟨b1,o1,none⟩) l.length cap:=ho 0 (by kernel_rfl)
           refine Ri.step_plain rfl rfl (fun K' hK'=>?_)
           go_simp
           exact hK' _ _ ⟨_,_,rfl,rfl,(Below.refl _ _),rfl⟩
         · have e4:xa.tmps.getD 4 undef=.int .i64 (m:Int):=ho 4 (by kernel_rfl)
           refine Ri.step_plain rfl rfl (fun K' hK'=>?_)
           go_simp
           exact hK' _ _ ⟨_,_,rfl,rfl,(Below.refl _ _),rfl⟩
         · obtain ⟨j1,j2⟩:L 1=true∧L 2=true:=by have:=hd _ rfl;simp [Region.binds] at this;simp [this]
           have f1:=(hv 1 26 rfl j1).trans (hk 1 j1)
           have f2:=(hv 2 27 rfl j2).trans (hk 2 j2)
           refine Ri.step_plain rfl rfl (fun K' hK'=>?_)
           have hlt9:=HLT.out
           go_simp
           exact hK' _ _ ⟨_,_,rfl,rfl,(Below.refl _ _),rfl⟩
         · have j3:L 3=true:=by have:=hd _ rfl;simp [Region.binds] at this;simp [this]
           have f3:=(hv 3 28 rfl j3).trans (hk 3 j3)
           refine Ri.step_plain rfl rfl (fun K' hK'=>?_)
           go_simp
           exact hK' _ _ ⟨_,_,rfl,rfl,(Below.refl _ _),rfl⟩
         · have j4:L 4=true:=by have:=hd _ rfl;simp [Region.binds] at this;simp [this]
           have f4:=(hv 4 29 rfl j4).trans (hk 4 j4)
           refine Ri.step_plain rfl rfl (fun K' hK'=>?_)
           obtain ⟨d0,d1,d2,d3,d4,d5,d6,d7,d8,d9⟩:=T1.out w9 (HB.out.trans (hb.mono HB.out.size))
           go_simp
           exact hK' _ _ ⟨_,_,rfl,rfl,(Below.refl _ _),rfl⟩
         · obtain ⟨j0,j5⟩:L 0=true∧L 5=true:=by have:=hd _ rfl;simp [Region.binds] at this;simp [this]
           have f0:=(hv 0 25 rfl j0).trans (hk 0 j0)
           have f5:=(hv 5 30 rfl j5).trans (hk 5 j5)
           refine Ri.step_plain rfl rfl (fun K' hK'=>?_)
           go_simp
           refine (refjoin_any _ _ _ _ _ _ _ _ w9).mono ?_
           rintro e w8 ⟨rfl,hb8⟩
           exact hK' _ _ ⟨_,_,rfl,rfl,hb8,rfl⟩
       · intro L v w9 xa hF9 hall hv ho
         obtain ⟨hb,hk⟩:=hF9
         have f0:=(hv 0 25 rfl (hall 0 (by omega))).trans (hk 0 (hall 0 (by omega)))
         have f1:=(hv 1 26 rfl (hall 1 (by omega))).trans (hk 1 (hall 1 (by omega)))
         have f2:=(hv 2 27 rfl (hall 2 (by omega))).trans (hk 2 (hall 2 (by omega)))
         have f3:=(hv 3 28 rfl (hall 3 (by omega))).trans (hk 3 (hall 3 (by omega)))
         have f4:=(hv 4 29 rfl (hall 4 (by omega))).trans (hk 4 (hall 4 (by omega)))
         have f5:=(hv 5 30 rfl (hall 5 (by omega))).trans (hk 5 (hall 5 (by omega)))
         have f6:=(hv 6 31 rfl (hall 6 (by omega))).trans (hk 6 (hall 6 (by omega)))
         have e3:xa.tmps.getD 3 undef=.pointer (some ⟨(w.heap.size+1),0,none⟩):=ho 3 (by kernel_rfl)
         refine Ri.step_plain rfl rfl (fun K' hK'=>?_)
         refine wp_store_row _ _ _ rfl (w.heap.size+1) #[.int .u64 (Oc.U (C.a ||| x.w0)),.int .u64 (Oc.U (C.b ||| x.w1)),.int .u64 (Oc.U (C.c ||| x.w2)),.int .u64 (Oc.U (C.d ||| x.w3))] e3 f6 24 _ (keep_blk hb ZS.out) (by kernel_rfl) (by kernel_rfl) (by simp [Value.oneCell']) ?_
         exact hK' _ _ ⟨_,undef,rfl,rfl,⟨heap_setRow (keep_blk hb ZS.out),(heap_setRow_other _ _ _ (by omega)).trans (keep_blk hb Z0.out),below_setRow (HB.out.trans (hb.mono HB.out.size)) (by omega) _,by have h8:=hb.size;have h7:=HS.out;simp only [World.setRow,Array.size_modify];omega⟩⟩
       · intro v w9 hfin
         obtain ⟨hs9,hz9,hb9,hsz9⟩:=hfin
         simp only [Ri.frame,List.zipIdx,List.foldl_cons,List.foldl_nil,if_true,List.setIfInBounds_toArray,List.set_cons_zero,List.set_cons_succ,Nat.reduceAdd]
         generalize v 0=z0;generalize v 1=z1;generalize v 2=z2;generalize v 3=z3;generalize v 4=z4;generalize v 5=z5;generalize v 6=z6
         have HS9:=Lib.hid hs9;have HZ9:=Lib.hid hz9;have HB9:=Lib.hid hb9;have HSZ9:=Lib.hid hsz9
         clear hs9 hz9 hb9 hsz9
         go_wp2
         exact ⟨⟨m+1,by go_num,by omega,Lib.hid (by rw [HSQ.out];exact HS9.out),HZ9,HB9,HSZ9⟩,by simp [intOf];omega⟩
     · have ek:(x.kind == 2)=false:=by simpa using hk
       have HSQ:Hid (Tr.orL (l.take (m+1))=Tr.orL (l.take m)):=Lib.hid (by rw [HST.out,if_neg hk])
       clear hk HST
       obtain ⟨d0,d1,d2,d3,d4,d5,d6,d7,d8,d9⟩:=T1.out wr HB.out
       go_wp2_with fail
       exact ⟨⟨m+1,by go_num,by omega,Lib.hid (by rw [HSQ.out];exact ZS.out),Z0,HB,HS⟩,by simp [intOf];omega⟩
   · obtain rfl:m=l.length:=by omega
     rw [List.take_length] at ZS
     generalize hXX:Tr.orL l=X at *
     generalize wr=w1 at *
     have HXX:=Lib.hid hXX
     clear hXX hlt hm wm hN
     go_wp2
     go_loopw [7,5,6] (fun iv sv lv wr=>∃ (m:Nat) (ps:List (Tr × Value)) (ld:Bool),iv=.int .i64 m∧lv=.bool ld∧m ≤ l.length∧Hid (ps.map (·.1)=(Tr.chF X (l.take m)).1)∧Hid ((Tr.chF X (l.take m)).2=ld)∧Hid (RowP P w1.heap.size wr sv ps)∧Hid (Below w1.heap.size w1 wr)) (fun iv _ _ _=>l.length - (intOf iv).toNat)
     case atStart=>exact ⟨0,[],false,rfl,rfl,Nat.zero_le _,Lib.hid rfl,Lib.hid rfl,Lib.hid (RowP.nil _ _ _),Lib.hid (Below.refl _ _)⟩
     case round =>
       obtain ⟨m,ps,ld,rfl,rfl,hm,HP,HLD,HR,HBX⟩:=hrel
       have hN:=HN.out
       have wm:IntKind.i64.wrap ((m:Int)+1)=(m:Int)+1:=IntWalk.i64_in _ (by omega)
       by_cases hlt:m < l.length
       · obtain ⟨x,hx⟩:∃ x,l[m]? = some x:=⟨_,List.getElem?_eq_getElem hlt⟩
         obtain ⟨b1,o1,s1,rfl,hB1,t1,sub1⟩:=HXS.out.get hx
         obtain ⟨d0,d1,d2,d3,d4,d5,d6,d7,d8,d9⟩:=t1.keep ((HB.out.trans (HBX.out.mono HB.out.size)).block _ t1.lt)
         obtain ⟨p1,c1,rfl,hl1⟩:=sub1.slice
         have HSUB:=Lib.hid (sub1.mono (B':=fun b=>P b∧b < w.heap.size) fun b hlt h=>⟨h,hlt⟩)
         have HST:=Lib.hid (Tr.chF_take X l m x hx)
         have hpl:Hid (ps.length+1 ≤ 1000000):=Lib.hid (by rw [len_fst HP.out];have:=Tr.chF_le X l m;omega)
         have Z1:=Lib.hid (heap_alloc_new wr (.cells (x.cells (.slice p1 x.subs.length c1)) 37))
         have HBA:=Lib.hid ((Below.refl wr.heap.size wr).alloc (Nat.le_refl _) (.cells (x.cells (.slice p1 x.subs.length c1)) 37))
         have HS2:=Lib.hid (show wr.heap.size+1 ≤ (wr.alloc (.cells (x.cells (.slice p1 x.subs.length c1)) 37)).heap.size by simp)
         clear t1 sub1 hx hB1
         unfold Tr.cells at Z1 HBA HS2
         go_upto_region 13 with (fail)
         generalize hw1:wr.alloc _=w2 at *
         clear hw1 d0 d1 d2 d3 d4 d5 d6 d7 d8 d9
         have HR2:=Lib.hid (HR.out.below HBA.out)
         have HB2:=Lib.hid (HBX.out.trans (HBA.out.mono HBX.out.size))
         have HT2:=Lib.hid (show TreesAt w2 P u5 (Tr.chF X (l.take m)).1 from HP.out ▸ HR2.out.trees (fun b hb=>HP3.out b (by have:=HS.out;omega)) (by have:=hpl.out;omega))
         obtain ⟨po,co,rfl,-⟩:=HT2.out.slice
         have hON:(Tr.chF X (l.take m)).1.length ≤ 1000000:=by have:=Tr.chF_le X l m;omega
         obtain ⟨q0,q1,q2,q3,q4,q5,q6,q7,q8,q9⟩:=allTen Z1.out
         by_cases hk:x.kind=2
         case pos =>
           have ek:(x.kind == 2)=true:=by simpa using hk
           cases ld with
           | true =>
             have HSQ:Hid (Tr.chF X (l.take (m+1))=Tr.chF X (l.take m)):=Lib.hid (by rw [HST.out,Tr.cStep_laid hk (.inl HLD.out)])
             clear hk HST
             go_wp2_with fail
             exact ⟨⟨m+1,ps,true,by go_num,rfl,by omega,Lib.hid (by rw [HP.out,HSQ.out]),Lib.hid (by rw [HSQ.out,HLD.out]),HR2,HB2⟩,by simp [intOf];omega⟩
           | false =>
             have HNT:=Lib.hid (refis_is x p1 x.subs.length c1 w2)
             unfold Tr.cells at HNT
             cases hnn:x.isNone with
             | true =>
               have HSQ:Hid (Tr.chF X (l.take (m+1))=Tr.chF X (l.take m)):=Lib.hid (by rw [HST.out,Tr.cStep_laid hk (.inr hnn)])
               rw [hnn] at HNT
               clear hk hnn HST
               go_wp2_with (first
                 | (refine wpList_load_row_gd rfl rfl rfl 37 (.tmp 8) rfl wr.heap.size rfl 37 _ (0,0) _ Z1.out Tryd.underlying37 rfl (by kernel_rfl) ?_)
                 | fail)
               refine HNT.out.mono ?_
               rintro e w3 ⟨rfl,hb3⟩
               have HR3:=Lib.hid (HR2.out.below hb3)
               have HB3:=Lib.hid (HB2.out.trans (hb3.mono HB2.out.size))
               clear hb3
               go_wp2_with fail
               exact ⟨⟨m+1,ps,false,by go_num,rfl,by omega,Lib.hid (by rw [HP.out,HSQ.out]),Lib.hid (by rw [HSQ.out,HLD.out]),HR3,HB3⟩,by simp [intOf];omega⟩
             | false =>
               have HSQ:Hid (Tr.chF X (l.take (m+1))=(Tr.uStep (Tr.chF X (l.take m)).1 (Tr.setT x X),true)):=Lib.hid (by rw [HST.out,Tr.cStep_first hk HLD.out hnn])
               rw [hnn] at HNT
               clear hk hnn HST
               go_wp2_with (first
                 | (refine wpList_load_row_gd rfl rfl rfl 37 (.tmp 8) rfl wr.heap.size rfl 37 _ (0,0) _ Z1.out Tryd.underlying37 rfl (by kernel_rfl) ?_)
                 | fail)
               refine HNT.out.mono ?_
               rintro e w3 ⟨rfl,hb3⟩
               have ZX:=Lib.hid (keep_blk hb3 ((HB2.out.block _ (by have:=HS.out;omega)).trans ZS.out))
               have Z3:=Lib.hid (keep_blk hb3 Z1.out)
               have HTH:=Lib.hid (there_at1 Z3.out)
               have HS4:=Lib.hid (show wr.heap.size+1 ≤ w3.heap.size from by have:=hb3.size;have:=HS2.out;omega)
               have HB3X:=Lib.hid (HB2.out.trans (hb3.mono HB2.out.size))
               have HBA3:=Lib.hid (HBA.out.trans (hb3.mono HBA.out.size))
               clear q0 q1 q2 q3 q4 q5 q6 q7 q8 q9 hb3
               go_upto_region 17 with (first
                 | (refine wpList_load_row rfl 24 (.tmp 3) rfl (w.heap.size+1) rfl 24 _ (0,0) _ ZX.out Tryd.underlying24 rfl (by kernel_rfl) ?_)
                 | (refine wpList_store_mid rfl 24 (.tmp 51) (.tmp 50) rfl wr.heap.size 1 #[.int .u64 (Oc.U X.a),.int .u64 (Oc.U X.b),.int .u64 (Oc.U X.c),.int .u64 (Oc.U X.d)] rfl rfl HTH.out (by kernel_rfl) (by simp [Value.oneCell']) ?_)
                 | fail)
               generalize hw4:World.setCells w3 _ _ _=w4
               have HW4:=Lib.hid hw4
               clear hw4
               have HB4:Hid (Below w1.heap.size w1 w4):=Lib.hid (by rw [← HW4.out];exact setCells_below (HB3X.out) HBX.out.size _ _)
               have HBW:Hid (Below wr.heap.size wr w4):=Lib.hid (by rw [← HW4.out];exact setCells_below (HBA3.out) (Nat.le_refl wr.heap.size) _ _)
               have Z4:Hid (w4.heap[wr.heap.size]? = some (.cells #[.int .i64 x.kind,.int .u64 (Oc.U X.a),.int .u64 (Oc.U X.b),.int .u64 (Oc.U X.c),.int .u64 (Oc.U X.d),.slice p1 x.subs.length c1,.int .i64 x.num,.int .i64 x.least,.int .i64 x.most,.bool x.bare] 37)):=Lib.hid (by rw [← HW4.out];exact four_at1 Z3.out _ _ _ _)
               have HWZ:Hid (w3.heap.size ≤ w4.heap.size):=Lib.hid (by rw [← HW4.out];exact (setCells_below ((Below.refl w3.heap.size w3).mono (Nat.zero_le _)) (Nat.zero_le _) _ _).size)
               have HSY:Hid (TreesAt w (fun b=>P b∧b < w.heap.size) (.slice p1 (Tr.setT x X).subs.length c1) (Tr.setT x X).subs):=HSUB
               have HR4:=Lib.hid (HR.out.below HBW.out)
               have HS5:=Lib.hid (show wr.heap.size+1 ≤ w4.heap.size from by have:=HS4.out;have:=HWZ.out;omega)
               have Z5:Hid (w4.heap[wr.heap.size]? = some (.cells #[.int .i64 (Tr.setT x X).kind,.int .u64 (Oc.U (Tr.setT x X).w0),.int .u64 (Oc.U (Tr.setT x X).w1),.int .u64 (Oc.U (Tr.setT x X).w2),.int .u64 (Oc.U (Tr.setT x X).w3),.slice p1 (Tr.setT x X).subs.length c1,.int .i64 (Tr.setT x X).num,.int .i64 (Tr.setT x X).least,.int .i64 (Tr.setT x X).most,.bool (Tr.setT x X).bare] 37)):=Z4
               have HT4:=Lib.hid (show TreesAt w4 P (.slice po (Tr.chF X (l.take m)).1.length co) (Tr.chF X (l.take m)).1 from HP.out ▸ HR4.out.trees (fun b hb=>HP3.out b (by have:=HS.out;omega)) (by have:=hpl.out;omega))
               generalize Tr.setT x X=y at *
               clear Z1 Z3 Z4 HNT HTH ZX HT2 HR2 HB2 HBA HSUB HS2 HS4 HWZ HBW HR HW4 HB3X HBA3
               generalize hT8:wr.heap.size=T8 at *
               have hwz:T8+1 ≤ w4.heap.size:=HS5.out
               clear hT8
               generalize hOO:(Tr.chF X (l.take m)).1=O at *
               have HOO:=Lib.hid hOO
               clear hOO
               go_wp2
               go_loopw [10,9] (fun kv qv wr=>∃ (n:Nat) (sn:Bool),kv=.int .i64 n∧qv=.bool sn∧n ≤ O.length∧Hid (sn=true ↔ y ∈ O.take n)∧Hid (Below w4.heap.size w4 wr)) (fun kv _ _=>O.length - (intOf kv).toNat)
               case atStart=>exact ⟨0,false,rfl,rfl,Nat.zero_le _,Lib.hid (by simp),Lib.hid (Below.refl _ _)⟩
               case round =>
                 obtain ⟨n,sn,rfl,rfl,hn,HSN,HQ⟩:=hrel
                 have wn:IntKind.i64.wrap ((n:Int)+1)=(n:Int)+1:=IntWalk.i64_in _ (by omega)
                 by_cases hln:n < O.length
                 · obtain ⟨z,hz⟩:∃ z,O[n]? = some z:=⟨_,List.getElem?_eq_getElem hln⟩
                   obtain ⟨b2,o2,s2,rfl,-,t2,sub2⟩:=HT4.out.get hz
                   have T2:=Lib.hid (fun w9 (hb:Below wr.heap.size wr w9)=>t2.keep ((HQ.out.trans (hb.mono HQ.out.size)).block _ t2.lt))
                   obtain ⟨p2,c2,rfl,-⟩:=sub2.slice
                   have HMT:=Lib.hid (Tr.mem_take_next hz y)
                   have ZQ:=Lib.hid (keep_blk HQ.out Z5.out)
                   obtain ⟨qq,hqq⟩:∃ qq:Bool,(qq=true ↔ z=y):=by
                     by_cases h:z=y
                     · exact ⟨true,⟨fun _=>h,fun _=>rfl⟩⟩
                     · exact ⟨false,⟨fun h9=>(by cases h9),fun h9=>absurd h9 h⟩⟩
                   have HSM:=Lib.hid (fun w9 (hb:Below wr.heap.size wr w9)=>(exsame_any z y w9 P (fun b=>P b∧b < w.heap.size) (.agg (z.cells (.slice p2 z.subs.length c2))) (.agg (y.cells (.slice p1 y.subs.length c1))) ⟨_,rfl,sub2.later (HQ.out.trans (hb.mono HQ.out.size))⟩ ⟨_,rfl,HSY.out.later (HB.out.trans ((HB4.out.trans ((HQ.out.trans (hb.mono HQ.out.size)).mono HB4.out.size)).mono HB.out.size))⟩).mono (R':=fun e w'=>e=.returned (.bool qq)∧Below w9.heap.size w9 w') (by
                     rintro e w' ⟨b,rfl,hb9,h⟩
                     exact ⟨by rw [Bool.eq_iff_iff.2 (hb9.trans hqq.symm)],h⟩))
                   have HQQ:=Lib.hid hqq
                   unfold Tr.cells at HSM
                   clear t2 sub2 hz hqq
                   go_upto_region 21 with (fail)
                   refine Ri.wp_region_frame (by kernel_rfl) (by kernel_rfl) (by kernel_rfl) (by kernel_rfl)
                     (fun L v w'=>Below wr.heap.size wr w'∧(L 0=true→v 0=.slice (some ⟨b2,o2,none⟩) O.length co)∧(L 1=true→v 1=.int .i64 (n:Int))∧(L 2=true→v 2=.pointer (some ⟨b2,o2+n * 10,none⟩))∧(L 3=true→v 3=.agg #[.int .i64 z.kind,.int .u64 (Oc.U z.w0),.int .u64 (Oc.U z.w1),.int .u64 (Oc.U z.w2),.int .u64 (Oc.U z.w3),.slice p2 z.subs.length c2,.int .i64 z.num,.int .i64 z.least,.int .i64 z.most,.bool z.bare])∧(L 4=true→v 4=.agg #[.int .i64 y.kind,.int .u64 (Oc.U y.w0),.int .u64 (Oc.U y.w1),.int .u64 (Oc.U y.w2),.int .u64 (Oc.U y.w3),.slice p1 y.subs.length c1,.int .i64 y.num,.int .i64 y.least,.int .i64 y.most,.bool y.bare])∧(L 5=true→v 5=.bool qq)∧(L 6=true→v 6=.bool qq))
                     ?_ ?_ ?_
                   · exact ⟨(Below.refl _ _).drew,by simp,by simp,by simp,by simp,by simp,by simp,by simp⟩
                   · intro i hi9 L v w9 xa hI hL hd hv ho
                     have hi':i=0 ∨ i=1 ∨ i=2 ∨ i=3 ∨ i=4 ∨ i=5 ∨ i=6:=by simp at hi9;omega
                     obtain ⟨hb,q0,q1,q2,q3,q4,q5,q6⟩:=hI
                     rcases hi' with rfl | rfl | rfl | rfl | rfl | rfl | rfl
                     · have e5:xa.tmps.getD 5 undef=.slice (some ⟨b2,o2,none⟩) O.length co:=ho 5 (by kernel_rfl)
                       refine Ri.step_plain rfl rfl (fun K' hK=>?_)
                       go_simp
                       exact hK _ _ ⟨_,_,rfl,rfl,hb,fun _=>rfl,q1,q2,q3,q4,q5,q6⟩
                     · have e10:xa.tmps.getD 10 undef=.int .i64 (n:Int):=ho 10 (by kernel_rfl)
                       refine Ri.step_plain rfl rfl (fun K' hK=>?_)
                       go_simp
                       exact hK _ _ ⟨_,_,rfl,rfl,hb,q0,fun _=>rfl,q2,q3,q4,q5,q6⟩
                     · have l0:L 0=true∧L 1=true:=by have:=hd _ rfl;simp [Region.binds] at this;simp [this]
                       have f0:=(hv 0 58 rfl l0.1).trans (q0 l0.1)
                       have f1:=(hv 1 59 rfl l0.2).trans (q1 l0.2)
                       refine Ri.step_plain rfl rfl (fun K' hK=>?_)
                       go_simp
                       exact hK _ _ ⟨_,_,rfl,rfl,hb,q0,q1,fun _=>rfl,q3,q4,q5,q6⟩
                     · have l0:L 2=true:=by have:=hd _ rfl;simp [Region.binds] at this;simp [this]
                       have f2:=(hv 2 60 rfl l0).trans (q2 l0)
                       refine Ri.step_plain rfl rfl (fun K' hK=>?_)
                       obtain ⟨d0,d1,d2,d3,d4,d5,d6,d7,d8,d9⟩:=(T2.out w9 hb)
                       go_simp
                       exact hK _ _ ⟨_,_,rfl,rfl,hb,q0,q1,q2,fun _=>rfl,q4,q5,q6⟩
                     · have e8:xa.tmps.getD 8 undef=.pointer (some ⟨T8,0,none⟩):=ho 8 (by kernel_rfl)
                       refine Ri.step_plain rfl rfl (fun K' hK=>?_)
                       obtain ⟨d0,d1,d2,d3,d4,d5,d6,d7,d8,d9⟩:=allTen (keep_blk hb ZQ.out)
                       go_simp
                       exact hK _ _ ⟨_,_,rfl,rfl,hb,q0,q1,q2,q3,fun _=>rfl,q5,q6⟩
                     · have l0:L 3=true∧L 4=true:=by have:=hd _ rfl;simp [Region.binds] at this;simp [this]
                       have f3:=(hv 3 61 rfl l0.1).trans (q3 l0.1)
                       have f4:=(hv 4 62 rfl l0.2).trans (q4 l0.2)
                       refine Ri.step_plain rfl rfl (fun K' hK=>?_)
                       go_simp
                       refine (HSM.out _ hb).mono ?_
                       rintro e w8 ⟨rfl,hb8⟩
                       exact hK _ _ ⟨_,_,rfl,rfl,hb.trans (hb8.mono hb.size),q0,q1,q2,q3,q4,fun _=>rfl,q6⟩
                     · have l0:L 5=true:=by have:=hd _ rfl;simp [Region.binds] at this;simp [this]
                       have f5:=(hv 5 63 rfl l0).trans (q5 l0)
                       refine Ri.step_plain rfl rfl (fun K' hK=>?_)
                       go_simp
                       exact hK _ _ ⟨_,_,rfl,rfl,hb,q0,q1,q2,q3,q4,q5,fun _=>rfl⟩
                   · rintro v w9 ⟨hb,-,-,-,-,-,-,q6⟩
                     have q6':v 6=.bool qq:=q6 rfl
                     simp only [Ri.frame,List.zipIdx,List.foldl_cons,List.foldl_nil,if_true,List.setIfInBounds_toArray,List.set_cons_zero,List.set_cons_succ,Nat.reduceAdd,q6']
                     clear q6 q6'
                     generalize v 0=y0;generalize v 1=y1;generalize v 2=y2;generalize v 3=y3;generalize v 4=y4;generalize v 5=y5
                     have HQ9:=Lib.hid (HQ.out.trans (hb.mono HQ.out.size))
                     clear hb
                     cases sn with
                     | true =>
                       go_wp2
                       exact ⟨⟨n+1,true,by go_num,rfl,by omega,Lib.hid ⟨fun _=>HMT.out.2 (.inl (HSN.out.1 rfl)),fun _=>rfl⟩,HQ9⟩,by simp [intOf];omega⟩
                     | false =>
                       go_wp2
                       exact ⟨⟨n+1,qq,by go_num,rfl,by omega,Lib.hid ⟨fun h=>HMT.out.2 (.inr (HQQ.out.1 h)),fun h=>(HMT.out.1 h).elim (fun h=>(by have:=HSN.out.2 h;cases this)) HQQ.out.2⟩,HQ9⟩,by simp [intOf];omega⟩
                 · obtain rfl:n=O.length:=by omega
                   have hsn:=HSN.out
                   rw [List.take_length] at hsn
                   have HR6:=Lib.hid (HR4.out.below HQ.out)
                   have HB6:=Lib.hid (HB4.out.trans (HQ.out.mono HB4.out.size))
                   cases sn with
                   | true =>
                     have HSQ2:Hid (Tr.chF X (l.take (m+1))=(O,true)):=Lib.hid (by rw [HSQ.out,Tr.uStep_in (hsn.1 rfl)])
                     clear hsn
                     go_wp2
                     exact ⟨⟨m+1,ps,true,by go_num,rfl,by omega,Lib.hid (by rw [HP.out,HSQ2.out]),Lib.hid (by rw [HSQ2.out]),HR6,HB6⟩,by simp [intOf];omega⟩
                   | false =>
                     have HSQ2:Hid (Tr.chF X (l.take (m+1))=(O ++ [y],true)):=Lib.hid (by rw [HSQ.out,Tr.uStep_out fun h=>(by have:=hsn.2 h;cases this)])
                     clear hsn
                     have ZQ:=Lib.hid (keep_blk HQ.out Z5.out)
                     have HOWN2:=Lib.hid (HR6.out.1.alloc (.cells (y.cells (.slice p1 y.subs.length c1)) 37))
                     have HNW:=Lib.hid (news_one wr y p1 y.subs.length c1 37)
                     have HBA2:Hid (w1.heap.size ≤ (wr.alloc (.cells (y.cells (.slice p1 y.subs.length c1)) 37)).heap.size):=Lib.hid (by have:=HB6.out.size;simp;omega)
                     have hml:ps.length+1 ≤ maxLen:=by have:=hpl.out;unfold maxLen;omega
                     have hbyt:(ps.length+1) * 96 ≤ 140737488355328:=by have:=hpl.out;omega
                     go_wp2_with (first
                       | (refine wpList_load_row rfl 37 (.tmp 8) rfl T8 rfl 37 _ (0,0) _ ZQ.out Tryd.underlying37 rfl (by kernel_rfl) ?_)
                       | (refine wpList_node1 rfl (.tmp 71) y p1 y.subs.length c1 rfl rfl ?_)
                       | (refine wpList_append_fresh _ rfl (.tmp 70) (.tmp 72) 35 rfl w1.heap.size 37 ie _ 10 96 Tryd.underlying35 HI.out HZ0.out HZ1.out HZ2.out rfl (by decide) _ _ _ rfl HOWN2.out ⟨wr.heap.size,0,none⟩ 1 1 (y.cells (.slice p1 y.subs.length c1)).toList rfl rfl HNW.out (nodeC_one _ _ _ _) (by decide) hml hbyt HBA2.out ?_;intro v' w5 hown5 hgrow5 hwhere)
                       | fail)
                     have HG5:=Lib.hid hgrow5;have HW5:=Lib.hid hwhere
                     have HSB:Hid (TreesAt wr (fun b=>P b∧(Value.slice po O.length co).ownBlock ≠ some b) (.slice p1 y.subs.length c1) y.subs):=Lib.hid ((HSY.out.later (HB.out.trans (HB6.out.mono HB.out.size))).mono fun b _ hb=>⟨hb.1,fun e=>by have:=(HR6.out.lt b e).1;have:=hb.2;have:=HS.out;omega⟩)
                     have HR5:=Lib.hid (HR6.out.app (Below.refl wr.heap.size wr) HSB.out hown5 HG5.out HW5.out)
                     have hb6:Below wr.heap.size wr (wr.alloc (.cells (y.cells (.slice p1 y.subs.length c1)) 37)):=(Below.refl wr.heap.size wr).alloc (Nat.le_refl _) _
                     have HB5:=Lib.hid ((HB6.out.trans (hb6.mono HB6.out.size)).grown HG5.out HBA2.out (fun k e=>(HR6.out.lt k e).1))
                     exact ⟨⟨m+1,ps ++ [(y,.slice p1 y.subs.length c1)],true,by go_num,rfl,by omega,Lib.hid (by rw [List.map_append,HP.out,HSQ2.out];rfl),Lib.hid (by rw [HSQ2.out]),HR5,HB5⟩,by simp [intOf];omega⟩
         case neg =>
           have ek:(x.kind == 2)=false:=by simpa using hk
           have HSQ:Hid (Tr.chF X (l.take (m+1))=(Tr.uStep (Tr.chF X (l.take m)).1 x,ld)):=Lib.hid (by rw [HST.out,Tr.cStep_other hk,HLD.out])
           clear hk HST
           go_upto_region 17 with (fail)
           clear q0 q1 q2 q3 q4 q5 q6 q7 q8 q9
           have HSY:=HSUB;have HR4:=HR2;have HS5:=HS2;have Z5:=Z1;have HT4:=HT2;have HB4:=HB2
           clear Z1 HT2 HR2 HB2 HBA HSUB HS2 HR
           generalize w2=w4 at *
           generalize hyy:x=y at *
           clear hyy
           generalize hT8:wr.heap.size=T8 at *
           have hwz:T8+1 ≤ w4.heap.size:=HS5.out
           clear hT8
           generalize hOO:(Tr.chF X (l.take m)).1=O at *
           have HOO:=Lib.hid hOO
           clear hOO
           go_wp2
           go_loopw [10,9] (fun kv qv wr=>∃ (n:Nat) (sn:Bool),kv=.int .i64 n∧qv=.bool sn∧n ≤ O.length∧Hid (sn=true ↔ y ∈ O.take n)∧Hid (Below w4.heap.size w4 wr)) (fun kv _ _=>O.length - (intOf kv).toNat)
           case atStart=>exact ⟨0,false,rfl,rfl,Nat.zero_le _,Lib.hid (by simp),Lib.hid (Below.refl _ _)⟩
           case round =>
             obtain ⟨n,sn,rfl,rfl,hn,HSN,HQ⟩:=hrel
             have wn:IntKind.i64.wrap ((n:Int)+1)=(n:Int)+1:=IntWalk.i64_in _ (by omega)
             by_cases hln:n < O.length
             · obtain ⟨z,hz⟩:∃ z,O[n]? = some z:=⟨_,List.getElem?_eq_getElem hln⟩
               obtain ⟨b2,o2,s2,rfl,-,t2,sub2⟩:=HT4.out.get hz
               have T2:=Lib.hid (fun w9 (hb:Below wr.heap.size wr w9)=>t2.keep ((HQ.out.trans (hb.mono HQ.out.size)).block _ t2.lt))
               obtain ⟨p2,c2,rfl,-⟩:=sub2.slice
               have HMT:=Lib.hid (Tr.mem_take_next hz y)
               have ZQ:=Lib.hid (keep_blk HQ.out Z5.out)
               obtain ⟨qq,hqq⟩:∃ qq:Bool,(qq=true ↔ z=y):=by
                 by_cases h:z=y
                 · exact ⟨true,⟨fun _=>h,fun _=>rfl⟩⟩
                 · exact ⟨false,⟨fun h9=>(by cases h9),fun h9=>absurd h9 h⟩⟩
               have HSM:=Lib.hid (fun w9 (hb:Below wr.heap.size wr w9)=>(exsame_any z y w9 P (fun b=>P b∧b < w.heap.size) (.agg (z.cells (.slice p2 z.subs.length c2))) (.agg (y.cells (.slice p1 y.subs.length c1))) ⟨_,rfl,sub2.later (HQ.out.trans (hb.mono HQ.out.size))⟩ ⟨_,rfl,HSY.out.later (HB.out.trans ((HB4.out.trans ((HQ.out.trans (hb.mono HQ.out.size)).mono HB4.out.size)).mono HB.out.size))⟩).mono (R':=fun e w'=>e=.returned (.bool qq)∧Below w9.heap.size w9 w') (by
                 rintro e w' ⟨b,rfl,hb9,h⟩
                 exact ⟨by rw [Bool.eq_iff_iff.2 (hb9.trans hqq.symm)],h⟩))
               have HQQ:=Lib.hid hqq
               unfold Tr.cells at HSM
               clear t2 sub2 hz hqq
               go_upto_region 21 with (fail)
               refine Ri.wp_region_frame (by kernel_rfl) (by kernel_rfl) (by kernel_rfl) (by kernel_rfl)
                 (fun L v w'=>Below wr.heap.size wr w'∧(L 0=true→v 0=.slice (some ⟨b2,o2,none⟩) O.length co)∧(L 1=true→v 1=.int .i64 (n:Int))∧(L 2=true→v 2=.pointer (some ⟨b2,o2+n * 10,none⟩))∧(L 3=true→v 3=.agg #[.int .i64 z.kind,.int .u64 (Oc.U z.w0),.int .u64 (Oc.U z.w1),.int .u64 (Oc.U z.w2),.int .u64 (Oc.U z.w3),.slice p2 z.subs.length c2,.int .i64 z.num,.int .i64 z.least,.int .i64 z.most,.bool z.bare])∧(L 4=true→v 4=.agg #[.int .i64 y.kind,.int .u64 (Oc.U y.w0),.int .u64 (Oc.U y.w1),.int .u64 (Oc.U y.w2),.int .u64 (Oc.U y.w3),.slice p1 y.subs.length c1,.int .i64 y.num,.int .i64 y.least,.int .i64 y.most,.bool y.bare])∧(L 5=true→v 5=.bool qq)∧(L 6=true→v 6=.bool qq))
                 ?_ ?_ ?_
               · exact ⟨(Below.refl _ _).drew,by simp,by simp,by simp,by simp,by simp,by simp,by simp⟩
               · intro i hi9 L v w9 xa hI hL hd hv ho
                 have hi':i=0 ∨ i=1 ∨ i=2 ∨ i=3 ∨ i=4 ∨ i=5 ∨ i=6:=by simp at hi9;omega
                 obtain ⟨hb,q0,q1,q2,q3,q4,q5,q6⟩:=hI
                 rcases hi' with rfl | rfl | rfl | rfl | rfl | rfl | rfl
                 · have e5:xa.tmps.getD 5 undef=.slice (some ⟨b2,o2,none⟩) O.length co:=ho 5 (by kernel_rfl)
                   refine Ri.step_plain rfl rfl (fun K' hK=>?_)
                   go_simp
                   exact hK _ _ ⟨_,_,rfl,rfl,hb,fun _=>rfl,q1,q2,q3,q4,q5,q6⟩
                 · have e10:xa.tmps.getD 10 undef=.int .i64 (n:Int):=ho 10 (by kernel_rfl)
                   refine Ri.step_plain rfl rfl (fun K' hK=>?_)
                   go_simp
                   exact hK _ _ ⟨_,_,rfl,rfl,hb,q0,fun _=>rfl,q2,q3,q4,q5,q6⟩
                 · have l0:L 0=true∧L 1=true:=by have:=hd _ rfl;simp [Region.binds] at this;simp [this]
                   have f0:=(hv 0 58 rfl l0.1).trans (q0 l0.1)
                   have f1:=(hv 1 59 rfl l0.2).trans (q1 l0.2)
                   refine Ri.step_plain rfl rfl (fun K' hK=>?_)
                   go_simp
                   exact hK _ _ ⟨_,_,rfl,rfl,hb,q0,q1,fun _=>rfl,q3,q4,q5,q6⟩
                 · have l0:L 2=true:=by have:=hd _ rfl;simp [Region.binds] at this;simp [this]
                   have f2:=(hv 2 60 rfl l0).trans (q2 l0)
                   refine Ri.step_plain rfl rfl (fun K' hK=>?_)
                   obtain ⟨d0,d1,d2,d3,d4,d5,d6,d7,d8,d9⟩:=(T2.out w9 hb)
                   go_simp
                   exact hK _ _ ⟨_,_,rfl,rfl,hb,q0,q1,q2,fun _=>rfl,q4,q5,q6⟩
                 · have e8:xa.tmps.getD 8 undef=.pointer (some ⟨T8,0,none⟩):=ho 8 (by kernel_rfl)
                   refine Ri.step_plain rfl rfl (fun K' hK=>?_)
                   obtain ⟨d0,d1,d2,d3,d4,d5,d6,d7,d8,d9⟩:=allTen (keep_blk hb ZQ.out)
                   go_simp
                   exact hK _ _ ⟨_,_,rfl,rfl,hb,q0,q1,q2,q3,fun _=>rfl,q5,q6⟩
                 · have l0:L 3=true∧L 4=true:=by have:=hd _ rfl;simp [Region.binds] at this;simp [this]
                   have f3:=(hv 3 61 rfl l0.1).trans (q3 l0.1)
                   have f4:=(hv 4 62 rfl l0.2).trans (q4 l0.2)
                   refine Ri.step_plain rfl rfl (fun K' hK=>?_)
                   go_simp
                   refine (HSM.out _ hb).mono ?_
                   rintro e w8 ⟨rfl,hb8⟩
                   exact hK _ _ ⟨_,_,rfl,rfl,hb.trans (hb8.mono hb.size),q0,q1,q2,q3,q4,fun _=>rfl,q6⟩
                 · have l0:L 5=true:=by have:=hd _ rfl;simp [Region.binds] at this;simp [this]
                   have f5:=(hv 5 63 rfl l0).trans (q5 l0)
                   refine Ri.step_plain rfl rfl (fun K' hK=>?_)
                   go_simp
                   exact hK _ _ ⟨_,_,rfl,rfl,hb,q0,q1,q2,q3,q4,q5,fun _=>rfl⟩
               · rintro v w9 ⟨hb,-,-,-,-,-,-,q6⟩
                 have q6':v 6=.bool qq:=q6 rfl
                 simp only [Ri.frame,List.zipIdx,List.foldl_cons,List.foldl_nil,if_true,List.setIfInBounds_toArray,List.set_cons_zero,List.set_cons_succ,Nat.reduceAdd,q6']
                 clear q6 q6'
                 generalize v 0=y0;generalize v 1=y1;generalize v 2=y2;generalize v 3=y3;generalize v 4=y4;generalize v 5=y5
                 have HQ9:=Lib.hid (HQ.out.trans (hb.mono HQ.out.size))
                 clear hb
                 cases sn with
                 | true =>
                   go_wp2
                   exact ⟨⟨n+1,true,by go_num,rfl,by omega,Lib.hid ⟨fun _=>HMT.out.2 (.inl (HSN.out.1 rfl)),fun _=>rfl⟩,HQ9⟩,by simp [intOf];omega⟩
                 | false =>
                   go_wp2
                   exact ⟨⟨n+1,qq,by go_num,rfl,by omega,Lib.hid ⟨fun h=>HMT.out.2 (.inr (HQQ.out.1 h)),fun h=>(HMT.out.1 h).elim (fun h=>(by have:=HSN.out.2 h;cases this)) HQQ.out.2⟩,HQ9⟩,by simp [intOf];omega⟩
             · obtain rfl:n=O.length:=by omega
               have hsn:=HSN.out
               rw [List.take_length] at hsn
               have HR6:=Lib.hid (HR4.out.below HQ.out)
               have HB6:=Lib.hid (HB4.out.trans (HQ.out.mono HB4.out.size))
               cases sn with
               | true =>
                 have HSQ2:Hid (Tr.chF X (l.take (m+1))=(O,ld)):=Lib.hid (by rw [HSQ.out,Tr.uStep_in (hsn.1 rfl)])
                 clear hsn
                 go_wp2
                 exact ⟨⟨m+1,ps,ld,by go_num,rfl,by omega,Lib.hid (by rw [HP.out,HSQ2.out]),Lib.hid (by rw [HSQ2.out]),HR6,HB6⟩,by simp [intOf];omega⟩
               | false =>
                 have HSQ2:Hid (Tr.chF X (l.take (m+1))=(O ++ [y],ld)):=Lib.hid (by rw [HSQ.out,Tr.uStep_out fun h=>(by have:=hsn.2 h;cases this)])
                 clear hsn
                 have ZQ:=Lib.hid (keep_blk HQ.out Z5.out)
                 have HOWN2:=Lib.hid (HR6.out.1.alloc (.cells (y.cells (.slice p1 y.subs.length c1)) 37))
                 have HNW:=Lib.hid (news_one wr y p1 y.subs.length c1 37)
                 have HBA2:Hid (w1.heap.size ≤ (wr.alloc (.cells (y.cells (.slice p1 y.subs.length c1)) 37)).heap.size):=Lib.hid (by have:=HB6.out.size;simp;omega)
                 have hml:ps.length+1 ≤ maxLen:=by have:=hpl.out;unfold maxLen;omega
                 have hbyt:(ps.length+1) * 96 ≤ 140737488355328:=by have:=hpl.out;omega
                 go_wp2_with (first
                   | (refine wpList_load_row rfl 37 (.tmp 8) rfl T8 rfl 37 _ (0,0) _ ZQ.out Tryd.underlying37 rfl (by kernel_rfl) ?_)
                   | (refine wpList_node1 rfl (.tmp 71) y p1 y.subs.length c1 rfl rfl ?_)
                   | (refine wpList_append_fresh _ rfl (.tmp 70) (.tmp 72) 35 rfl w1.heap.size 37 ie _ 10 96 Tryd.underlying35 HI.out HZ0.out HZ1.out HZ2.out rfl (by decide) _ _ _ rfl HOWN2.out ⟨wr.heap.size,0,none⟩ 1 1 (y.cells (.slice p1 y.subs.length c1)).toList rfl rfl HNW.out (nodeC_one _ _ _ _) (by decide) hml hbyt HBA2.out ?_;intro v' w5 hown5 hgrow5 hwhere)
                   | fail)
                 have HG5:=Lib.hid hgrow5;have HW5:=Lib.hid hwhere
                 have HSB:Hid (TreesAt wr (fun b=>P b∧(Value.slice po O.length co).ownBlock ≠ some b) (.slice p1 y.subs.length c1) y.subs):=Lib.hid ((HSY.out.later (HB.out.trans (HB6.out.mono HB.out.size))).mono fun b _ hb=>⟨hb.1,fun e=>by have:=(HR6.out.lt b e).1;have:=hb.2;have:=HS.out;omega⟩)
                 have HR5:=Lib.hid (HR6.out.app (Below.refl wr.heap.size wr) HSB.out hown5 HG5.out HW5.out)
                 have hb6:Below wr.heap.size wr (wr.alloc (.cells (y.cells (.slice p1 y.subs.length c1)) 37)):=(Below.refl wr.heap.size wr).alloc (Nat.le_refl _) _
                 have HB5:=Lib.hid ((HB6.out.trans (hb6.mono HB6.out.size)).grown HG5.out HBA2.out (fun k e=>(HR6.out.lt k e).1))
                 exact ⟨⟨m+1,ps ++ [(y,.slice p1 y.subs.length c1)],ld,by go_num,rfl,by omega,Lib.hid (by rw [List.map_append,HP.out,HSQ2.out];rfl),Lib.hid (by rw [HSQ2.out]),HR5,HB5⟩,by simp [intOf];omega⟩
       · obtain rfl:m=l.length:=by omega
         have hTT:=HR.out.trees (fun b hb=>HP3.out b (by have:=HS.out;omega)) (by rw [len_fst HP.out];have:=Tr.chF_le X l l.length;omega)
         rw [HP.out,List.take_length] at hTT
         have hRE:=HE.out
         have hSN:(Tr.chF X l).1.length ≤ 1000000:=by have:=Tr.chF_le X l l.length;rw [List.take_length] at this;omega
         generalize (Tr.chF X l).1=S at *
         have HTT:=Lib.hid hTT
         obtain ⟨p3,c3,rfl,-⟩:=hTT.slice
         have ZE:=Lib.hid ((HBX.out.block _ (by have:=HS.out;omega)).trans Z0.out)
         have HBE:=Lib.hid (HB.out.trans (HBX.out.mono HB.out.size))
         clear hTT HR HP HLD HBX HE
         rcases list_by S with rfl | ⟨y,rfl⟩ | h2
         · have hRR:=Lib.hid hRE
           have HNG:=Lib.hid (refnothing_is wr)
           rw [noneT_cells] at HNG
           clear hRE
           rw [show ([]:List Tr).length=0 from rfl]
           go_wp2_with fail
           refine HNG.out.mono ?_
           rintro e w4 ⟨rfl,hb4⟩
           replace ZE:=Lib.hid (keep_blk hb4 ZE.out)
           replace HBE:=Lib.hid (HBE.out.trans (hb4.mono HBE.out.size))
           clear hb4
           go_wp2_with (first
             | (refine wpList_store_row rfl 37 (.tmp 2) (.tmp 78) rfl w.heap.size #[.int .i64 2,.int .u64 0,.int .u64 0,.int .u64 0,.int .u64 0,.slice none 0 0,.int .i64 0,.int .i64 0,.int .i64 0,.bool false] rfl rfl 37 _ ZE.out (by kernel_rfl) rfl (by simp [Value.oneCell']) ?_)
             | fail)
           refine bodyPost_ret (results_cell_row rfl _ _ w.heap.size 37 #[.int .i64 2,.int .u64 0,.int .u64 0,.int .u64 0,.int .u64 0,.slice none 0 0,.int .i64 0,.int .i64 0,.int .i64 0,.bool false] (0,0) _ rfl (heap_setRow ZE.out) Tryd.underlying37 rfl (by kernel_rfl)) rfl ⟨.slice none 0 0, ?_, ?_,below_setRow HBE.out (Nat.le_refl _) _⟩
           · rw [hRR.out];show _=Ending.returned (.agg (Tr.noneT.cells _));rw [noneT_cells]
           · rw [hRR.out];exact TreesAt.nil
         · have hRR:=Lib.hid (show R=y from hRE)
           clear hRE
           obtain ⟨b1,o1,s1,rfl,-,t1,sub1⟩:=HTT.out.get (i:=0) (t:=y) rfl
           have t1':TenAt wr b1 o1 y s1:=by simpa using t1
           obtain ⟨d0,d1,d2,d3,d4,d5,d6,d7,d8,d9⟩:=t1'
           obtain ⟨p1,c1,rfl,hl1⟩:=sub1.slice
           have HSUB:=Lib.hid sub1
           clear t1 sub1
           rw [show [y].length=1 from rfl]
           go_wp2_with (first
             | (refine wpList_store_row rfl 37 (.tmp 2) (.tmp 83) rfl w.heap.size #[.int .i64 y.kind,.int .u64 (Oc.U y.w0),.int .u64 (Oc.U y.w1),.int .u64 (Oc.U y.w2),.int .u64 (Oc.U y.w3),.slice p1 y.subs.length c1,.int .i64 y.num,.int .i64 y.least,.int .i64 y.most,.bool y.bare] rfl rfl 37 _ ZE.out (by kernel_rfl) rfl (by simp [Value.oneCell']) ?_)
             | fail)
           refine bodyPost_ret (results_cell_row rfl _ _ w.heap.size 37 #[.int .i64 y.kind,.int .u64 (Oc.U y.w0),.int .u64 (Oc.U y.w1),.int .u64 (Oc.U y.w2),.int .u64 (Oc.U y.w3),.slice p1 y.subs.length c1,.int .i64 y.num,.int .i64 y.least,.int .i64 y.most,.bool y.bare] (0,0) _ rfl (heap_setRow ZE.out) Tryd.underlying37 rfl (by kernel_rfl)) rfl ⟨.slice p1 y.subs.length c1, ?_, ?_,below_setRow HBE.out (Nat.le_refl _) _⟩
           · rw [hRR.out];rfl
           · rw [hRR.out]
             exact (HSUB.out.keep fun b _ hb=>by rw [heap_setRow_other _ _ _ (HP2.out b hb)]).mono fun b _ hb=>HP1.out b hb
         · have hRR:=Lib.hid (show R=Tr.many 6 S by rw [hRE,Tr.many6 h2])
           have e0:((S.length:Int) == 0)=false:=by rw [beq_eq_false_iff_ne];omega
           have e1:((S.length:Int) == 1)=false:=by rw [beq_eq_false_iff_ne];omega
           clear hRE
           go_wp2_with (first
             | (refine wpList_store_row rfl 37 (.tmp 2) (.tmp 85) rfl w.heap.size #[.int .i64 6,.int .u64 0,.int .u64 0,.int .u64 0,.int .u64 0,.slice p3 S.length c3,.int .i64 0,.int .i64 0,.int .i64 0,.bool false] rfl rfl 37 _ ZE.out (by kernel_rfl) rfl (by simp [Value.oneCell']) ?_)
             | fail)
           refine bodyPost_ret (results_cell_row rfl _ _ w.heap.size 37 #[.int .i64 6,.int .u64 0,.int .u64 0,.int .u64 0,.int .u64 0,.slice p3 S.length c3,.int .i64 0,.int .i64 0,.int .i64 0,.bool false] (0,0) _ rfl (heap_setRow ZE.out) Tryd.underlying37 rfl (by kernel_rfl)) rfl ⟨.slice p3 S.length c3, ?_, ?_,below_setRow HBE.out (Nat.le_refl _) _⟩
           · rw [hRR.out,many_cells]
           · rw [hRR.out]
             exact (HTT.out.keep fun b _ hb=>by rw [heap_setRow_other _ _ _ (HP2.out b hb)]).mono fun b _ hb=>HP1.out b hb
end Go.Proofs.YtllfgppjobinnaaDoor
namespace Go.Proofs.YtllfgppjobinnaaDoor
open Go.RowKit
def AnsAt (R:Tr) (BB:Nat→Prop) (w:World) (v:Value):Prop:=∃ s,v=.agg (R.cells s)∧TreesAt w BB s R.subs
theorem AnsAt.below {R:Tr} {BB:Nat→Prop} {w w':World} {v:Value} (h:AnsAt R BB w v) (hb:Below w.heap.size w w'):AnsAt R BB w' v:=by
 obtain ⟨s,h1,h2⟩:=h;exact ⟨s,h1,h2.later hb⟩
namespace Tr
def lqL (k:Int) (l:List Tr):List Tr:=if k=8 then l else openL k l
theorem lqL_take (k:Int) (l:List Tr) (m:Nat) (x:Tr) (h:l[m]? = some x):lqL k (l.take (m+1))=lqL k (l.take m) ++ (if x.kind=k∧k ≠ 8 then x.subs else [x]):=by
 unfold lqL
 by_cases h8:k=8
 · rw [if_pos h8,if_pos h8,if_neg (fun e=>e.2 h8),List.take_add_one,h];rfl
 · rw [if_neg h8,if_neg h8,openL_take k l m x h]
   by_cases hk:x.kind=k
   · rw [if_pos hk,if_pos ⟨hk,h8⟩]
   · rw [if_neg hk,if_neg (fun e=>hk e.1)]
theorem lqL_le (k:Int) (l:List Tr) (m:Nat):(lqL k (l.take m)).length ≤ (lqL k l).length:=by
 unfold lqL
 split
 · rw [List.length_take];omega
 · exact openL_le k l m
theorem lqL_len (k:Int) (l:List Tr):(lqL k l).length ≤ ndS l:=by
 unfold lqL
 split
 · exact len_nd l
 · exact open_len k l
end Tr
theorem refsimple_any:∀ t:Tr,t.InForm→t.freeT=true→t.ndT ≤ 1000000→∀ (w:World) (B:Nat→Prop) (v:Value),NodeV w B v t→Calls Tryd.prog 125 #[v] w (NewEnd t.nmT w):=by
 intro t
 induction t using Tr.rec_subs with
 | h t ih =>
   intro hf hfr hnd w B v hv
   obtain ⟨s,rfl,hs⟩:=hv
   obtain ⟨p,cap,rfl,hlen⟩:=hs.slice
   rw [Tr.nmT_free hfr]
   have hsub:∀ u,u ∈ t.subs→u.InForm∧u.freeT=true∧u.ndT ≤ 1000000:=fun u hu=>by
     rw [Tr.freeT_eq,Bool.and_eq_true,Tr.freeL_iff] at hfr
     refine ⟨hf.sub hu,hfr.2 u hu, ?_⟩
     have:=Tr.nd_mem hu
     rw [Tr.ndT_eq] at hnd
     omega
   have hnl:Tr.ndS (t.subs.map Tr.nmT) ≤ 1000000:=Nat.le_trans (Tr.nd_nmS fun u hu=>hf.sub hu) (by rw [Tr.ndT_eq] at hnd;omega)
   have h8:t.kind=8→t.subs.length=1:=fun e=>by obtain ⟨x,hx,-⟩:=hf.rep e;rw [hx];rfl
   have h0:t.kind ≠ 5→t.kind ≠ 6→t.kind ≠ 8→t.subs=[]:=fun h5 h6 h8=>by
     rw [Tr.freeT_eq,Bool.and_eq_true,decide_eq_true_eq] at hfr
     have h9:=hf.fields
     unfold Tr.fieldsOk at h9
     rcases h9 with h | h | h | h | h
     · exact h.2.2.2.2.2.1
     · exact h.2.1
     · omega
     · exact absurd h.1 hfr.1
     · omega
   have h56:∀ u,u ∈ t.subs→u.nmT.kind=t.kind→t.kind ≠ 8→u.nmT.subs ≠ []:=fun u hu e h8=>by
     have hh:=hsub u hu
     refine (Tr.simp_nm hh.1 hh.2.1).form.some56 ?_
     by_cases h5:t.kind=5
     · exact .inl (by rw [e,h5])
     · by_cases h6:t.kind=6
       · exact .inr (by rw [e,h6])
       · rw [h0 h5 h6 h8] at hu;cases hu
   have HH8:=Lib.hid h8;have HH0:=Lib.hid h0;have HH56:=Lib.hid h56
   have HIH:=Lib.hid (fun u (hu:u ∈ t.subs)=>ih u hu (hsub u hu).1 (hsub u hu).2.1 (hsub u hu).2.2)
   have HNL:=Lib.hid (Nat.le_trans (Tr.lqL_len t.kind (t.subs.map Tr.nmT)) hnl)
   clear ih hf hfr hnd hsub hnl h8 h0 h56
   cases t with | node k a b c d ts n lo hi br =>
   simp only [Tr.cells,Tr.kind,Tr.w0,Tr.w1,Tr.w2,Tr.w3,Tr.num,Tr.least,Tr.most,Tr.bare,Tr.subs] at *
   obtain ⟨ie,hi0,hz0,hz1,hz2⟩:=info_parts Tryd.infoNode
   have HI:=Lib.hid hi0;have HZ0:=Lib.hid hz0;have HZ1:=Lib.hid hz1;have HZ2:=Lib.hid hz2
   have hz:=two_new w (.cells #[.int .i64 k,.int .u64 (Oc.U a),.int .u64 (Oc.U b),.int .u64 (Oc.U c),.int .u64 (Oc.U d),.slice p ts.length cap,.int .i64 n,.int .i64 lo,.int .i64 hi,.bool br] 37) (.cells noNode 37)
   have hb0:Below w.heap.size w ((w.alloc (.cells #[.int .i64 k,.int .u64 (Oc.U a),.int .u64 (Oc.U b),.int .u64 (Oc.U c),.int .u64 (Oc.U d),.slice p ts.length cap,.int .i64 n,.int .i64 lo,.int .i64 hi,.bool br] 37)).alloc (.cells noNode 37)):=by go_grown
   have hs0:((w.alloc (.cells #[.int .i64 k,.int .u64 (Oc.U a),.int .u64 (Oc.U b),.int .u64 (Oc.U c),.int .u64 (Oc.U d),.slice p ts.length cap,.int .i64 n,.int .i64 lo,.int .i64 hi,.bool br] 37)).alloc (.cells noNode 37)).heap.size=w.heap.size+2:=by simp
   have Z0:=Lib.hid hz.1;have Z1:=Lib.hid hz.2;have HB0:=Lib.hid hb0;have HS0:=Lib.hid hs0
   have HS:=Lib.hid hs
   obtain ⟨fs,hfs⟩:∃ fs,fs=ts.map Tr.nmT:=⟨_,rfl⟩
   have HFS:=Lib.hid (fun (i:Nat) (x:Tr) (hx:ts[i]? = some x)=>(show fs[i]? = some x.nmT by rw [hfs,List.getElem?_map,hx];rfl))
   have HFL:=Lib.hid (show fs.length=ts.length by rw [hfs,List.length_map])
   rw [← hfs] at HNL ⊢
   clear hz hb0 hs0 hs hi0 hz0 hz1 hz2 hfs
   go_enter Tryd.func125,Tryd.ntmps125
   go_upto_region 1 with (fail)
   generalize (w.alloc _).alloc _=W0 at *
   go_wp2
   go_loopw [4,3] (fun iv sv wr=>∃ (m:Nat) (ps:List (Tr × Value)),iv=.int .i64 m∧m ≤ ts.length∧Hid (ps.map (·.1)=Tr.lqL k (fs.take m))∧Hid (RowP (fun b=>w.heap.size+2 ≤ b) W0.heap.size wr sv ps)∧Hid (Below W0.heap.size W0 wr)) (fun iv _ _=>ts.length - (intOf iv).toNat)
   case atStart=>exact ⟨0,[],rfl,Nat.zero_le _,Lib.hid (by unfold Tr.lqL;split <;> rfl),Lib.hid (RowP.nil _ _ _),Lib.hid (Below.refl _ _)⟩
   case round =>
     obtain ⟨m,ps,rfl,hm,HP,HR,HB⟩:=hrel
     have wm:IntKind.i64.wrap ((m:Int)+1)=(m:Int)+1:=IntWalk.i64_in _ (by omega)
     have ZB:=Lib.hid ((HB.out.block _ (by have:=HS0.out;omega)).trans Z0.out)
     have ZE:=Lib.hid ((HB.out.block _ (by have:=HS0.out;omega)).trans Z1.out)
     have HBE:=Lib.hid (HB0.out.trans (HB.out.mono HB0.out.size))
     have HWR:=Lib.hid (show w.heap.size+2 ≤ wr.heap.size from by have:=HB.out.size;have:=HS0.out;omega)
     by_cases hlt:m < ts.length
     · obtain ⟨x,hx⟩:∃ x,ts[m]? = some x:=⟨_,List.getElem?_eq_getElem hlt⟩
       obtain ⟨b1,o1,s1,rfl,-,t1,sub1⟩:=HS.out.get hx
       obtain ⟨d0,d1,d2,d3,d4,d5,d6,d7,d8,d9⟩:=t1.keep (HBE.out.block _ t1.lt)
       have hmem:=List.mem_of_getElem? hx
       obtain ⟨p1,c1,rfl,hl1⟩:=sub1.slice
       have HCALL:=Lib.hid (HIH.out x hmem wr B (.agg (x.cells (.slice p1 x.subs.length c1))) ⟨_,rfl,sub1.later HBE.out⟩)
       have HST:=Lib.hid (Tr.lqL_take k fs m x.nmT (HFS.out m x hx))
       have HLE:=Lib.hid (Tr.lqL_le k fs (m+1))
       have HX:=Lib.hid (HH56.out x hmem)
       have hpl:=Lib.hid (len_fst HP.out)
       clear t1 sub1 hmem hx
       generalize x.nmT=y at *
       unfold Tr.cells at HCALL
       obtain ⟨f5,-⟩:=at5 ZB.out
       go_wp2_with fail
       clear d0 d1 d2 d3 d4 d5 d6 d7 d8 d9 f5
       refine HCALL.out.mono ?_
       intro e w2 he
       obtain ⟨s2,rfl,ht,hb2⟩:=he.of
       obtain ⟨p2,c2,rfl,hl2⟩:=ht.slice
       clear he HCALL
       have hb3:Below wr.heap.size wr (w2.alloc (.cells #[.int .i64 y.kind,.int .u64 (Oc.U y.w0),.int .u64 (Oc.U y.w1),.int .u64 (Oc.U y.w2),.int .u64 (Oc.U y.w3),.slice p2 y.subs.length c2,.int .i64 y.num,.int .i64 y.least,.int .i64 y.most,.bool y.bare] 37)):=hb2.alloc hb2.size _
       have HBR:=Lib.hid hb3
       have Z5:=Lib.hid (heap_alloc_new w2 (.cells #[.int .i64 y.kind,.int .u64 (Oc.U y.w0),.int .u64 (Oc.U y.w1),.int .u64 (Oc.U y.w2),.int .u64 (Oc.U y.w3),.slice p2 y.subs.length c2,.int .i64 y.num,.int .i64 y.least,.int .i64 y.most,.bool y.bare] 37))
       have HSY:=Lib.hid (ht.later ((Below.refl w2.heap.size w2).alloc (Nat.le_refl _) (.cells #[.int .i64 y.kind,.int .u64 (Oc.U y.w0),.int .u64 (Oc.U y.w1),.int .u64 (Oc.U y.w2),.int .u64 (Oc.U y.w3),.slice p2 y.subs.length c2,.int .i64 y.num,.int .i64 y.least,.int .i64 y.most,.bool y.bare] 37)))
       unfold Tr.cells
       go_upto_region 6 with (fail)
       clear ht hb2 hb3
       generalize hT5:w2.heap.size=T5 at *
       generalize w2.alloc _=w3 at *
       have HR3:=Lib.hid (HR.out.below HBR.out)
       have HB3:=Lib.hid (HB.out.trans (HBR.out.mono HB.out.size))
       have HLT3:=Lib.hid (fun k e=>(HR.out.lt k e).2)
       have ZB3:=Lib.hid (keep_blk HBR.out ZB.out)
       clear HBR HR HB ZB ZE HBE hT5
       by_cases hk:y.kind=k
       · have ek:(y.kind == k)=true:=by simpa using hk
         by_cases h8:k=8
         · have e8:(k != 8)=false:=by simp [h8]
           rw [if_neg (fun e=>e.2 h8)] at HST
           clear hk h8
           obtain ⟨q0,q1,q2,q3,q4,q5,q6,q7,q8,q9⟩:=allTen Z5.out
           obtain ⟨f0,-⟩:=allTen ZB3.out
           have HOWN2:=Lib.hid (HR3.out.1.alloc (.cells (y.cells (.slice p2 y.subs.length c2)) 37))
           have HNW:=Lib.hid (news_one w3 y p2 y.subs.length c2 37)
           have HBA:Hid (W0.heap.size ≤ (w3.alloc (.cells (y.cells (.slice p2 y.subs.length c2)) 37)).heap.size):=Lib.hid (by have:=HB3.out.size;simp;omega)
           have htot:Hid (ps.length+1 ≤ 1000000):=Lib.hid (by
             have a:=congrArg List.length HST.out
             rw [List.length_append] at a
             have b:=HLE.out;have c:=HNL.out;have d:=hpl.out
             have e:[y].length=1:=rfl
             omega)
           have hml:ps.length+1 ≤ maxLen:=by have:=htot.out;unfold maxLen;omega
           have hbyt:(ps.length+1) * 96 ≤ 140737488355328:=by have:=htot.out;omega
           go_wp2_with (first
             | (refine wpList_load_row rfl 37 (.tmp 5) rfl T5 rfl 37 _ (0,0) _ Z5.out Tryd.underlying37 rfl (by kernel_rfl) ?_)
             | (refine wpList_node1 rfl (.tmp 34) y p2 y.subs.length c2 rfl rfl ?_)
             | (refine wpList_append_fresh _ rfl (.tmp 33) (.tmp 35) 35 rfl W0.heap.size 37 ie _ 10 96 Tryd.underlying35 HI.out HZ0.out HZ1.out HZ2.out rfl (by decide) _ _ _ rfl HOWN2.out ⟨w3.heap.size,0,none⟩ 1 1 (y.cells (.slice p2 y.subs.length c2)).toList rfl rfl HNW.out (nodeC_one _ _ _ _) (by decide) hml hbyt HBA.out ?_;intro v' w5 hown5 hgrow5 hwhere)
             | fail)
           have HG5:=Lib.hid hgrow5;have HW5:=Lib.hid hwhere
           have HSB:Hid (TreesAt w3 (fun b=>w.heap.size+2 ≤ b∧u3.ownBlock ≠ some b) (.slice p2 y.subs.length c2) y.subs):=Lib.hid (HSY.out.mono fun b _ hb=>⟨by have:=HS0.out;have:=HWR.out;omega,fun e=>by have:=HLT3.out b e;omega⟩)
           have HR5:=Lib.hid (HR3.out.app (Below.refl w3.heap.size w3) HSB.out hown5 HG5.out HW5.out)
           have hb6:Below w3.heap.size w3 (w3.alloc (.cells (y.cells (.slice p2 y.subs.length c2)) 37)):=(Below.refl w3.heap.size w3).alloc (Nat.le_refl _) _
           have HB5:=Lib.hid ((HB3.out.trans (hb6.mono HB3.out.size)).grown HG5.out HBA.out (fun k e=>(HR3.out.lt k e).1))
           exact ⟨⟨m+1,ps ++ [(y,.slice p2 y.subs.length c2)],by go_num,by omega,Lib.hid (by rw [List.map_append,HP.out,HST.out];rfl),HR5,HB5⟩,by simp [intOf];omega⟩
         · have e8:(k != 8)=true:=by simpa using h8
           rw [if_pos ⟨hk,h8⟩] at HST
           obtain ⟨b2,o2,qs,rfl,hq1,hq2,hq3,hq4⟩:=HSY.out.rowPs (HX.out hk h8)
           have hql:=len_fst hq1
           have HQ1:=Lib.hid hq1;have HQ2:=Lib.hid hq2;have HQ3:=Lib.hid hq3
           have HQ4:=Lib.hid (fun (i:Nat) (t:Tr) (s:Value) (hi:qs[i]? = some (t,s))=>(hq4 i t s hi).mono (B':=fun b=>w.heap.size+2 ≤ b∧u3.ownBlock ≠ some b) fun b hb1 hb2=>⟨by have:=HWR.out;omega,fun e=>by have:=HLT3.out b e;omega⟩)
           have hpos:0 < y.subs.length:=List.length_pos_iff.2 (HX.out hk h8)
           have hrl:Hid ((rowOf qs).length=y.subs.length * 10):=Lib.hid (by rw [rowOf_length,hql])
           have htot:Hid (ps.length+y.subs.length ≤ 1000000):=Lib.hid (by
             have a:=congrArg List.length HST.out
             rw [List.length_append] at a
             have b:=HLE.out;have c:=HNL.out;have d:=hpl.out
             omega)
           have hml:ps.length+y.subs.length ≤ maxLen:=by have:=htot.out;unfold maxLen;omega
           have hbyt:(ps.length+y.subs.length) * 96 ≤ 140737488355328:=by have:=htot.out;omega
           have HBA:Hid (W0.heap.size ≤ w3.heap.size):=Lib.hid HB3.out.size
           clear hq1 hq2 hq3 hq4 hk h8
           obtain ⟨q0,q1,q2,q3,q4,q5,q6,q7,q8,q9⟩:=allTen Z5.out
           obtain ⟨f0,-⟩:=allTen ZB3.out
           go_wp2_with (first
             | (refine wpList_append_fresh _ rfl (.tmp 29) (.tmp 31) 35 rfl W0.heap.size 37 ie _ 10 96 Tryd.underlying35 HI.out HZ0.out HZ1.out HZ2.out rfl (by decide) _ _ _ rfl HR3.out.1 ⟨b2,o2,none⟩ y.subs.length c2 (rowOf qs) rfl hrl.out HQ2.out (rowOf_one HQ3.out) hpos hml hbyt HBA.out ?_;intro v' w5 hown5 hgrow5 hwhere)
             | fail)
           have HG5:=Lib.hid hgrow5;have HW5:=Lib.hid hwhere
           have HR5:=Lib.hid (HR3.out.more HQ4.out (by rw [hql];exact hown5) HG5.out HW5.out)
           have HB5:=Lib.hid (HB3.out.grown HG5.out HBA.out (fun k e=>(HR3.out.lt k e).1))
           exact ⟨⟨m+1,ps ++ qs,by go_num,by omega,Lib.hid (by rw [List.map_append,HP.out,HQ1.out,HST.out]),HR5,HB5⟩,by simp [intOf];omega⟩
       · have ek:(y.kind == k)=false:=by simpa using hk
         rw [if_neg (fun e=>hk e.1)] at HST
         clear hk
         obtain ⟨q0,q1,q2,q3,q4,q5,q6,q7,q8,q9⟩:=allTen Z5.out
         obtain ⟨f0,-⟩:=allTen ZB3.out
         have HOWN2:=Lib.hid (HR3.out.1.alloc (.cells (y.cells (.slice p2 y.subs.length c2)) 37))
         have HNW:=Lib.hid (news_one w3 y p2 y.subs.length c2 37)
         have HBA:Hid (W0.heap.size ≤ (w3.alloc (.cells (y.cells (.slice p2 y.subs.length c2)) 37)).heap.size):=Lib.hid (by have:=HB3.out.size;simp;omega)
         have htot:Hid (ps.length+1 ≤ 1000000):=Lib.hid (by
           have a:=congrArg List.length HST.out
           rw [List.length_append] at a
           have b:=HLE.out;have c:=HNL.out;have d:=hpl.out
           have e:[y].length=1:=rfl
           omega)
         have hml:ps.length+1 ≤ maxLen:=by have:=htot.out;unfold maxLen;omega
         have hbyt:(ps.length+1) * 96 ≤ 140737488355328:=by have:=htot.out;omega
         go_wp2_with (first
           | (refine wpList_load_row rfl 37 (.tmp 5) rfl T5 rfl 37 _ (0,0) _ Z5.out Tryd.underlying37 rfl (by kernel_rfl) ?_)
           | (refine wpList_node1 rfl (.tmp 34) y p2 y.subs.length c2 rfl rfl ?_)
           | (refine wpList_append_fresh _ rfl (.tmp 33) (.tmp 35) 35 rfl W0.heap.size 37 ie _ 10 96 Tryd.underlying35 HI.out HZ0.out HZ1.out HZ2.out rfl (by decide) _ _ _ rfl HOWN2.out ⟨w3.heap.size,0,none⟩ 1 1 (y.cells (.slice p2 y.subs.length c2)).toList rfl rfl HNW.out (nodeC_one _ _ _ _) (by decide) hml hbyt HBA.out ?_;intro v' w5 hown5 hgrow5 hwhere)
           | fail)
         have HG5:=Lib.hid hgrow5;have HW5:=Lib.hid hwhere
         have HSB:Hid (TreesAt w3 (fun b=>w.heap.size+2 ≤ b∧u3.ownBlock ≠ some b) (.slice p2 y.subs.length c2) y.subs):=Lib.hid (HSY.out.mono fun b _ hb=>⟨by have:=HS0.out;have:=HWR.out;omega,fun e=>by have:=HLT3.out b e;omega⟩)
         have HR5:=Lib.hid (HR3.out.app (Below.refl w3.heap.size w3) HSB.out hown5 HG5.out HW5.out)
         have hb6:Below w3.heap.size w3 (w3.alloc (.cells (y.cells (.slice p2 y.subs.length c2)) 37)):=(Below.refl w3.heap.size w3).alloc (Nat.le_refl _) _
         have HB5:=Lib.hid ((HB3.out.trans (hb6.mono HB3.out.size)).grown HG5.out HBA.out (fun k e=>(HR3.out.lt k e).1))
         exact ⟨⟨m+1,ps ++ [(y,.slice p2 y.subs.length c2)],by go_num,by omega,Lib.hid (by rw [List.map_append,HP.out,HST.out];rfl),HR5,HB5⟩,by simp [intOf];omega⟩
     · obtain rfl:m=ts.length:=by omega
       have hln:fs.take ts.length=fs:=by rw [← HFL.out,List.take_length]
       have hNL:=HNL.out
       have hTT:=HR.out.trees (fun b hb=>by have:=HS0.out;omega) (by rw [len_fst HP.out,hln];omega)
       rw [HP.out,hln] at hTT
       obtain ⟨p3,c3,rfl,-⟩:=hTT.slice
       have HTT:=Lib.hid hTT
       obtain ⟨f0,-⟩:=allTen ZB.out
       obtain ⟨f5,-⟩:=at5 ZB.out
       clear hTT HR HP HB HIH HFS hln hlt wm hm HH56
       by_cases k5:k=5
       · have e5:(k == 5)=true:=by simpa using k5
         have hR:Tr.simN k a b c d fs n lo hi br=Tr.seqF fs:=by unfold Tr.simN;rw [if_pos k5]
         have hL:Tr.lqL k fs=Tr.openL 5 fs:=by unfold Tr.lqL;rw [if_neg (by omega),k5]
         rw [hL] at HTT hNL ⊢
         have hC:=refrow_any (Tr.openL 5 fs) hNL wr (fun b=>w.heap.size+2 ≤ b) (fun b hb=>Nat.le_trans HWR.out hb) _ HTT.out
         rw [show (if (Tr.openL 5 fs).any Tr.isNone=true then Tr.noneT else Tr.several 5 (Tr.seqL (Tr.openL 5 fs)))=Tr.seqF fs from rfl] at hC
         have HC:=Lib.hid hC
         have HRE:=Lib.hid hR
         clear hC hR hL k5
         generalize Tr.seqF fs=R at *
         generalize Tr.openL 5 fs=L at *
         go_wp2_with fail
         clear f0 f5
         refine (HC.out).mono ?_
         rintro e w2 ⟨s2,rfl,ho,hb2⟩
         obtain ⟨p2,c2,rfl,-⟩:=ho.slice
         have HO:=Lib.hid ho
         have Y1:=Lib.hid (keep_blk hb2 ZE.out)
         have HB2:=Lib.hid (HBE.out.trans (hb2.mono HBE.out.size))
         clear ho hb2 HC
         unfold Tr.cells
         go_wp2_with (first
           | (refine wpList_store_row rfl 37 (.tmp 2) (.tmp 42) rfl (w.heap.size+1) #[.int .i64 R.kind,.int .u64 (Oc.U R.w0),.int .u64 (Oc.U R.w1),.int .u64 (Oc.U R.w2),.int .u64 (Oc.U R.w3),.slice p2 R.subs.length c2,.int .i64 R.num,.int .i64 R.least,.int .i64 R.most,.bool R.bare] rfl rfl 37 _ Y1.out (by kernel_rfl) rfl (by simp [Value.oneCell']) ?_)
           | fail)
         refine bodyPost_ret (results_cell_row rfl _ _ (w.heap.size+1) 37 #[.int .i64 R.kind,.int .u64 (Oc.U R.w0),.int .u64 (Oc.U R.w1),.int .u64 (Oc.U R.w2),.int .u64 (Oc.U R.w3),.slice p2 R.subs.length c2,.int .i64 R.num,.int .i64 R.least,.int .i64 R.most,.bool R.bare] (0,0) _ rfl (heap_setRow Y1.out) Tryd.underlying37 rfl (by kernel_rfl)) rfl ⟨_,rfl, ?_,below_setRow HB2.out (Nat.le_succ _) _⟩
         rw [HRE.out]
         refine ⟨.slice p2 R.subs.length c2,rfl, ?_⟩
         exact (HO.out.keep fun b _ hb=>by rw [heap_setRow_other _ _ _ (by omega)]).mono fun b _ hb=>by omega
       have e5:(k == 5)=false:=by simpa using k5
       by_cases k6:k=6
       · have e6:(k == 6)=true:=by simpa using k6
         have hR:Tr.simN k a b c d fs n lo hi br=Tr.altF fs:=by unfold Tr.simN;rw [if_neg k5,if_pos k6]
         have hL:Tr.lqL k fs=Tr.openL 6 fs:=by unfold Tr.lqL;rw [if_neg (by omega),k6]
         rw [hL] at HTT hNL ⊢
         have hC:=refchoice_any (Tr.openL 6 fs) hNL wr (fun b=>w.heap.size+2 ≤ b) (fun b hb=>Nat.le_trans HWR.out hb) _ HTT.out
         rw [show Tr.altT (Tr.chF (Tr.orL (Tr.openL 6 fs)) (Tr.openL 6 fs)).1=Tr.altF fs by unfold Tr.altF Tr.altL Tr.chF;rw [Tr.choice_is]] at hC
         have HC:=Lib.hid hC
         have HRE:=Lib.hid hR
         clear hC hR hL k5 k6
         generalize Tr.altF fs=R at *
         generalize Tr.openL 6 fs=L at *
         go_wp2_with fail
         clear f0 f5
         refine (HC.out).mono ?_
         rintro e w2 ⟨s2,rfl,ho,hb2⟩
         obtain ⟨p2,c2,rfl,-⟩:=ho.slice
         have HO:=Lib.hid ho
         have Y1:=Lib.hid (keep_blk hb2 ZE.out)
         have HB2:=Lib.hid (HBE.out.trans (hb2.mono HBE.out.size))
         clear ho hb2 HC
         unfold Tr.cells
         go_wp2_with (first
           | (refine wpList_store_row rfl 37 (.tmp 2) (.tmp 46) rfl (w.heap.size+1) #[.int .i64 R.kind,.int .u64 (Oc.U R.w0),.int .u64 (Oc.U R.w1),.int .u64 (Oc.U R.w2),.int .u64 (Oc.U R.w3),.slice p2 R.subs.length c2,.int .i64 R.num,.int .i64 R.least,.int .i64 R.most,.bool R.bare] rfl rfl 37 _ Y1.out (by kernel_rfl) rfl (by simp [Value.oneCell']) ?_)
           | fail)
         refine bodyPost_ret (results_cell_row rfl _ _ (w.heap.size+1) 37 #[.int .i64 R.kind,.int .u64 (Oc.U R.w0),.int .u64 (Oc.U R.w1),.int .u64 (Oc.U R.w2),.int .u64 (Oc.U R.w3),.slice p2 R.subs.length c2,.int .i64 R.num,.int .i64 R.least,.int .i64 R.most,.bool R.bare] (0,0) _ rfl (heap_setRow Y1.out) Tryd.underlying37 rfl (by kernel_rfl)) rfl ⟨_,rfl, ?_,below_setRow HB2.out (Nat.le_succ _) _⟩
         rw [HRE.out]
         refine ⟨.slice p2 R.subs.length c2,rfl, ?_⟩
         exact (HO.out.keep fun b _ hb=>by rw [heap_setRow_other _ _ _ (by omega)]).mono fun b _ hb=>by omega
       have e6:(k == 6)=false:=by simpa using k6
       by_cases k8:k=8
       · have e8:(k == 8)=true:=by simpa using k8
         obtain ⟨x,rfl⟩:=List.length_eq_one_iff.1 (show fs.length=1 by rw [HFL.out];exact HH8.out k8)
         have hR:Tr.simN k a b c d [x] n lo hi br=Tr.repF lo hi x:=by unfold Tr.simN;rw [if_neg k5,if_neg k6,if_pos k8];rfl
         have hL:Tr.lqL k [x]=[x]:=by unfold Tr.lqL;rw [if_pos k8]
         rw [hL] at HTT ⊢
         have HRE:=Lib.hid hR
         obtain ⟨b1,o1,s1,rfl,-,t1,sub1⟩:=HTT.out.get (i:=0) (t:=x) rfl
         have t1':TenAt wr b1 o1 x s1:=by simpa using t1
         obtain ⟨p1,c1,rfl,hl1⟩:=sub1.slice
         have T1:=Lib.hid t1';have LT1:=Lib.hid t1'.lt
         rw [show [x].length=1 from rfl]
         have HC:=Lib.hid (fun w9 (hb:Below wr.heap.size wr w9)=>refrepeat_any (.node k a b c d ts n lo hi br) x w9 p ts.length cap (.slice p1 x.subs.length c1) (fun b=>w.heap.size+2 ≤ b) (fun b hb9=>Nat.le_trans (Nat.le_trans HWR.out hb.size) hb9) (sub1.later hb))
         simp only [Tr.least,Tr.most] at HC
         generalize Tr.repF lo hi x=R at *
         unfold Tr.cells at HC
         simp only [Tr.kind,Tr.w0,Tr.w1,Tr.w2,Tr.w3,Tr.num,Tr.least,Tr.most,Tr.bare] at HC
         generalize c3=cf at *
         clear t1 t1' sub1 hR hL k5 k6 k8
         go_upto_region 15 with (fail)
         clear f0 f5
         refine Ri.wp_region_late (by kernel_rfl) (by kernel_rfl) (by kernel_rfl) (by kernel_rfl) 5 (by kernel_rfl) (by kernel_rfl) (fun kk ww vv=>match kk with | 0=>vv=.agg #[.int .i64 k,.int .u64 (Oc.U a),.int .u64 (Oc.U b),.int .u64 (Oc.U c),.int .u64 (Oc.U d),.slice p ts.length cap,.int .i64 n,.int .i64 lo,.int .i64 hi,.bool br] | 1=>vv=.slice (some ⟨b1,o1,none⟩) 1 cf | 2=>vv=.pointer (some ⟨b1,o1,none⟩) | 3=>vv=.agg #[.int .i64 x.kind,.int .u64 (Oc.U x.w0),.int .u64 (Oc.U x.w1),.int .u64 (Oc.U x.w2),.int .u64 (Oc.U x.w3),.slice p1 x.subs.length c1,.int .i64 x.num,.int .i64 x.least,.int .i64 x.most,.bool x.bare] | 4=>AnsAt R (fun b=>w.heap.size+2 ≤ b) ww vv | _=>True) (fun vv ww=>∃ p8 c8,ww.heap[w.heap.size+1]? = some (.cells #[.int .i64 R.kind,.int .u64 (Oc.U R.w0),.int .u64 (Oc.U R.w1),.int .u64 (Oc.U R.w2),.int .u64 (Oc.U R.w3),.slice p8 R.subs.length c8,.int .i64 R.num,.int .i64 R.least,.int .i64 R.most,.bool R.bare] 37)∧TreesAt ww (fun b=>w.heap.size+2 ≤ b) (.slice p8 R.subs.length c8) R.subs∧Below w.heap.size w ww) (fun kk ww vv w8 h hb=>by
                       match kk,h with
                       | 0,h=>exact h
                       | 1,h=>exact h
                       | 2,h=>exact h
                       | 3,h=>exact h
                       | 4,h=>exact h.below hb
                       | _+5,_=>trivial) ?_ ?_ ?_
         · intro i hi9 L v w9 xa hF9 hL hd hv ho
           obtain ⟨hb,hk⟩:=hF9
           have hi':i=0 ∨ i=1 ∨ i=2 ∨ i=3 ∨ i=4:=by omega
           rcases hi' with rfl | rfl | rfl | rfl | rfl
           · have e1:xa.tmps.getD 1 undef=.pointer (some ⟨w.heap.size,0,none⟩):=ho 1 (by kernel_rfl)
             refine Ri.step_plain rfl rfl (fun K' hK'=>?_)
             refine wp_load_row _ _ rfl _ e1 _ _ _ _ (keep_blk hb ZB.out) Tryd.underlying37 rfl (by kernel_rfl) ?_
             exact hK' _ _ ⟨_,_,rfl,rfl,Below.refl _ _,rfl⟩
           · have e3:xa.tmps.getD 3 undef=.slice (some ⟨b1,o1,none⟩) 1 cf:=ho 3 (by kernel_rfl)
             refine Ri.step_plain rfl rfl (fun K' hK'=>?_)
             go_simp
             exact hK' _ _ ⟨_,_,rfl,rfl,(Below.refl _ _),rfl⟩
           · have j1:L 1=true:=by have:=hd _ rfl;simp [Region.binds] at this;simp [this]
             have f1:=(hv 1 50 rfl j1).trans (hk 1 j1)
             refine Ri.step_plain rfl rfl (fun K' hK'=>?_)
             go_simp
             exact hK' _ _ ⟨_,_,rfl,rfl,(Below.refl _ _),rfl⟩
           · have j2:L 2=true:=by have:=hd _ rfl;simp [Region.binds] at this;simp [this]
             have f2:=(hv 2 51 rfl j2).trans (hk 2 j2)
             refine Ri.step_plain rfl rfl (fun K' hK'=>?_)
             obtain ⟨d0,d1,d2,d3,d4,d5,d6,d7,d8,d9⟩:=T1.out.keep (hb.block _ LT1.out)
             go_simp
             exact hK' _ _ ⟨_,_,rfl,rfl,(Below.refl _ _),rfl⟩
           · obtain ⟨j0,j3⟩:L 0=true∧L 3=true:=by have:=hd _ rfl;simp [Region.binds] at this;simp [this]
             have f0:=(hv 0 49 rfl j0).trans (hk 0 j0)
             have f3:=(hv 3 52 rfl j3).trans (hk 3 j3)
             refine Ri.step_plain rfl rfl (fun K' hK'=>?_)
             go_simp
             refine (HC.out w9 hb).mono ?_
             rintro e w8 ⟨s8,rfl,ht8,hb8⟩
             exact hK' _ _ ⟨_,_,rfl,rfl,hb8,⟨s8,rfl,ht8⟩⟩
         · intro L v w9 xa hF9 hall hv ho
           obtain ⟨hb,hk⟩:=hF9
           have f0:=(hv 0 49 rfl (hall 0 (by omega))).trans (hk 0 (hall 0 (by omega)))
           have f1:=(hv 1 50 rfl (hall 1 (by omega))).trans (hk 1 (hall 1 (by omega)))
           have f2:=(hv 2 51 rfl (hall 2 (by omega))).trans (hk 2 (hall 2 (by omega)))
           have f3:=(hv 3 52 rfl (hall 3 (by omega))).trans (hk 3 (hall 3 (by omega)))
           have k4:AnsAt R (fun b=>w.heap.size+2 ≤ b) w9 (v 4):=hk 4 (hall 4 (by omega))
           have f4:=hv 4 53 rfl (hall 4 (by omega))
           have e2:xa.tmps.getD 2 undef=.pointer (some ⟨(w.heap.size+1),0,none⟩):=ho 2 (by kernel_rfl)
           refine Ri.step_plain rfl rfl (fun K' hK'=>?_)
           obtain ⟨s8,e8,ht8⟩:=k4
           obtain ⟨p8,c8,rfl,-⟩:=ht8.slice
           have f8:=f4.trans e8
           unfold Tr.cells at f8
           refine wp_store_row _ _ _ rfl (w.heap.size+1) #[.int .i64 R.kind,.int .u64 (Oc.U R.w0),.int .u64 (Oc.U R.w1),.int .u64 (Oc.U R.w2),.int .u64 (Oc.U R.w3),.slice p8 R.subs.length c8,.int .i64 R.num,.int .i64 R.least,.int .i64 R.most,.bool R.bare] e2 f8 37 _ (keep_blk hb ZE.out) (by kernel_rfl) (by kernel_rfl) (by simp [Value.oneCell']) ?_
           exact hK' _ _ ⟨_,undef,rfl,rfl,⟨p8,c8,heap_setRow (keep_blk hb ZE.out),ht8.keep (fun b _ h=>by rw [heap_setRow_other _ _ _ (by omega)]),below_setRow (HBE.out.trans (hb.mono HBE.out.size)) (Nat.le_succ _) _⟩⟩
         · intro v w9 hfin
           obtain ⟨p8,c8,hz8,ht8,hb8⟩:=hfin
           simp only [Ri.frame,List.zipIdx,List.foldl_cons,List.foldl_nil,if_true,List.setIfInBounds_toArray,List.set_cons_zero,List.set_cons_succ,Nat.reduceAdd]
           generalize v 0=z0;generalize v 1=z1;generalize v 2=z2;generalize v 3=z3;generalize v 4=z4
           have HZ8:=Lib.hid hz8;have HT8:=Lib.hid ht8;have HB8:=Lib.hid hb8
           clear hz8 ht8 hb8
           go_wp2
           exact bodyPost_ret (results_cell_row rfl _ _ (w.heap.size+1) 37 #[.int .i64 R.kind,.int .u64 (Oc.U R.w0),.int .u64 (Oc.U R.w1),.int .u64 (Oc.U R.w2),.int .u64 (Oc.U R.w3),.slice p8 R.subs.length c8,.int .i64 R.num,.int .i64 R.least,.int .i64 R.most,.bool R.bare] (0,0) _ rfl HZ8.out Tryd.underlying37 rfl (by kernel_rfl)) rfl ⟨_,rfl,by rw [HRE.out];exact ⟨.slice p8 R.subs.length c8,rfl,HT8.out.mono fun b _ hb=>by omega⟩,HB8.out⟩
       have e8:(k == 8)=false:=by simpa using k8
       have hR:Tr.simN k a b c d fs n lo hi br=.node k a b c d [] n lo hi br:=by unfold Tr.simN;rw [if_neg k5,if_neg k6,if_neg k8]
       have hts:=HH0.out k5 k6 k8
       have HTS:=Lib.hid hts
       have HRE:=Lib.hid hR
       clear k5 k6 k8 hR hts
       go_wp2_with (first
         | (refine wpList_load_row rfl 37 (.tmp 1) rfl w.heap.size rfl 37 _ (0,0) _ ZB.out Tryd.underlying37 rfl (by kernel_rfl) ?_)
         | (refine wpList_store_row rfl 37 (.tmp 2) (.tmp 54) rfl (w.heap.size+1) #[.int .i64 k,.int .u64 (Oc.U a),.int .u64 (Oc.U b),.int .u64 (Oc.U c),.int .u64 (Oc.U d),.slice p ts.length cap,.int .i64 n,.int .i64 lo,.int .i64 hi,.bool br] rfl rfl 37 _ ZE.out (by kernel_rfl) rfl (by simp [Value.oneCell']) ?_)
         | fail)
       exact bodyPost_ret (results_cell_row rfl _ _ (w.heap.size+1) 37 #[.int .i64 k,.int .u64 (Oc.U a),.int .u64 (Oc.U b),.int .u64 (Oc.U c),.int .u64 (Oc.U d),.slice p ts.length cap,.int .i64 n,.int .i64 lo,.int .i64 hi,.bool br] (0,0) _ rfl (heap_setRow ZE.out) Tryd.underlying37 rfl (by kernel_rfl)) rfl ⟨_,rfl,by rw [HRE.out];exact ⟨.slice p ts.length cap,rfl,by rw [HTS.out];exact TreesAt.nil⟩,below_setRow HBE.out (Nat.le_succ _) _⟩
end Go.Proofs.YtllfgppjobinnaaDoor
namespace Go.Proofs.YtllfgppjobinnaaDoor
open Go.RowKit
namespace Ri
variable {P:Program} {ops:Array Oper} {Q:Exit→Act→World→Prop}
def midst (ops:Array Oper) (p last:Nat) (free:Nat→Bool):Bool:=(List.range last).all fun k=>k == p || free k || (reach ops last (deps ops p)).contains k
theorem wp_region_app {id:Nat} {a:Act} {w:World} (hm:P.follows .mixedOrders=true) (hb:backward ops=true) (hap:apart ops=true) (hsz0:(ops.toList.all fun o=>o.dst.all fun d=>decide (d < a.tmps.size))=true)
   (last p:Nat) (hn:ops.size=last+1) (hp:p < last) (free:Nat→Bool) (hw:waitsT ops last=true) (hwp:midst ops p last free=true)
   (K:Nat→World→Value→Prop) (KF:Value→Nat→Value→Prop) (Mid:Value→World→Prop) (Fin:(Nat→Value)→World→Prop)
   (hK:∀ k w v w',K k w v→Below w.heap.size w w'→K k w' v) (hKF:∀ k w v x,K k w v→KF x k v)
   (step:∀ i,i < last→i ≠ p→∀ (L:Nat→Bool) (v:Nat→Value) (w':World) (a':Act),Fa K w L v w'→L i=false→L p=false→(∀ o,ops[i]? = some o→∀ e ∈ o.after,Region.binds .any e=true→L e.on=true) →
     (∀ j d:Nat,(ops[j]?).bind (·.dst)=some d→L j=true→a'.tmps.getD d undef=v j)→(∀ d,ops.toList.all (fun o=>o.dst != some d)=true→a'.tmps.getD d undef=a.tmps.getD d undef) →
     wpOp P ops Q i (fun b w''=>∃ (o:Oper) (u:Value),ops[i]? = some o∧b=a'.put o.dst u∧Below w'.heap.size w' w''∧K i w'' u) a' w')
   (stepF:∀ i,i < last→free i=true→∀ (L:Nat→Bool) (v:Nat→Value) (w':World) (a':Act),Mid (v p) w'→(∀ k,k < last→k ≠ p→L k=true→KF (v p) k (v k))→L i=false→L p=true→(∀ o,ops[i]? = some o→∀ e ∈ o.after,Region.binds .any e=true→L e.on=true) →
     (∀ j d:Nat,(ops[j]?).bind (·.dst)=some d→L j=true→a'.tmps.getD d undef=v j)→(∀ d,ops.toList.all (fun o=>o.dst != some d)=true→a'.tmps.getD d undef=a.tmps.getD d undef) →
     wpOp P ops Q i (fun b w''=>∃ (o:Oper) (u:Value),ops[i]? = some o∧b=a'.put o.dst u∧w''=w'∧KF (v p) i u) a' w')
   (app:∀ (L:Nat→Bool) (v:Nat→Value) (w':World) (a':Act),Fa K w L v w'→(∀ k,k < last→k ≠ p→free k=false→L k=true) →
     (∀ j d:Nat,(ops[j]?).bind (·.dst)=some d→L j=true→a'.tmps.getD d undef=v j)→(∀ d,ops.toList.all (fun o=>o.dst != some d)=true→a'.tmps.getD d undef=a.tmps.getD d undef) →
     wpOp P ops Q p (fun b w''=>∃ (o:Oper) (u:Value),ops[p]? = some o∧b=a'.put o.dst u∧Mid u w'') a' w')
   (put:∀ (L:Nat→Bool) (v:Nat→Value) (w':World) (a':Act),Mid (v p) w'→(∀ k,k < last→L k=true)→(∀ k,k < last→k ≠ p→KF (v p) k (v k)) →
     (∀ j d:Nat,(ops[j]?).bind (·.dst)=some d→L j=true→a'.tmps.getD d undef=v j)→(∀ d,ops.toList.all (fun o=>o.dst != some d)=true→a'.tmps.getD d undef=a.tmps.getD d undef) →
     wpOp P ops Q last (fun b w''=>∃ (o:Oper) (u:Value),ops[last]? = some o∧b=a'.put o.dst u∧Fin (up v last u) w'') a' w')
   (fin:∀ v w',Fin v w'→Q .normal (frame ops a (fun _=>true) v) w'):(Code.region id ops true).wp P Q a w:=by
 refine wp_region_frame hm hb hap hsz0 (fun L v w'=>(L p=false→Fa K w L v w'∧L last=false)∧(L p=true→L last=false→Mid (v p) w'∧∀ k,k < last→k ≠ p→L k=true→KF (v p) k (v k)) ∧
   (L p=true→∀ k,k < last→k ≠ p→free k=false→L k=true)∧(L last=true→Fin v w'∧∀ k,k < last→L k=true)∧Closed ops L) ⟨fun _=>⟨⟨(Below.refl _ _).drew,fun k h=>by cases h⟩,rfl⟩,(fun h=>by cases h),(fun h=>by cases h),(fun h=>by cases h),fun k h=>by cases h⟩ ?_ ?_
 · intro i hi L v w' a' hI hL hd hv ho
   rw [hn] at hi
   obtain ⟨h1,h2,h3,h4,h5⟩:=hI
   by_cases e:i=last
   · subst e
     have hall:∀ k,k < i→L k=true:=fun k hk=>by
       unfold waitsT at hw
       have h1:=List.all_eq_true.1 hw k (List.mem_range.2 hk)
       rw [List.contains_eq_mem,decide_eq_true_eq] at h1
       exact h5.reach (fun j hj=>Closed.deps hd hj) h1
     have hLp:=hall p hp
     obtain ⟨m1,m2⟩:=h2 hLp hL
     refine wpOp_mono ?_ (put L v w' a' m1 hall (fun k hk hf=>m2 k hk hf (hall k hk)) hv ho)
     rintro b w'' ⟨o,u,g1,g2,g3⟩
     refine ⟨o,u,g1,g2,(fun h=>?_),(fun _ h=>(by rw [up_same] at h;cases h)),(fun _ k hk hkp hf=>?_),(fun _=>⟨g3,fun k hk=>?_⟩),h5.step hd⟩
     · rw [up_other _ _ _ _ (by omega),hLp] at h;cases h
     · rw [up_other _ _ _ _ (by omega)];exact hall k hk
     · rw [up_other _ _ _ _ (by omega)];exact hall k hk
   · have hl:L last=false:=by
       cases h:L last with
       | false=>rfl
       | true=>have:=(h4 h).2 i (by omega);rw [hL] at this;cases this
     by_cases ep:i=p
     · subst ep
       have hall:∀ k,k < last→k ≠ i→free k=false→L k=true:=fun k hk hki hf=>by
         unfold midst at hwp
         have h1:=List.all_eq_true.1 hwp k (List.mem_range.2 hk)
         rw [hf,List.contains_eq_mem] at h1
         simp only [Bool.or_false,Bool.or_eq_true,beq_iff_eq,decide_eq_true_eq] at h1
         rcases h1 with h1 | h1
         · exact absurd h1 hki
         · exact h5.reach (fun j hj=>Closed.deps hd hj) h1
       have hF:=(h1 hL).1
       refine wpOp_mono ?_ (app L v w' a' hF hall hv ho)
       rintro b w'' ⟨o,u,g1,g2,g3⟩
       refine ⟨o,u,g1,g2,(fun h=>(by rw [up_same] at h;cases h)),(fun _ _=>⟨by rw [up_same];exact g3,fun k hk hki hk2=>?_⟩),(fun _ k hk hki hf=>?_),(fun h=>?_),h5.step hd⟩
       · rw [up_same,up_other _ _ _ _ hki]
         rw [up_other _ _ _ _ hki] at hk2
         exact hKF k _ _ _ (hF.2 k hk2)
       · rw [up_other _ _ _ _ hki];exact hall k hk hki hf
       · rw [up_other _ _ _ _ (by omega),hl] at h;cases h
     · cases hLp:L p with
       | false =>
         refine wpOp_mono ?_ (step i (by omega) ep L v w' a' (h1 hLp).1 hL hLp hd hv ho)
         rintro b w'' ⟨o,u,g1,g2,g3,g4⟩
         refine ⟨o,u,g1,g2,(fun _=>⟨(h1 hLp).1.step hK g3 g4,by rw [up_other _ _ _ _ (Ne.symm e)];exact hl⟩),(fun h=>?_),(fun h=>?_),(fun h=>?_),h5.step hd⟩
         · rw [up_other _ _ _ _ (Ne.symm ep),hLp] at h;cases h
         · rw [up_other _ _ _ _ (Ne.symm ep),hLp] at h;cases h
         · rw [up_other _ _ _ _ (Ne.symm e),hl] at h;cases h
       | true =>
         have hf:free i=true:=by
           cases h:free i with
           | true=>rfl
           | false=>have:=h3 hLp i (by omega) ep h;rw [hL] at this;cases this
         obtain ⟨m1,m2⟩:=h2 hLp hl
         refine wpOp_mono ?_ (stepF i (by omega) hf L v w' a' m1 m2 hL hLp hd hv ho)
         rintro b w'' ⟨o,u,g1,g2,rfl,g4⟩
         refine ⟨o,u,g1,g2,(fun h=>?_),(fun _ _=>⟨by rw [up_other _ _ _ _ (Ne.symm ep)];exact m1,fun k hk hkp hk2=>?_⟩),(fun _ k hk hkp hfk=>?_),(fun h=>?_),h5.step hd⟩
         · rw [up_other _ _ _ _ (Ne.symm ep),hLp] at h;cases h
         · rw [up_other _ _ _ _ (Ne.symm ep)]
           by_cases ek:k=i
           · subst ek;rw [up_same];exact g4
           · rw [up_other _ _ _ _ ek] at hk2 ⊢;exact m2 k hk hkp hk2
         · by_cases ek:k=i
           · subst ek;rw [up_same]
           · rw [up_other _ _ _ _ ek];exact h3 hLp k hk hkp hfk
         · rw [up_other _ _ _ _ (Ne.symm e),hl] at h;cases h
 · intro v w' hI
   exact fin v w' (hI.2.2.2.1 (by rw [hn];simp)).1
end Ri
end Go.Proofs.YtllfgppjobinnaaDoor
namespace Go.Proofs.YtllfgppjobinnaaDoor
open Go.RowKit
namespace Tr
def usedT (t:Tr):Tr:=.node t.kind (if t.kind=2 then t.w0 else 0#64) (if t.kind=2 then t.w1 else 0#64) (if t.kind=2 then t.w2 else 0#64) (if t.kind=2 then t.w3 else 0#64) [] (if t.kind=7 then t.num else 0) (if t.kind=8 then t.least else 0) (if t.kind=8 then t.most else 0) (if t.kind=8 then t.bare else false)
end Tr
theorem refused_plain (k:Int) (a b c d:BitVec 64) (n lo hi:Int) (br:Bool) (p:Option Addr) (l cp:Nat) (w:World):Calls Tryd.prog 128 #[.agg #[.int .i64 k,.int .u64 (Oc.U a),.int .u64 (Oc.U b),.int .u64 (Oc.U c),.int .u64 (Oc.U d),.slice p l cp,.int .i64 n,.int .i64 lo,.int .i64 hi,.bool br]] w fun e w' =>
   e=.returned (.agg #[.int .i64 k,.int .u64 (Oc.U (if k=2 then a else 0#64)),.int .u64 (Oc.U (if k=2 then b else 0#64)),.int .u64 (Oc.U (if k=2 then c else 0#64)),.int .u64 (Oc.U (if k=2 then d else 0#64)),.slice none 0 0,.int .i64 (if k=7 then n else 0),.int .i64 (if k=8 then lo else 0),.int .i64 (if k=8 then hi else 0),.bool (if k=8 then br else false)])∧Below w.heap.size w w':=by
 have u0:Oc.U 0#64=0:=by decide
 by_cases h2:k=2
 · subst h2
   simp only [if_true,reduceIte,Int.reduceEq]
   clear u0
   go_enter Tryd.func128,Tryd.ntmps128
   go_wp2
   exact bodyPost_ret (results_cell_row rfl _ _ (w.heap.size+1) 37 _ (0,0) _ rfl (three_new _ _ _ _).2.1 Tryd.underlying37 rfl (by kernel_rfl)) rfl ⟨rfl,by go_grown⟩
 have e2:(k == 2)=false:=by simpa using h2
 simp only [if_neg h2,u0]
 clear u0 h2
 by_cases h7:k=7
 · subst h7
   simp only [if_true,reduceIte,Int.reduceEq]
   go_enter Tryd.func128,Tryd.ntmps128
   go_wp2
   exact bodyPost_ret (results_cell_row rfl _ _ (w.heap.size+1) 37 _ (0,0) _ rfl (three_new _ _ _ _).2.1 Tryd.underlying37 rfl (by kernel_rfl)) rfl ⟨rfl,by go_grown⟩
 have e7:(k == 7)=false:=by simpa using h7
 simp only [if_neg h7]
 clear h7
 by_cases h8:k=8
 · subst h8
   simp only [if_true]
   go_enter Tryd.func128,Tryd.ntmps128
   go_wp2
   exact bodyPost_ret (results_cell_row rfl _ _ (w.heap.size+1) 37 _ (0,0) _ rfl (three_new _ _ _ _).2.1 Tryd.underlying37 rfl (by kernel_rfl)) rfl ⟨rfl,by go_grown⟩
 have e8:(k == 8)=false:=by simpa using h8
 simp only [if_neg h8]
 clear h8
 go_enter Tryd.func128,Tryd.ntmps128
 go_wp2
 exact bodyPost_ret (results_cell_row rfl _ _ (w.heap.size+1) 37 _ (0,0) _ rfl (three_new _ _ _ _).2.1 Tryd.underlying37 rfl (by kernel_rfl)) rfl ⟨rfl,by go_grown⟩
theorem refused_any (t:Tr) (s:Value) (hs:∃ p l c,s=.slice p l c) (w:World):Calls Tryd.prog 128 #[.agg (t.cells s)] w fun e w'=>e=.returned (.agg (t.usedT.cells (.slice none 0 0)))∧Below w.heap.size w w':=by
 obtain ⟨p,l,c,rfl⟩:=hs
 exact refused_plain t.kind t.w0 t.w1 t.w2 t.w3 t.num t.least t.most t.bare p l c w
end Go.Proofs.YtllfgppjobinnaaDoor
namespace Go.Proofs.YtllfgppjobinnaaDoor
open Go.RowKit
namespace Tr
def misV (k:Int) (S:Bool) (n un lo ulo hi uhi:Int) (br ubr:Bool):Bool:=decide (k < 1) || decide (8 < k) || !S || (n != un) || (lo != ulo) || (hi != uhi) || (br != ubr)
def badV (k:Int) (len:Nat) (n lo hi:Int) (br:Bool):Bool :=
 if k=5 ∨ k=6 then decide (len < 2)
 else if k=7 then len != 1 || decide (n < 1) || decide (999 < n)
 else if k=8 then len != 1 || decide (lo < 0) || decide (255 < lo) || decide (hi < -1) || decide (255 < hi) || (decide (0 ≤ hi) && decide (hi < lo)) || (br && lo != 0)
 else len != 0
def sameW (a b c d a' b' c' d':BitVec 64):Bool:=Oc.U a == Oc.U a' && (Oc.U b == Oc.U b' && (Oc.U c == Oc.U c' && Oc.U d == Oc.U d'))
theorem sameW_iff {a b c d a' b' c' d':BitVec 64} : sameW a b c d a' b' c' d'=true ↔ a=a'∧b=b'∧c=c'∧d=d':=by
 unfold sameW
 rw [Bool.and_eq_true,Bool.and_eq_true,Bool.and_eq_true,beq_iff_eq,beq_iff_eq,beq_iff_eq,beq_iff_eq]
 exact ⟨fun h=>⟨Oc.U_inj h.1,Oc.U_inj h.2.1,Oc.U_inj h.2.2.1,Oc.U_inj h.2.2.2⟩,fun h=>by rw [h.1,h.2.1,h.2.2.1,h.2.2.2];exact ⟨rfl,rfl,rfl,rfl⟩⟩
def mism (t:Tr):Bool:=misV t.kind (sameW t.w0 t.w1 t.w2 t.w3 t.usedT.w0 t.usedT.w1 t.usedT.w2 t.usedT.w3) t.num t.usedT.num t.least t.usedT.least t.most t.usedT.most t.bare t.usedT.bare
def bad (t:Tr):Bool:=badV t.kind t.subs.length t.num t.least t.most t.bare
theorem mism_iff (t:Tr):t.mism=false ↔ (1 ≤ t.kind∧t.kind ≤ 8)∧(t.kind=2 ∨ (t.w0=0#64∧t.w1=0#64∧t.w2=0#64∧t.w3=0#64))∧(t.kind=7 ∨ t.num=0)∧(t.kind=8 ∨ (t.least=0∧t.most=0∧t.bare=false)):=by
 unfold mism misV usedT
 simp only [Bool.or_eq_false_iff,decide_eq_false_iff_not,Bool.not_eq_false',sameW_iff,bne_eq_false_iff_eq,Tr.w0,Tr.w1,Tr.w2,Tr.w3,Tr.num,Tr.least,Tr.most,Tr.bare]
 by_cases h2:t.kind=2
 · simp only [h2];simp [and_assoc]
 · by_cases h7:t.kind=7
   · simp only [h7];simp [and_assoc]
   · by_cases h8:t.kind=8
     · simp only [h8];simp [and_assoc]
     · simp only [h2,h7,h8];simp [and_assoc]
theorem fieldsB_ref (t:Tr):t.fieldsB=(!t.mism && !t.bad):=by
 rw [Bool.eq_iff_iff,fieldsB_iff,Bool.and_eq_true,Bool.not_eq_true',Bool.not_eq_true',mism_iff]
 unfold bad badV fieldsOk
 have hl:∀ m:Nat,(t.subs.length != m)=false ↔ t.subs.length=m:=fun m=>by simp
 constructor
 · rintro (⟨h | h | h,a,b,c,d,i,e,f,g,j⟩ | ⟨h,i,e,f,g,j⟩ | ⟨h | h,a,b,c,d,i,e,f,g,j⟩ | ⟨h,a,b,c,d,i,e1,e2,f,g,j⟩ | ⟨h,a,b,c,d,i,e,f1,f2,f3,f4⟩) <;> simp only [h] at * <;> simp_all <;> omega
 · rintro ⟨⟨⟨h1,h2⟩,h3,h4,h5⟩,h6⟩
   have hk:t.kind=1 ∨ t.kind=2 ∨ t.kind=3 ∨ t.kind=4 ∨ t.kind=5 ∨ t.kind=6 ∨ t.kind=7 ∨ t.kind=8:=by omega
   rcases hk with h | h | h | h | h | h | h | h <;> simp only [h] at * <;> simp_all <;> omega
end Tr
end Go.Proofs.YtllfgppjobinnaaDoor
