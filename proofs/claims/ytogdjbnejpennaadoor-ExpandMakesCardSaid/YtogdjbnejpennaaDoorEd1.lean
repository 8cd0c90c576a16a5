/- Part 1 of what these proofs need. -/
import Derived.Test.YtogdjbnejpennaaDoorEc2
set_option maxRecDepth 100000
set_option maxHeartbeats 16000000
namespace Go.Proofs.YtogdjbnejpennaaDoor
open Go.RowKit
theorem three_new (w:World) (x y z:Obj):(((w.alloc x).alloc y).alloc z).heap[w.heap.size]? = some x∧(((w.alloc x).alloc y).alloc z).heap[w.heap.size+1]? = some y∧(((w.alloc x).alloc y).alloc z).heap[w.heap.size+1+1]? = some z:=by
 show (((w.heap.push x).push y).push z)[w.heap.size]? = _∧(((w.heap.push x).push y).push z)[w.heap.size+1]? = _∧(((w.heap.push x).push y).push z)[w.heap.size+1+1]? = _
 refine ⟨?_, ?_, ?_⟩
 · simp [Array.getElem?_push];omega
 · rw [Array.getElem?_push,if_neg (by simp),Array.getElem?_push,if_pos (by simp)]
 · rw [Array.getElem?_push,if_pos (by simp)]
end Go.Proofs.YtogdjbnejpennaaDoor
namespace Go.Proofs.YtogdjbnejpennaaDoor
open Go.RowKit
namespace Tr
end Tr
theorem trcount_any (a b:Nat) (ha:a ≤ 2001) (hb:b ≤ 2002) (x y:Int) (hx:x=a) (hy:y=b) (w:World):Calls Tryd.prog 136 #[.int .i64 x,.int .i64 y] w fun e w'=>e=.returned (.int .i64 (Tr.sat (a+b):Nat))∧w=w':=by
 subst hx hy
 have hw:IntKind.i64.wrap ((a:Int)+b)=(a:Int)+b:=IntWalk.i64_in _ (by omega)
 go_enter Tryd.func136,Tryd.ntmps136
 go_wp2
 all_goals
   go_ret
   exact ⟨ret_int (by unfold Tr.sat;omega),rfl⟩
theorem refsize_seq (t:Tr) (ih:∀ u,u ∈ t.subs→u.InForm→∀ (w:World) (B:Nat→Prop) (v:Value),NodeV w B v u→Calls Tryd.prog 101 #[v] w (SizeEnd u.szT w)) (hf:t.InForm) (hk:t.kind ≠ 8)
   (w:World) (B:Nat→Prop) (v:Value) (hv:NodeV w B v t):Calls Tryd.prog 101 #[v] w (SizeEnd t.szT w):=by
 obtain ⟨s,rfl,hs⟩:=hv
 obtain ⟨p,cap,rfl,hlen⟩:=hs.slice
 have HE:=Lib.hid (show t.szT=Tr.sat (1+Tr.szS t.subs) by cases t;rw [Tr.szT];simp only [Tr.kind] at hk;rw [if_neg hk];rfl)
 have HF:=Lib.hid hf
 generalize hts:t.subs=ts at *
 have HTS:=Lib.hid hts;have IH:=Lib.hid ih;have HS:=Lib.hid hs
 have e8:(t.kind != 8)=true:=by simpa using hk
 clear ih hs hf hk hts
 unfold Tr.cells
 go_enter Tryd.func101,Tryd.ntmps101
 go_wp2
 go_loopw [3,4] (fun nv iv wr=>∃ m:Nat,iv=.int .i64 m∧m ≤ ts.length∧nv=.int .i64 (Tr.sat (1+Tr.szS (ts.take m)):Nat)∧Hid (Below w.heap.size w wr)∧w.heap.size < wr.heap.size∧Hid (wr.heap[w.heap.size]? = some (.cells (t.cells (.slice p ts.length cap)) 37))) (fun _ iv _=>ts.length - (intOf iv).toNat)
 case atStart=>exact ⟨0,rfl,Nat.zero_le _,rfl,Lib.hid (by go_grown),by simp,Lib.hid (heap_alloc_new _ _)⟩
 case round =>
   obtain ⟨m,rfl,hm,rfl,HB,hsz,Z0⟩:=hrel
   have wm:IntKind.i64.wrap ((m:Int)+1)=(m:Int)+1:=IntWalk.i64_in _ (by omega)
   obtain ⟨-,-,f5,-,-⟩:=box5 Z0.out
   by_cases hlt:m < ts.length
   · obtain ⟨x,hx⟩:∃ x,ts[m]? = some x:=⟨_,List.getElem?_eq_getElem hlt⟩
     obtain ⟨b1,o1,s1,rfl,-,t1,sub1⟩:=HS.out.get hx
     obtain ⟨d0,d1,d2,d3,d4,d5,d6,d7,d8,d9⟩:=t1.keep (HB.out.block _ t1.lt)
     have hmem:=List.mem_of_getElem? hx
     have HC:=Lib.hid (IH.out x hmem (HF.out.sub (by rw [HTS.out];exact hmem)) wr B (.agg (x.cells s1)) ⟨_,rfl,sub1.later HB.out⟩)
     have hle:=Tr.sat_le (1+Tr.szS (ts.take m));have hlx:=Tr.szT_le x
     have HST:=Lib.hid (Tr.szS_take ts m x hx)
     clear t1 sub1 hmem hx
     generalize hn:Tr.sat (1+Tr.szS (ts.take m))=n at *
     have HN:=Lib.hid hn
     clear hn
     unfold Tr.cells at HC
     go_wp2_with fail
     refine HC.out.mono ?_
     rintro e w2 ⟨rfl,hb2⟩
     have HB2:=Lib.hid (HB.out.trans (hb2.mono HB.out.size));have Z2:=Lib.hid (keep_blk hb2 Z0.out)
     have hsz2:w.heap.size < w2.heap.size:=Nat.lt_of_lt_of_le hsz hb2.size
     clear d0 d1 d2 d3 d4 d5 d6 d7 d8 d9 f5 hb2 HC
     go_wp2_with fail
     refine (trcount_any n x.szT hle (by omega) _ _ rfl rfl _).mono ?_
     rintro e w3 ⟨rfl,rfl⟩
     have hsum:Tr.sat (n+x.szT)=Tr.sat (1+Tr.szS (ts.take (m+1))):=by rw [← HN.out,Tr.sat_sat,HST.out];congr 1;omega
     rw [hsum]
     clear hsum
     go_wp2
     exact ⟨⟨m+1,by go_num,by omega,rfl,HB2,hsz2,Z2⟩,by simp [intOf];omega⟩
   · obtain rfl:m=ts.length:=by omega
     have HX:=Lib.hid (show Tr.sat (1+Tr.szS (ts.take ts.length))=t.szT by rw [List.take_length,HE.out])
     go_wp2
     go_ret
     exact ⟨ret_int (by rw [HX.out]),HB.out⟩
theorem refsize_rep (t x:Tr) (ih:∀ (w:World) (B:Nat→Prop) (v:Value),NodeV w B v x→Calls Tryd.prog 101 #[v] w (SizeEnd x.szT w)) (hsub:t.subs=[x]) (hk:t.kind=8) (h0:0 ≤ t.least) (h1:t.least ≤ 255) (h2:t.most = -1 ∨ (t.least ≤ t.most∧t.most ≤ 255))
   (w:World) (B:Nat→Prop) (v:Value) (hv:NodeV w B v t):Calls Tryd.prog 101 #[v] w (SizeEnd t.szT w):=by
 obtain ⟨s,rfl,hs⟩:=hv
 have hsz0:t.szT=Tr.repSz t.least t.most x.szT:=by
   cases t;simp only [Tr.kind,Tr.subs] at hk hsub;subst hk hsub;rw [Tr.szT,if_pos rfl,Tr.szH];rfl
 rw [hsub] at hs
 obtain ⟨p,cap,rfl,hlen⟩:=hs.slice
 have hs:TreesAt w B (.slice p 1 cap) [x]:=hs
 obtain ⟨b1,o1,s1,rfl,-,t1,sub1⟩:=hs.get (i:=0) (t:=x) rfl
 have HE:=Lib.hid hsz0
 have HC:=Lib.hid ih
 have t1':TenAt w b1 o1 x s1:=by simpa using t1
 have T1:=Lib.hid t1';have SUB:=Lib.hid sub1
 have e8:(t.kind != 8)=false:=by simpa using hk
 have hN:=Tr.szT_le x
 clear ih hs hk hsub hsz0 t1 t1' sub1 hlen
 obtain ⟨lo,hlo⟩:∃ lo:Nat,t.least=lo:=⟨t.least.toNat,by omega⟩
 rw [hlo] at h0 h1 h2
 by_cases hm0:t.most=0
 · have HX:=Lib.hid (show t.szT=1 by rw [HE.out];unfold Tr.repSz;rw [if_pos hm0])
   unfold Tr.cells
   rw [hm0]
   clear hlo hm0
   go_enter Tryd.func101,Tryd.ntmps101
   go_wp2
   go_ret
   exact ⟨ret_int (by rw [HX.out];rfl),by go_grown⟩
 · have em0:(t.most == 0)=false:=by simpa using hm0
   have HM:=Lib.hid hm0;have HLO:=Lib.hid hlo
   unfold Tr.cells
   clear hm0 hlo
   go_enter Tryd.func101,Tryd.ntmps101
   have d:=fun (o:Obj)=>T1.out.keep (w':=w.alloc o) (Below.heap_alloc w o b1 T1.out.lt)
   have e0:=fun o=>(d o).c0;have e1:=fun o=>(d o).c1;have e2:=fun o=>(d o).c2;have e3:=fun o=>(d o).c3;have e4:=fun o=>(d o).c4
   have e5:=fun o=>(d o).c5;have e6:=fun o=>(d o).c6;have e7:=fun o=>(d o).c7;have e8':=fun o=>(d o).c8;have e9:=fun o=>(d o).c9
   clear d
   go_wp2_with fail
   generalize hw1:World.alloc w _=w1
   have hb1:Below w.heap.size w w1:=by rw [← hw1];exact (Below.refl _ _).alloc (Nat.le_refl _) _
   have Z1:Hid (w1.heap[w.heap.size]? = some (.cells (t.cells (.slice (some ⟨b1,o1,none⟩) 1 cap)) 37)):=Lib.hid (by rw [← hw1];exact heap_alloc_new _ _)
   have hs1:w.heap.size < w1.heap.size:=by rw [← hw1];simp
   have hcall:=HC.out w1 B (.agg (x.cells s1)) ⟨_,rfl,SUB.out.later hb1⟩
   unfold Tr.cells at hcall
   have HB1:=Lib.hid hb1
   clear hw1 e0 e1 e2 e3 e4 e5 e6 e7 e8' e9 hb1
   refine hcall.mono ?_
   rintro e w2 ⟨rfl,hb2⟩
   have HB2:=Lib.hid (HB1.out.trans (hb2.mono HB1.out.size));have Z2:=Lib.hid (keep_blk hb2 Z1.out)
   have hs2:w.heap.size < w2.heap.size:=Nat.lt_of_lt_of_le hs1 hb2.size
   clear hb2 hcall HB1 Z1
   generalize hNe:x.szT=N at *
   clear hNe
   have hlo255:lo ≤ 255:=by omega
   go_wp2
   go_loopw [6,7,8] (fun pv nv iv wr=>∃ m:Nat,iv=.int .i64 m∧pv=.int .i64 m∧m ≤ lo∧nv=.int .i64 (Tr.sat (m * N):Nat)∧wr=w2) (fun _ _ iv _=>lo - (intOf iv).toNat)
   case atStart=>exact ⟨0,rfl,rfl,Nat.zero_le _,by simp [Tr.sat],rfl⟩
   case round =>
     obtain ⟨m,rfl,rfl,hm,rfl,rfl⟩:=hrel
     have wm:IntKind.i64.wrap ((m:Int)+1)=(m:Int)+1:=IntWalk.i64_in _ (by omega)
     obtain ⟨-,-,-,f7,f8⟩:=box5 Z2.out
     rw [HLO.out] at f7
     by_cases hlt:m < lo
     · have hsat:=Tr.sat_le (m * N)
       have HS:=Lib.hid (show Tr.sat (Tr.sat (m * N)+N)=Tr.sat ((m+1) * N) by rw [Tr.sat_sat,Nat.succ_mul])
       generalize Tr.sat (m * N)=n at *
       go_wp2_with fail
       refine (trcount_any n N hsat (by omega) _ _ rfl rfl _).mono ?_
       rintro e w3 ⟨rfl,rfl⟩
       rw [HS.out]
       go_wp2
       exact ⟨⟨m+1,by go_num,by go_num,by omega,rfl,trivial⟩,by simp [intOf];omega⟩
     · obtain rfl:m=lo:=by omega
       have hsat0:=Tr.sat_le (m * N)
       generalize hA:m * N=A at *
       have HA:=Lib.hid hA
       clear hA
       generalize hhi:t.most=hi at *
       have HHI:=Lib.hid hhi
       clear hhi
       obtain ⟨J,hJ⟩:∃ J:Nat,J=(hi - m).toNat:=⟨_,rfl⟩
       have HJ:=Lib.hid hJ
       have hJ2:J ≤ 255:=by omega
       clear hJ
       go_wp2
       go_loopw [6,7,9] (fun pv nv iv wz=>∃ j:Nat,iv=.int .i64 ((m+j:Nat):Int)∧pv=.int .i64 ((m+j:Nat):Int)∧j ≤ J∧nv=.int .i64 (Tr.sat (A+j * (N+1)):Nat)∧wz=wr) (fun _ _ iv _=>(m+J) - (intOf iv).toNat)
       case atStart=>exact ⟨0,rfl,rfl,Nat.zero_le _,by simp,rfl⟩
       case round =>
         obtain ⟨j,rfl,rfl,hj,rfl,rfl⟩:=hrel
         have wj:IntKind.i64.wrap (((m+j:Nat):Int)+1)=((m+j:Nat):Int)+1:=IntWalk.i64_in _ (by omega)
         have wj2:IntKind.i64.wrap ((m:Int)+j+1)=(m:Int)+j+1:=IntWalk.i64_in _ (by omega)
         obtain ⟨-,-,-,f7,f8⟩:=box5 Z2.out
         rw [HHI.out] at f8
         by_cases hjJ:j < J
         · have hd:decide (((m+j:Nat):Int) < hi)=true:=by have:=HJ.out;simp;omega
           have hd2:decide ((m:Int)+j < hi)=true:=by have:=HJ.out;simp;omega
           have hsat:=Tr.sat_le (A+j * (N+1))
           have HS:=Lib.hid (show Tr.sat (Tr.sat (Tr.sat (A+j * (N+1))+N)+1)=Tr.sat (A+(j+1) * (N+1)) by rw [Tr.sat_sat,show Tr.sat (A+j * (N+1))+N+1=Tr.sat (A+j * (N+1))+(N+1) by omega,Tr.sat_sat,Nat.succ_mul,Nat.add_assoc])
           generalize Tr.sat (A+j * (N+1))=n at *
           go_wp2_with fail
           refine (trcount_any n N hsat (by omega) _ _ rfl rfl _).mono ?_
           rintro e w3 ⟨rfl,rfl⟩
           have hs2':=Tr.sat_le (n+N)
           generalize Tr.sat (n+N)=n2 at *
           go_wp2_with fail
           refine (trcount_any n2 1 hs2' (by omega) _ _ rfl rfl _).mono ?_
           rintro e w3 ⟨rfl,rfl⟩
           rw [HS.out]
           go_wp2
           exact ⟨⟨j+1,by go_num,by go_num,by omega,rfl,trivial⟩,by simp [intOf];omega⟩
         · obtain rfl:j=J:=by omega
           have hd:decide (((m+j:Nat):Int) < hi)=false:=by have:=HJ.out;simp;omega
           have hd2:decide ((m:Int)+j < hi)=false:=by have:=HJ.out;simp;omega
           have hsat:=Tr.sat_le (A+j * (N+1))
           by_cases hend:hi = -1
           · have hj0:j=0:=by have:=HJ.out;omega
             subst hj0
             have eend:(hi == -1)=true:=by simpa using hend
             have HS:=Lib.hid (show Tr.sat (Tr.sat (Tr.sat (A+0 * (N+1))+N)+1)=Tr.sat (A+N+1) by rw [Tr.sat_sat,show Tr.sat (A+0 * (N+1))+N+1=Tr.sat (A+0 * (N+1))+(N+1) by omega,Tr.sat_sat];congr 1;omega)
             generalize Tr.sat (A+0 * (N+1))=n at *
             go_wp2_with fail
             refine (trcount_any n N hsat (by omega) _ _ rfl rfl _).mono ?_
             rintro e w3 ⟨rfl,rfl⟩
             have hs2':=Tr.sat_le (n+N)
             generalize Tr.sat (n+N)=n2 at *
             go_wp2_with fail
             refine (trcount_any n2 1 hs2' (by omega) _ _ rfl rfl _).mono ?_
             rintro e w3 ⟨rfl,rfl⟩
             rw [HS.out]
             by_cases hm1:m=0
             · subst hm1
               have HX:=Lib.hid (show Tr.sat (A+N+1)=t.szT by
                 rw [HE.out,HLO.out];unfold Tr.repSz;rw [if_neg (by omega),if_neg (by omega),if_pos ⟨rfl,.inr hend⟩]
                 have:=HA.out;congr 1;omega)
               go_wp2
               go_ret
               exact ⟨ret_int (by rw [HX.out]),HB2.out⟩
             · have HX:=Lib.hid (show Tr.sat (Tr.sat (A+N+1)+1)=t.szT by
                 rw [HE.out,HLO.out];unfold Tr.repSz;rw [if_neg (by omega),if_neg (by omega),if_neg (by omega),if_pos hend,Tr.sat_sat]
                 have:=HA.out;congr 1;simp;omega)
               have hgt:decide ((1:Int) < (m:Int)+1)=true:=by simp;omega
               have hgt2:decide ((0:Int) < (m:Int))=true:=by simp;omega
               have hs3:=Tr.sat_le (A+N+1)
               generalize Tr.sat (A+N+1)=n3 at *
               go_wp2_with fail
               refine (trcount_any n3 1 hs3 (by omega) _ _ rfl rfl _).mono ?_
               rintro e w3 ⟨rfl,rfl⟩
               rw [HX.out]
               go_wp2
               go_ret
               exact ⟨rfl,HB2.out⟩
           · have eend:(hi == -1)=false:=by simpa using hend
             have hhim:(m:Int) ≤ hi:=by omega
             have hJm:((m+j:Nat):Int)=hi:=by have:=HJ.out;omega
             have hpos:1 ≤ m+j:=by have:=HM.out;omega
             by_cases h1':m+j=1
             · have HX:=Lib.hid (show Tr.sat (A+j * (N+1))=t.szT by
                 rw [HE.out,HLO.out];unfold Tr.repSz;rw [if_neg (by omega)]
                 have hA:=HA.out
                 by_cases hm1:m=1
                 · rw [if_pos ⟨by omega,by omega⟩]
                   have:j=0:=by omega
                   subst this hm1
                   unfold Tr.sat;omega
                 · have:m=0:=by omega
                   have:j=1:=by omega
                   subst this;subst m
                   rw [if_neg (by omega),if_pos ⟨rfl,.inl (by omega)⟩];congr 1;omega)
               have hgt:decide ((1:Int) < ((m+j:Nat):Int))=false:=by simp;omega
               have hgt2:decide ((1:Int) < (m:Int)+j)=false:=by simp;omega
               rw [HX.out]
               go_wp2
               go_ret
               exact ⟨rfl,HB2.out⟩
             · have HX:=Lib.hid (show Tr.sat (Tr.sat (A+j * (N+1))+1)=t.szT by
                 rw [HE.out,HLO.out];unfold Tr.repSz;rw [if_neg (by omega),if_neg (by omega),if_neg (by omega),if_neg (by omega),Tr.sat_sat]
                 have hA:=HA.out
                 have hjj:(hi - (m:Int)).toNat=j:=by omega
                 rw [hjj]
                 congr 1
                 rw [show ((m:Int)).toNat=m by simp,hA,Nat.add_comm 1 N]
                 omega)
               have hgt:decide ((1:Int) < ((m+j:Nat):Int))=true:=by simp;omega
               have hgt2:decide ((1:Int) < (m:Int)+j)=true:=by simp;omega
               generalize Tr.sat (A+j * (N+1))=n3 at *
               go_wp2_with fail
               refine (trcount_any n3 1 hsat (by omega) _ _ rfl rfl _).mono ?_
               rintro e w3 ⟨rfl,rfl⟩
               rw [HX.out]
               go_wp2
               go_ret
               exact ⟨rfl,HB2.out⟩
theorem refsize_any:∀ t:Tr,t.InForm→∀ (w:World) (B:Nat→Prop) (v:Value),NodeV w B v t→Calls Tryd.prog 101 #[v] w (SizeEnd t.szT w):=by
 intro t
 induction t using Tr.rec_subs with
 | h t ih =>
   intro hf w B v hv
   by_cases hk:t.kind=8
   · have hfl:=hf.fields
     unfold Tr.fieldsOk at hfl
     obtain ⟨-,-,-,-,-,hl,-,h0,h1,h2,-⟩:t.kind=8∧t.w0=0#64∧t.w1=0#64∧t.w2=0#64∧t.w3=0#64∧t.subs.length=1∧t.num=0∧0 ≤ t.least∧t.least ≤ 255∧(t.most = -1 ∨ (t.least ≤ t.most∧t.most ≤ 255))∧(t.bare=true→t.least=0):=by
       rcases hfl with h | h | h | h | h
       · omega
       · omega
       · omega
       · omega
       · exact h
     obtain ⟨x,hx⟩:=List.length_eq_one_iff.1 hl
     have hmem:x ∈ t.subs:=by rw [hx];exact List.mem_cons_self
     exact refsize_rep t x (fun w B v hv=>ih x hmem (hf.sub hmem) w B v hv) hx hk h0 h1 h2 w B v hv
   · exact refsize_seq t ih hf hk w B v hv
end Go.Proofs.YtogdjbnejpennaaDoor
namespace Go.Proofs.YtogdjbnejpennaaDoor
open Go.RowKit
theorem field5' {w:World} {b:Nat} {t:Tr} {s:Value} {ty:TypeId} (h:w.heap[b]? = some (.cells (t.cells s) ty)):w.cell? ⟨b,5,none⟩=some s:=by
 simp [World.cell?,h,Tr.cells]
def SpoilEnd (F:List Nat) (w:World) (e:Ending) (w':World):Prop:=e=.returned (.tuple #[])∧Touch F w w'
theorem TenAt.there {w:World} {g o:Nat} {t:Tr} {s:Value} (h:TenAt w g o t s) (hf:∃ cs ty,w.heap[g]? = some (.cells cs ty (0,0))):w.there g o 10:=by
 intro j hj
 refine ⟨?_,frozen_of hf⟩
 have:j=0 ∨ j=1 ∨ j=2 ∨ j=3 ∨ j=4 ∨ j=5 ∨ j=6 ∨ j=7 ∨ j=8 ∨ j=9:=by omega
 rcases this with rfl | rfl | rfl | rfl | rfl | rfl | rfl | rfl | rfl | rfl
 · simpa using congrArg Option.isSome h.c0
 · simpa using congrArg Option.isSome h.c1
 · simpa using congrArg Option.isSome h.c2
 · simpa using congrArg Option.isSome h.c3
 · simpa using congrArg Option.isSome h.c4
 · simpa using congrArg Option.isSome h.c5
 · simpa using congrArg Option.isSome h.c6
 · simpa using congrArg Option.isSome h.c7
 · simpa using congrArg Option.isSome h.c8
 · simpa using congrArg Option.isSome h.c9
theorem spoil_nil (t:Tr) (w:World) (p:Option Addr) (cap:Nat):Calls Tryd.prog 50 #[.agg (t.cells (.slice p 0 cap))] w (SpoilEnd [] w):=by
 unfold Tr.cells
 go_enter Tryd.func50,Tryd.ntmps50
 go_wp2
 go_loopw [6] (fun iv wr=>iv=.int .i64 0∧Hid (Below w.heap.size w wr)) (fun _ _=>0)
 case atStart=>exact ⟨rfl,Lib.hid (by go_grown)⟩
 case round =>
   obtain ⟨rfl,HB⟩:=hrel
   go_wp2
   go_end0
   exact ⟨rfl,Touch.of_below _ HB.out⟩
theorem spoil_any:∀ t:Tr,∀ (w:World) (s:Value) (F:List Nat),Owned w s t.subs F→Calls Tryd.prog 50 #[.agg (t.cells s)] w (SpoilEnd F w):=by
 intro t
 induction t using Tr.rec_subs with
 | h t ih =>
   intro w s F hO
   have IH:=Lib.hid ih
   clear ih
   have hlt:=hO.lt
   generalize hts:t.subs=ts at hO
   cases hO with
   | nil p cap=>exact spoil_nil t w p cap
   | row g o cap _ S L hlen hf hc hs hgL hd =>
     have HC:=Lib.hid hc;have HO:=Lib.hid hs;have HF:=Lib.hid hf;have HG:=Lib.hid hgL;have HDJ:=Lib.hid hd;have HTS:=Lib.hid hts;have HLT:=Lib.hid hlt
     have hgw:g < w.heap.size:=by obtain ⟨cs,ty,h⟩:=hf;exact (Array.getElem?_eq_some_iff.1 h).1
     have hbytes:ts.length ≤ 1152921504606846976:=by omega
     clear hc hs hf hgL hd hts hlt
     unfold Tr.cells
     go_enter Tryd.func50,Tryd.ntmps50
     go_wp2
     go_loopw [6] (fun iv wr=>∃ m:Nat,iv=.int .i64 m∧m ≤ ts.length∧Hid (Touch (g :: (List.range ts.length).flatMap L) w wr)∧w.heap.size < wr.heap.size∧Hid (wr.heap[w.heap.size]? = some (.cells (t.cells (.slice (some ⟨g,o,none⟩) ts.length cap)) 37)) ∧
       Hid (∀ j u,m ≤ j→ts[j]? = some u→TenAt wr g (o+j * 10) u (S j)∧Owned wr (S j) u.subs (L j))∧Hid (∃ cs ty,wr.heap[g]? = some (.cells cs ty (0,0)))) (fun iv _=>ts.length - (intOf iv).toNat)
     case atStart =>
       have hb:Below w.heap.size w (w.alloc (.cells #[.int .i64 t.kind,.int .u64 (Oc.U t.w0),.int .u64 (Oc.U t.w1),.int .u64 (Oc.U t.w2),.int .u64 (Oc.U t.w3),.slice (some ⟨g,o,none⟩) ts.length cap,.int .i64 t.num,.int .i64 t.least,.int .i64 t.most,.bool t.bare] 37)):=(Below.refl _ _).alloc (Nat.le_refl _) _
       exact ⟨0,rfl,Nat.zero_le _,Lib.hid (Touch.of_below _ hb),by simp,Lib.hid (heap_alloc_new _ _),Lib.hid (fun j u _ hj=>⟨(HC.out j u hj).keep (hb.block g hgw),(HO.out j u hj).later hb⟩),Lib.hid (by obtain ⟨cs,ty,h⟩:=HF.out;exact ⟨cs,ty,(hb.block g hgw).trans h⟩)⟩
     case round =>
       obtain ⟨m,rfl,hm,HT,hsz,Z0,hrest,hfr⟩:=hrel
       have wm:IntKind.i64.wrap ((m:Int)+1)=(m:Int)+1:=IntWalk.i64_in _ (by omega)
       by_cases hlt:m < ts.length
       · obtain ⟨x,hx⟩:∃ x,ts[m]? = some x:=⟨_,List.getElem?_eq_getElem hlt⟩
         obtain ⟨t10,own1⟩:=hrest.out m x (Nat.le_refl _) hx
         obtain ⟨d0,d1,d2,d3,d4,d5,d6,d7,d8,d9⟩:=t10
         have hmem:x ∈ t.subs:=by rw [HTS.out];exact List.mem_of_getElem? hx
         have HCALL:=Lib.hid (IH.out x hmem wr (S m) (L m) own1)
         have f5:=field5' Z0.out
         have OWN:=Lib.hid own1
         have HX:=Lib.hid hx
         clear own1 hmem hx
         go_wp2_with fail
         unfold Tr.cells at HCALL
         refine HCALL.out.mono ?_
         rintro e w2 ⟨rfl,ht2⟩
         have hgm:=HG.out m hlt
         have hgr:g < wr.heap.size:=Nat.lt_of_lt_of_le hgw HT.out.size
         have hg2:w2.heap[g]? = wr.heap[g]?:=ht2.block g hgr hgm
         have hwm:w.heap.size ∉ L m:=fun h=>by
           have:=HLT.out w.heap.size (List.mem_cons_of_mem _ (mem_range_flatMap.2 ⟨m,hlt,h⟩));omega
         have Z2:Hid (w2.heap[w.heap.size]? = some (.cells (t.cells (.slice (some ⟨g,o,none⟩) ts.length cap)) 37)):=Lib.hid ((ht2.block _ hsz hwm).trans Z0.out)
         have hf2:∃ cs ty,w2.heap[g]? = some (.cells cs ty (0,0)):=by rw [hg2];exact hfr.out
         have HTH:=Lib.hid (((hrest.out m x (Nat.le_refl _) HX.out).1.keep hg2).there hf2)
         have HT2:=Lib.hid (HT.out.trans (ht2.mono fun b hb=>List.mem_cons_of_mem _ (mem_range_flatMap.2 ⟨m,hlt,hb⟩)))
         have HF2:=Lib.hid hf2;have HG2:=Lib.hid hg2;have HTT:=Lib.hid ht2
         have f6:=field5' Z2.out
         have hsz2:w.heap.size < w2.heap.size:=Nat.lt_of_lt_of_le hsz ht2.size
         have hne:w.heap.size ≠ g:=by omega
         clear d0 d1 d2 d3 d4 d5 d6 d7 d8 d9 f5 hg2 hf2 ht2
         go_wp2_with (first
           | (refine wpList_store_mid rfl 37 (.tmp 20) (.tmp 19) rfl g (o+m * 10) #[.int .i64 77,.int .u64 0,.int .u64 0,.int .u64 0,.int .u64 0,.slice none 0 0,.int .i64 m,.int .i64 0,.int .i64 0,.bool false] rfl rfl HTH.out (by kernel_rfl) (by simp [Value.oneCell']) ?_;generalize hw3:World.setCells w2 _ _ _=w3;have HW3:=Lib.hid hw3;clear hw3)
           | fail)
         rw [← HW3.out]
         refine ⟨⟨m+1,by go_num,by omega,Lib.hid (HT2.out.setCells List.mem_cons_self _ _),by rw [size_setCells];exact hsz2,Lib.hid ((heap_setCells_other hne _ _ _).trans Z2.out),Lib.hid ?_,Lib.hid (cells_setCells _ _ _ HF2.out)⟩,by simp [intOf];omega⟩
         intro j u hj hu
         have hjl:=lt_of_some hu
         obtain ⟨q1,q2⟩:=hrest.out j u (by omega) hu
         refine ⟨(q1.keep HG2.out).setCells rfl (by omega), ?_⟩
         have q3:Owned w2 (S j) u.subs (L j):=q2.keep fun b hb=>HTT.out.block b (q2.lt b hb) (HDJ.out j m b hjl hlt (by omega) hb)
         exact q3.keep fun b hb=>heap_setCells_other (fun e=>by subst e;exact HG.out j hjl hb) _ _ _
       · obtain rfl:m=ts.length:=by omega
         go_wp2
         go_end0
         exact ⟨rfl,HT.out⟩
end Go.Proofs.YtogdjbnejpennaaDoor
namespace Go.Proofs.YtogdjbnejpennaaDoor
open Go.RowKit
def NewEnd (t:Tr) (w:World) (e:Ending) (w':World):Prop:=∃ v,e=.returned v∧NodeV w' (fun b=>w.heap.size ≤ b) v t∧Below w.heap.size w w'
theorem NewEnd.of {t:Tr} {w:World} {e:Ending} {w':World} (h:NewEnd t w e w'):∃ s,e=.returned (.agg (t.cells s))∧TreesAt w' (fun b=>w.heap.size ≤ b) s t.subs∧Below w.heap.size w w':=by
 obtain ⟨v,rfl,⟨s,rfl,hs⟩,hb⟩:=h;exact ⟨s,rfl,hs,hb⟩
end Go.Proofs.YtogdjbnejpennaaDoor
namespace Go.Proofs.YtogdjbnejpennaaDoor
open Go.RowKit
theorem sameEnd_yes {t u:Tr} {w w':World} (h:t=u) (hb:Below w.heap.size w w'):SameEnd t u w (.returned (.bool true)) w':=⟨true,rfl,⟨fun _=>h,fun _=>rfl⟩,hb⟩
theorem SameEnd.no {t u:Tr} {w w':World} {e:Ending} (h:SameEnd t u w e w') (ht:t ≠ u):e=.returned (.bool false)∧Below w.heap.size w w':=by
 obtain ⟨b,rfl,hb,hw⟩:=h
 cases b with
 | false=>exact ⟨rfl,hw⟩
 | true=>exact absurd (hb.1 rfl) ht
theorem samenodes_any:∀ t u:Tr,∀ (w:World) (B C:Nat→Prop) (va vb:Value),NodeV w B va t→NodeV w C vb u →
   Calls Tryd.prog 47 #[va,vb] w (SameEnd t u w):=by
 intro t
 induction t using Tr.rec_subs with
 | h t ih =>
   intro u w B C va vb ha hb
   obtain ⟨sa,rfl,hsa⟩:=ha
   obtain ⟨sb,rfl,hsb⟩:=hb
   obtain ⟨p,cap,rfl,hla⟩:=hsa.slice
   obtain ⟨q,cbp,rfl,hlb⟩:=hsb.slice
   have he:=eq4
   cases t with | node k a b c d ts n lo hi br =>
   cases u with | node k' a' b' c' d' us n' lo' hi' br' =>
   simp only [Tr.cells,Tr.kind,Tr.w0,Tr.w1,Tr.w2,Tr.w3,Tr.num,Tr.least,Tr.most,Tr.bare,Tr.subs] at *
   have IH:=Lib.hid ih
   clear ih
   by_cases hx:k=k'
   case neg =>
     have HN:=Lib.hid (show Tr.node k a b c d ts n lo hi br ≠ .node k' a' b' c' d' us n' lo' hi' br' from fun h=>by cases h;exact hx rfl)
     have e1:(k != k')=true:=by simpa using hx
     clear hx
     go_enter Tryd.func47,Tryd.ntmps47
     go_wp2
     go_ret
     exact sameEnd_no HN.out (by go_grown)
   obtain rfl:=hx
   by_cases hx:a=a'∧b=b'∧c=c'∧d=d'
   case neg =>
     have HN:=Lib.hid (show Tr.node k a b c d ts n lo hi br ≠ .node k a' b' c' d' us n' lo' hi' br' from fun h=>by cases h;exact hx ⟨rfl,rfl,rfl,rfl⟩)
     have e2:=U_ne hx
     clear hx
     go_enter Tryd.func47,Tryd.ntmps47
     go_wp2
     go_ret
     exact sameEnd_no HN.out (by go_grown)
   obtain ⟨rfl,rfl,rfl,rfl⟩:=hx
   by_cases hx:n=n'
   case neg =>
     have HN:=Lib.hid (show Tr.node k a b c d ts n lo hi br ≠ .node k a b c d us n' lo' hi' br' from fun h=>by cases h;exact hx rfl)
     have e1:(n != n')=true:=by simpa using hx
     clear hx
     go_enter Tryd.func47,Tryd.ntmps47
     go_wp2
     go_ret
     exact sameEnd_no HN.out (by go_grown)
   obtain rfl:=hx
   by_cases hx:lo=lo'
   case neg =>
     have HN:=Lib.hid (show Tr.node k a b c d ts n lo hi br ≠ .node k a b c d us n lo' hi' br' from fun h=>by cases h;exact hx rfl)
     have e1:(lo != lo')=true:=by simpa using hx
     clear hx
     go_enter Tryd.func47,Tryd.ntmps47
     go_wp2
     go_ret
     exact sameEnd_no HN.out (by go_grown)
   obtain rfl:=hx
   by_cases hx:hi=hi'
   case neg =>
     have HN:=Lib.hid (show Tr.node k a b c d ts n lo hi br ≠ .node k a b c d us n lo hi' br' from fun h=>by cases h;exact hx rfl)
     have e1:(hi != hi')=true:=by simpa using hx
     clear hx
     go_enter Tryd.func47,Tryd.ntmps47
     go_wp2
     go_ret
     exact sameEnd_no HN.out (by go_grown)
   obtain rfl:=hx
   by_cases hx:br=br'
   case neg =>
     have HN:=Lib.hid (show Tr.node k a b c d ts n lo hi br ≠ .node k a b c d us n lo hi br' from fun h=>by cases h;exact hx rfl)
     have hbb:(br=true∧br'=false) ∨ (br=false∧br'=true):=by cases br <;> cases br' <;> simp at hx ⊢
     clear hx
     rcases hbb with ⟨rfl,rfl⟩ | ⟨rfl,rfl⟩
     all_goals
       go_enter Tryd.func47,Tryd.ntmps47
       go_wp2
       go_ret
       exact sameEnd_no HN.out (by go_grown)
   obtain rfl:=hx
   by_cases hx:ts.length=us.length
   case neg =>
     have HN:=Lib.hid (show Tr.node k a b c d ts n lo hi br ≠ .node k a b c d us n lo hi br from fun h=>by cases h;exact hx rfl)
     have e1:((ts.length:Int) != (us.length:Int))=true:=by simp;omega
     have e2:(ts.length != us.length)=true:=by simpa using hx
     have e3:(ts.length == us.length)=false:=by simpa using hx
     clear hx
     go_enter Tryd.func47,Tryd.ntmps47
     go_wp2
     go_ret
     exact sameEnd_no HN.out (by go_grown)
   have hlen:us.length=ts.length:=hx.symm
   clear hx
   have HSA:=Lib.hid hsa;have HSB:=Lib.hid hsb
   clear hsa hsb
   rw [hlen] at HSB hlb ⊢
   go_enter Tryd.func47,Tryd.ntmps47
   go_wp2
   go_loopw [58] (fun iv wr=>∃ m:Nat,iv=.int .i64 m∧m ≤ ts.length∧Hid (∀ j,j < m→ts[j]? = us[j]?)∧Below w.heap.size w wr∧w.heap.size+1 < wr.heap.size ∧
     wr.heap[w.heap.size]? = some (.cells #[.int .i64 k,.int .u64 (Oc.U a),.int .u64 (Oc.U b),.int .u64 (Oc.U c),.int .u64 (Oc.U d),.slice p ts.length cap,.int .i64 n,.int .i64 lo,.int .i64 hi,.bool br] 37)∧wr.heap[w.heap.size+1]? = some (.cells #[.int .i64 k,.int .u64 (Oc.U a),.int .u64 (Oc.U b),.int .u64 (Oc.U c),.int .u64 (Oc.U d),.slice q ts.length cbp,.int .i64 n,.int .i64 lo,.int .i64 hi,.bool br] 37)) (fun iv _=>ts.length - (intOf iv).toNat)
   case atStart=>exact ⟨0,rfl,Nat.zero_le _,Lib.hid (fun j hj=>absurd hj (Nat.not_lt_zero _)),by go_grown,by simp,(two_new _ _ _).1,(two_new _ _ _).2⟩
   case round =>
     obtain ⟨m,rfl,hm,hall,hbel,hsz,z2,z3⟩:=hrel
     have Z2:=Lib.hid z2;have Z3:=Lib.hid z3;have HB:=Lib.hid hbel
     clear z2 z3 hbel
     have wm:IntKind.i64.wrap ((m:Int)+1)=(m:Int)+1:=IntWalk.i64_in _ (by omega)
     by_cases hlt:m < ts.length
     · obtain ⟨x,hx⟩:∃ x,ts[m]? = some x:=⟨_,List.getElem?_eq_getElem hlt⟩
       obtain ⟨y,hy⟩:∃ y,us[m]? = some y:=⟨_,List.getElem?_eq_getElem (by omega)⟩
       obtain ⟨b1,o1,s1,rfl,-,t1,sub1⟩:=HSA.out.get hx
       obtain ⟨b2,o2,s2,rfl,-,t2,sub2⟩:=HSB.out.get hy
       have T1:=Lib.hid t1;have T2:=Lib.hid t2
       have l1:=t1.lt;have l2:=t2.lt
       have HS:=Lib.hid (fun w9 (hb:Below wr.heap.size wr w9)=>IH.out x (List.mem_of_getElem? hx) y w9 B C (.agg #[.int .i64 x.kind,.int .u64 (Oc.U x.w0),.int .u64 (Oc.U x.w1),.int .u64 (Oc.U x.w2),.int .u64 (Oc.U x.w3),s1,.int .i64 x.num,.int .i64 x.least,.int .i64 x.most,.bool x.bare]) (.agg #[.int .i64 y.kind,.int .u64 (Oc.U y.w0),.int .u64 (Oc.U y.w1),.int .u64 (Oc.U y.w2),.int .u64 (Oc.U y.w3),s2,.int .i64 y.num,.int .i64 y.least,.int .i64 y.most,.bool y.bare]) ⟨s1,rfl,sub1.later (HB.out.trans (hb.mono HB.out.size))⟩ ⟨s2,rfl,sub2.later (HB.out.trans (hb.mono HB.out.size))⟩)
       clear t1 t2 sub1 sub2
       have HX:=Lib.hid hx;have HY:=Lib.hid hy
       clear hx hy
       by_cases heq:x=y
       · have HQ:=Lib.hid heq
         clear heq
         go_wp2
         refine Ri.wp_region_frame (by kernel_rfl) (by kernel_rfl) (by kernel_rfl) (by kernel_rfl)
           (fun L v w'=>Below wr.heap.size wr w'∧(L 0=true→v 0=.pointer (some ⟨w.heap.size,5,none⟩))∧(L 1=true→v 1=.slice (some ⟨b1,o1,none⟩) ts.length cap)∧(L 2=true→v 2=.int .i64 m)∧(L 3=true→v 3=.pointer (some ⟨b1,o1+m * 10,none⟩))∧(L 4=true→v 4=.agg #[.int .i64 x.kind,.int .u64 (Oc.U x.w0),.int .u64 (Oc.U x.w1),.int .u64 (Oc.U x.w2),.int .u64 (Oc.U x.w3),s1,.int .i64 x.num,.int .i64 x.least,.int .i64 x.most,.bool x.bare])∧(L 5=true→v 5=.pointer (some ⟨w.heap.size+1,5,none⟩))∧(L 6=true→v 6=.slice (some ⟨b2,o2,none⟩) ts.length cbp)∧(L 7=true→v 7=.int .i64 m)∧(L 8=true→v 8=.pointer (some ⟨b2,o2+m * 10,none⟩))∧(L 9=true→v 9=.agg #[.int .i64 y.kind,.int .u64 (Oc.U y.w0),.int .u64 (Oc.U y.w1),.int .u64 (Oc.U y.w2),.int .u64 (Oc.U y.w3),s2,.int .i64 y.num,.int .i64 y.least,.int .i64 y.most,.bool y.bare])∧(L 10=true→v 10=.bool true)∧(L 11=true→v 11=.bool false))
           ?_ ?_ ?_
         · exact ⟨(Below.refl _ _).drew,by simp,by simp,by simp,by simp,by simp,by simp,by simp,by simp,by simp,by simp,by simp,by simp⟩
         · intro i hi9 L v w9 xa hI hL hd hv ho
           have hi':i=0 ∨ i=1 ∨ i=2 ∨ i=3 ∨ i=4 ∨ i=5 ∨ i=6 ∨ i=7 ∨ i=8 ∨ i=9 ∨ i=10 ∨ i=11:=by simp at hi9;omega
           obtain ⟨hb,q0,q1,q2,q3,q4,q5,q6,q7,q8,q9,q10,q11⟩:=hI
           rcases hi' with rfl | rfl | rfl | rfl | rfl | rfl | rfl | rfl | rfl | rfl | rfl | rfl
           · have e2:xa.tmps.getD 2 undef=.pointer (some ⟨w.heap.size,0,none⟩):=ho 2 (by kernel_rfl)
             refine Ri.step_plain rfl rfl (fun K' hK=>?_)
             go_simp
             exact hK _ _ ⟨_,_,rfl,rfl,hb,fun _=>rfl,q1,q2,q3,q4,q5,q6,q7,q8,q9,q10,q11⟩
           · have l0:L 0=true:=by have:=hd _ rfl;simp [Region.binds] at this;simp [this]
             have f0:=(hv 0 61 rfl l0).trans (q0 l0)
             refine Ri.step_plain rfl rfl (fun K' hK=>?_)
             obtain c5:=field5 (keep_blk hb Z2.out)
             go_simp
             exact hK _ _ ⟨_,_,rfl,rfl,hb,q0,fun _=>rfl,q2,q3,q4,q5,q6,q7,q8,q9,q10,q11⟩
           · have e5:xa.tmps.getD 5 undef=.int .i64 m:=ho 5 (by kernel_rfl)
             refine Ri.step_plain rfl rfl (fun K' hK=>?_)
             go_simp
             exact hK _ _ ⟨_,_,rfl,rfl,hb,q0,q1,fun _=>rfl,q3,q4,q5,q6,q7,q8,q9,q10,q11⟩
           · have l0:L 1=true∧L 2=true:=by have:=hd _ rfl;simp [Region.binds] at this;simp [this]
             have f1:=(hv 1 62 rfl l0.1).trans (q1 l0.1)
             have f2:=(hv 2 63 rfl l0.2).trans (q2 l0.2)
             refine Ri.step_plain rfl rfl (fun K' hK=>?_)
             go_simp
             exact hK _ _ ⟨_,_,rfl,rfl,hb,q0,q1,q2,fun _=>rfl,q4,q5,q6,q7,q8,q9,q10,q11⟩
           · have l0:L 3=true:=by have:=hd _ rfl;simp [Region.binds] at this;simp [this]
             have f3:=(hv 3 64 rfl l0).trans (q3 l0)
             refine Ri.step_plain rfl rfl (fun K' hK=>?_)
             obtain ⟨d0,d1,d2,d3,d4,d5,d6,d7,d8,d9⟩:=(T1.out.keep ((HB.out.trans (hb.mono HB.out.size)).block _ l1))
             go_simp
             exact hK _ _ ⟨_,_,rfl,rfl,hb,q0,q1,q2,q3,fun _=>rfl,q5,q6,q7,q8,q9,q10,q11⟩
           · have e3:xa.tmps.getD 3 undef=.pointer (some ⟨w.heap.size+1,0,none⟩):=ho 3 (by kernel_rfl)
             refine Ri.step_plain rfl rfl (fun K' hK=>?_)
             go_simp
             exact hK _ _ ⟨_,_,rfl,rfl,hb,q0,q1,q2,q3,q4,fun _=>rfl,q6,q7,q8,q9,q10,q11⟩
           · have l0:L 5=true:=by have:=hd _ rfl;simp [Region.binds] at this;simp [this]
             have f5:=(hv 5 66 rfl l0).trans (q5 l0)
             refine Ri.step_plain rfl rfl (fun K' hK=>?_)
             obtain c5:=field5 (keep_blk hb Z3.out)
             go_simp
             exact hK _ _ ⟨_,_,rfl,rfl,hb,q0,q1,q2,q3,q4,q5,fun _=>rfl,q7,q8,q9,q10,q11⟩
           · have e5:xa.tmps.getD 5 undef=.int .i64 m:=ho 5 (by kernel_rfl)
             refine Ri.step_plain rfl rfl (fun K' hK=>?_)
             go_simp
             exact hK _ _ ⟨_,_,rfl,rfl,hb,q0,q1,q2,q3,q4,q5,q6,fun _=>rfl,q8,q9,q10,q11⟩
           · have l0:L 6=true∧L 7=true:=by have:=hd _ rfl;simp [Region.binds] at this;simp [this]
             have f6:=(hv 6 67 rfl l0.1).trans (q6 l0.1)
             have f7:=(hv 7 68 rfl l0.2).trans (q7 l0.2)
             refine Ri.step_plain rfl rfl (fun K' hK=>?_)
             go_simp
             exact hK _ _ ⟨_,_,rfl,rfl,hb,q0,q1,q2,q3,q4,q5,q6,q7,fun _=>rfl,q9,q10,q11⟩
           · have l0:L 8=true:=by have:=hd _ rfl;simp [Region.binds] at this;simp [this]
             have f8:=(hv 8 69 rfl l0).trans (q8 l0)
             refine Ri.step_plain rfl rfl (fun K' hK=>?_)
             obtain ⟨d0,d1,d2,d3,d4,d5,d6,d7,d8,d9⟩:=(T2.out.keep ((HB.out.trans (hb.mono HB.out.size)).block _ l2))
             go_simp
             exact hK _ _ ⟨_,_,rfl,rfl,hb,q0,q1,q2,q3,q4,q5,q6,q7,q8,fun _=>rfl,q10,q11⟩
           · have l0:L 4=true∧L 9=true:=by have:=hd _ rfl;simp [Region.binds] at this;simp [this]
             have f4:=(hv 4 65 rfl l0.1).trans (q4 l0.1)
             have f9:=(hv 9 70 rfl l0.2).trans (q9 l0.2)
             refine Ri.step_plain rfl rfl (fun K' hK=>?_)
             go_simp
             refine ((HS.out _ hb).mono fun _ _ h=>h.yes HQ.out).mono ?_
             rintro e w8 ⟨rfl,hb8⟩
             exact hK _ _ ⟨_,_,rfl,rfl,hb.trans (hb8.mono hb.size),q0,q1,q2,q3,q4,q5,q6,q7,q8,q9,fun _=>rfl,q11⟩
           · have l0:L 10=true:=by have:=hd _ rfl;simp [Region.binds] at this;simp [this]
             have f10:=(hv 10 71 rfl l0).trans (q10 l0)
             refine Ri.step_plain rfl rfl (fun K' hK=>?_)
             go_simp
             exact hK _ _ ⟨_,_,rfl,rfl,hb,q0,q1,q2,q3,q4,q5,q6,q7,q8,q9,q10,fun _=>rfl⟩
         · rintro v w9 ⟨hb,-,-,-,-,-,-,-,-,-,-,-,q11⟩
           have q11':v 11=.bool false:=q11 rfl
           simp only [Ri.frame,List.zipIdx,List.foldl_cons,List.foldl_nil,if_true,List.setIfInBounds_toArray,List.set_cons_zero,List.set_cons_succ,Nat.reduceAdd,q11']
           clear q11 q11'
           generalize v 0=y0;generalize v 1=y1;generalize v 2=y2;generalize v 3=y3;generalize v 4=y4;generalize v 5=y5;generalize v 6=y6;generalize v 7=y7;generalize v 8=y8;generalize v 9=y9;generalize v 10=y10
           have Y2:=keep_blk hb Z2.out;have Y3:=keep_blk hb Z3.out;have HB9:=HB.out.trans (hb.mono HB.out.size);have hz9:=hb.size
           have W2:=Lib.hid Y2;have W3:=Lib.hid Y3;have HB10:=Lib.hid HB9
           clear hb Y2 Y3 HB9
           go_wp2
           exact ⟨⟨m+1,by go_num,by omega,Lib.hid (fun j hj=>by
             by_cases hjm:j=m
             · rw [hjm,HX.out,HY.out,HQ.out]
             · exact hall.out j (by omega)),HB10.out,by omega,W2.out,W3.out⟩,by simp [intOf];omega⟩
       · have HQ:=Lib.hid heq
         clear heq
         go_wp2
         refine Ri.wp_region_frame (by kernel_rfl) (by kernel_rfl) (by kernel_rfl) (by kernel_rfl)
           (fun L v w'=>Below wr.heap.size wr w'∧(L 0=true→v 0=.pointer (some ⟨w.heap.size,5,none⟩))∧(L 1=true→v 1=.slice (some ⟨b1,o1,none⟩) ts.length cap)∧(L 2=true→v 2=.int .i64 m)∧(L 3=true→v 3=.pointer (some ⟨b1,o1+m * 10,none⟩))∧(L 4=true→v 4=.agg #[.int .i64 x.kind,.int .u64 (Oc.U x.w0),.int .u64 (Oc.U x.w1),.int .u64 (Oc.U x.w2),.int .u64 (Oc.U x.w3),s1,.int .i64 x.num,.int .i64 x.least,.int .i64 x.most,.bool x.bare])∧(L 5=true→v 5=.pointer (some ⟨w.heap.size+1,5,none⟩))∧(L 6=true→v 6=.slice (some ⟨b2,o2,none⟩) ts.length cbp)∧(L 7=true→v 7=.int .i64 m)∧(L 8=true→v 8=.pointer (some ⟨b2,o2+m * 10,none⟩))∧(L 9=true→v 9=.agg #[.int .i64 y.kind,.int .u64 (Oc.U y.w0),.int .u64 (Oc.U y.w1),.int .u64 (Oc.U y.w2),.int .u64 (Oc.U y.w3),s2,.int .i64 y.num,.int .i64 y.least,.int .i64 y.most,.bool y.bare])∧(L 10=true→v 10=.bool false)∧(L 11=true→v 11=.bool true))
           ?_ ?_ ?_
         · exact ⟨(Below.refl _ _).drew,by simp,by simp,by simp,by simp,by simp,by simp,by simp,by simp,by simp,by simp,by simp,by simp⟩
         · intro i hi9 L v w9 xa hI hL hd hv ho
           have hi':i=0 ∨ i=1 ∨ i=2 ∨ i=3 ∨ i=4 ∨ i=5 ∨ i=6 ∨ i=7 ∨ i=8 ∨ i=9 ∨ i=10 ∨ i=11:=by simp at hi9;omega
           obtain ⟨hb,q0,q1,q2,q3,q4,q5,q6,q7,q8,q9,q10,q11⟩:=hI
           rcases hi' with rfl | rfl | rfl | rfl | rfl | rfl | rfl | rfl | rfl | rfl | rfl | rfl
           · have e2:xa.tmps.getD 2 undef=.pointer (some ⟨w.heap.size,0,none⟩):=ho 2 (by kernel_rfl)
             refine Ri.step_plain rfl rfl (fun K' hK=>?_)
             go_simp
             exact hK _ _ ⟨_,_,rfl,rfl,hb,fun _=>rfl,q1,q2,q3,q4,q5,q6,q7,q8,q9,q10,q11⟩
           · have l0:L 0=true:=by have:=hd _ rfl;simp [Region.binds] at this;simp [this]
             have f0:=(hv 0 61 rfl l0).trans (q0 l0)
             refine Ri.step_plain rfl rfl (fun K' hK=>?_)
             obtain c5:=field5 (keep_blk hb Z2.out)
             go_simp
             exact hK _ _ ⟨_,_,rfl,rfl,hb,q0,fun _=>rfl,q2,q3,q4,q5,q6,q7,q8,q9,q10,q11⟩
           · have e5:xa.tmps.getD 5 undef=.int .i64 m:=ho 5 (by kernel_rfl)
             refine Ri.step_plain rfl rfl (fun K' hK=>?_)
             go_simp
             exact hK _ _ ⟨_,_,rfl,rfl,hb,q0,q1,fun _=>rfl,q3,q4,q5,q6,q7,q8,q9,q10,q11⟩
           · have l0:L 1=true∧L 2=true:=by have:=hd _ rfl;simp [Region.binds] at this;simp [this]
             have f1:=(hv 1 62 rfl l0.1).trans (q1 l0.1)
             have f2:=(hv 2 63 rfl l0.2).trans (q2 l0.2)
             refine Ri.step_plain rfl rfl (fun K' hK=>?_)
             go_simp
             exact hK _ _ ⟨_,_,rfl,rfl,hb,q0,q1,q2,fun _=>rfl,q4,q5,q6,q7,q8,q9,q10,q11⟩
           · have l0:L 3=true:=by have:=hd _ rfl;simp [Region.binds] at this;simp [this]
             have f3:=(hv 3 64 rfl l0).trans (q3 l0)
             refine Ri.step_plain rfl rfl (fun K' hK=>?_)
             obtain ⟨d0,d1,d2,d3,d4,d5,d6,d7,d8,d9⟩:=(T1.out.keep ((HB.out.trans (hb.mono HB.out.size)).block _ l1))
             go_simp
             exact hK _ _ ⟨_,_,rfl,rfl,hb,q0,q1,q2,q3,fun _=>rfl,q5,q6,q7,q8,q9,q10,q11⟩
           · have e3:xa.tmps.getD 3 undef=.pointer (some ⟨w.heap.size+1,0,none⟩):=ho 3 (by kernel_rfl)
             refine Ri.step_plain rfl rfl (fun K' hK=>?_)
             go_simp
             exact hK _ _ ⟨_,_,rfl,rfl,hb,q0,q1,q2,q3,q4,fun _=>rfl,q6,q7,q8,q9,q10,q11⟩
           · have l0:L 5=true:=by have:=hd _ rfl;simp [Region.binds] at this;simp [this]
             have f5:=(hv 5 66 rfl l0).trans (q5 l0)
             refine Ri.step_plain rfl rfl (fun K' hK=>?_)
             obtain c5:=field5 (keep_blk hb Z3.out)
             go_simp
             exact hK _ _ ⟨_,_,rfl,rfl,hb,q0,q1,q2,q3,q4,q5,fun _=>rfl,q7,q8,q9,q10,q11⟩
           · have e5:xa.tmps.getD 5 undef=.int .i64 m:=ho 5 (by kernel_rfl)
             refine Ri.step_plain rfl rfl (fun K' hK=>?_)
             go_simp
             exact hK _ _ ⟨_,_,rfl,rfl,hb,q0,q1,q2,q3,q4,q5,q6,fun _=>rfl,q8,q9,q10,q11⟩
           · have l0:L 6=true∧L 7=true:=by have:=hd _ rfl;simp [Region.binds] at this;simp [this]
             have f6:=(hv 6 67 rfl l0.1).trans (q6 l0.1)
             have f7:=(hv 7 68 rfl l0.2).trans (q7 l0.2)
             refine Ri.step_plain rfl rfl (fun K' hK=>?_)
             go_simp
             exact hK _ _ ⟨_,_,rfl,rfl,hb,q0,q1,q2,q3,q4,q5,q6,q7,fun _=>rfl,q9,q10,q11⟩
           · have l0:L 8=true:=by have:=hd _ rfl;simp [Region.binds] at this;simp [this]
             have f8:=(hv 8 69 rfl l0).trans (q8 l0)
             refine Ri.step_plain rfl rfl (fun K' hK=>?_)
             obtain ⟨d0,d1,d2,d3,d4,d5,d6,d7,d8,d9⟩:=(T2.out.keep ((HB.out.trans (hb.mono HB.out.size)).block _ l2))
             go_simp
             exact hK _ _ ⟨_,_,rfl,rfl,hb,q0,q1,q2,q3,q4,q5,q6,q7,q8,fun _=>rfl,q10,q11⟩
           · have l0:L 4=true∧L 9=true:=by have:=hd _ rfl;simp [Region.binds] at this;simp [this]
             have f4:=(hv 4 65 rfl l0.1).trans (q4 l0.1)
             have f9:=(hv 9 70 rfl l0.2).trans (q9 l0.2)
             refine Ri.step_plain rfl rfl (fun K' hK=>?_)
             go_simp
             refine ((HS.out _ hb).mono fun _ _ h=>h.no HQ.out).mono ?_
             rintro e w8 ⟨rfl,hb8⟩
             exact hK _ _ ⟨_,_,rfl,rfl,hb.trans (hb8.mono hb.size),q0,q1,q2,q3,q4,q5,q6,q7,q8,q9,fun _=>rfl,q11⟩
           · have l0:L 10=true:=by have:=hd _ rfl;simp [Region.binds] at this;simp [this]
             have f10:=(hv 10 71 rfl l0).trans (q10 l0)
             refine Ri.step_plain rfl rfl (fun K' hK=>?_)
             go_simp
             exact hK _ _ ⟨_,_,rfl,rfl,hb,q0,q1,q2,q3,q4,q5,q6,q7,q8,q9,q10,fun _=>rfl⟩
         · rintro v w9 ⟨hb,-,-,-,-,-,-,-,-,-,-,-,q11⟩
           have q11':v 11=.bool true:=q11 rfl
           simp only [Ri.frame,List.zipIdx,List.foldl_cons,List.foldl_nil,if_true,List.setIfInBounds_toArray,List.set_cons_zero,List.set_cons_succ,Nat.reduceAdd,q11']
           clear q11 q11'
           generalize v 0=y0;generalize v 1=y1;generalize v 2=y2;generalize v 3=y3;generalize v 4=y4;generalize v 5=y5;generalize v 6=y6;generalize v 7=y7;generalize v 8=y8;generalize v 9=y9;generalize v 10=y10
           have HB10:=Lib.hid (HB.out.trans (hb.mono HB.out.size))
           clear hb
           go_wp2
           go_ret
           refine sameEnd_no (fun h=>?_) HB10.out
           have hts:ts=us:=by injection h
           have:=HX.out
           rw [hts,HY.out] at this
           exact HQ.out (Option.some.inj this).symm
     · obtain rfl:m=ts.length:=by omega
       have hts:ts=us:=List.ext_getElem? fun j=>by
         by_cases hj:j < ts.length
         · exact hall.out j hj
         · rw [List.getElem?_eq_none (by omega),List.getElem?_eq_none (by omega)]
       have HTS:=Lib.hid hts
       clear hts hlt
       go_wp2
       go_ret
       exact sameEnd_yes (by rw [HTS.out]) HB.out
end Go.Proofs.YtogdjbnejpennaaDoor
namespace Go.Proofs.YtogdjbnejpennaaDoor
open Go.RowKit
def MemsAt (w:World) (base:Nat) (v:Value) (ps:List (Tr × Value)):Prop :=
 ∃ L:Nat→List Nat,(∀ (i:Nat) (t:Tr) (s:Value),ps[i]? = some (t,s)→Owned w s t.subs (L i))∧(∀ i b,i < ps.length→b ∈ L i→base ≤ b∧v.ownBlock ≠ some b)∧(∀ i j b,i < ps.length→j < ps.length→i ≠ j→b ∈ L i→b ∉ L j)
theorem MemsAt.nil (w:World) (base:Nat) (v:Value):MemsAt w base v []:=⟨fun _=>[],fun i t s h=>by simp at h,fun i b h=>by simp at h,fun i j b h=>by simp at h⟩
theorem MemsAt.step {wr w3 w4:World} {base:Nat} {v v':Value} {ps:List (Tr × Value)} {x:Tr} {s:Value} {F:List Nat} (h:MemsAt wr base v ps) (hb:Below wr.heap.size wr w3) (ho:Owned w3 s x.subs F) (hF:∀ b,b ∈ F→wr.heap.size ≤ b) (hbase:base ≤ wr.heap.size)
   (hv:∀ g,v.ownBlock=some g→g < wr.heap.size) (hg:w3.grownBy w4 v.ownBlock) (hw:v'.ownBlock=v.ownBlock ∨ v'.ownBlock=some w3.heap.size):MemsAt w4 base v' (ps ++ [(x,s)]):=by
 obtain ⟨L,h1,h2,h3⟩:=h
 have hlt:∀ i b,i < ps.length→b ∈ L i→b < wr.heap.size:=fun i b hi hb'=>(h1 i ps[i].1 ps[i].2 (List.getElem?_eq_getElem hi)).lt b hb'
 have hnew:∀ b,b < w3.heap.size→v.ownBlock ≠ some b→v'.ownBlock ≠ some b:=fun b hb' hne=>by
   rcases hw with e | e
   · rw [e];exact hne
   · rw [e];intro h;have:=Option.some.inj h;omega
 have hFv:∀ b,b ∈ F→v.ownBlock ≠ some b:=fun b hb' e=>by have:=hv b e;have:=hF b hb';omega
 refine ⟨pick L ps.length F,fun i t s' hi=>?_,fun i b hi hbL=>?_,fun i j b hi hj hij h5 h6=>?_⟩
 · by_cases hip:i < ps.length
   · rw [List.getElem?_append_left hip] at hi
     rw [pick_ne _ _ _ (by omega)]
     exact ((h1 i t s' hi).later hb).keep fun b hb'=>hg.block b (Nat.lt_of_lt_of_le (hlt i b hip hb') hb.size) (fun e=>(h2 i b hip hb').2 e.symm)
   · rw [List.getElem?_append_right (by omega)] at hi
     have hi0:i - ps.length=0:=by
       by_cases h0:i - ps.length=0
       · exact h0
       · rw [List.getElem?_eq_none (by simp;omega)] at hi;cases hi
     rw [hi0] at hi
     simp only [List.getElem?_cons_zero,Option.some.injEq,Prod.mk.injEq] at hi
     obtain ⟨rfl,rfl⟩:=hi
     obtain rfl:i=ps.length:=by omega
     rw [pick_eq]
     exact ho.keep fun b hb'=>hg.block b (ho.lt b hb') (fun e=>hFv b hb' e.symm)
 · rw [List.length_append] at hi
   by_cases e:i=ps.length
   · subst e;rw [pick_eq] at hbL
     exact ⟨by have:=hF b hbL;omega,hnew b (ho.lt b hbL) (hFv b hbL)⟩
   · rw [pick_ne _ _ _ e] at hbL
     have hip:i < ps.length:=by simp at hi;omega
     exact ⟨(h2 i b hip hbL).1,hnew b (Nat.lt_of_lt_of_le (hlt i b hip hbL) hb.size) (h2 i b hip hbL).2⟩
 · rw [List.length_append] at hi hj
   simp only [List.length_cons,List.length_nil] at hi hj
   by_cases e:i=ps.length
   · subst e
     rw [pick_eq] at h5;rw [pick_ne _ _ _ (Ne.symm hij)] at h6
     have:=hF b h5;have:=hlt j b (by omega) h6;omega
   · rw [pick_ne _ _ _ e] at h5
     by_cases e2:j=ps.length
     · subst e2;rw [pick_eq] at h6
       have:=hF b h6;have:=hlt i b (by omega) h5;omega
     · rw [pick_ne _ _ _ e2] at h6;exact h3 i j b (by omega) (by omega) hij h5 h6
theorem owned_of_row {w:World} {base:Nat} {v:Value} {n:Nat} {ps:List (Tr × Value)} (h:w.ownsRow base 37 10 v n (rowOf ps)) (hn:ps.length * 96 ≤ 140737488351232) (hm:MemsAt w base v ps) :
   ∃ F,Owned w v (ps.map (·.1)) F∧∀ b,b ∈ F→base ≤ b:=by
 obtain ⟨L,h1,h2,h3⟩:=hm
 have hlen:ps.length=n:=by have:=h.1;rw [rowOf_length] at this;omega
 have hcells:=fun g hv=>World.ownsRow.cells h (g:=g) hv
 rcases h.2 with ⟨rfl,hn0⟩ | ⟨g,cap,cur,rfl,hbg,hheap,-⟩
 · have:ps=[]:=List.length_eq_zero_iff.1 (by omega)
   subst this
   exact ⟨[],Owned.nil _ _,fun b hb=>by cases hb⟩
 · have hc:=hcells g rfl
   have key:∀ (i:Nat) (t:Tr) (s:Value),ps[i]? = some (t,s)→TenAt w g (0+i * 10) t s:=by
     intro i t s hi
     have get:∀ j u,j < 10→(t.cells s)[j]? = some u→w.cell? ⟨g,0+i * 10+j,none⟩=some u:=by
       intro j u hj hu
       have:=hc (i * 10+j) u (by rw [rowOf_get ps i t s hi j hj];exact hu)
       have ea:(⟨g,0,none⟩:Addr).add (i * 10+j)=⟨g,0+i * 10+j,none⟩:=by unfold Addr.add;split <;> simp_all <;> omega
       rw [ea] at this;exact this
     exact ⟨get 0 _ (by omega) rfl,get 1 _ (by omega) rfl,get 2 _ (by omega) rfl,get 3 _ (by omega) rfl,get 4 _ (by omega) rfl,get 5 _ (by omega) rfl,get 6 _ (by omega) rfl,get 7 _ (by omega) rfl,get 8 _ (by omega) rfl,get 9 _ (by omega) rfl⟩
   have hl2:n=(ps.map (·.1)).length:=by rw [List.length_map];omega
   rw [hl2]
   have split:∀ (i:Nat) (t:Tr),(ps.map (·.1))[i]? = some t→∃ s,ps[i]? = some (t,s):=by
     intro i t hi
     rw [List.getElem?_map] at hi
     cases hx:ps[i]? with
     | none=>rw [hx] at hi;cases hi
     | some x=>rw [hx] at hi;cases x with | mk a b=>simp only [Option.map_some,Option.some.injEq] at hi;subst hi;exact ⟨b,rfl⟩
   refine ⟨_,.row g 0 cap (ps.map (·.1)) (fun i=>((ps[i]?).map (·.2)).getD undef) L (by rw [List.length_map];exact hn) ⟨_,_,hheap⟩ (fun i t hi=>?_) (fun i t hi=>?_) (fun i hi hgL=>?_) (fun i j b hi hj=>?_),fun b hb=>?_⟩
   · obtain ⟨s,hs'⟩:=split i t hi
     simp only [hs',Option.map_some,Option.getD_some];exact key i t s hs'
   · obtain ⟨s,hs'⟩:=split i t hi
     simp only [hs',Option.map_some,Option.getD_some]
     exact h1 i t s hs'
   · rw [List.length_map] at hi;exact (h2 i g hi hgL).2 rfl
   · rw [List.length_map] at hi hj;exact h3 i j b hi hj
   · rcases List.mem_cons.1 hb with rfl | hb
     · exact hbg
     · obtain ⟨i,hi,hb⟩:=mem_range_flatMap.1 hb
       rw [List.length_map] at hi;exact (h2 i b hi hb).1
theorem copynode_own:∀ t:Tr,∀ (w:World) (B:Nat→Prop) (v:Value),NodeV w B v t→Calls Tryd.prog 43 #[v] w (OwnEnd t w):=by
 intro t
 induction t using Tr.rec_subs with
 | h t ih =>
   intro w B v hv
   obtain ⟨s,rfl,hs⟩:=hv
   obtain ⟨p,cap,rfl,hlen⟩:=hs.slice
   cases t with | node k a b c d ts n lo hi br =>
   simp only [Tr.cells,Tr.kind,Tr.w0,Tr.w1,Tr.w2,Tr.w3,Tr.num,Tr.least,Tr.most,Tr.bare,Tr.subs] at *
   have IH:=Lib.hid ih
   have HS:=Lib.hid hs
   clear ih hs
   go_enter Tryd.func43,Tryd.ntmps43
   obtain ⟨ie,hi0,hz0,hz1,hz2⟩:=info_parts Tryd.infoNode
   have HI:=Lib.hid hi0;have HZ0:=Lib.hid hz0;have HZ1:=Lib.hid hz1;have HZ2:=Lib.hid hz2
   clear hi0 hz0 hz1 hz2
   go_wp2
   go_loopw [9,3] (fun iv sv wr=>∃ ps:List (Tr × Value),iv=.int .i64 ps.length∧ps.length ≤ ts.length∧Hid (ps.map (·.1)=ts.take ps.length)∧Hid (wr.ownsRow (w.heap.size+2) 37 10 sv ps.length (rowOf ps)) ∧
     Hid (MemsAt wr (w.heap.size+2) sv ps)∧Hid (Below w.heap.size w wr)∧w.heap.size+1 < wr.heap.size ∧
     Hid (wr.heap[w.heap.size]? = some (.cells #[.int .i64 k,.int .u64 (Oc.U a),.int .u64 (Oc.U b),.int .u64 (Oc.U c),.int .u64 (Oc.U d),.slice p ts.length cap,.int .i64 n,.int .i64 lo,.int .i64 hi,.bool br] 37))∧Hid (wr.heap[w.heap.size+1]? = some (.cells #[.int .i64 0,.int .u64 0,.int .u64 0,.int .u64 0,.int .u64 0,.slice none 0 0,.int .i64 0,.int .i64 0,.int .i64 0,.bool false] 37))) (fun iv _ _=>ts.length - (intOf iv).toNat)
   case atStart =>
     exact ⟨[],rfl,Nat.zero_le _,Lib.hid (by simp),Lib.hid (World.ownsRow_nil _ _ _ _),Lib.hid (MemsAt.nil _ _ _),Lib.hid (by go_grown),by simp,Lib.hid (two_new _ _ _).1,Lib.hid (two_new _ _ _).2⟩
   case round =>
     obtain ⟨ps,rfl,hm,hmap,hown,hsubs,HB,hsz,Z0,Z1⟩:=hrel
     have wm:IntKind.i64.wrap ((ps.length:Int)+1)=(ps.length:Int)+1:=IntWalk.i64_in _ (by omega)
     by_cases hlt:ps.length < ts.length
     · obtain ⟨x,hx⟩:∃ x,ts[ps.length]? = some x:=⟨_,List.getElem?_eq_getElem hlt⟩
       obtain ⟨b1,o1,s1,rfl,-,t1,sub1⟩:=HS.out.get hx
       obtain ⟨d0,d1,d2,d3,d4,d5,d6,d7,d8,d9⟩:=t1.keep (HB.out.block _ t1.lt)
       obtain ⟨p1,c1,rfl,hl1⟩:=sub1.slice
       have HC:=Lib.hid (fun w9 hb=>IH.out x (List.mem_of_getElem? hx) w9 B (.agg (x.cells (.slice p1 x.subs.length c1))) ⟨_,rfl,sub1.later hb⟩)
       have HX:=Lib.hid hx
       clear t1 sub1 hx
       go_wp2_with fail
       generalize hw1:World.alloc wr _=w1
       have hb1:Below wr.heap.size wr w1:=by rw [← hw1];exact (Below.refl _ _).alloc (Nat.le_refl _) _
       have hs1:w1.heap.size=wr.heap.size+1:=by rw [← hw1];simp
       clear hw1
       refine (HC.out w1 (HB.out.trans (hb1.mono HB.out.size))).mono ?_
       intro e w2 he2
       obtain ⟨s2,F2,rfl,hsub2,hF2,hb2⟩:=he2
       obtain ⟨p2,c2,rfl,hl2⟩:=hsub2.slice
       have hb12:Below wr.heap.size wr w2:=hb1.trans (hb2.mono hb1.size)
       have HB2:=Lib.hid (HB.out.trans (hb12.mono HB.out.size))
       have HB12:=Lib.hid hb12
       have hs2:w1.heap.size ≤ w2.heap.size:=hb2.size
       have hown2:=(hown.out.kept (w':=w2) (row:=none) ⟨hb12.os,hb12.tape,hb12.output,hb12.size,fun k hk _=>hb12.block k hk⟩ (by
         cases h:Value.ownBlock u3 with
         | none=>exact .inl rfl
         | some g=>exact .inr (by simp)))
       have hlt3:=hown.out.lt
       have HOWN2:=Lib.hid (hown2.alloc (.cells (x.cells (.slice p2 x.subs.length c2)) 37))
       have HSUB2:=Lib.hid hsub2;have HF2:=Lib.hid (fun b hb=>Nat.le_trans (show wr.heap.size ≤ w1.heap.size by omega) (hF2 b hb));have HLT3:=Lib.hid hlt3
       have ND:=Lib.hid (heap_alloc_new w2 (.cells (x.cells (.slice p2 x.subs.length c2)) 37))
       clear hown2 hsub2 hF2 hb1 hb2 hb12 hlt3
       have HNW:Hid (∀ (j:Nat) (u:Value),(x.cells (.slice p2 x.subs.length c2)).toList[j]? = some u→(w2.alloc (.cells (x.cells (.slice p2 x.subs.length c2)) 37)).cell? ((⟨w2.heap.size,0,none⟩:Addr).add j)=some u):=Lib.hid (fun j u hu=>by
         have ea:(⟨w2.heap.size,0,none⟩:Addr).add j=⟨w2.heap.size,j,none⟩:=by unfold Addr.add;split <;> simp_all
         rw [ea,cell_new];simpa using hu)
       have HBA:Hid (w.heap.size+2 ≤ (w2.alloc (.cells (x.cells (.slice p2 x.subs.length c2)) 37)).heap.size):=Lib.hid (by simp;omega)
       have hml:ps.length+1 ≤ maxLen:=by unfold maxLen;omega
       have hbyt:(ps.length+1) * 96 ≤ 140737488355328:=by omega
       go_wp2_with (first
         | (refine wpList_node1 rfl (.tmp 15) x p2 x.subs.length c2 rfl rfl ?_)
         | (refine wpList_append_fresh _ rfl (.tmp 13) (.tmp 16) 35 rfl (w.heap.size+2) 37 ie _ 10 96 Tryd.underlying35 HI.out HZ0.out HZ1.out HZ2.out rfl (by decide) _ _ _ rfl HOWN2.out ⟨w2.heap.size,0,none⟩ 1 1 (x.cells (.slice p2 x.subs.length c2)).toList rfl rfl HNW.out (nodeC_one _ _ _ _) (by decide) hml hbyt HBA.out ?_;intro v' w4 hown4 hgrow4 hwhere)
         | fail)
       have HG4:=Lib.hid hgrow4;have HW4:=Lib.hid hwhere
       have hb3:Below wr.heap.size wr (w2.alloc (.cells (x.cells (.slice p2 x.subs.length c2)) 37)):=HB12.out.alloc HB12.out.size _
       have key:∀ k,k < wr.heap.size→k < w.heap.size+2→w4.heap[k]? = wr.heap[k]?:=fun k hk hk2 =>
         (HG4.out.block k (Nat.lt_of_lt_of_le hk hb3.size) (fun e=>by have:=(HLT3.out k e.symm).1;omega)).trans (hb3.block k hk)
       refine ⟨⟨ps ++ [(x,.slice p2 x.subs.length c2)],by simp,by simp;omega,Lib.hid ?_,Lib.hid ?_,Lib.hid ?_,Lib.hid ?_, ?_,Lib.hid ((key _ (by omega) (by omega)).trans Z0.out),Lib.hid ((key _ hsz (by omega)).trans Z1.out)⟩,by simp [intOf];omega⟩
       · rw [List.map_append,hmap.out,List.length_append]
         show List.take ps.length ts ++ [x]=List.take (ps.length+1) ts
         rw [List.take_add_one,HX.out];rfl
       · rw [rowOf_snoc,List.length_append];exact hown4
       · exact hsubs.out.step hb3 (HSUB2.out.later ((Below.refl _ _).alloc (Nat.le_refl _) _)) HF2.out (by omega) (fun g hg=>(HLT3.out g hg).2) HG4.out HW4.out
       · exact (HB2.out.alloc HB2.out.size _).grown HG4.out (by have:=HB2.out.size;simp;omega) (fun k e=>by have:=(HLT3.out k e).1;omega)
       · have:=HG4.out.size;have h3:=hb3.size;omega
     · have hlen2:ps.length=ts.length:=by omega
       have hmap2:ps.map (·.1)=ts:=by rw [hmap.out,hlen2,List.take_length]
       have hlt3:=hown.out.lt
       obtain ⟨F,htr,hF⟩:=owned_of_row hown.out (by omega) hsubs.out
       rw [hmap2] at htr
       have HTR:=Lib.hid htr;have HFB:=Lib.hid hF
       obtain ⟨f5,g5⟩:=at5 Z0.out
       have Z0s:=Lib.hid (set5 (y:=u3) Z0.out)
       have Z1s:Hid ((wr.setCell ⟨w.heap.size,5,none⟩ u3).heap[w.heap.size+1]? = some (.cells #[.int .i64 0,.int .u64 0,.int .u64 0,.int .u64 0,.int .u64 0,.slice none 0 0,.int .i64 0,.int .i64 0,.int .i64 0,.bool false] 37)):=Lib.hid (by rw [Below.heap_setCell _ _ _ _ (by simp)];exact Z1.out)
       clear htr hlt3 hmap2 hF
       obtain ⟨q3,l3,c3,rfl⟩:∃ q l c,u3=.slice q l c:=by
         obtain ⟨q,c,e,-⟩:=HTR.out.slice;exact ⟨_,_,_,e⟩
       go_wp2_with (first
         | (refine wpList_load_row rfl 37 (.tmp 1) rfl w.heap.size rfl 37 _ (0,0) _ Z0s.out Tryd.underlying37 rfl (by kernel_rfl) ?_)
         | (refine wpList_store_row rfl 37 (.tmp 2) (.tmp 21) rfl (w.heap.size+1) #[.int .i64 k,.int .u64 (Oc.U a),.int .u64 (Oc.U b),.int .u64 (Oc.U c),.int .u64 (Oc.U d),.slice q3 l3 c3,.int .i64 n,.int .i64 lo,.int .i64 hi,.bool br] rfl rfl 37 _ Z1s.out (by kernel_rfl) rfl (by simp [Value.oneCell']) ?_)
         | fail)
       refine bodyPost_ret (results_cell_row rfl _ _ (w.heap.size+1) 37 #[.int .i64 k,.int .u64 (Oc.U a),.int .u64 (Oc.U b),.int .u64 (Oc.U c),.int .u64 (Oc.U d),.slice q3 l3 c3,.int .i64 n,.int .i64 lo,.int .i64 hi,.bool br] (0,0) _ rfl (heap_setRow Z1s.out) Tryd.underlying37 rfl (by kernel_rfl)) rfl ⟨_,F,rfl, ?_,(fun b hb=>by have:=HFB.out b hb;omega), ?_⟩
       · exact HTR.out.keep fun b hb=>by
           have:=HFB.out b hb
           rw [heap_setRow_other _ _ _ (by omega),Below.heap_setCell _ _ _ _ (by simp;omega)]
       · exact below_setRow (HB.out.setCell (Nat.le_refl _) _) (Nat.le_succ _) _
end Go.Proofs.YtogdjbnejpennaaDoor
namespace Go.Proofs.YtogdjbnejpennaaDoor
open Go.RowKit
def RowLo (lo base:Nat) (w:World) (v:Value) (ps:List (Tr × Value)):Prop :=
 w.ownsRow base 37 10 v ps.length (rowOf ps)∧∀ (i:Nat) (t:Tr) (s:Value),ps[i]? = some (t,s)→TreesAt w (fun b=>lo ≤ b∧v.ownBlock ≠ some b) s t.subs
theorem RowLo.nil (lo base:Nat) (w:World):RowLo lo base w (.slice none 0 0) []:=⟨World.ownsRow_nil _ _ _ _,fun i t s h=>by simp at h⟩
theorem RowLo.lt {lo base:Nat} {w:World} {v:Value} {ps:List (Tr × Value)} (h:RowLo lo base w v ps):∀ k,v.ownBlock=some k→base ≤ k∧k < w.heap.size:=h.1.lt
theorem RowLo.below {lo base:Nat} {w w':World} {v:Value} {ps:List (Tr × Value)} (h:RowLo lo base w v ps) (hb:Below w.heap.size w w'):RowLo lo base w' v ps:=by
 refine ⟨h.1.kept (w':=w') (row:=none) ⟨hb.os,hb.tape,hb.output,hb.size,fun k hk _=>hb.block k hk⟩ ?_,fun i t s hi=>(h.2 i t s hi).later hb⟩
 cases h:Value.ownBlock v with
 | none=>exact .inl rfl
 | some g=>exact .inr (by simp)
theorem RowLo.app {lo base:Nat} {w0 w3 w4:World} {v v':Value} {ps:List (Tr × Value)} {x:Tr} {p:Option Addr} {l c:Nat} {ty:TypeId} (h:RowLo lo base w0 v ps) (hb:Below w0.heap.size w0 w3) (hx:TreesAt w3 (fun b=>lo ≤ b∧v.ownBlock ≠ some b) (.slice p l c) x.subs)
   (hown:w4.ownsRow base 37 10 v' (ps.length+1) (rowOf ps ++ (x.cells (.slice p l c)).toList)) (hg:(w3.alloc (.cells (x.cells (.slice p l c)) ty)).grownBy w4 v.ownBlock) (hw:v'.ownBlock=v.ownBlock ∨ v'.ownBlock=some (w3.alloc (.cells (x.cells (.slice p l c)) ty)).heap.size):RowLo lo base w4 v' (ps ++ [(x,.slice p l c)]):=by
 have ha:Below w3.heap.size w3 (w3.alloc (.cells (x.cells (.slice p l c)) ty)):=(Below.refl _ _).alloc (Nat.le_refl _) _
 have h3:=(h.below hb).below ha
 refine ⟨by rw [rowOf_snoc,List.length_append];exact hown,fun i t r hi=>?_⟩
 by_cases hip:i < ps.length
 · rw [List.getElem?_append_left hip] at hi
   exact subs_step (h3.2 i t r hi) hg hw
 · rw [List.getElem?_append_right (by omega)] at hi
   have hi0:i - ps.length=0:=by
     by_cases h0:i - ps.length=0
     · exact h0
     · rw [List.getElem?_eq_none (by simp;omega)] at hi;cases hi
   rw [hi0] at hi
   simp only [List.getElem?_cons_zero,Option.some.injEq,Prod.mk.injEq] at hi
   obtain ⟨rfl,rfl⟩:=hi
   exact subs_step (hx.later ha) hg hw
theorem RowLo.trees {lo base:Nat} {w:World} {v:Value} {ps:List (Tr × Value)} (h:RowLo lo base w v ps) (hlo:lo ≤ base) (hn:ps.length * 96 ≤ 140737488351232):TreesAt w (fun b=>lo ≤ b) v (ps.map (·.1)) :=
 trees_of_row (B':=fun b=>lo ≤ b) h.1 hn (fun i t s hi=>h.2 i t s hi) (fun _ hb=>hb.1) (fun g hg=>Nat.le_trans hlo (h.1.lt g hg).1)
theorem RowLo.step {lo base:Nat} {w3 w4:World} {v v':Value} {ps:List (Tr × Value)} {x:Tr} {s:Value} (h3:RowLo lo base w3 v ps) (hx:TreesAt w3 (fun b=>lo ≤ b∧v.ownBlock ≠ some b) s x.subs)
   (hown:w4.ownsRow base 37 10 v' (ps.length+1) (rowOf ps ++ (x.cells s).toList)) (hg:w3.grownBy w4 v.ownBlock) (hw:v'.ownBlock=v.ownBlock ∨ v'.ownBlock=some w3.heap.size):RowLo lo base w4 v' (ps ++ [(x,s)]):=by
 refine ⟨by rw [rowOf_snoc,List.length_append];exact hown,fun i t r hi=>?_⟩
 by_cases hip:i < ps.length
 · rw [List.getElem?_append_left hip] at hi
   exact subs_step (h3.2 i t r hi) hg hw
 · rw [List.getElem?_append_right (by omega)] at hi
   have hi0:i - ps.length=0:=by
     by_cases h0:i - ps.length=0
     · exact h0
     · rw [List.getElem?_eq_none (by simp;omega)] at hi;cases hi
   rw [hi0] at hi
   simp only [List.getElem?_cons_zero,Option.some.injEq,Prod.mk.injEq] at hi
   obtain ⟨rfl,rfl⟩:=hi
   exact subs_step hx hg hw
theorem RowLo.setCell {base:Nat} {w:World} {v:Value} {ps:List (Tr × Value)} (h:RowLo base base w v ps) {b:Nat} (hb:b < base) (o:Nat) (u:Value):RowLo base base (w.setCell ⟨b,o,none⟩ u) v ps :=
 ⟨ownsRow_setCell_below h.1 hb u,fun i t s hi=>(h.2 i t s hi).keep fun k _ hk=>Below.heap_setCell _ _ _ _ (by have:=hk.1;show k ≠ b;omega)⟩
theorem RowLo.slice {lo base:Nat} {w:World} {v:Value} {ps:List (Tr × Value)} (h:RowLo lo base w v ps):∃ q l c,v=.slice q l c:=by
 rcases h.1.2 with ⟨rfl,_⟩ | ⟨g,cap,_,rfl,_⟩
 · exact ⟨_,_,_,rfl⟩
 · exact ⟨_,_,_,rfl⟩
theorem wp_append_node {P:Program} (w:World) {Q:Exit→Act→World→Prop} {K:Act→World→Prop} {o:Oper} {a:Act} (s x:Operand) (t:TypeId)
   (ho:o.op=.call { callee:=.builtin .append,args:=#[s,x],argTypes:=#[t,t] })
   (base:Nat) (e:TypeId) (i:TypeInfo) (z:Value) (size bytes:Nat) (ht:P.underlying t=some (.slice e)) (hi:P.info? e=some i) (hz:i.zero=some z)
   (hsize:i.size=size) (hby:i.bytes=bytes) (hzs:z.cells.size=size) (hsz:0 < size)
   (v:Value) (n:Nat) (xs:List Value) (hs:a.eval s=v) (hown:w.ownsRow base e size v n xs)
   (ad:Addr) (m c:Nat) (news:List Value) (hx:a.eval x=.slice (some ad) m c) (hl:news.length=m * size) (hnews:∀ j u,news[j]? = some u→w.cell? (ad.add j)=some u) (h1:∀ u ∈ news,u.oneCell'=true) (hm:0 < m)
   (h63:n+m ≤ maxLen) (hbytes:(n+m) * bytes ≤ 140737488355328) (hbase:base ≤ w.heap.size)
   (h:∀ v' w',w'.ownsRow base e size v' (n+m) (xs ++ news)→w.grownBy w' v.ownBlock→(v'.ownBlock=v.ownBlock ∨ v'.ownBlock=some w.heap.size)→K (a.put o.dst v') w'):Oper.wp P o a w K Q:=by
 obtain ⟨v',w',hr,h2,h3,-⟩:=run_append_own (P:=P) w base t o.type e i z size bytes ht hi hz hsize hby hzs hsz v n xs hown ad m c news hl hnews h1 h63 hbytes hbase
 have h4:=append_block base t o.type e i z size bytes ht hi hz hsize hby v v' n xs hown ad m c news hl hnews h1 hm h63 hbytes hr
 unfold Oper.wp execOp
 simp only [ho,resolve,invoke,builtin,Sem.run_bind,Sem.run_pure,Result.andThen_ok,List.map_toArray,List.map_cons,List.map_nil,hs,hx,hr]
 exact h v' w' h2 h3 h4
def OneAt (w:World) (lo:Nat) (y:Tr) (v:Value):Prop:=∃ p2 c2 g,v=.slice (some ⟨g,0,none⟩) 1 1∧TreesAt w (fun b=>lo ≤ b) (.slice p2 y.subs.length c2) y.subs∧(∀ (j:Nat) (u:Value),(y.cells (.slice p2 y.subs.length c2)).toList[j]? = some u→w.cell? ((⟨g,0,none⟩:Addr).add j)=some u)
theorem OneAt.below {w w':World} {lo:Nat} {y:Tr} {v:Value} (h:OneAt w lo y v) (hb:Below w.heap.size w w'):OneAt w' lo y v:=by
 obtain ⟨p2,c2,g,h1,h2,h3⟩:=h
 refine ⟨p2,c2,g,h1,h2.later hb,fun j u hu=>?_⟩
 have h9:=h3 j u hu
 have ea:(⟨g,0,none⟩:Addr).add j=⟨g,0+j,none⟩:=by (unfold Addr.add;split <;> simp_all)
 rw [ea] at h9 ⊢
 rw [World.cell?,hb.block g (block_lt_of_cell h9)];exact h9
theorem OneAt.new {w:World} {lo:Nat} {y:Tr} {p2:Option Addr} {c2:Nat} (ty:TypeId) (h:TreesAt w (fun b=>lo ≤ b) (.slice p2 y.subs.length c2) y.subs):OneAt (w.alloc (.cells (y.cells (.slice p2 y.subs.length c2)) ty)) lo y (.slice (some ⟨w.heap.size,0,none⟩) 1 1) :=
 ⟨p2,c2,w.heap.size,rfl,h.later ((Below.refl _ _).alloc (Nat.le_refl _) _),news_one w y p2 y.subs.length c2 ty⟩
theorem wp_node1 {w:World} {o:Oper} {a:Act} {K:Act→World→Prop} {Q:Exit→Act→World→Prop} (x:Operand) (t:Tr) (p:Option Addr) (len cap:Nat) (ho:o.op=.buildSlice 35 1 #[(0,x)]) (hx:a.eval x=.agg (t.cells (.slice p len cap)))
   (h:K (a.put o.dst (.slice (some ⟨w.heap.size,0,none⟩) 1 1)) (w.alloc (.cells (t.cells (.slice p len cap)) 37))):Oper.wp Tryd.prog o a w K Q:=by
 obtain ⟨ie,hi,hz0,hz1,-⟩:=info_parts Tryd.infoNode
 refine wp_buildSlice 35 37 1 _ ho _ ie _ Tryd.underlying35 hi hz0 (by rw [hz1];decide) (by rw [hz1];decide) ?_ h
 rw [hz1]
 simp only [List.map_toArray,List.map_cons,List.map_nil,hx]
 kernel_rfl
end Go.Proofs.YtogdjbnejpennaaDoor
namespace Go.Proofs.YtogdjbnejpennaaDoor
open Go.RowKit
namespace Tr
def usedT (t:Tr):Tr:=.node t.kind (if t.kind=2 then t.w0 else 0#64) (if t.kind=2 then t.w1 else 0#64) (if t.kind=2 then t.w2 else 0#64) (if t.kind=2 then t.w3 else 0#64) [] (if t.kind=7 then t.num else 0) (if t.kind=8 then t.least else 0) (if t.kind=8 then t.most else 0) (if t.kind=8 then t.bare else false)
end Tr
theorem refused_plain (k:Int) (a b c d:BitVec 64) (n lo hi:Int) (br:Bool) (p:Option Addr) (l cp:Nat) (w:World):Calls Tryd.prog 135 #[.agg #[.int .i64 k,.int .u64 (Oc.U a),.int .u64 (Oc.U b),.int .u64 (Oc.U c),.int .u64 (Oc.U d),.slice p l cp,.int .i64 n,.int .i64 lo,.int .i64 hi,.bool br]] w fun e w' =>
   e=.returned (.agg #[.int .i64 k,.int .u64 (Oc.U (if k=2 then a else 0#64)),.int .u64 (Oc.U (if k=2 then b else 0#64)),.int .u64 (Oc.U (if k=2 then c else 0#64)),.int .u64 (Oc.U (if k=2 then d else 0#64)),.slice none 0 0,.int .i64 (if k=7 then n else 0),.int .i64 (if k=8 then lo else 0),.int .i64 (if k=8 then hi else 0),.bool (if k=8 then br else false)])∧Below w.heap.size w w':=by
 have u0:Oc.U 0#64=0:=by decide
 by_cases h2:k=2
 · subst h2
   simp only [if_true,reduceIte,Int.reduceEq]
   clear u0
   go_enter Tryd.func135,Tryd.ntmps135
   go_wp2
   exact bodyPost_ret (results_cell_row rfl _ _ (w.heap.size+1) 37 _ (0,0) _ rfl (three_new _ _ _ _).2.1 Tryd.underlying37 rfl (by kernel_rfl)) rfl ⟨rfl,by go_grown⟩
 have e2:(k == 2)=false:=by simpa using h2
 simp only [if_neg h2,u0]
 clear u0 h2
 by_cases h7:k=7
 · subst h7
   simp only [if_true,reduceIte,Int.reduceEq]
   go_enter Tryd.func135,Tryd.ntmps135
   go_wp2
   exact bodyPost_ret (results_cell_row rfl _ _ (w.heap.size+1) 37 _ (0,0) _ rfl (three_new _ _ _ _).2.1 Tryd.underlying37 rfl (by kernel_rfl)) rfl ⟨rfl,by go_grown⟩
 have e7:(k == 7)=false:=by simpa using h7
 simp only [if_neg h7]
 clear h7
 by_cases h8:k=8
 · subst h8
   simp only [if_true]
   go_enter Tryd.func135,Tryd.ntmps135
   go_wp2
   exact bodyPost_ret (results_cell_row rfl _ _ (w.heap.size+1) 37 _ (0,0) _ rfl (three_new _ _ _ _).2.1 Tryd.underlying37 rfl (by kernel_rfl)) rfl ⟨rfl,by go_grown⟩
 have e8:(k == 8)=false:=by simpa using h8
 simp only [if_neg h8]
 clear h8
 go_enter Tryd.func135,Tryd.ntmps135
 go_wp2
 exact bodyPost_ret (results_cell_row rfl _ _ (w.heap.size+1) 37 _ (0,0) _ rfl (three_new _ _ _ _).2.1 Tryd.underlying37 rfl (by kernel_rfl)) rfl ⟨rfl,by go_grown⟩
theorem refused_any (t:Tr) (s:Value) (hs:∃ p l c,s=.slice p l c) (w:World):Calls Tryd.prog 135 #[.agg (t.cells s)] w fun e w'=>e=.returned (.agg (t.usedT.cells (.slice none 0 0)))∧Below w.heap.size w w':=by
 obtain ⟨p,l,c,rfl⟩:=hs
 exact refused_plain t.kind t.w0 t.w1 t.w2 t.w3 t.num t.least t.most t.bare p l c w
end Go.Proofs.YtogdjbnejpennaaDoor
namespace Go.Proofs.YtogdjbnejpennaaDoor
open Go.RowKit
namespace Tr
def misV (k:Int) (S:Bool) (n un lo ulo hi uhi:Int) (br ubr:Bool):Bool:=decide (k < 1) || decide (8 < k) || !S || (n != un) || (lo != ulo) || (hi != uhi) || (br != ubr)
def badV (k:Int) (len:Nat) (n lo hi:Int) (br:Bool):Bool :=
 if k=5 ∨ k=6 then decide (len < 2)
 else if k=7 then len != 1 || decide (n < 1) || decide (999 < n)
 else if k=8 then len != 1 || decide (lo < 0) || decide (255 < lo) || decide (hi < -1) || decide (255 < hi) || (decide (0 ≤ hi) && decide (hi < lo)) || (br && lo != 0)
 else len != 0
def sameW (a b c d a' b' c' d':BitVec 64):Bool:=Oc.U a == Oc.U a' && (Oc.U b == Oc.U b' && (Oc.U c == Oc.U c' && Oc.U d == Oc.U d'))
theorem sameW_iff {a b c d a' b' c' d':BitVec 64} : sameW a b c d a' b' c' d'=true ↔ a=a'∧b=b'∧c=c'∧d=d':=by
 unfold sameW
 rw [Bool.and_eq_true,Bool.and_eq_true,Bool.and_eq_true,beq_iff_eq,beq_iff_eq,beq_iff_eq,beq_iff_eq]
 exact ⟨fun h=>⟨Oc.U_inj h.1,Oc.U_inj h.2.1,Oc.U_inj h.2.2.1,Oc.U_inj h.2.2.2⟩,fun h=>by rw [h.1,h.2.1,h.2.2.1,h.2.2.2];exact ⟨rfl,rfl,rfl,rfl⟩⟩
def mism (t:Tr):Bool:=misV t.kind (sameW t.w0 t.w1 t.w2 t.w3 t.usedT.w0 t.usedT.w1 t.usedT.w2 t.usedT.w3) t.num t.usedT.num t.least t.usedT.least t.most t.usedT.most t.bare t.usedT.bare
def bad (t:Tr):Bool:=badV t.kind t.subs.length t.num t.least t.most t.bare
theorem mism_iff (t:Tr):t.mism=false ↔ (1 ≤ t.kind∧t.kind ≤ 8)∧(t.kind=2 ∨ (t.w0=0#64∧t.w1=0#64∧t.w2=0#64∧t.w3=0#64))∧(t.kind=7 ∨ t.num=0)∧(t.kind=8 ∨ (t.least=0∧t.most=0∧t.bare=false)):=by
 unfold mism misV usedT
 simp only [Bool.or_eq_false_iff,decide_eq_false_iff_not,Bool.not_eq_false',sameW_iff,bne_eq_false_iff_eq,Tr.w0,Tr.w1,Tr.w2,Tr.w3,Tr.num,Tr.least,Tr.most,Tr.bare]
 by_cases h2:t.kind=2
 · simp only [h2];simp [and_assoc]
 · by_cases h7:t.kind=7
   · simp only [h7];simp [and_assoc]
   · by_cases h8:t.kind=8
     · simp only [h8];simp [and_assoc]
     · simp only [h2,h7,h8];simp [and_assoc]
theorem fieldsB_ref (t:Tr):t.fieldsB=(!t.mism && !t.bad):=by
 rw [Bool.eq_iff_iff,fieldsB_iff,Bool.and_eq_true,Bool.not_eq_true',Bool.not_eq_true',mism_iff]
 unfold bad badV fieldsOk
 have hl:∀ m:Nat,(t.subs.length != m)=false ↔ t.subs.length=m:=fun m=>by simp
 constructor
 · rintro (⟨h | h | h,a,b,c,d,i,e,f,g,j⟩ | ⟨h,i,e,f,g,j⟩ | ⟨h | h,a,b,c,d,i,e,f,g,j⟩ | ⟨h,a,b,c,d,i,e1,e2,f,g,j⟩ | ⟨h,a,b,c,d,i,e,f1,f2,f3,f4⟩) <;> simp only [h] at * <;> simp_all <;> omega
 · rintro ⟨⟨⟨h1,h2⟩,h3,h4,h5⟩,h6⟩
   have hk:t.kind=1 ∨ t.kind=2 ∨ t.kind=3 ∨ t.kind=4 ∨ t.kind=5 ∨ t.kind=6 ∨ t.kind=7 ∨ t.kind=8:=by omega
   rcases hk with h | h | h | h | h | h | h | h <;> simp only [h] at * <;> simp_all <;> omega
end Tr
end Go.Proofs.YtogdjbnejpennaaDoor
namespace Go.Proofs.YtogdjbnejpennaaDoor
open Go.RowKit
theorem refform_step (k:Int) (a b c d:BitVec 64) (us:List Tr) (n lo hi:Int) (br:Bool) (p:Option Addr) (cap:Nat) (ua ub uc ud:BitVec 64) (un ulo uhi:Int) (ubr:Bool) (w:World) (B:Nat→Prop)
   (HU:Hid (∀ w,Calls Tryd.prog 135 #[.agg #[.int .i64 k,.int .u64 (Oc.U a),.int .u64 (Oc.U b),.int .u64 (Oc.U c),.int .u64 (Oc.U d),.slice p us.length cap,.int .i64 n,.int .i64 lo,.int .i64 hi,.bool br]] w fun e w'=>e=.returned (.agg #[.int .i64 k,.int .u64 (Oc.U ua),.int .u64 (Oc.U ub),.int .u64 (Oc.U uc),.int .u64 (Oc.U ud),.slice none 0 0,.int .i64 un,.int .i64 ulo,.int .i64 uhi,.bool ubr])∧Below w.heap.size w w'))
   (HS:Hid (TreesAt w B (.slice p us.length cap) us)) (hlen:us.length * 96 ≤ 140737488351232)
   (IH:Hid (∀ x,x ∈ us→∀ w B v,NodeV w B v x→Calls Tryd.prog 100 #[v] w fun e w'=>e=.returned (.bool x.formB)∧Below w.heap.size w w')) :
   Calls Tryd.prog 100 #[.agg #[.int .i64 k,.int .u64 (Oc.U a),.int .u64 (Oc.U b),.int .u64 (Oc.U c),.int .u64 (Oc.U d),.slice p us.length cap,.int .i64 n,.int .i64 lo,.int .i64 hi,.bool br]] w fun e w'=>e=.returned (.bool ((!Tr.misV k (Tr.sameW a b c d ua ub uc ud) n un lo ulo hi uhi br ubr && !Tr.badV k us.length n lo hi br) && Tr.formS us))∧Below w.heap.size w w':=by
 have he:=eq4
 obtain ⟨S,hS⟩:∃ S,Tr.sameW a b c d ua ub uc ud=S:=⟨_,rfl⟩
 obtain ⟨M,hM⟩:∃ M,Tr.misV k S n un lo ulo hi uhi br ubr=M:=⟨_,rfl⟩
 obtain ⟨Bd,hB⟩:∃ Bd,Tr.badV k us.length n lo hi br=Bd:=⟨_,rfl⟩
 obtain ⟨R,hR⟩:∃ R,((!M && !Bd) && Tr.formS us)=R:=⟨_,rfl⟩
 rw [hS,hM,hB,hR]
 have HR:=Lib.hid hR
 unfold Tr.sameW at hS
 unfold Tr.misV at hM
 unfold Tr.badV at hB
 have HM:=Lib.hid hM;have HBd:=Lib.hid hB;have HSm:=Lib.hid hS;have HLen:=Lib.hid hlen
 clear hM hB hR hS hlen
 go_enter Tryd.func100,Tryd.ntmps100
 go_wp2_with fail
 refine (HU.out _).mono ?_
 rintro e W0 ⟨rfl,hb1⟩
 have Z1:=Lib.hid (keep_blk hb1 (heap_alloc_new w _))
 have HB1:=Lib.hid (((Below.refl _ _).alloc (Nat.le_refl _) _).trans (hb1.mono (by simp)))
 have hs1:w.heap.size < W0.heap.size:=by have:=hb1.size;simp at this;omega
 clear hb1 HU
 go_upto_region 2 with (fail)
 have Z2:=Lib.hid (heap_alloc_lt (o:=.cells #[.int .i64 k,.int .u64 (Oc.U ua),.int .u64 (Oc.U ub),.int .u64 (Oc.U uc),.int .u64 (Oc.U ud),.slice none 0 0,.int .i64 un,.int .i64 ulo,.int .i64 uhi,.bool ubr] 37) Z1.out)
 have Y2:=Lib.hid (heap_alloc_new W0 (.cells #[.int .i64 k,.int .u64 (Oc.U ua),.int .u64 (Oc.U ub),.int .u64 (Oc.U uc),.int .u64 (Oc.U ud),.slice none 0 0,.int .i64 un,.int .i64 ulo,.int .i64 uhi,.bool ubr] 37))
 have HB2:=Lib.hid (HB1.out.alloc HB1.out.size (.cells #[.int .i64 k,.int .u64 (Oc.U ua),.int .u64 (Oc.U ub),.int .u64 (Oc.U uc),.int .u64 (Oc.U ud),.slice none 0 0,.int .i64 un,.int .i64 ulo,.int .i64 uhi,.bool ubr] 37))
 have hs2:w.heap.size < (W0.alloc (.cells #[.int .i64 k,.int .u64 (Oc.U ua),.int .u64 (Oc.U ub),.int .u64 (Oc.U uc),.int .u64 (Oc.U ud),.slice none 0 0,.int .i64 un,.int .i64 ulo,.int .i64 uhi,.bool ubr] 37)).heap.size:=by simp;omega
 clear Z1 HB1
 generalize W0.alloc (.cells #[.int .i64 k,.int .u64 (Oc.U ua),.int .u64 (Oc.U ub),.int .u64 (Oc.U uc),.int .u64 (Oc.U ud),.slice none 0 0,.int .i64 un,.int .i64 ulo,.int .i64 uhi,.bool ubr] 37)=W2 at *
 go_cut [51] (fun u wx=>u=.bool M∧W2=wx)
 case first =>
   have hM:=HM.out;have hS:=HSm.out
   obtain ⟨d0,d1,d2,d3,d4,d5,d6,d7,d8,d9⟩:=allTen Z2.out
   obtain ⟨u0,u1,u2,u3,u4,u5,u6,u7,u8,u9⟩:=allTen Y2.out
   clear HM HBd HSm HR HS IH HB2 hs2
   rcases bool_or (decide (k < 1)) with q0 | q0
   · rw [q0] at hM
     subst hM
     go_wp2
     go_meet
     exact ⟨rfl,rfl⟩
   rcases bool_or (decide (8 < k)) with q1 | q1
   · rw [q0,q1] at hM
     subst hM
     go_wp2
     go_meet
     exact ⟨rfl,rfl⟩
   cases S with
   | false =>
     rw [q0,q1] at hM
     subst hM
     go_wp2
     go_meet
     exact ⟨rfl,rfl⟩
   | true =>
     rcases bool_or (n != un) with q3 | q3
     · rw [q0,q1,q3] at hM
       subst hM
       go_wp2
       go_meet
       exact ⟨rfl,rfl⟩
     rcases bool_or (lo != ulo) with q4 | q4
     · rw [q0,q1,q3,q4] at hM
       subst hM
       go_wp2
       go_meet
       exact ⟨rfl,rfl⟩
     rcases bool_or (hi != uhi) with q5 | q5
     · rw [q0,q1,q3,q4,q5] at hM
       subst hM
       go_wp2
       go_meet
       exact ⟨rfl,rfl⟩
     cases br <;> cases ubr <;> (
       rw [q0,q1,q3,q4,q5] at hM
       subst hM
       go_wp2
       go_meet
       exact ⟨rfl,rfl⟩)
 case rest =>
   obtain ⟨rfl,rfl⟩:=hcut
   clear HM HSm Y2
   cases M with
   | true =>
     have hr:=HR.out
     rw [Bool.not_true,Bool.false_and,Bool.false_and] at hr
     subst hr
     clear HR HBd HS IH
     go_wp2
     go_ret
     exact ⟨rfl,HB2.out⟩
   | false =>
     have hr:=HR.out
     rw [Bool.not_false,Bool.true_and] at hr
     have HR:=Lib.hid hr
     clear hr
     have hB:=HBd.out
     clear HBd
     have z5:=(allTen Z2.out).2.2.2.2.2.1
     obtain ⟨d0,d1,d2,d3,d4,d5,d6,d7,d8,d9⟩:=allTen Z2.out
     by_cases kk5:k=5
     · subst kk5
       rw [if_pos (by decide)] at hB
       have hl2:decide ((us.length:Int) < 2)=decide (us.length < 2):=by
         by_cases h:us.length < 2
         · rw [decide_eq_true h,decide_eq_true (by omega)]
         · rw [decide_eq_false h,decide_eq_false (by omega)]
       cases Bd with
       | true =>
         have hr:=HR.out
         rw [Bool.not_true,Bool.false_and] at hr
         subst hr
         rw [hB] at hl2
         go_wp2
         go_ret
         exact ⟨rfl,HB2.out⟩
       | false =>
         have hr:=HR.out
         rw [Bool.not_false,Bool.true_and] at hr
         have HR:=Lib.hid hr
         clear hr
         rw [hB] at hl2
         go_wp2
         clear d0 d1 d2 d3 d4 d5 d6 d7 d8 d9
         go_loopw [5] (fun iv wr=>∃ m:Nat,iv=.int .i64 m∧m ≤ us.length∧Hid (Tr.formS (us.take m)=true)∧Hid (Below w.heap.size w wr)∧w.heap.size < wr.heap.size∧Hid (wr.cell? ⟨w.heap.size,5,none⟩=some (.slice p us.length cap))) (fun iv _=>us.length - (intOf iv).toNat)
         case atStart=>exact ⟨0,rfl,Nat.zero_le _,Lib.hid rfl,HB2,hs2,Lib.hid z5⟩
         case round =>
           obtain ⟨m,rfl,hm,HT,HB,hsz,Z0⟩:=hrel
           clear z5
           have wm:IntKind.i64.wrap ((m:Int)+1)=(m:Int)+1:=IntWalk.i64_in _ (by have:=HLen.out;omega)
           by_cases hlt:m < us.length
           · obtain ⟨x,hx⟩:∃ x,us[m]? = some x:=⟨_,List.getElem?_eq_getElem hlt⟩
             obtain ⟨b1,o1,s1,rfl,-,t1,sub1⟩:=HS.out.get hx
             obtain ⟨d0,d1,d2,d3,d4,d5,d6,d7,d8,d9⟩:=t1.keep (HB.out.block _ t1.lt)
             have hmem:=List.mem_of_getElem? hx
             have HC:=Lib.hid (IH.out x hmem wr B (.agg (x.cells s1)) ⟨_,rfl,sub1.later HB.out⟩)
             have hst:=Tr.formS_take us m x hx
             rw [HT.out,Bool.true_and] at hst
             have HST:=Lib.hid hst
             have z5:=Z0.out
             clear t1 sub1 hmem hx hst
             unfold Tr.cells at HC
             go_wp2_with fail
             refine HC.out.mono ?_
             rintro e w2 ⟨rfl,hb2⟩
             have HB2:=Lib.hid (HB.out.trans (hb2.mono HB.out.size));have Y2:=Lib.hid ((hb2.cell (p:=⟨w.heap.size,5,none⟩) hsz).trans z5)
             have hsz2:w.heap.size < w2.heap.size:=Nat.lt_of_lt_of_le hsz hb2.size
             clear d0 d1 d2 d3 d4 d5 d6 d7 d8 d9 z5 hb2 HC
             cases hxf:x.formB with
             | false =>
               rw [hxf] at HST
               have hr:=HR.out
               rw [Tr.formS_no HST.out] at hr
               subst hr
               clear hxf
               go_wp2
               go_ret
               exact ⟨rfl,HB2.out⟩
             | true =>
               rw [hxf] at HST
               clear hxf
               go_wp2
               exact ⟨⟨m+1,by go_num,by omega,HST,HB2,hsz2,Y2⟩,by simp [intOf];omega⟩
           · obtain rfl:m=us.length:=by omega
             rw [List.take_length] at *
             have hr:=HR.out
             rw [HT.out] at hr
             subst hr
             go_wp2
             go_ret
             exact ⟨rfl,HB.out⟩
     have n5:(k == 5)=false:=by simpa using kk5
     by_cases kk6:k=6
     · subst kk6
       rw [if_pos (by decide)] at hB
       have hl2:decide ((us.length:Int) < 2)=decide (us.length < 2):=by
         by_cases h:us.length < 2
         · rw [decide_eq_true h,decide_eq_true (by omega)]
         · rw [decide_eq_false h,decide_eq_false (by omega)]
       cases Bd with
       | true =>
         have hr:=HR.out
         rw [Bool.not_true,Bool.false_and] at hr
         subst hr
         rw [hB] at hl2
         go_wp2
         go_ret
         exact ⟨rfl,HB2.out⟩
       | false =>
         have hr:=HR.out
         rw [Bool.not_false,Bool.true_and] at hr
         have HR:=Lib.hid hr
         clear hr
         rw [hB] at hl2
         go_wp2
         clear d0 d1 d2 d3 d4 d5 d6 d7 d8 d9
         go_loopw [5] (fun iv wr=>∃ m:Nat,iv=.int .i64 m∧m ≤ us.length∧Hid (Tr.formS (us.take m)=true)∧Hid (Below w.heap.size w wr)∧w.heap.size < wr.heap.size∧Hid (wr.cell? ⟨w.heap.size,5,none⟩=some (.slice p us.length cap))) (fun iv _=>us.length - (intOf iv).toNat)
         case atStart=>exact ⟨0,rfl,Nat.zero_le _,Lib.hid rfl,HB2,hs2,Lib.hid z5⟩
         case round =>
           obtain ⟨m,rfl,hm,HT,HB,hsz,Z0⟩:=hrel
           clear z5
           have wm:IntKind.i64.wrap ((m:Int)+1)=(m:Int)+1:=IntWalk.i64_in _ (by have:=HLen.out;omega)
           by_cases hlt:m < us.length
           · obtain ⟨x,hx⟩:∃ x,us[m]? = some x:=⟨_,List.getElem?_eq_getElem hlt⟩
             obtain ⟨b1,o1,s1,rfl,-,t1,sub1⟩:=HS.out.get hx
             obtain ⟨d0,d1,d2,d3,d4,d5,d6,d7,d8,d9⟩:=t1.keep (HB.out.block _ t1.lt)
             have hmem:=List.mem_of_getElem? hx
             have HC:=Lib.hid (IH.out x hmem wr B (.agg (x.cells s1)) ⟨_,rfl,sub1.later HB.out⟩)
             have hst:=Tr.formS_take us m x hx
             rw [HT.out,Bool.true_and] at hst
             have HST:=Lib.hid hst
             have z5:=Z0.out
             clear t1 sub1 hmem hx hst
             unfold Tr.cells at HC
             go_wp2_with fail
             refine HC.out.mono ?_
             rintro e w2 ⟨rfl,hb2⟩
             have HB2:=Lib.hid (HB.out.trans (hb2.mono HB.out.size));have Y2:=Lib.hid ((hb2.cell (p:=⟨w.heap.size,5,none⟩) hsz).trans z5)
             have hsz2:w.heap.size < w2.heap.size:=Nat.lt_of_lt_of_le hsz hb2.size
             clear d0 d1 d2 d3 d4 d5 d6 d7 d8 d9 z5 hb2 HC
             cases hxf:x.formB with
             | false =>
               rw [hxf] at HST
               have hr:=HR.out
               rw [Tr.formS_no HST.out] at hr
               subst hr
               clear hxf
               go_wp2
               go_ret
               exact ⟨rfl,HB2.out⟩
             | true =>
               rw [hxf] at HST
               clear hxf
               go_wp2
               exact ⟨⟨m+1,by go_num,by omega,HST,HB2,hsz2,Y2⟩,by simp [intOf];omega⟩
           · obtain rfl:m=us.length:=by omega
             rw [List.take_length] at *
             have hr:=HR.out
             rw [HT.out] at hr
             subst hr
             go_wp2
             go_ret
             exact ⟨rfl,HB.out⟩
     have n6:(k == 6)=false:=by simpa using kk6
     by_cases kk7:k=7
     · subst kk7
       rw [if_neg (by decide),if_pos rfl] at hB
       have hl1:((us.length:Int) != 1)=(us.length != 1):=by
         by_cases h:us.length=1
         · rw [h];rfl
         · have e1:(us.length != 1)=true:=by simpa using h
           have e2:((us.length:Int) != 1)=true:=by rw [bne_iff_ne];omega
           rw [e1,e2]
       rcases bool_or (us.length != 1) with q0 | q0
       · rw [q0] at hB hl1
         simp only [Bool.true_or] at hB
         subst hB
         have hr:=HR.out
         rw [Bool.not_true,Bool.false_and] at hr
         subst hr
         go_wp2
         go_ret
         exact ⟨rfl,HB2.out⟩
       rw [q0] at hl1
       rcases bool_or (decide (n < 1)) with q1 | q1
       · rw [q0,q1] at hB
         simp only [Bool.true_or,Bool.or_true] at hB
         subst hB
         have hr:=HR.out
         rw [Bool.not_true,Bool.false_and] at hr
         subst hr
         go_wp2
         go_ret
         exact ⟨rfl,HB2.out⟩
       rcases bool_or (decide (999 < n)) with q2 | q2
       · rw [q0,q1,q2] at hB
         simp only [Bool.or_false,Bool.or_true] at hB
         subst hB
         have hr:=HR.out
         rw [Bool.not_true,Bool.false_and] at hr
         subst hr
         go_wp2
         go_ret
         exact ⟨rfl,HB2.out⟩
       rw [q0,q1,q2] at hB
       simp only [Bool.or_false] at hB
       subst hB
       have hr:=HR.out
       rw [Bool.not_false,Bool.true_and] at hr
       have HR:=Lib.hid hr
       clear hr
       go_wp2
       clear d0 d1 d2 d3 d4 d5 d6 d7 d8 d9
       go_loopw [5] (fun iv wr=>∃ m:Nat,iv=.int .i64 m∧m ≤ us.length∧Hid (Tr.formS (us.take m)=true)∧Hid (Below w.heap.size w wr)∧w.heap.size < wr.heap.size∧Hid (wr.cell? ⟨w.heap.size,5,none⟩=some (.slice p us.length cap))) (fun iv _=>us.length - (intOf iv).toNat)
       case atStart=>exact ⟨0,rfl,Nat.zero_le _,Lib.hid rfl,HB2,hs2,Lib.hid z5⟩
       case round =>
         obtain ⟨m,rfl,hm,HT,HB,hsz,Z0⟩:=hrel
         clear z5
         have wm:IntKind.i64.wrap ((m:Int)+1)=(m:Int)+1:=IntWalk.i64_in _ (by have:=HLen.out;omega)
         by_cases hlt:m < us.length
         · obtain ⟨x,hx⟩:∃ x,us[m]? = some x:=⟨_,List.getElem?_eq_getElem hlt⟩
           obtain ⟨b1,o1,s1,rfl,-,t1,sub1⟩:=HS.out.get hx
           obtain ⟨d0,d1,d2,d3,d4,d5,d6,d7,d8,d9⟩:=t1.keep (HB.out.block _ t1.lt)
           have hmem:=List.mem_of_getElem? hx
           have HC:=Lib.hid (IH.out x hmem wr B (.agg (x.cells s1)) ⟨_,rfl,sub1.later HB.out⟩)
           have hst:=Tr.formS_take us m x hx
           rw [HT.out,Bool.true_and] at hst
           have HST:=Lib.hid hst
           have z5:=Z0.out
           clear t1 sub1 hmem hx hst
           unfold Tr.cells at HC
           go_wp2_with fail
           refine HC.out.mono ?_
           rintro e w2 ⟨rfl,hb2⟩
           have HB2:=Lib.hid (HB.out.trans (hb2.mono HB.out.size));have Y2:=Lib.hid ((hb2.cell (p:=⟨w.heap.size,5,none⟩) hsz).trans z5)
           have hsz2:w.heap.size < w2.heap.size:=Nat.lt_of_lt_of_le hsz hb2.size
           clear d0 d1 d2 d3 d4 d5 d6 d7 d8 d9 z5 hb2 HC
           cases hxf:x.formB with
           | false =>
             rw [hxf] at HST
             have hr:=HR.out
             rw [Tr.formS_no HST.out] at hr
             subst hr
             clear hxf
             go_wp2
             go_ret
             exact ⟨rfl,HB2.out⟩
           | true =>
             rw [hxf] at HST
             clear hxf
             go_wp2
             exact ⟨⟨m+1,by go_num,by omega,HST,HB2,hsz2,Y2⟩,by simp [intOf];omega⟩
         · obtain rfl:m=us.length:=by omega
           rw [List.take_length] at *
           have hr:=HR.out
           rw [HT.out] at hr
           subst hr
           go_wp2
           go_ret
           exact ⟨rfl,HB.out⟩
     have n7:(k == 7)=false:=by simpa using kk7
     by_cases kk8:k=8
     · subst kk8
       rw [if_neg (by decide),if_neg (by decide),if_pos rfl] at hB
       have hl1:((us.length:Int) != 1)=(us.length != 1):=by
         by_cases h:us.length=1
         · rw [h];rfl
         · have e1:(us.length != 1)=true:=by simpa using h
           have e2:((us.length:Int) != 1)=true:=by rw [bne_iff_ne];omega
           rw [e1,e2]
       have HB:=Lib.hid hB
       clear hB
       go_upto_region 16 with (fail)
       go_cut [122] (fun u wx=>u=.bool Bd∧W2=wx)
       case first =>
         have hB:=HB.out
         clear HB HR HS IH HB2 hs2
         rcases bool_or (us.length != 1) with q0 | q0
         · rw [q0] at hB hl1
           subst hB
           go_wp2
           go_meet
           exact ⟨rfl,rfl⟩
         rw [q0] at hl1
         rcases bool_or (decide (lo < 0)) with q1 | q1
         · rw [q0,q1] at hB
           subst hB
           go_wp2
           go_meet
           exact ⟨rfl,rfl⟩
         rcases bool_or (decide (255 < lo)) with q2 | q2
         · rw [q0,q1,q2] at hB
           subst hB
           go_wp2
           go_meet
           exact ⟨rfl,rfl⟩
         rcases bool_or (decide (hi < -1)) with q3 | q3
         · rw [q0,q1,q2,q3] at hB
           subst hB
           go_wp2
           go_meet
           exact ⟨rfl,rfl⟩
         rcases bool_or (decide (255 < hi)) with q4 | q4
         · rw [q0,q1,q2,q3,q4] at hB
           subst hB
           go_wp2
           go_meet
           exact ⟨rfl,rfl⟩
         rcases bool_or (decide (0 ≤ hi)) with q5 | q5 <;> rcases bool_or (decide (hi < lo)) with q6 | q6 <;> rcases bool_or (lo != 0) with q7 | q7 <;> cases br <;> (
           rw [q0,q1,q2,q3,q4,q5,q6,q7] at hB
           subst hB
           go_wp2
           go_meet
           exact ⟨rfl,rfl⟩)
       case rest =>
         obtain ⟨rfl,rfl⟩:=hcut
         clear HB hl1
         cases Bd with
         | true =>
           have hr:=HR.out
           rw [Bool.not_true,Bool.false_and] at hr
           subst hr
           go_wp2
           go_ret
           exact ⟨rfl,HB2.out⟩
         | false =>
           have hr:=HR.out
           rw [Bool.not_false,Bool.true_and] at hr
           have HR:=Lib.hid hr
           clear hr
           go_wp2
           clear d0 d1 d2 d3 d4 d5 d6 d7 d8 d9
           go_loopw [5] (fun iv wr=>∃ m:Nat,iv=.int .i64 m∧m ≤ us.length∧Hid (Tr.formS (us.take m)=true)∧Hid (Below w.heap.size w wr)∧w.heap.size < wr.heap.size∧Hid (wr.cell? ⟨w.heap.size,5,none⟩=some (.slice p us.length cap))) (fun iv _=>us.length - (intOf iv).toNat)
           case atStart=>exact ⟨0,rfl,Nat.zero_le _,Lib.hid rfl,HB2,hs2,Lib.hid z5⟩
           case round =>
             obtain ⟨m,rfl,hm,HT,HB,hsz,Z0⟩:=hrel
             clear z5
             have wm:IntKind.i64.wrap ((m:Int)+1)=(m:Int)+1:=IntWalk.i64_in _ (by have:=HLen.out;omega)
             by_cases hlt:m < us.length
             · obtain ⟨x,hx⟩:∃ x,us[m]? = some x:=⟨_,List.getElem?_eq_getElem hlt⟩
               obtain ⟨b1,o1,s1,rfl,-,t1,sub1⟩:=HS.out.get hx
               obtain ⟨d0,d1,d2,d3,d4,d5,d6,d7,d8,d9⟩:=t1.keep (HB.out.block _ t1.lt)
               have hmem:=List.mem_of_getElem? hx
               have HC:=Lib.hid (IH.out x hmem wr B (.agg (x.cells s1)) ⟨_,rfl,sub1.later HB.out⟩)
               have hst:=Tr.formS_take us m x hx
               rw [HT.out,Bool.true_and] at hst
               have HST:=Lib.hid hst
               have z5:=Z0.out
               clear t1 sub1 hmem hx hst
               unfold Tr.cells at HC
               go_wp2_with fail
               refine HC.out.mono ?_
               rintro e w2 ⟨rfl,hb2⟩
               have HB2:=Lib.hid (HB.out.trans (hb2.mono HB.out.size));have Y2:=Lib.hid ((hb2.cell (p:=⟨w.heap.size,5,none⟩) hsz).trans z5)
               have hsz2:w.heap.size < w2.heap.size:=Nat.lt_of_lt_of_le hsz hb2.size
               clear d0 d1 d2 d3 d4 d5 d6 d7 d8 d9 z5 hb2 HC
               cases hxf:x.formB with
               | false =>
                 rw [hxf] at HST
                 have hr:=HR.out
                 rw [Tr.formS_no HST.out] at hr
                 subst hr
                 clear hxf
                 go_wp2
                 go_ret
                 exact ⟨rfl,HB2.out⟩
               | true =>
                 rw [hxf] at HST
                 clear hxf
                 go_wp2
                 exact ⟨⟨m+1,by go_num,by omega,HST,HB2,hsz2,Y2⟩,by simp [intOf];omega⟩
             · obtain rfl:m=us.length:=by omega
               rw [List.take_length] at *
               have hr:=HR.out
               rw [HT.out] at hr
               subst hr
               go_wp2
               go_ret
               exact ⟨rfl,HB.out⟩
     have n8:(k == 8)=false:=by simpa using kk8
     rw [if_neg (by omega),if_neg kk7,if_neg kk8] at hB
     have hl0:((us.length:Int) != 0)=(us.length != 0):=by
       by_cases h:us.length=0
       · rw [h];rfl
       · have e1:(us.length != 0)=true:=by simpa using h
         have e2:((us.length:Int) != 0)=true:=by rw [bne_iff_ne];omega
         rw [e1,e2]
     cases Bd with
     | true =>
       have hr:=HR.out
       rw [Bool.not_true,Bool.false_and] at hr
       subst hr
       rw [hB] at hl0
       clear kk5 kk6 kk7 kk8
       go_wp2
       go_ret
       exact ⟨rfl,HB2.out⟩
     | false =>
       have hr:=HR.out
       rw [Bool.not_false,Bool.true_and] at hr
       have HR:=Lib.hid hr
       clear hr
       rw [hB] at hl0
       clear kk5 kk6 kk7 kk8
       go_wp2
       clear d0 d1 d2 d3 d4 d5 d6 d7 d8 d9
       go_loopw [5] (fun iv wr=>∃ m:Nat,iv=.int .i64 m∧m ≤ us.length∧Hid (Tr.formS (us.take m)=true)∧Hid (Below w.heap.size w wr)∧w.heap.size < wr.heap.size∧Hid (wr.cell? ⟨w.heap.size,5,none⟩=some (.slice p us.length cap))) (fun iv _=>us.length - (intOf iv).toNat)
       case atStart=>exact ⟨0,rfl,Nat.zero_le _,Lib.hid rfl,HB2,hs2,Lib.hid z5⟩
       case round =>
         obtain ⟨m,rfl,hm,HT,HB,hsz,Z0⟩:=hrel
         clear z5
         have wm:IntKind.i64.wrap ((m:Int)+1)=(m:Int)+1:=IntWalk.i64_in _ (by have:=HLen.out;omega)
         by_cases hlt:m < us.length
         · obtain ⟨x,hx⟩:∃ x,us[m]? = some x:=⟨_,List.getElem?_eq_getElem hlt⟩
           obtain ⟨b1,o1,s1,rfl,-,t1,sub1⟩:=HS.out.get hx
           obtain ⟨d0,d1,d2,d3,d4,d5,d6,d7,d8,d9⟩:=t1.keep (HB.out.block _ t1.lt)
           have hmem:=List.mem_of_getElem? hx
           have HC:=Lib.hid (IH.out x hmem wr B (.agg (x.cells s1)) ⟨_,rfl,sub1.later HB.out⟩)
           have hst:=Tr.formS_take us m x hx
           rw [HT.out,Bool.true_and] at hst
           have HST:=Lib.hid hst
           have z5:=Z0.out
           clear t1 sub1 hmem hx hst
           unfold Tr.cells at HC
           go_wp2_with fail
           refine HC.out.mono ?_
           rintro e w2 ⟨rfl,hb2⟩
           have HB2:=Lib.hid (HB.out.trans (hb2.mono HB.out.size));have Y2:=Lib.hid ((hb2.cell (p:=⟨w.heap.size,5,none⟩) hsz).trans z5)
           have hsz2:w.heap.size < w2.heap.size:=Nat.lt_of_lt_of_le hsz hb2.size
           clear d0 d1 d2 d3 d4 d5 d6 d7 d8 d9 z5 hb2 HC
           cases hxf:x.formB with
           | false =>
             rw [hxf] at HST
             have hr:=HR.out
             rw [Tr.formS_no HST.out] at hr
             subst hr
             clear hxf
             go_wp2
             go_ret
             exact ⟨rfl,HB2.out⟩
           | true =>
             rw [hxf] at HST
             clear hxf
             go_wp2
             exact ⟨⟨m+1,by go_num,by omega,HST,HB2,hsz2,Y2⟩,by simp [intOf];omega⟩
         · obtain rfl:m=us.length:=by omega
           rw [List.take_length] at *
           have hr:=HR.out
           rw [HT.out] at hr
           subst hr
           go_wp2
           go_ret
           exact ⟨rfl,HB.out⟩
theorem refform_any:∀ t:Tr,∀ (w:World) (B:Nat→Prop) (v:Value),NodeV w B v t→Calls Tryd.prog 100 #[v] w fun e w'=>e=.returned (.bool t.formB)∧Below w.heap.size w w':=by
 intro t
 induction t using Tr.rec_subs with
 | h t ih =>
   intro w B v hv
   obtain ⟨s,rfl,hs⟩:=hv
   obtain ⟨p,cap,rfl,hlen⟩:=hs.slice
   have h:=refform_step t.kind t.w0 t.w1 t.w2 t.w3 t.subs t.num t.least t.most t.bare p cap t.usedT.w0 t.usedT.w1 t.usedT.w2 t.usedT.w3 t.usedT.num t.usedT.least t.usedT.most t.usedT.bare w B (Lib.hid (fun w=>refused_any t _ ⟨p,t.subs.length,cap,rfl⟩ w)) (Lib.hid hs) hlen (Lib.hid (fun x hx w B v hv=>ih x hx w B v hv))
   rw [Tr.formB_eq,Tr.fieldsB_ref]
   exact h
end Go.Proofs.YtogdjbnejpennaaDoor
namespace Go.Proofs.YtogdjbnejpennaaDoor
open Go.RowKit
theorem Tr.dpT_ref (t:Tr):t.dpT=Tr.dpS t.subs+(if (((t.kind == 8) && decide (0 < t.subs.length)) && !((t.least == 0) && ((t.most == 1) || (t.most == -1))))=true then 2 else 1):=by
 rw [Tr.dpT_eq]
 by_cases h0:t.subs.length=0
 · have e:t.subs=[]:=List.length_eq_zero_iff.1 h0
   rw [if_pos h0,e]
   simp [Tr.dpS]
 · rw [if_neg h0]
   have e:decide (0 < t.subs.length)=true:=by rw [decide_eq_true_eq];omega
   rw [e]
   congr 1
   have:(t.kind=8∧¬ (t.least=0∧(t.most=1 ∨ t.most = -1))) ↔ ((((t.kind == 8) && true) && !((t.least == 0) && ((t.most == 1) || (t.most == -1))))=true):=by by_cases a:t.least=0 <;> simp [a]
   by_cases h:t.kind=8∧¬ (t.least=0∧(t.most=1 ∨ t.most = -1))
   · rw [if_pos h,if_pos (this.1 h)]
   · rw [if_neg h,if_neg (fun h2=>h (this.2 h2))]
theorem refdepth_any:∀ t:Tr,t.dpT ≤ 1000000→∀ (w:World) (B:Nat→Prop) (v:Value),NodeV w B v t→Calls Tryd.prog 85 #[v] w (SizeEnd t.dpT w):=by
 intro t
 induction t using Tr.rec_subs with
 | h t ih =>
   intro hd w B v hv
   obtain ⟨s,rfl,hs⟩:=hv
   obtain ⟨p,cap,rfl,hlen⟩:=hs.slice
   have heq:=Tr.dpT_ref t
   rw [heq] at hd ⊢
   clear heq
   generalize hts:t.subs=ts at *
   have IH:=Lib.hid ih;have HS:=Lib.hid hs
   clear ih hs hts
   unfold Tr.cells at *
   have hle:Tr.dpS ts ≤ 1000000:=by omega
   generalize hD:Tr.dpS ts+(if (((t.kind == 8) && decide (0 < ts.length)) && !((t.least == 0) && ((t.most == 1) || (t.most == -1))))=true then 2 else 1)=D at *
   have HDE:=Lib.hid hD
   have Z0:=Lib.hid (heap_alloc_new w (.cells #[.int .i64 t.kind,.int .u64 (Oc.U t.w0),.int .u64 (Oc.U t.w1),.int .u64 (Oc.U t.w2),.int .u64 (Oc.U t.w3),.slice p ts.length cap,.int .i64 t.num,.int .i64 t.least,.int .i64 t.most,.bool t.bare] 37))
   have HW:=Lib.hid (show Below w.heap.size w (w.alloc (.cells #[.int .i64 t.kind,.int .u64 (Oc.U t.w0),.int .u64 (Oc.U t.w1),.int .u64 (Oc.U t.w2),.int .u64 (Oc.U t.w3),.slice p ts.length cap,.int .i64 t.num,.int .i64 t.least,.int .i64 t.most,.bool t.bare] 37)) from (Below.refl _ _).alloc (Nat.le_refl _) _)
   have hz:w.heap.size < (w.alloc (.cells #[.int .i64 t.kind,.int .u64 (Oc.U t.w0),.int .u64 (Oc.U t.w1),.int .u64 (Oc.U t.w2),.int .u64 (Oc.U t.w3),.slice p ts.length cap,.int .i64 t.num,.int .i64 t.least,.int .i64 t.most,.bool t.bare] 37)).heap.size:=by simp
   have HD:=Lib.hid hd
   clear hd hD
   go_enter Tryd.func85,Tryd.ntmps85
   go_wp2
   generalize w.alloc (.cells #[.int .i64 t.kind,.int .u64 (Oc.U t.w0),.int .u64 (Oc.U t.w1),.int .u64 (Oc.U t.w2),.int .u64 (Oc.U t.w3),.slice p ts.length cap,.int .i64 t.num,.int .i64 t.least,.int .i64 t.most,.bool t.bare] 37)=W0 at *
   go_loopw [3,4] (fun gv iv wr=>∃ m:Nat,iv=.int .i64 m∧m ≤ ts.length∧gv=.int .i64 (Tr.dpS (ts.take m):Nat)∧Hid (Below W0.heap.size W0 wr)) (fun _ iv _=>ts.length - (intOf iv).toNat)
   case atStart=>exact ⟨0,rfl,Nat.zero_le _,rfl,Lib.hid (Below.refl _ _)⟩
   case round =>
     obtain ⟨m,rfl,hm,rfl,HB⟩:=hrel
     have wm:IntKind.i64.wrap ((m:Int)+1)=(m:Int)+1:=IntWalk.i64_in _ (by omega)
     have HBW:=Lib.hid (HW.out.trans (HB.out.mono HW.out.size))
     have Z1:=Lib.hid (keep_blk (HB.out.mono (Nat.le_refl _)) Z0.out)
     have z5:=(allTen Z1.out).2.2.2.2.2.1
     by_cases hlt:m < ts.length
     · obtain ⟨x,hx⟩:∃ x,ts[m]? = some x:=⟨_,List.getElem?_eq_getElem hlt⟩
       obtain ⟨b1,o1,s1,rfl,-,t1,sub1⟩:=HS.out.get hx
       obtain ⟨d0,d1,d2,d3,d4,d5,d6,d7,d8,d9⟩:=t1.keep (HBW.out.block _ t1.lt)
       have hmem:=List.mem_of_getElem? hx
       obtain ⟨p1,c1,rfl,hl1⟩:=sub1.slice
       have hdx:x.dpT ≤ 1000000:=by have:=Tr.dpT_le_dpS hmem;omega
       have HC:=Lib.hid (fun w9 hb=>IH.out x hmem hdx w9 B (.agg (x.cells (.slice p1 x.subs.length c1))) ⟨_,rfl,sub1.later hb⟩)
       have HSTP:=Lib.hid (Tr.dpS_take ts m x hx)
       clear t1 sub1 hmem hx hdx
       generalize hn:Tr.dpS (ts.take m)=n at *
       clear hn
       unfold Tr.cells at HC
       go_wp2_with fail
       refine (HC.out wr HBW.out).mono ?_
       rintro e w2 ⟨rfl,hb2⟩
       have HB2:=Lib.hid (HB.out.trans (hb2.mono HB.out.size))
       clear d0 d1 d2 d3 d4 d5 d6 d7 d8 d9 z5 hb2 HC
       generalize x.dpT=N at *
       go_wp2
       all_goals
         exact ⟨⟨m+1,by go_num,by omega,by rw [HSTP.out];simp;try omega,HB2⟩,by simp [intOf];omega⟩
     · obtain rfl:m=ts.length:=by omega
       rw [List.take_length] at *
       have w2':IntKind.i64.wrap ((Tr.dpS ts:Int)+2)=(Tr.dpS ts:Int)+2:=IntWalk.i64_in _ (by omega)
       have w1':IntKind.i64.wrap ((Tr.dpS ts:Int)+1)=(Tr.dpS ts:Int)+1:=IntWalk.i64_in _ (by omega)
       have hde:=HDE.out
       clear z5
       obtain ⟨d0,d1,d2,d3,d4,d5,d6,d7,d8,d9⟩:=allTen Z1.out
       have hl:decide ((0:Int) < ts.length)=decide (0 < ts.length):=by
         by_cases h:0 < ts.length
         · rw [decide_eq_true h,decide_eq_true (by omega)]
         · rw [decide_eq_false h,decide_eq_false (by omega)]
       rcases bool_or (t.kind == 8) with q1 | q1 <;> rcases bool_or (decide (0 < ts.length)) with q2 | q2 <;> rcases bool_or (t.least == 0) with q3 | q3 <;> rcases bool_or (t.most == 1) with q4 | q4 <;> rcases bool_or (t.most == -1) with q5 | q5 <;> (
         rw [q1,q2,q3,q4,q5] at hde
         rw [q2] at hl
         simp only [Bool.and_true,Bool.and_false,Bool.or_true,Bool.or_false,Bool.not_true,Bool.not_false,if_true,if_false,Bool.false_eq_true] at hde
         have HDF:=Lib.hid hde
         clear hde
         go_wp2
         go_ret
         exact ⟨ret_int (by have:=HDF.out;omega),HBW.out⟩)
theorem refcheck_any (t:Tr) (hd:t.dpT ≤ 1000000) (w:World) (B:Nat→Prop) (v:Value) (hv:NodeV w B v t):Calls Tryd.prog 76 #[v] w (SizeEnd t.checkC w):=by
 obtain ⟨s,rfl,hs⟩:=hv
 have H1:=Lib.hid (fun w' hb=>refform_any t w' B (.agg (t.cells s)) ⟨s,rfl,TreesAt.later (w':=w') hs hb⟩)
 have H2:=Lib.hid (fun w' hb=>refdepth_any t hd w' B (.agg (t.cells s)) ⟨s,rfl,TreesAt.later (w':=w') hs hb⟩)
 have H3:=Lib.hid (fun (hf:t.InForm) w' hb=>refsize_any t hf w' B (.agg (t.cells s)) ⟨s,rfl,TreesAt.later (w':=w') hs hb⟩)
 obtain ⟨p,cap,rfl,hlen⟩:=hs.slice
 have Z0:=Lib.hid (heap_alloc_new w (.cells (t.cells (.slice p t.subs.length cap)) 37))
 have hfi:=Tr.formB_iff t
 have HFI:=Lib.hid hfi
 have HCC:=Lib.hid (show t.checkC=if t.formB=false then 13 else if 200 < t.dpT then 14 else if 2000 < t.szT then 10 else 0 from rfl)
 clear hs hd hfi
 unfold Tr.cells at *
 go_enter Tryd.func76,Tryd.ntmps76
 go_wp2_with (first
   | (refine wpList_load_row rfl 37 (.tmp 1) rfl w.heap.size rfl 37 _ (0,0) _ Z0.out Tryd.underlying37 rfl (by kernel_rfl) ?_)
   | fail)
 refine (H1.out _ ((Below.refl _ _).alloc (Nat.le_refl _) _)).mono ?_
 rintro e w1 ⟨rfl,hb1⟩
 have Z1:=Lib.hid (keep_blk hb1 Z0.out)
 have HB1:=Lib.hid (((Below.refl w.heap.size w).alloc (Nat.le_refl _) _).trans (hb1.mono (by simp)))
 clear hb1 Z0
 have hcc:=HCC.out
 cases hfb:t.formB with
 | false =>
   rw [if_pos hfb] at hcc
   have HCV:=Lib.hid hcc
   clear hcc HCC HFI hfb
   go_wp2
   go_ret
   exact ⟨ret_int (by rw [HCV.out];rfl),HB1.out⟩
 | true =>
   have hform:=HFI.out.1 hfb
   have H3':=Lib.hid (H3.out hform)
   rw [if_neg (by rw [hfb];decide)] at hcc
   have HC2:=Lib.hid hcc
   clear hcc HCC HFI hfb hform H3
   go_wp2_with (first
     | (refine wpList_load_row rfl 37 (.tmp 1) rfl w.heap.size rfl 37 _ (0,0) _ Z1.out Tryd.underlying37 rfl (by kernel_rfl) ?_)
     | fail)
   refine (H2.out _ HB1.out).mono ?_
   rintro e w2 ⟨rfl,hb2⟩
   have Z2:=Lib.hid (keep_blk hb2 Z1.out)
   have HB2:=Lib.hid (HB1.out.trans (hb2.mono HB1.out.size))
   clear hb2 Z1
   have hcc:=HC2.out
   by_cases hd:200 < t.dpT
   · rw [if_pos hd] at hcc
     have HCV:=Lib.hid hcc
     have e1:decide ((200:Int) < t.dpT)=true:=by simp;omega
     have e1':decide (200 < t.dpT)=true:=by simpa using hd
     clear hcc HC2 hd
     generalize t.dpT=D at *
     go_wp2
     go_ret
     exact ⟨ret_int (by rw [HCV.out];rfl),HB2.out⟩
   · have e1:decide ((200:Int) < t.dpT)=false:=by simp;omega
     have e1':decide (200 < t.dpT)=false:=by simpa using hd
     rw [if_neg hd] at hcc
     have HC3:=Lib.hid hcc
     clear hcc HC2 hd
     generalize t.dpT=D at *
     go_wp2_with (first
       | (refine wpList_load_row rfl 37 (.tmp 1) rfl w.heap.size rfl 37 _ (0,0) _ Z2.out Tryd.underlying37 rfl (by kernel_rfl) ?_)
       | fail)
     refine (H3'.out _ HB2.out).mono ?_
     rintro e w3 ⟨rfl,hb3⟩
     have HB3:=Lib.hid (HB2.out.trans (hb3.mono HB2.out.size))
     clear hb3 Z2
     have hcc:=HC3.out
     by_cases hz:2000 < t.szT
     · rw [if_pos hz] at hcc
       have HCV:=Lib.hid hcc
       have z1:decide ((2000:Int) < t.szT)=true:=by simp;omega
       have z1':decide (2000 < t.szT)=true:=by simpa using hz
       clear hcc HC3 hz
       generalize t.szT=ZT at *
       go_wp2
       go_ret
       exact ⟨ret_int (by rw [HCV.out];rfl),HB3.out⟩
     · rw [if_neg hz] at hcc
       have HCV:=Lib.hid hcc
       have z1:decide ((2000:Int) < t.szT)=false:=by simp;omega
       have z1':decide (2000 < t.szT)=false:=by simpa using hz
       clear hcc HC3 hz
       generalize t.szT=ZT at *
       go_wp2
       go_ret
       exact ⟨ret_int (by rw [HCV.out];rfl),HB3.out⟩
end Go.Proofs.YtogdjbnejpennaaDoor
namespace Go.Proofs.YtogdjbnejpennaaDoor
open Go.RowKit
namespace Tr
def zeroT:Tr:=.node 0 0#64 0#64 0#64 0#64 [] 0 0 0 false
def exO (t:Tr):Tr:=if t.checkC=0 then t.exT else zeroT
end Tr
theorem zero_cells:Tr.zeroT.cells (.slice none 0 0)=noNode:=by
 unfold Tr.zeroT Tr.cells noNode
 simp only [Tr.kind,Tr.w0,Tr.w1,Tr.w2,Tr.w3,Tr.num,Tr.least,Tr.most,Tr.bare,u0]
end Go.Proofs.YtogdjbnejpennaaDoor
namespace Go.Proofs.YtogdjbnejpennaaDoor
open Go.RowKit
theorem refopt_any (x:Tr) (m:Int) (b:Bool) (BB:Nat→Prop) (w:World) (s:Value) (hs:TreesAt w BB s x.subs) (hbase:∀ b,w.heap.size ≤ b→BB b) :
   Calls Tryd.prog 132 #[.agg (x.cells s),.int .i64 m,.bool b] w (fun e w'=>∃ s',e=.returned (.agg ((Tr.optT x m b).cells s'))∧TreesAt w' BB s' (Tr.optT x m b).subs∧Below w.heap.size w w'):=by
 obtain ⟨p,cap,rfl,hlen⟩:=hs.slice
 have hb1:Below w.heap.size w ((w.alloc (.cells (x.cells (.slice p x.subs.length cap)) 37)).alloc (.cells #[.int .i64 8,.int .u64 0,.int .u64 0,.int .u64 0,.int .u64 0,.slice (some ⟨w.heap.size+1+1,0,none⟩) 1 1,.int .i64 0,.int .i64 0,.int .i64 m,.bool b] 37)):=by go_grown
 have HT:=Lib.hid (one_list (hs.later hb1) 37 (w.heap.size+1+1) (by simp))
 have HB1:=Lib.hid (hb1.alloc hb1.size (.cells (x.cells (.slice p x.subs.length cap)) 37))
 have HBA:=Lib.hid hbase
 have Z1:=Lib.hid (three_new w (.cells (x.cells (.slice p x.subs.length cap)) 37) (.cells #[.int .i64 8,.int .u64 0,.int .u64 0,.int .u64 0,.int .u64 0,.slice (some ⟨w.heap.size+1+1,0,none⟩) 1 1,.int .i64 0,.int .i64 0,.int .i64 m,.bool b] 37) (.cells (x.cells (.slice p x.subs.length cap)) 37)).2.1
 clear hs hlen hbase hb1
 have hro:(Tr.optT x m b).cells (.slice (some ⟨w.heap.size+1+1,0,none⟩) 1 1)=#[.int .i64 8,.int .u64 0,.int .u64 0,.int .u64 0,.int .u64 0,.slice (some ⟨w.heap.size+1+1,0,none⟩) 1 1,.int .i64 0,.int .i64 0,.int .i64 m,.bool b]:=by
   unfold Tr.optT Tr.cells
   simp only [Tr.kind,Tr.w0,Tr.w1,Tr.w2,Tr.w3,Tr.num,Tr.least,Tr.most,Tr.bare,u0]
 have HOC:=Lib.hid hro
 clear hro
 have hsb:(Tr.optT x m b).subs=[x]:=rfl
 rw [hsb]
 clear hsb
 generalize Tr.optT x m b=o at *
 unfold Tr.cells at HT HB1 Z1 ⊢
 go_enter Tryd.func132,Tryd.ntmps132
 go_wp2_with (first
   | (refine wpList_node1 rfl (.tmp 9) x p x.subs.length cap rfl rfl ?_)
   | fail)
 refine bodyPost_ret (results_cell_row rfl _ _ (w.heap.size+1) 37 #[.int .i64 8,.int .u64 0,.int .u64 0,.int .u64 0,.int .u64 0,.slice (some ⟨w.heap.size+1+1,0,none⟩) 1 1,.int .i64 0,.int .i64 0,.int .i64 m,.bool b] (0,0) _ rfl Z1.out Tryd.underlying37 rfl (by kernel_rfl)) rfl ⟨.slice (some ⟨w.heap.size+1+1,0,none⟩) 1 1, ?_, ?_,HB1.out⟩
 · exact congrArg (fun c=>Ending.returned (.agg c)) HOC.out.symm
 · refine HT.out.mono fun b _ hb=>?_
   rcases hb with h | h
   · exact h
   · rw [h]
     refine HBA.out _ ?_
     simp;omega
theorem refof_list (k:Int) (a b c d:BitVec 64) (ts:List Tr) (n lo hi:Int) (br:Bool) (h8:k ≠ 8) (w:World) (Bb:Nat→Prop) (s:Value) (ih:∀ u,u ∈ ts→∀ (w:World) (B:Nat→Prop) (v:Value),NodeV w B v u→Calls Tryd.prog 89 #[v] w (NewEnd u.exT w)) (hs:TreesAt w Bb s ts) :
   Calls Tryd.prog 89 #[.agg #[.int .i64 k,.int .u64 (Oc.U a),.int .u64 (Oc.U b),.int .u64 (Oc.U c),.int .u64 (Oc.U d),s,.int .i64 n,.int .i64 lo,.int .i64 hi,.bool br]] w (NewEnd (.node k a b c d (ts.map Tr.exT) n lo hi br) w):=by
 obtain ⟨p,cap,rfl,hlen⟩:=hs.slice
 have IH:=Lib.hid ih;have HS:=Lib.hid hs
 obtain ⟨ie,hi0,hz0,hz1,hz2⟩:=info_parts Tryd.infoNode
 have HI:=Lib.hid hi0;have HZ0:=Lib.hid hz0;have HZ1:=Lib.hid hz1;have HZ2:=Lib.hid hz2
 have e8:(k != 8)=true:=by rw [bne_iff_ne];exact h8
 obtain ⟨z0,z1,z2⟩:=three_new w (.cells #[.int .i64 k,.int .u64 (Oc.U a),.int .u64 (Oc.U b),.int .u64 (Oc.U c),.int .u64 (Oc.U d),.slice p ts.length cap,.int .i64 n,.int .i64 lo,.int .i64 hi,.bool br] 37) (.cells noNode 37) (.cells #[.int .i64 k,.int .u64 (Oc.U a),.int .u64 (Oc.U b),.int .u64 (Oc.U c),.int .u64 (Oc.U d),.slice none 0 0,.int .i64 n,.int .i64 lo,.int .i64 hi,.bool br] 37)
 have hb0:Below w.heap.size w (((w.alloc (.cells #[.int .i64 k,.int .u64 (Oc.U a),.int .u64 (Oc.U b),.int .u64 (Oc.U c),.int .u64 (Oc.U d),.slice p ts.length cap,.int .i64 n,.int .i64 lo,.int .i64 hi,.bool br] 37)).alloc (.cells noNode 37)).alloc (.cells #[.int .i64 k,.int .u64 (Oc.U a),.int .u64 (Oc.U b),.int .u64 (Oc.U c),.int .u64 (Oc.U d),.slice none 0 0,.int .i64 n,.int .i64 lo,.int .i64 hi,.bool br] 37)):=by go_grown
 have hs0:(((w.alloc (.cells #[.int .i64 k,.int .u64 (Oc.U a),.int .u64 (Oc.U b),.int .u64 (Oc.U c),.int .u64 (Oc.U d),.slice p ts.length cap,.int .i64 n,.int .i64 lo,.int .i64 hi,.bool br] 37)).alloc (.cells noNode 37)).alloc (.cells #[.int .i64 k,.int .u64 (Oc.U a),.int .u64 (Oc.U b),.int .u64 (Oc.U c),.int .u64 (Oc.U d),.slice none 0 0,.int .i64 n,.int .i64 lo,.int .i64 hi,.bool br] 37)).heap.size=w.heap.size+3:=by simp
 have Z0:=Lib.hid z0;have Z1:=Lib.hid z1;have Z2:=Lib.hid z2;have HB0:=Lib.hid hb0;have HS0:=Lib.hid hs0
 clear ih hs hi0 hz0 hz1 hz2 h8 z0 z1 z2 hb0 hs0
 go_enter Tryd.func89,Tryd.ntmps89
 go_upto_region 4 with (fail)
 generalize ((w.alloc _).alloc _).alloc _=W0 at *
 go_wp2
 go_loopw [4] (fun iv wr=>∃ (m:Nat) (ps:List (Tr × Value)) (sv:Value),iv=.int .i64 m∧m ≤ ts.length∧ps.length=m∧Hid (ps.map (·.1)=(ts.take m).map Tr.exT)∧Hid (RowLo (w.heap.size+3) (w.heap.size+3) wr sv ps)∧Hid (Below w.heap.size w wr)∧w.heap.size+3 ≤ wr.heap.size ∧
     Hid (wr.heap[w.heap.size]? = some (.cells #[.int .i64 k,.int .u64 (Oc.U a),.int .u64 (Oc.U b),.int .u64 (Oc.U c),.int .u64 (Oc.U d),.slice p ts.length cap,.int .i64 n,.int .i64 lo,.int .i64 hi,.bool br] 37))∧Hid (wr.heap[w.heap.size+1]? = some (.cells noNode 37))∧Hid (wr.heap[w.heap.size+2]? = some (.cells #[.int .i64 k,.int .u64 (Oc.U a),.int .u64 (Oc.U b),.int .u64 (Oc.U c),.int .u64 (Oc.U d),sv,.int .i64 n,.int .i64 lo,.int .i64 hi,.bool br] 37))) (fun iv _=>ts.length - (intOf iv).toNat)
 case atStart=>exact ⟨0,[],_,rfl,Nat.zero_le _,rfl,Lib.hid (by simp),Lib.hid (RowLo.nil _ _ _),HB0,Nat.le_of_eq HS0.out.symm,Z0,Z1,Z2⟩
 case round =>
   clear Z0 Z1 Z2 HB0 HS0
   obtain ⟨m,ps,sv,rfl,hm,hpl,HMP,HR,HB,hsz,X0,X1,X2⟩:=hrel
   have wm:IntKind.i64.wrap ((m:Int)+1)=(m:Int)+1:=IntWalk.i64_in _ (by omega)
   by_cases hlt:m < ts.length
   · obtain ⟨x,hx⟩:∃ x,ts[m]? = some x:=⟨_,List.getElem?_eq_getElem hlt⟩
     obtain ⟨b1,o1,s1,rfl,-,t1,sub1⟩:=HS.out.get hx
     obtain ⟨p1,c1,rfl,hl1⟩:=sub1.slice
     have T1:=Lib.hid (fun w9 (hb9:Below wr.heap.size wr w9)=>t1.keep ((HB.out.trans (hb9.mono HB.out.size)).block _ t1.lt))
     have HCALL:=Lib.hid (fun w9 (hb9:Below wr.heap.size wr w9)=>IH.out x (List.mem_of_getElem? hx) w9 Bb (.agg (x.cells (.slice p1 x.subs.length c1))) ⟨_,rfl,sub1.later (HB.out.trans (hb9.mono HB.out.size))⟩)
     have HMY:=Lib.hid (show (ts.take (m+1)).map Tr.exT=(ts.take m).map Tr.exT ++ [x.exT] by rw [List.take_add_one,hx,List.map_append];rfl)
     clear t1 sub1 hx
     generalize x.exT=y at *
     unfold Tr.cells at HCALL
     obtain ⟨f5,-⟩:=at5 X0.out
     have hdl:decide ((m:Int) < (ts.length:Int))=true:=decide_eq_true (by omega)
     go_upto_region 7 with (fail)
     clear f5
     refine Ri.wp_region_app (by kernel_rfl) (by kernel_rfl) (by kernel_rfl) (by kernel_rfl) 11 9 (by kernel_rfl) (by omega) (fun kk=>kk == 10) (by kernel_rfl) (by kernel_rfl) (fun kk ww vv=>match kk with | 0=>vv=.pointer (some ⟨w.heap.size+1+1,5,none⟩) | 1=>vv=sv | 2=>vv=.pointer (some ⟨w.heap.size,5,none⟩) | 3=>vv=.slice (some ⟨b1,o1,none⟩) ts.length cap | 4=>vv=.int .i64 (m:Int) | 5=>vv=.pointer (some ⟨b1,o1+m * 10,none⟩) | 6=>vv=.agg #[.int .i64 x.kind,.int .u64 (Oc.U x.w0),.int .u64 (Oc.U x.w1),.int .u64 (Oc.U x.w2),.int .u64 (Oc.U x.w3),.slice p1 x.subs.length c1,.int .i64 x.num,.int .i64 x.least,.int .i64 x.most,.bool x.bare] | 7=>∃ s2,vv=.agg (y.cells s2)∧TreesAt ww (fun b=>wr.heap.size ≤ b) s2 y.subs | 8=>OneAt ww wr.heap.size y vv | 10=>vv=.pointer (some ⟨w.heap.size+1+1,5,none⟩) | _=>True) (fun _ kk vv=>match kk with | 0=>vv=.pointer (some ⟨w.heap.size+1+1,5,none⟩) | 1=>vv=sv | 2=>vv=.pointer (some ⟨w.heap.size,5,none⟩) | 3=>vv=.slice (some ⟨b1,o1,none⟩) ts.length cap | 4=>vv=.int .i64 (m:Int) | 5=>vv=.pointer (some ⟨b1,o1+m * 10,none⟩) | 6=>vv=.agg #[.int .i64 x.kind,.int .u64 (Oc.U x.w0),.int .u64 (Oc.U x.w1),.int .u64 (Oc.U x.w2),.int .u64 (Oc.U x.w3),.slice p1 x.subs.length c1,.int .i64 x.num,.int .i64 x.least,.int .i64 x.most,.bool x.bare] | 10=>vv=.pointer (some ⟨w.heap.size+1+1,5,none⟩) | _=>True) (fun uu ww=>∃ p2 c2,RowLo (w.heap.size+3) (w.heap.size+3) ww uu (ps ++ [(y,.slice p2 y.subs.length c2)])∧Below (w.heap.size+3) wr ww) (fun vv ww=>∃ U p2 c2,ww.heap[w.heap.size+2]? = some (.cells #[.int .i64 k,.int .u64 (Oc.U a),.int .u64 (Oc.U b),.int .u64 (Oc.U c),.int .u64 (Oc.U d),U,.int .i64 n,.int .i64 lo,.int .i64 hi,.bool br] 37)∧RowLo (w.heap.size+3) (w.heap.size+3) ww U (ps ++ [(y,.slice p2 y.subs.length c2)])∧Below (w.heap.size+2) wr ww) (fun kk ww vv w8 h hb=>by
               match kk,h with
               | 0,h=>exact h
               | 1,h=>exact h
               | 2,h=>exact h
               | 3,h=>exact h
               | 4,h=>exact h
               | 5,h=>exact h
               | 6,h=>exact h
               | 7,h=>exact h.imp fun s2 h=>⟨h.1,h.2.later hb⟩
               | 8,h=>exact h.below hb
               | 9,h=>exact trivial
               | 10,h=>exact h
               | _+11,_=>trivial) (fun kk ww vv xx h=>by
               match kk,h with
               | 0,h=>exact h
               | 1,h=>exact h
               | 2,h=>exact h
               | 3,h=>exact h
               | 4,h=>exact h
               | 5,h=>exact h
               | 6,h=>exact h
               | 7,h=>exact trivial
               | 8,h=>exact trivial
               | 9,h=>exact trivial
               | 10,h=>exact h
               | _+11,_=>trivial) ?_ ?_ ?_ ?_ ?_
     · intro i hi9 hip L v w9 xa hF9 hL hLp hd hv ho
       obtain ⟨hb,hk⟩:=hF9
       have hi':i=0 ∨ i=1 ∨ i=2 ∨ i=3 ∨ i=4 ∨ i=5 ∨ i=6 ∨ i=7 ∨ i=8 ∨ i=10:=by omega
       rcases hi' with rfl | rfl | rfl | rfl | rfl | rfl | rfl | rfl | rfl | rfl
       · have e3:xa.tmps.getD 3 undef=.pointer (some ⟨w.heap.size+1+1,0,none⟩):=ho 3 (by kernel_rfl)
         refine Ri.step_plain rfl rfl (fun K' hK'=>?_)
         go_simp
         exact hK' _ _ ⟨_,_,rfl,rfl,(Below.refl _ _),rfl⟩
       · have j0:L 0=true:=by have:=hd _ rfl;simp [Region.binds] at this;simp [this]
         have f0:=(hv 0 22 rfl j0).trans (hk 0 j0)
         refine Ri.step_plain rfl rfl (fun K' hK'=>?_)
         obtain ⟨h5,-⟩:=at5 (keep_blk hb X2.out)
         go_simp
         exact hK' _ _ ⟨_,_,rfl,rfl,(Below.refl _ _),rfl⟩
       · have e1:xa.tmps.getD 1 undef=.pointer (some ⟨w.heap.size,0,none⟩):=ho 1 (by kernel_rfl)
         refine Ri.step_plain rfl rfl (fun K' hK'=>?_)
         go_simp
         exact hK' _ _ ⟨_,_,rfl,rfl,(Below.refl _ _),rfl⟩
       · have j2:L 2=true:=by have:=hd _ rfl;simp [Region.binds] at this;simp [this]
         have f2:=(hv 2 24 rfl j2).trans (hk 2 j2)
         refine Ri.step_plain rfl rfl (fun K' hK'=>?_)
         obtain ⟨h5,-⟩:=at5 (keep_blk hb X0.out)
         go_simp
         exact hK' _ _ ⟨_,_,rfl,rfl,(Below.refl _ _),rfl⟩
       · have e4:xa.tmps.getD 4 undef=.int .i64 (m:Int):=ho 4 (by kernel_rfl)
         refine Ri.step_plain rfl rfl (fun K' hK'=>?_)
         go_simp
         exact hK' _ _ ⟨_,_,rfl,rfl,(Below.refl _ _),rfl⟩
       · obtain ⟨j3,j4⟩:L 3=true∧L 4=true:=by have:=hd _ rfl;simp [Region.binds] at this;simp [this]
         have f3:=(hv 3 25 rfl j3).trans (hk 3 j3)
         have f4:=(hv 4 26 rfl j4).trans (hk 4 j4)
         refine Ri.step_plain rfl rfl (fun K' hK'=>?_)
         go_simp
         exact hK' _ _ ⟨_,_,rfl,rfl,(Below.refl _ _),rfl⟩
       · have j5:L 5=true:=by have:=hd _ rfl;simp [Region.binds] at this;simp [this]
         have f5:=(hv 5 27 rfl j5).trans (hk 5 j5)
         refine Ri.step_plain rfl rfl (fun K' hK'=>?_)
         obtain ⟨d0,d1,d2,d3,d4,d5,d6,d7,d8,d9⟩:=T1.out w9 hb
         go_simp
         exact hK' _ _ ⟨_,_,rfl,rfl,(Below.refl _ _),rfl⟩
       · have j6:L 6=true:=by have:=hd _ rfl;simp [Region.binds] at this;simp [this]
         have f6:=(hv 6 28 rfl j6).trans (hk 6 j6)
         refine Ri.step_plain rfl rfl (fun K' hK'=>?_)
         go_simp
         refine (HCALL.out w9 hb).mono ?_
         intro e w8 he
         obtain ⟨s2,rfl,ht8,hb8⟩:=he.of
         exact hK' _ _ ⟨_,_,rfl,rfl,hb8,⟨s2,rfl,ht8.mono fun b _ hb9=>Nat.le_trans hb.size hb9⟩⟩
       · have j7:L 7=true:=by have:=hd _ rfl;simp [Region.binds] at this;simp [this]
         have k7:∃ s2,(v 7)=.agg (y.cells s2)∧TreesAt w9 (fun b=>wr.heap.size ≤ b) s2 y.subs:=hk 7 j7
         have f7:=hv 7 29 rfl j7
         refine Ri.step_plain rfl rfl (fun K' hK'=>?_)
         obtain ⟨s2,e8,ht8⟩:=k7
         obtain ⟨p2,c2,rfl,-⟩:=ht8.slice
         replace f7:=f7.trans e8
         refine wp_node1 (.tmp 29) y p2 y.subs.length c2 rfl f7 ?_
         exact hK' _ _ ⟨_,_,rfl,rfl,((Below.refl _ _).alloc (Nat.le_refl _) _),OneAt.new _ ht8⟩
       · have e3:xa.tmps.getD 3 undef=.pointer (some ⟨w.heap.size+1+1,0,none⟩):=ho 3 (by kernel_rfl)
         refine Ri.step_plain rfl rfl (fun K' hK'=>?_)
         go_simp
         exact hK' _ _ ⟨_,_,rfl,rfl,(Below.refl _ _),rfl⟩
     · intro i hi9 hfr L v w9 xa hM hk hL hLp hd hv ho
       have hi':i=10:=by simpa using hfr
       rcases hi' with rfl
       · have e3:xa.tmps.getD 3 undef=.pointer (some ⟨w.heap.size+1+1,0,none⟩):=ho 3 (by kernel_rfl)
         refine Ri.step_plain rfl rfl (fun K' hK'=>?_)
         go_simp
         exact hK' _ _ ⟨_,_,rfl,rfl,rfl,rfl⟩
     · intro L v w9 xa hF9 hall hv ho
       obtain ⟨hb,hk⟩:=hF9
       have j0:=hall 0 (by omega) (by omega) rfl
       have f0:=(hv 0 22 rfl j0).trans (hk 0 j0)
       have j1:=hall 1 (by omega) (by omega) rfl
       have f1:=(hv 1 23 rfl j1).trans (hk 1 j1)
       have j2:=hall 2 (by omega) (by omega) rfl
       have f2:=(hv 2 24 rfl j2).trans (hk 2 j2)
       have j3:=hall 3 (by omega) (by omega) rfl
       have f3:=(hv 3 25 rfl j3).trans (hk 3 j3)
       have j4:=hall 4 (by omega) (by omega) rfl
       have f4:=(hv 4 26 rfl j4).trans (hk 4 j4)
       have j5:=hall 5 (by omega) (by omega) rfl
       have f5:=(hv 5 27 rfl j5).trans (hk 5 j5)
       have j6:=hall 6 (by omega) (by omega) rfl
       have f6:=(hv 6 28 rfl j6).trans (hk 6 j6)
       have j7:=hall 7 (by omega) (by omega) rfl
       have k7:∃ s2,(v 7)=.agg (y.cells s2)∧TreesAt w9 (fun b=>wr.heap.size ≤ b) s2 y.subs:=hk 7 j7
       have f7:=hv 7 29 rfl j7
       have j8:=hall 8 (by omega) (by omega) rfl
       have k8:OneAt w9 wr.heap.size y (v 8):=hk 8 j8
       have f8:=hv 8 30 rfl j8
       refine Ri.step_plain rfl rfl (fun K' hK'=>?_)
       have hrow:=HR.out.below hb
       have hbz:=hb.size;have hsz9:=hsz
       obtain ⟨p2,c2,g,e8,ht8,hc8⟩:=k8
       replace f8:=f8.trans e8
       clear e8
       have hml:ps.length+1 ≤ maxLen:=by unfold maxLen;omega
       have hbyt:(ps.length+1) * 96 ≤ 140737488355328:=by omega
       have hba:w.heap.size+3 ≤ w9.heap.size:=by omega
       refine wp_append_node _ (.tmp 23) (.tmp 30) 35 rfl (w.heap.size+3) 37 ie _ 10 96 Tryd.underlying35 HI.out HZ0.out HZ1.out HZ2.out rfl (by decide) sv ps.length (rowOf ps) f1 hrow.1 ⟨g,0,none⟩ 1 1 (y.cells (.slice p2 y.subs.length c2)).toList f8 rfl hc8 (nodeC_one _ _ _ _) (by decide) hml hbyt hba ?_
       intro v' w4 hown4 hgrow4 hwhere
       exact hK' _ _ ⟨_,_,rfl,rfl,⟨p2,c2,hrow.step (ht8.mono fun b _ hb9=>⟨by omega,fun e=>by have:=(HR.out.lt b e).2;omega⟩) hown4 hgrow4 hwhere,((hb.mono hsz).grown hgrow4 (by omega) (fun k e=>(HR.out.lt k e).1))⟩⟩
     · intro L v w9 xa hM hall hk hv ho
       have f0:=(hv 0 22 rfl (hall 0 (by omega))).trans (hk 0 (by omega) (by omega))
       have f1:=(hv 1 23 rfl (hall 1 (by omega))).trans (hk 1 (by omega) (by omega))
       have f2:=(hv 2 24 rfl (hall 2 (by omega))).trans (hk 2 (by omega) (by omega))
       have f3:=(hv 3 25 rfl (hall 3 (by omega))).trans (hk 3 (by omega) (by omega))
       have f4:=(hv 4 26 rfl (hall 4 (by omega))).trans (hk 4 (by omega) (by omega))
       have f5:=(hv 5 27 rfl (hall 5 (by omega))).trans (hk 5 (by omega) (by omega))
       have f6:=(hv 6 28 rfl (hall 6 (by omega))).trans (hk 6 (by omega) (by omega))
       have f7:=hv 7 29 rfl (hall 7 (by omega))
       have f8:=hv 8 30 rfl (hall 8 (by omega))
       have f9:=hv 9 31 rfl (hall 9 (by omega))
       have f10:=(hv 10 32 rfl (hall 10 (by omega))).trans (hk 10 (by omega) (by omega))
       refine Ri.step_plain rfl rfl (fun K' hK'=>?_)
       obtain ⟨p2,c2,hr4,hb4⟩:=hM
       obtain ⟨q4,l4,c4,e4⟩:=hr4.slice
       have hx2:=(hb4.block (w.heap.size+2) (by omega)).trans X2.out
       obtain ⟨h5,g5⟩:=at5 hx2
       rw [e4] at f9 hr4
       clear e4
       go_simp
       exact hK' _ _ ⟨_,undef,rfl,rfl,⟨.slice q4 l4 c4,p2,c2,set5 hx2,hr4.setCell (by omega) _ _,(hb4.mono (by omega)).trans ((Below.refl (w.heap.size+2) w9).setCell (show w.heap.size+2 ≤ w.heap.size+1+1 from Nat.le_refl _) _)⟩⟩
     · intro v w9 hfin
       obtain ⟨U,p2,c2,hx2,hr4,hb4⟩:=hfin
       simp only [Ri.frame,List.zipIdx,List.foldl_cons,List.foldl_nil,if_true,List.setIfInBounds_toArray,List.set_cons_zero,List.set_cons_succ,Nat.reduceAdd]
       generalize v 0=z0;generalize v 1=z1;generalize v 2=z2;generalize v 3=z3;generalize v 4=z4;generalize v 5=z5;generalize v 6=z6;generalize v 7=z7;generalize v 8=z8;generalize v 9=z9;generalize v 10=z10
       have X0n:=Lib.hid ((hb4.block _ (by omega)).trans X0.out);have X1n:=Lib.hid ((hb4.block _ (by omega)).trans X1.out);have X2n:=Lib.hid hx2
       have HRn:=Lib.hid hr4
       have HBn:=Lib.hid (HB.out.trans (hb4.mono (by omega)))
       have hsn:w.heap.size+3 ≤ w9.heap.size:=by have:=hb4.size;omega
       clear hx2 hr4 hb4
       go_wp2
       exact ⟨⟨m+1,_,U,by go_num,by omega,by rw [List.length_append,hpl];rfl,Lib.hid (by rw [List.map_append,HMP.out,HMY.out];rfl),HRn,HBn,hsn,X0n,X1n,X2n⟩,by simp [intOf];omega⟩
   · obtain rfl:m=ts.length:=by omega
     obtain ⟨f5,-⟩:=at5 X0.out
     go_upto_region 8 with (fail)
     clear f5
     have htr:=HR.out.trees (Nat.le_refl _) (by omega)
     rw [HMP.out,List.take_length] at htr
     have HTR:=Lib.hid htr
     clear htr
     obtain ⟨q4,l4,c4,rfl⟩:=HR.out.slice
     go_wp2_with (first
       | (refine wpList_load_row rfl 37 (.tmp 3) rfl (w.heap.size+1+1) rfl 37 _ (0,0) _ X2.out Tryd.underlying37 rfl (by kernel_rfl) ?_)
       | (refine wpList_store_row rfl 37 (.tmp 2) (.tmp 33) rfl (w.heap.size+1) #[.int .i64 k,.int .u64 (Oc.U a),.int .u64 (Oc.U b),.int .u64 (Oc.U c),.int .u64 (Oc.U d),.slice q4 l4 c4,.int .i64 n,.int .i64 lo,.int .i64 hi,.bool br] rfl rfl 37 _ X1.out (by kernel_rfl) rfl (by simp [Value.oneCell']) ?_)
       | fail)
     refine bodyPost_ret (results_cell_row rfl _ _ (w.heap.size+1) 37 #[.int .i64 k,.int .u64 (Oc.U a),.int .u64 (Oc.U b),.int .u64 (Oc.U c),.int .u64 (Oc.U d),.slice q4 l4 c4,.int .i64 n,.int .i64 lo,.int .i64 hi,.bool br] (0,0) _ rfl (heap_setRow X1.out) Tryd.underlying37 rfl (by kernel_rfl)) rfl ⟨_,rfl,⟨.slice q4 l4 c4,rfl, ?_⟩, ?_⟩
     · exact (HTR.out.keep fun b _ hb=>by rw [heap_setRow_other _ _ _ (by omega)]).mono fun b _ hb=>by omega
     · exact below_setRow HB.out (Nat.le_succ _) _
end Go.Proofs.YtogdjbnejpennaaDoor
namespace Go.Proofs.YtogdjbnejpennaaDoor
open Go.RowKit
def OfEnd (lo:Int) (v:Value) (w:World) (iv sv:Value) (wr:World):Prop:=iv=.int .i64 lo∧sv=v∧wr=w
def OfRel (lo:Int) (m kk:Nat) (y:Tr) (br:Bool) (b0 b1:Nat) (w3:World) (iv sv:Value) (wr:World):Prop:=∃ (J:Int) (j:Nat) (ps:List (Tr × Value)),iv=.int .i64 J∧J=lo+j∧j ≤ kk∧ps.length=m+j∧ps.map (·.1)=List.replicate m y ++ Tr.mayT y j (br || decide (0 < lo))∧RowLo b0 b1 wr sv ps∧Below b1 w3 wr∧b1 ≤ wr.heap.size
theorem OfRel.mk {lo:Int} {m kk:Nat} {y:Tr} {br:Bool} {b0 b1:Nat} {w3:World} {iv sv:Value} {wr:World} {J:Int} {j:Nat} {ps:List (Tr × Value)} (h1:iv=.int .i64 J) (h2:J=lo+j) (h3:j ≤ kk) (h4:ps.length=m+j) (h5:ps.map (·.1)=List.replicate m y ++ Tr.mayT y j (br || decide (0 < lo))) (h6:RowLo b0 b1 wr sv ps) (h7:Below b1 w3 wr) (h8:b1 ≤ wr.heap.size):OfRel lo m kk y br b0 b1 w3 iv sv wr:=⟨J,j,ps,h1,h2,h3,h4,h5,h6,h7,h8⟩
theorem refof_rep (x:Tr) (ih:∀ (w:World) (B:Nat→Prop) (v:Value),NodeV w B v x→Calls Tryd.prog 89 #[v] w (NewEnd x.exT w)) (lo hi:Int) (br:Bool)
   (h0:0 ≤ lo) (h1:lo ≤ 255) (h2:hi = -1 ∨ (lo ≤ hi∧hi ≤ 255)) (w:World) (Bb:Nat→Prop) (s:Value) (hs:TreesAt w Bb s [x]) :
   Calls Tryd.prog 89 #[.agg #[.int .i64 8,.int .u64 0,.int .u64 0,.int .u64 0,.int .u64 0,s,.int .i64 0,.int .i64 lo,.int .i64 hi,.bool br]] w (NewEnd (if hi=0 then Tr.leaf 1 else if lo=1∧hi=1 then x.exT else if lo=0∧(hi=1 ∨ hi = -1) then Tr.optT x.exT hi br else Tr.many 5 (Tr.roundsT x.exT lo hi br)) w):=by
 obtain ⟨p,cap,rfl,hlen⟩:=hs.slice
 simp only [List.length_singleton] at *
 obtain ⟨b1,o1,s1,rfl,-,t1,sub1⟩:=hs.get (i:=0) (t:=x) rfl
 obtain ⟨z0,z1⟩:=two_new w (.cells #[.int .i64 8,.int .u64 0,.int .u64 0,.int .u64 0,.int .u64 0,.slice (some ⟨b1,o1,none⟩) 1 cap,.int .i64 0,.int .i64 lo,.int .i64 hi,.bool br] 37) (.cells noNode 37)
 have hb0:Below w.heap.size w ((w.alloc (.cells #[.int .i64 8,.int .u64 0,.int .u64 0,.int .u64 0,.int .u64 0,.slice (some ⟨b1,o1,none⟩) 1 cap,.int .i64 0,.int .i64 lo,.int .i64 hi,.bool br] 37)).alloc (.cells noNode 37)):=by go_grown
 have hs0:((w.alloc (.cells #[.int .i64 8,.int .u64 0,.int .u64 0,.int .u64 0,.int .u64 0,.slice (some ⟨b1,o1,none⟩) 1 cap,.int .i64 0,.int .i64 lo,.int .i64 hi,.bool br] 37)).alloc (.cells noNode 37)).heap.size=w.heap.size+2:=by simp
 have t1':TenAt w b1 o1 x s1:=by simpa using t1
 obtain ⟨p1,c1,rfl,hl1⟩:=sub1.slice
 have HCALL:=Lib.hid (fun w9 hb=>ih w9 Bb (.agg (x.cells (.slice p1 x.subs.length c1))) ⟨_,rfl,sub1.later hb⟩)
 have T1:=Lib.hid (fun w9 (hb:Below w.heap.size w w9)=>t1'.keep (hb.block _ t1'.lt))
 obtain ⟨ie,hi0,hz0,hz1,hz2⟩:=info_parts Tryd.infoNode
 have HI:=Lib.hid hi0;have HZ0:=Lib.hid hz0;have HZ1:=Lib.hid hz1;have HZ2:=Lib.hid hz2
 have Z0:=Lib.hid z0;have Z1:=Lib.hid z1;have HB0:=Lib.hid hb0;have HS0:=Lib.hid hs0;have H2:=Lib.hid h2
 clear hs t1 t1' sub1 z0 z1 hb0 hs0 hlen h2 ih hi0 hz0 hz1 hz2
 have e8:((8:Int) != 8)=false:=rfl
 by_cases n0:hi=0
 · subst n0
   rw [if_pos rfl]
   go_enter Tryd.func89,Tryd.ntmps89
   go_wp2_with (first
     | (refine wpList_store_row rfl 37 (.tmp 2) (.tmp 37) rfl (w.heap.size+1) #[.int .i64 1,.int .u64 0,.int .u64 0,.int .u64 0,.int .u64 0,.slice none 0 0,.int .i64 0,.int .i64 0,.int .i64 0,.bool false] rfl rfl 37 _ Z1.out (by kernel_rfl) rfl (by simp [Value.oneCell']) ?_)
     | fail)
   refine bodyPost_ret (results_cell_row rfl _ _ (w.heap.size+1) 37 #[.int .i64 1,.int .u64 0,.int .u64 0,.int .u64 0,.int .u64 0,.slice none 0 0,.int .i64 0,.int .i64 0,.int .i64 0,.bool false] (0,0) _ rfl (heap_setRow Z1.out) Tryd.underlying37 rfl (by kernel_rfl)) rfl ⟨_, ?_,⟨.slice none 0 0,rfl,TreesAt.nil⟩,below_setRow HB0.out (Nat.le_succ _) _⟩
   rw [Tr.leaf,Tr.cells]
   simp only [Tr.kind,Tr.w0,Tr.w1,Tr.w2,Tr.w3,Tr.num,Tr.least,Tr.most,Tr.bare,u0]
 · rw [if_neg n0]
   have e0:(hi == 0)=false:=by rw [beq_eq_false_iff_ne];exact n0
   obtain ⟨y,hy⟩:∃ y,x.exT=y:=⟨_,rfl⟩
   rw [hy] at HCALL ⊢
   clear hy
   generalize hR:(if lo=1∧hi=1 then y else if lo=0∧(hi=1 ∨ hi = -1) then Tr.optT y hi br else Tr.many 5 (Tr.roundsT y lo hi br))=R
   have HRR:=Lib.hid hR
   clear hR
   go_enter Tryd.func89,Tryd.ntmps89
   go_upto_region 1 with (fail)
   generalize (w.alloc _).alloc _=W0 at *
   obtain ⟨q0,q1,q2,q3,q4,q5,q6,q7,q8,q9⟩:=allTen Z0.out
   obtain ⟨d0,d1,d2,d3,d4,d5,d6,d7,d8,d9⟩:=T1.out W0 HB0.out
   go_wp2_with fail
   clear q0 q1 q2 q3 q4 q5 q6 q7 q8 q9 d0 d1 d2 d3 d4 d5 d6 d7 d8 d9
   refine (HCALL.out W0 HB0.out).mono ?_
   intro e w2 he
   obtain ⟨s2,rfl,ht,hb2⟩:=he.of
   obtain ⟨p2,c2,rfl,hl2⟩:=ht.slice
   clear he
   have hb3:Below W0.heap.size W0 (w2.alloc (.cells #[.int .i64 y.kind,.int .u64 (Oc.U y.w0),.int .u64 (Oc.U y.w1),.int .u64 (Oc.U y.w2),.int .u64 (Oc.U y.w3),.slice p2 y.subs.length c2,.int .i64 y.num,.int .i64 y.least,.int .i64 y.most,.bool y.bare] 37)):=hb2.alloc hb2.size _
   have Y0:=Lib.hid (keep_blk hb3 Z0.out);have Y1:=Lib.hid (keep_blk hb3 Z1.out)
   have Y3:=Lib.hid (heap_alloc_new w2 (.cells #[.int .i64 y.kind,.int .u64 (Oc.U y.w0),.int .u64 (Oc.U y.w1),.int .u64 (Oc.U y.w2),.int .u64 (Oc.U y.w3),.slice p2 y.subs.length c2,.int .i64 y.num,.int .i64 y.least,.int .i64 y.most,.bool y.bare] 37))
   have HB3:=Lib.hid (HB0.out.trans (hb3.mono HB0.out.size))
   have HS3:=Lib.hid (show w.heap.size+2 ≤ w2.heap.size from by have:=hb2.size;have:=HS0.out;omega)
   have hz3:(w2.alloc (.cells #[.int .i64 y.kind,.int .u64 (Oc.U y.w0),.int .u64 (Oc.U y.w1),.int .u64 (Oc.U y.w2),.int .u64 (Oc.U y.w3),.slice p2 y.subs.length c2,.int .i64 y.num,.int .i64 y.least,.int .i64 y.most,.bool y.bare] 37)).heap.size=w2.heap.size+1:=by simp
   have HZ3:=Lib.hid hz3
   have HTT:=Lib.hid ((ht.mono (B':=fun b=>w.heap.size+2 ≤ b∧b < w2.heap.size+1) fun b hb hb9=>⟨by have:=HS0.out;omega,by omega⟩).later ((Below.refl w2.heap.size w2).alloc (Nat.le_refl _) (.cells #[.int .i64 y.kind,.int .u64 (Oc.U y.w0),.int .u64 (Oc.U y.w1),.int .u64 (Oc.U y.w2),.int .u64 (Oc.U y.w3),.slice p2 y.subs.length c2,.int .i64 y.num,.int .i64 y.least,.int .i64 y.most,.bool y.bare] 37)))
   obtain ⟨q0,q1,q2,q3,q4,q5,q6,q7,q8,q9⟩:=allTen Y0.out
   clear ht hb2 hb3 hz3 HCALL T1 Z0 Z1 HB0 HS0
   unfold Tr.cells
   go_upto_region 12 with (fail)
   generalize w2.alloc _=w3 at *
   by_cases n1:lo=1∧hi=1
   · obtain ⟨rfl,rfl⟩:=n1
     rw [if_pos ⟨rfl,rfl⟩] at HRR
     obtain rfl:=HRR.out
     go_upto_region 13 with (fail)
     clear q0 q1 q2 q3 q4 q5 q6 q7 q8 q9
     go_wp2_with (first
       | (refine wpList_load_row rfl 37 (.tmp 5) rfl w2.heap.size rfl 37 _ (0,0) _ Y3.out Tryd.underlying37 rfl (by kernel_rfl) ?_)
       | (refine wpList_store_row rfl 37 (.tmp 2) (.tmp 51) rfl (w.heap.size+1) #[.int .i64 y.kind,.int .u64 (Oc.U y.w0),.int .u64 (Oc.U y.w1),.int .u64 (Oc.U y.w2),.int .u64 (Oc.U y.w3),.slice p2 y.subs.length c2,.int .i64 y.num,.int .i64 y.least,.int .i64 y.most,.bool y.bare] rfl rfl 37 _ Y1.out (by kernel_rfl) rfl (by simp [Value.oneCell']) ?_)
       | fail)
     refine bodyPost_ret (results_cell_row rfl _ _ (w.heap.size+1) 37 #[.int .i64 y.kind,.int .u64 (Oc.U y.w0),.int .u64 (Oc.U y.w1),.int .u64 (Oc.U y.w2),.int .u64 (Oc.U y.w3),.slice p2 y.subs.length c2,.int .i64 y.num,.int .i64 y.least,.int .i64 y.most,.bool y.bare] (0,0) _ rfl (heap_setRow Y1.out) Tryd.underlying37 rfl (by kernel_rfl)) rfl ⟨_,rfl,⟨.slice p2 y.subs.length c2,rfl, ?_⟩,below_setRow HB3.out (Nat.le_succ _) _⟩
     exact (HTT.out.keep fun b _ hb=>by rw [heap_setRow_other _ _ _ (by omega)]).mono fun b _ hb=>by omega
   · rw [if_neg n1] at HRR
     by_cases n2:lo=0∧(hi=1 ∨ hi = -1)
     · rw [if_pos n2] at HRR
       have HOP:=Lib.hid (refopt_any y hi br (fun b=>w.heap.size+2 ≤ b) w3 (.slice p2 y.subs.length c2) (HTT.out.mono fun b _ hb=>hb.1) (fun b hb=>by have:=HS3.out;have:=HZ3.out;omega))
       rw [HRR.out] at HOP
       clear n1 HRR
       obtain ⟨rfl,rfl | rfl⟩:=n2
       all_goals
         go_upto_region 15 with (fail)
         have q8':=q8;have q9':=q9
         clear q0 q1 q2 q3 q4 q5 q6 q7 q8 q9
         go_wp2_with (first
           | (refine wpList_load_row rfl 37 (.tmp 5) rfl w2.heap.size rfl 37 _ (0,0) _ Y3.out Tryd.underlying37 rfl (by kernel_rfl) ?_)
           | fail)
         clear q8' q9'
         refine HOP.out.mono ?_
         rintro e w5 ⟨s5,rfl,ht5,hb5⟩
         obtain ⟨p5,c5,rfl,-⟩:=ht5.slice
         have V1:=Lib.hid (keep_blk hb5 Y1.out)
         have HB5:=Lib.hid (HB3.out.trans (hb5.mono HB3.out.size))
         have HT5:=Lib.hid ht5
         clear ht5 hb5 HOP
         unfold Tr.cells
         go_wp2_with (first
           | (refine wpList_store_row rfl 37 (.tmp 2) (.tmp 75) rfl (w.heap.size+1) #[.int .i64 R.kind,.int .u64 (Oc.U R.w0),.int .u64 (Oc.U R.w1),.int .u64 (Oc.U R.w2),.int .u64 (Oc.U R.w3),.slice p5 R.subs.length c5,.int .i64 R.num,.int .i64 R.least,.int .i64 R.most,.bool R.bare] rfl rfl 37 _ V1.out (by kernel_rfl) rfl (by simp [Value.oneCell']) ?_)
           | fail)
         refine bodyPost_ret (results_cell_row rfl _ _ (w.heap.size+1) 37 #[.int .i64 R.kind,.int .u64 (Oc.U R.w0),.int .u64 (Oc.U R.w1),.int .u64 (Oc.U R.w2),.int .u64 (Oc.U R.w3),.slice p5 R.subs.length c5,.int .i64 R.num,.int .i64 R.least,.int .i64 R.most,.bool R.bare] (0,0) _ rfl (heap_setRow V1.out) Tryd.underlying37 rfl (by kernel_rfl)) rfl ⟨_,rfl,⟨.slice p5 R.subs.length c5,rfl, ?_⟩,below_setRow HB5.out (Nat.le_succ _) _⟩
         exact (HT5.out.keep fun b _ hb=>by rw [heap_setRow_other _ _ _ (by omega)]).mono fun b _ hb=>by omega
     · rw [if_neg n2] at HRR
       obtain rfl:=HRR.out
       obtain ⟨nn,hlo⟩:∃ n:Nat,lo=n:=⟨lo.toNat,by omega⟩
       have hn:nn ≤ 255:=by omega
       have HLO:=Lib.hid hlo
       have HTY:=Lib.hid (fun w9 (hb:Below (w2.heap.size+1) w3 w9)=>(HTT.out.keep (w':=w9) fun b _ hb9=>hb.block b (by omega)))
       have h3:(lo=1∧(hi == 1)=false) ∨ (lo=0∧(hi == 1)=false∧(hi == -1)=false) ∨ ((lo == 1)=false∧(lo == 0)=false):=by
         simp only [beq_eq_false_iff_ne];have:=H2.out;omega
       clear hlo n1 n2 h0 h1 HRR
       rcases h3 with ⟨rfl,e2⟩ | ⟨rfl,e2,e3⟩ | ⟨e1,e2⟩
       · go_upto_region 17 with (fail)
         clear q0 q1 q2 q3 q4 q5 q6 q7 q8 q9
         go_wp2
         go_loopw [7,6] (fun iv sv wr=>∃ m:Nat,iv=.int .i64 m∧m ≤ nn∧Hid (RowLo (w.heap.size+2) (w2.heap.size+1) wr sv (List.replicate m (y,.slice p2 y.subs.length c2)))∧Hid (Below (w2.heap.size+1) w3 wr)∧w2.heap.size+1 ≤ wr.heap.size) (fun iv _ _=>nn - (intOf iv).toNat)
         case atStart=>exact ⟨0,rfl,Nat.zero_le _,Lib.hid (RowLo.nil _ _ _),Lib.hid (Below.refl _ _),Nat.le_of_eq HZ3.out.symm⟩
         case round =>
           obtain ⟨m,rfl,hm,HR,HB,hsz⟩:=hrel
           have wm:IntKind.i64.wrap ((m:Int)+1)=(m:Int)+1:=IntWalk.i64_in _ (by omega)
           have X0:=Lib.hid ((HB.out.block _ (by have:=HS3.out;omega)).trans Y0.out);have X3:=Lib.hid ((HB.out.block _ (by omega)).trans Y3.out)
           obtain ⟨q0,q1,q2,q3,q4,q5,q6,q7,q8,q9⟩:=allTen X0.out
           obtain ⟨ps,hps⟩:∃ ps,List.replicate m (y,Value.slice p2 y.subs.length c2)=ps:=⟨_,rfl⟩
           have hpl:ps.length=m:=by rw [← hps,List.length_replicate]
           rw [hps] at HR
           by_cases hlt:m < nn
           · obtain rfl:m=0:=by have:=HLO.out;omega
             skip
             have HPS:=Lib.hid hps
             clear hps
             go_upto_region 20 with (fail)
             clear q0 q1 q2 q3 q4 q5 q6 q7 q8 q9
             have HTX:=Lib.hid (HTY.out wr HB.out)
             have hlt3:=HR.out.lt
             have HOWN2:=Lib.hid ((HR.out.below (Below.refl wr.heap.size wr)).1.alloc (.cells (y.cells (.slice p2 y.subs.length c2)) 37))
             have HNW:=Lib.hid (news_one wr y p2 y.subs.length c2 37)
             have HBA:Hid (w2.heap.size+1 ≤ (wr.alloc (.cells (y.cells (.slice p2 y.subs.length c2)) 37)).heap.size):=Lib.hid (by have:=((Below.refl wr.heap.size wr)).size;simp;omega)
             have hml:ps.length+1 ≤ maxLen:=by unfold maxLen;omega
             have hbyt:(ps.length+1) * 96 ≤ 140737488355328:=by omega
             have HLT3:=Lib.hid hlt3
             clear hlt3
             go_wp2_with (first
               | (refine wpList_load_row rfl 37 (.tmp 5) rfl w2.heap.size rfl 37 _ (0,0) _ X3.out Tryd.underlying37 rfl (by kernel_rfl) ?_)
               | (refine wpList_node1 rfl (.tmp 83) y p2 y.subs.length c2 rfl rfl ?_)
               | (refine wpList_append_fresh _ rfl (.tmp 82) (.tmp 84) 35 rfl (w2.heap.size+1) 37 ie _ 10 96 Tryd.underlying35 HI.out HZ0.out HZ1.out HZ2.out rfl (by decide) _ _ _ rfl HOWN2.out ⟨wr.heap.size,0,none⟩ 1 1 (y.cells (.slice p2 y.subs.length c2)).toList rfl rfl HNW.out (nodeC_one _ _ _ _) (by decide) hml hbyt HBA.out ?_;intro v' w4 hown4 hgrow4 hwhere)
               | fail)
             have HG4:=Lib.hid hgrow4;have HW4:=Lib.hid hwhere
             have hb3:Below wr.heap.size wr (wr.alloc (.cells (y.cells (.slice p2 y.subs.length c2)) 37)):=((Below.refl wr.heap.size wr)).alloc ((Below.refl wr.heap.size wr)).size _
             have HR4:=Lib.hid (HR.out.app (Below.refl wr.heap.size wr) (HTX.out.mono fun b _ hb=>⟨hb.1,fun e=>by have:=(HLT3.out b e).1;omega⟩) hown4 HG4.out HW4.out)
             have HB4:=Lib.hid (HB.out.trans ((hb3.mono hsz).grown HG4.out (by have:=hb3.size;omega) (fun k e=>(HLT3.out k e).1)))
             have hs4:w2.heap.size+1 ≤ w4.heap.size:=by have:=HG4.out.size;have:=hb3.size;omega
             refine ⟨⟨(0:Nat)+1,by go_num,by omega,Lib.hid (by rw [List.replicate_succ',HPS.out];exact HR4.out),HB4,hs4⟩,by simp [intOf];omega⟩
           · obtain rfl:m=1:=by have:=HLO.out;omega
             obtain rfl:nn=1:=by have:=HLO.out;omega
             have HPS:=Lib.hid (show ps.map (·.1)=List.replicate (1:Nat) y by rw [← hps,List.map_replicate])
             clear hps
             by_cases hend:hi = -1
             · subst hend
               go_upto_region 22 with (fail)
               clear q0 q1 q2 q3 q4 q5 q6 q7 q8 q9
               have HTX:=Lib.hid (HTY.out wr HB.out)
               go_wp2_with (first
                 | (refine wpList_load_row rfl 37 (.tmp 5) rfl w2.heap.size rfl 37 _ (0,0) _ X3.out Tryd.underlying37 rfl (by kernel_rfl) ?_)
                 | fail)
               refine (refopt_any y (-1) true (fun b=>w.heap.size+2 ≤ b∧(b < w2.heap.size+1 ∨ wr.heap.size ≤ b)) wr (.slice p2 y.subs.length c2) (HTX.out.mono fun b _ hb=>⟨hb.1,.inl hb.2⟩) (fun b hb=>⟨by have:=HS3.out;omega,.inr hb⟩)).mono ?_
               rintro e w9 ⟨s9,rfl,ht9,hb9⟩
               generalize hz:Tr.optT y (-1) true=z at *
               have ht9':=ht9
               have HY:=Lib.hid (show Tr.roundsT y (1:Int) (-1) br=List.replicate (1:Nat) y ++ [z] by unfold Tr.roundsT;rw [if_pos rfl,show (1:Int).toNat=(1:Nat) by have:=HLO.out;omega,hz])
               clear ht9 hz
               obtain ⟨p5,c5,rfl,hl5⟩:=ht9'.slice
               have hlt3:=HR.out.lt
               have HOWN2:=Lib.hid ((HR.out.below hb9).1.alloc (.cells (z.cells (.slice p5 z.subs.length c5)) 37))
               have HNW:=Lib.hid (news_one w9 z p5 z.subs.length c5 37)
               have HBA:Hid (w2.heap.size+1 ≤ (w9.alloc (.cells (z.cells (.slice p5 z.subs.length c5)) 37)).heap.size):=Lib.hid (by have:=(hb9).size;simp;omega)
               have hml:ps.length+1 ≤ maxLen:=by unfold maxLen;omega
               have hbyt:(ps.length+1) * 96 ≤ 140737488355328:=by omega
               have HLT3:=Lib.hid hlt3
               clear hlt3
               have HX2:=Lib.hid (show TreesAt w9 (fun b=>w.heap.size+2 ≤ b∧u6.ownBlock ≠ some b) (.slice p5 z.subs.length c5) z.subs from ht9'.mono fun b _ hb=>⟨hb.1,fun e=>by have:=HLT3.out b e;omega⟩)
               have HB2:=Lib.hid hb9
               clear ht9' hb9
               unfold Tr.cells
               go_upto_region 23 with (first
                 | (refine wpList_node1 rfl (.tmp 91) z p5 z.subs.length c5 rfl rfl ?_)
                 | (refine wpList_append_fresh _ rfl (.tmp 89) (.tmp 92) 35 rfl (w2.heap.size+1) 37 ie _ 10 96 Tryd.underlying35 HI.out HZ0.out HZ1.out HZ2.out rfl (by decide) _ _ _ rfl HOWN2.out ⟨w9.heap.size,0,none⟩ 1 1 (z.cells (.slice p5 z.subs.length c5)).toList rfl rfl HNW.out (nodeC_one _ _ _ _) (by decide) hml hbyt HBA.out ?_;intro v' w4 hown4 hgrow4 hwhere)
                 | fail)
               have HG4:=Lib.hid hgrow4;have HW4:=Lib.hid hwhere
               have hb3:Below wr.heap.size wr (w9.alloc (.cells (z.cells (.slice p5 z.subs.length c5)) 37)):=(HB2.out).alloc (HB2.out).size _
               have HR4:=Lib.hid (HR.out.app HB2.out HX2.out hown4 HG4.out HW4.out)
               have HB4:=Lib.hid (HB.out.trans ((hb3.mono hsz).grown HG4.out (by have:=hb3.size;omega) (fun k e=>(HLT3.out k e).1)))
               have hs4:w2.heap.size+1 ≤ w4.heap.size:=by have:=HG4.out.size;have:=hb3.size;omega
               have HEQ:=Lib.hid (show (ps ++ [(z,Value.slice p5 z.subs.length c5)]).map (·.1)=Tr.roundsT y (1:Int) (-1) br by rw [List.map_append,HPS.out,HY.out] <;> rfl)
               have hpl2:(ps ++ [(z,Value.slice p5 z.subs.length c5)]).length ≤ 300:=by rw [List.length_append,hpl,List.length_singleton];omega
               generalize ps ++ [(z,Value.slice p5 z.subs.length c5)]=ps at *
               have X0:=Lib.hid ((HB4.out.block _ (by have:=HS3.out;omega)).trans Y0.out)
               obtain ⟨q0,q1,q2,q3,q4,q5,q6,q7,q8,q9⟩:=allTen X0.out
               have hlm:decide ((1:Int) < -1)=false:=decide_eq_false (by have:=HLO.out;omega)
               go_wp2
               go_loopw [8,6] (fun iv sv wr=>OfEnd (1:Int) v' w4 iv sv wr) (fun _ _ _=>0)
               case atStart=>exact ⟨rfl,rfl,rfl⟩
               case round =>
                 obtain ⟨rfl,rfl,rfl⟩:=hrel
                 go_upto_region 28 with (fail)
                 clear q0 q1 q2 q3 q4 q5 q6 q7 q8 q9
                 clear HR HB hsz HG4 HW4 hb3 hpl
                 have HR:=HR4;have HB:=HB4;have hsz:=hs4;have hpl:=hpl2
                 have htr:=HR.out.trees (by have:=HS3.out;omega) (by omega)
                 rw [HEQ.out] at htr
                 have HTR:=Lib.hid htr
                 clear htr
                 have X1:=Lib.hid ((HB.out.block _ (by have:=HS3.out;omega)).trans Y1.out)
                 obtain ⟨q4,l4,c4,rfl⟩:=HR.out.slice
                 go_wp2_with (first
                   | (refine wpList_store_row rfl 37 (.tmp 2) (.tmp 117) rfl (w.heap.size+1) #[.int .i64 5,.int .u64 0,.int .u64 0,.int .u64 0,.int .u64 0,.slice q4 l4 c4,.int .i64 0,.int .i64 0,.int .i64 0,.bool false] rfl rfl 37 _ X1.out (by kernel_rfl) rfl (by simp [Value.oneCell']) ?_)
                   | fail)
                 refine bodyPost_ret (results_cell_row rfl _ _ (w.heap.size+1) 37 #[.int .i64 5,.int .u64 0,.int .u64 0,.int .u64 0,.int .u64 0,.slice q4 l4 c4,.int .i64 0,.int .i64 0,.int .i64 0,.bool false] (0,0) _ rfl (heap_setRow X1.out) Tryd.underlying37 rfl (by kernel_rfl)) rfl ⟨_, ?_,⟨.slice q4 l4 c4,rfl, ?_⟩, ?_⟩
                 · rw [Tr.many,Tr.cells]
                   simp only [Tr.kind,Tr.w0,Tr.w1,Tr.w2,Tr.w3,Tr.num,Tr.least,Tr.most,Tr.bare,u0]
                 · exact (HTR.out.keep fun b _ hb=>by rw [heap_setRow_other _ _ _ (by omega)]).mono fun b _ hb=>by omega
                 · exact below_setRow (HB3.out.trans (HB.out.mono (by have:=HS3.out;omega))) (Nat.le_succ _) _
             · obtain ⟨kk,hkk0⟩:∃ kk:Nat,hi=(1:Int)+kk:=⟨(hi - (1:Int)).toNat,by have:=H2.out;omega⟩
               have hkk:(1:Nat)+kk ≤ 255:=by have:=H2.out;have:=HLO.out;omega
               have ene:(hi == -1)=false:=by rw [beq_eq_false_iff_ne];omega
               have HKK:=Lib.hid hkk0
               clear hkk0
               go_wp2
               clear q0 q1 q2 q3 q4 q5 q6 q7 q8 q9
               go_loopw [8,6] (fun iv sv wr=>OfRel (1:Int) (1:Nat) kk y br (w.heap.size+2) (w2.heap.size+1) w3 iv sv wr) (fun iv _ _=>kk - (intOf iv - (1:Int)).toNat)
               case atStart=>exact OfRel.mk (J:=(1:Int)) (j:=0) (ps:=ps) rfl (by omega) (Nat.zero_le _) (by omega) (by rw [HPS.out];simp [Tr.mayT]) HR.out HB.out hsz
               case round =>
                 clear HR HB hsz X0 X3
                 clear hpl HPS ps
                 obtain ⟨J,j,ps,rfl,hJ9,hj,hpl,hMP9,hR9,hB9,hsz⟩:=hrel
                 have HJ:=Lib.hid hJ9;have HMP:=Lib.hid hMP9;have HR:=Lib.hid hR9;have HB:=Lib.hid hB9
                 clear hJ9 hMP9 hR9 hB9
                 have wj:IntKind.i64.wrap (J+1)=J+1:=IntWalk.i64_in _ (by have:=HJ.out;have:=HLO.out;omega)
                 have X0:=Lib.hid ((HB.out.block _ (by have:=HS3.out;omega)).trans Y0.out);have X3:=Lib.hid ((HB.out.block _ (by omega)).trans Y3.out)
                 obtain ⟨q0,q1,q2,q3,q4,q5,q6,q7,q8,q9⟩:=allTen X0.out
                 by_cases hlt2:j < kk
                 · have hdj:decide (J < hi)=true:=decide_eq_true (by have:=HJ.out;have:=HKK.out;omega)
                   obtain ⟨bb,hbb⟩:∃ bb,(br || decide (0 < (1:Int)) || decide (0 < j))=bb:=⟨_,rfl⟩
                   have h4:(J=0∧br=false∧bb=false) ∨ (J=0∧br=true∧bb=true) ∨ ((J == 0)=false∧bb=true):=by
                     have hJ:=HJ.out;have h0:=HLO.out
                     rw [← hbb,beq_eq_false_iff_ne]
                     by_cases e:J=0
                     · have e1:decide (0 < (1:Int))=false:=decide_eq_false (by omega)
                       have e2:decide (0 < j)=false:=decide_eq_false (by omega)
                       rw [e1,e2];cases br <;> simp [e]
                     · refine .inr (.inr ⟨e, ?_⟩)
                       by_cases e1:0 < (1:Int)
                       · simp [e1]
                       · have e2:0 < j:=by omega
                         simp [e2]
                   have HMB:=Lib.hid hbb
                   clear hbb
                   have HTX:=Lib.hid (HTY.out wr HB.out)
                   have h4:(J == 0)=false∧bb=true:=by
                     rcases h4 with h | h | h
                     · have:=HJ.out;omega
                     · have:=HJ.out;omega
                     · exact h
                   obtain ⟨eJ,rfl⟩:=h4
                   all_goals
                     go_upto_region 27 with (fail)
                     clear q0 q1 q2 q3 q4 q5 q6 q7 q8 q9
                     go_wp2_with (first
                       | (refine wpList_load_row rfl 37 (.tmp 5) rfl w2.heap.size rfl 37 _ (0,0) _ X3.out Tryd.underlying37 rfl (by kernel_rfl) ?_)
                       | fail)
                     refine (refopt_any y 1 _ (fun b=>w.heap.size+2 ≤ b∧(b < w2.heap.size+1 ∨ wr.heap.size ≤ b)) wr (.slice p2 y.subs.length c2) (HTX.out.mono fun b _ hb=>⟨hb.1,.inl hb.2⟩) (fun b hb=>⟨by have:=HS3.out;omega,.inr hb⟩)).mono ?_
                     rintro e w9 ⟨s9,rfl,ht9,hb9⟩
                     generalize hz:Tr.optT y 1 _=z at *
                     have ht9':=ht9
                     have HY:=Lib.hid hz
                     clear ht9 hz
                     obtain ⟨p5,c5,rfl,hl5⟩:=ht9'.slice
                     have hlt3:=HR.out.lt
                     have HOWN2:=Lib.hid ((HR.out.below hb9).1.alloc (.cells (z.cells (.slice p5 z.subs.length c5)) 37))
                     have HNW:=Lib.hid (news_one w9 z p5 z.subs.length c5 37)
                     have HBA:Hid (w2.heap.size+1 ≤ (w9.alloc (.cells (z.cells (.slice p5 z.subs.length c5)) 37)).heap.size):=Lib.hid (by have:=(hb9).size;simp;omega)
                     have hml:ps.length+1 ≤ maxLen:=by unfold maxLen;omega
                     have hbyt:(ps.length+1) * 96 ≤ 140737488355328:=by omega
                     have HLT3:=Lib.hid hlt3
                     clear hlt3
                     have HX2:=Lib.hid (show TreesAt w9 (fun b=>w.heap.size+2 ≤ b∧u6.ownBlock ≠ some b) (.slice p5 z.subs.length c5) z.subs from ht9'.mono fun b _ hb=>⟨hb.1,fun e=>by have:=HLT3.out b e;omega⟩)
                     have HB2:=Lib.hid hb9
                     clear ht9' hb9
                     unfold Tr.cells
                     go_wp2_with (first
                       | (refine wpList_node1 rfl (.tmp 113) z p5 z.subs.length c5 rfl rfl ?_)
                       | (refine wpList_append_fresh _ rfl (.tmp 109) (.tmp 114) 35 rfl (w2.heap.size+1) 37 ie _ 10 96 Tryd.underlying35 HI.out HZ0.out HZ1.out HZ2.out rfl (by decide) _ _ _ rfl HOWN2.out ⟨w9.heap.size,0,none⟩ 1 1 (z.cells (.slice p5 z.subs.length c5)).toList rfl rfl HNW.out (nodeC_one _ _ _ _) (by decide) hml hbyt HBA.out ?_;intro v' w4 hown4 hgrow4 hwhere)
                       | fail)
                     have HG4:=Lib.hid hgrow4;have HW4:=Lib.hid hwhere
                     have hb3:Below wr.heap.size wr (w9.alloc (.cells (z.cells (.slice p5 z.subs.length c5)) 37)):=(HB2.out).alloc (HB2.out).size _
                     have HR4:=Lib.hid (HR.out.app HB2.out HX2.out hown4 HG4.out HW4.out)
                     have HB4:=Lib.hid (HB.out.trans ((hb3.mono hsz).grown HG4.out (by have:=hb3.size;omega) (fun k e=>(HLT3.out k e).1)))
                     have hs4:w2.heap.size+1 ≤ w4.heap.size:=by have:=HG4.out.size;have:=hb3.size;omega
                     refine ⟨OfRel.mk (j:=j+1) (ps:=ps ++ [(z,.slice p5 z.subs.length c5)]) rfl (by have:=HJ.out;omega) (by omega) (by rw [List.length_append,hpl];rfl) ?_ HR4.out HB4.out hs4,by have:=HJ.out;simp [intOf];omega⟩
                     rw [List.map_append,HMP.out,mayT_succ,HMB.out,HY.out,List.append_assoc];rfl
                 · obtain rfl:j=kk:=by omega
                   have hdj:decide (J < hi)=false:=decide_eq_false (by have:=HJ.out;have:=HKK.out;omega)
                   have HEQ:=Lib.hid (show ps.map (·.1)=Tr.roundsT y (1:Int) hi br by
                     unfold Tr.roundsT
                     rw [if_neg hend,show (hi - (1:Int)).toNat=j by have:=HKK.out;omega,show (1:Int).toNat=(1:Nat) by have:=HLO.out;omega]
                     exact HMP.out)
                   go_upto_region 28 with (fail)
                   clear q0 q1 q2 q3 q4 q5 q6 q7 q8 q9
                   have htr:=HR.out.trees (by have:=HS3.out;omega) (by omega)
                   rw [HEQ.out] at htr
                   have HTR:=Lib.hid htr
                   clear htr
                   have X1:=Lib.hid ((HB.out.block _ (by have:=HS3.out;omega)).trans Y1.out)
                   obtain ⟨q4,l4,c4,rfl⟩:=HR.out.slice
                   go_wp2_with (first
                     | (refine wpList_store_row rfl 37 (.tmp 2) (.tmp 117) rfl (w.heap.size+1) #[.int .i64 5,.int .u64 0,.int .u64 0,.int .u64 0,.int .u64 0,.slice q4 l4 c4,.int .i64 0,.int .i64 0,.int .i64 0,.bool false] rfl rfl 37 _ X1.out (by kernel_rfl) rfl (by simp [Value.oneCell']) ?_)
                     | fail)
                   refine bodyPost_ret (results_cell_row rfl _ _ (w.heap.size+1) 37 #[.int .i64 5,.int .u64 0,.int .u64 0,.int .u64 0,.int .u64 0,.slice q4 l4 c4,.int .i64 0,.int .i64 0,.int .i64 0,.bool false] (0,0) _ rfl (heap_setRow X1.out) Tryd.underlying37 rfl (by kernel_rfl)) rfl ⟨_, ?_,⟨.slice q4 l4 c4,rfl, ?_⟩, ?_⟩
                   · rw [Tr.many,Tr.cells]
                     simp only [Tr.kind,Tr.w0,Tr.w1,Tr.w2,Tr.w3,Tr.num,Tr.least,Tr.most,Tr.bare,u0]
                   · exact (HTR.out.keep fun b _ hb=>by rw [heap_setRow_other _ _ _ (by omega)]).mono fun b _ hb=>by omega
                   · exact below_setRow (HB3.out.trans (HB.out.mono (by have:=HS3.out;omega))) (Nat.le_succ _) _
       · go_upto_region 17 with (fail)
         clear q0 q1 q2 q3 q4 q5 q6 q7 q8 q9
         go_wp2
         go_loopw [7,6] (fun iv sv wr=>∃ m:Nat,iv=.int .i64 m∧m ≤ nn∧Hid (RowLo (w.heap.size+2) (w2.heap.size+1) wr sv (List.replicate m (y,.slice p2 y.subs.length c2)))∧Hid (Below (w2.heap.size+1) w3 wr)∧w2.heap.size+1 ≤ wr.heap.size) (fun iv _ _=>nn - (intOf iv).toNat)
         case atStart=>exact ⟨0,rfl,Nat.zero_le _,Lib.hid (RowLo.nil _ _ _),Lib.hid (Below.refl _ _),Nat.le_of_eq HZ3.out.symm⟩
         case round =>
           obtain ⟨m,rfl,hm,HR,HB,hsz⟩:=hrel
           have wm:IntKind.i64.wrap ((m:Int)+1)=(m:Int)+1:=IntWalk.i64_in _ (by omega)
           have X0:=Lib.hid ((HB.out.block _ (by have:=HS3.out;omega)).trans Y0.out);have X3:=Lib.hid ((HB.out.block _ (by omega)).trans Y3.out)
           obtain ⟨q0,q1,q2,q3,q4,q5,q6,q7,q8,q9⟩:=allTen X0.out
           obtain ⟨ps,hps⟩:∃ ps,List.replicate m (y,Value.slice p2 y.subs.length c2)=ps:=⟨_,rfl⟩
           have hpl:ps.length=m:=by rw [← hps,List.length_replicate]
           rw [hps] at HR
           by_cases hlt:m < nn
           · exact absurd hlt (by have:=HLO.out;omega)
           · obtain rfl:m=0:=by have:=HLO.out;omega
             obtain rfl:nn=0:=by have:=HLO.out;omega
             have HPS:=Lib.hid (show ps.map (·.1)=List.replicate (0:Nat) y by rw [← hps,List.map_replicate])
             clear hps
             by_cases hend:hi = -1
             · subst hend
               go_upto_region 22 with (fail)
               clear q0 q1 q2 q3 q4 q5 q6 q7 q8 q9
               have HTX:=Lib.hid (HTY.out wr HB.out)
               go_wp2_with (first
                 | (refine wpList_load_row rfl 37 (.tmp 5) rfl w2.heap.size rfl 37 _ (0,0) _ X3.out Tryd.underlying37 rfl (by kernel_rfl) ?_)
                 | fail)
               refine (refopt_any y (-1) true (fun b=>w.heap.size+2 ≤ b∧(b < w2.heap.size+1 ∨ wr.heap.size ≤ b)) wr (.slice p2 y.subs.length c2) (HTX.out.mono fun b _ hb=>⟨hb.1,.inl hb.2⟩) (fun b hb=>⟨by have:=HS3.out;omega,.inr hb⟩)).mono ?_
               rintro e w9 ⟨s9,rfl,ht9,hb9⟩
               generalize hz:Tr.optT y (-1) true=z at *
               have ht9':=ht9
               have HY:=Lib.hid (show Tr.roundsT y (0:Int) (-1) br=List.replicate (0:Nat) y ++ [z] by unfold Tr.roundsT;rw [if_pos rfl,show (0:Int).toNat=(0:Nat) by have:=HLO.out;omega,hz])
               clear ht9 hz
               obtain ⟨p5,c5,rfl,hl5⟩:=ht9'.slice
               have hlt3:=HR.out.lt
               have HOWN2:=Lib.hid ((HR.out.below hb9).1.alloc (.cells (z.cells (.slice p5 z.subs.length c5)) 37))
               have HNW:=Lib.hid (news_one w9 z p5 z.subs.length c5 37)
               have HBA:Hid (w2.heap.size+1 ≤ (w9.alloc (.cells (z.cells (.slice p5 z.subs.length c5)) 37)).heap.size):=Lib.hid (by have:=(hb9).size;simp;omega)
               have hml:ps.length+1 ≤ maxLen:=by unfold maxLen;omega
               have hbyt:(ps.length+1) * 96 ≤ 140737488355328:=by omega
               have HLT3:=Lib.hid hlt3
               clear hlt3
               have HX2:=Lib.hid (show TreesAt w9 (fun b=>w.heap.size+2 ≤ b∧u6.ownBlock ≠ some b) (.slice p5 z.subs.length c5) z.subs from ht9'.mono fun b _ hb=>⟨hb.1,fun e=>by have:=HLT3.out b e;omega⟩)
               have HB2:=Lib.hid hb9
               clear ht9' hb9
               unfold Tr.cells
               go_upto_region 23 with (first
                 | (refine wpList_node1 rfl (.tmp 91) z p5 z.subs.length c5 rfl rfl ?_)
                 | (refine wpList_append_fresh _ rfl (.tmp 89) (.tmp 92) 35 rfl (w2.heap.size+1) 37 ie _ 10 96 Tryd.underlying35 HI.out HZ0.out HZ1.out HZ2.out rfl (by decide) _ _ _ rfl HOWN2.out ⟨w9.heap.size,0,none⟩ 1 1 (z.cells (.slice p5 z.subs.length c5)).toList rfl rfl HNW.out (nodeC_one _ _ _ _) (by decide) hml hbyt HBA.out ?_;intro v' w4 hown4 hgrow4 hwhere)
                 | fail)
               have HG4:=Lib.hid hgrow4;have HW4:=Lib.hid hwhere
               have hb3:Below wr.heap.size wr (w9.alloc (.cells (z.cells (.slice p5 z.subs.length c5)) 37)):=(HB2.out).alloc (HB2.out).size _
               have HR4:=Lib.hid (HR.out.app HB2.out HX2.out hown4 HG4.out HW4.out)
               have HB4:=Lib.hid (HB.out.trans ((hb3.mono hsz).grown HG4.out (by have:=hb3.size;omega) (fun k e=>(HLT3.out k e).1)))
               have hs4:w2.heap.size+1 ≤ w4.heap.size:=by have:=HG4.out.size;have:=hb3.size;omega
               have HEQ:=Lib.hid (show (ps ++ [(z,Value.slice p5 z.subs.length c5)]).map (·.1)=Tr.roundsT y (0:Int) (-1) br by rw [List.map_append,HPS.out,HY.out] <;> rfl)
               have hpl2:(ps ++ [(z,Value.slice p5 z.subs.length c5)]).length ≤ 300:=by rw [List.length_append,hpl,List.length_singleton];omega
               generalize ps ++ [(z,Value.slice p5 z.subs.length c5)]=ps at *
               have X0:=Lib.hid ((HB4.out.block _ (by have:=HS3.out;omega)).trans Y0.out)
               obtain ⟨q0,q1,q2,q3,q4,q5,q6,q7,q8,q9⟩:=allTen X0.out
               have hlm:decide ((0:Int) < -1)=false:=decide_eq_false (by have:=HLO.out;omega)
               go_wp2
               go_loopw [8,6] (fun iv sv wr=>OfEnd (0:Int) v' w4 iv sv wr) (fun _ _ _=>0)
               case atStart=>exact ⟨rfl,rfl,rfl⟩
               case round =>
                 obtain ⟨rfl,rfl,rfl⟩:=hrel
                 go_upto_region 28 with (fail)
                 clear q0 q1 q2 q3 q4 q5 q6 q7 q8 q9
                 clear HR HB hsz HG4 HW4 hb3 hpl
                 have HR:=HR4;have HB:=HB4;have hsz:=hs4;have hpl:=hpl2
                 have htr:=HR.out.trees (by have:=HS3.out;omega) (by omega)
                 rw [HEQ.out] at htr
                 have HTR:=Lib.hid htr
                 clear htr
                 have X1:=Lib.hid ((HB.out.block _ (by have:=HS3.out;omega)).trans Y1.out)
                 obtain ⟨q4,l4,c4,rfl⟩:=HR.out.slice
                 go_wp2_with (first
                   | (refine wpList_store_row rfl 37 (.tmp 2) (.tmp 117) rfl (w.heap.size+1) #[.int .i64 5,.int .u64 0,.int .u64 0,.int .u64 0,.int .u64 0,.slice q4 l4 c4,.int .i64 0,.int .i64 0,.int .i64 0,.bool false] rfl rfl 37 _ X1.out (by kernel_rfl) rfl (by simp [Value.oneCell']) ?_)
                   | fail)
                 refine bodyPost_ret (results_cell_row rfl _ _ (w.heap.size+1) 37 #[.int .i64 5,.int .u64 0,.int .u64 0,.int .u64 0,.int .u64 0,.slice q4 l4 c4,.int .i64 0,.int .i64 0,.int .i64 0,.bool false] (0,0) _ rfl (heap_setRow X1.out) Tryd.underlying37 rfl (by kernel_rfl)) rfl ⟨_, ?_,⟨.slice q4 l4 c4,rfl, ?_⟩, ?_⟩
                 · rw [Tr.many,Tr.cells]
                   simp only [Tr.kind,Tr.w0,Tr.w1,Tr.w2,Tr.w3,Tr.num,Tr.least,Tr.most,Tr.bare,u0]
                 · exact (HTR.out.keep fun b _ hb=>by rw [heap_setRow_other _ _ _ (by omega)]).mono fun b _ hb=>by omega
                 · exact below_setRow (HB3.out.trans (HB.out.mono (by have:=HS3.out;omega))) (Nat.le_succ _) _
             · obtain ⟨kk,hkk0⟩:∃ kk:Nat,hi=(0:Int)+kk:=⟨(hi - (0:Int)).toNat,by have:=H2.out;omega⟩
               have hkk:(0:Nat)+kk ≤ 255:=by have:=H2.out;have:=HLO.out;omega
               have ene:(hi == -1)=false:=by rw [beq_eq_false_iff_ne];omega
               have HKK:=Lib.hid hkk0
               clear hkk0
               go_wp2
               clear q0 q1 q2 q3 q4 q5 q6 q7 q8 q9
               go_loopw [8,6] (fun iv sv wr=>OfRel (0:Int) (0:Nat) kk y br (w.heap.size+2) (w2.heap.size+1) w3 iv sv wr) (fun iv _ _=>kk - (intOf iv - (0:Int)).toNat)
               case atStart=>exact OfRel.mk (J:=(0:Int)) (j:=0) (ps:=ps) rfl (by omega) (Nat.zero_le _) (by omega) (by rw [HPS.out];simp [Tr.mayT]) HR.out HB.out hsz
               case round =>
                 clear HR HB hsz X0 X3
                 clear hpl HPS ps
                 obtain ⟨J,j,ps,rfl,hJ9,hj,hpl,hMP9,hR9,hB9,hsz⟩:=hrel
                 have HJ:=Lib.hid hJ9;have HMP:=Lib.hid hMP9;have HR:=Lib.hid hR9;have HB:=Lib.hid hB9
                 clear hJ9 hMP9 hR9 hB9
                 have wj:IntKind.i64.wrap (J+1)=J+1:=IntWalk.i64_in _ (by have:=HJ.out;have:=HLO.out;omega)
                 have X0:=Lib.hid ((HB.out.block _ (by have:=HS3.out;omega)).trans Y0.out);have X3:=Lib.hid ((HB.out.block _ (by omega)).trans Y3.out)
                 obtain ⟨q0,q1,q2,q3,q4,q5,q6,q7,q8,q9⟩:=allTen X0.out
                 by_cases hlt2:j < kk
                 · have hdj:decide (J < hi)=true:=decide_eq_true (by have:=HJ.out;have:=HKK.out;omega)
                   obtain ⟨bb,hbb⟩:∃ bb,(br || decide (0 < (0:Int)) || decide (0 < j))=bb:=⟨_,rfl⟩
                   have h4:(J=0∧br=false∧bb=false) ∨ (J=0∧br=true∧bb=true) ∨ ((J == 0)=false∧bb=true):=by
                     have hJ:=HJ.out;have h0:=HLO.out
                     rw [← hbb,beq_eq_false_iff_ne]
                     by_cases e:J=0
                     · have e1:decide (0 < (0:Int))=false:=decide_eq_false (by omega)
                       have e2:decide (0 < j)=false:=decide_eq_false (by omega)
                       rw [e1,e2];cases br <;> simp [e]
                     · refine .inr (.inr ⟨e, ?_⟩)
                       by_cases e1:0 < (0:Int)
                       · simp [e1]
                       · have e2:0 < j:=by omega
                         simp [e2]
                   have HMB:=Lib.hid hbb
                   clear hbb
                   have HTX:=Lib.hid (HTY.out wr HB.out)
                   rcases h4 with ⟨rfl,rfl,rfl⟩ | ⟨rfl,rfl,rfl⟩ | ⟨eJ,rfl⟩
                   all_goals
                     go_upto_region 27 with (fail)
                     clear q0 q1 q2 q3 q4 q5 q6 q7 q8 q9
                     go_wp2_with (first
                       | (refine wpList_load_row rfl 37 (.tmp 5) rfl w2.heap.size rfl 37 _ (0,0) _ X3.out Tryd.underlying37 rfl (by kernel_rfl) ?_)
                       | fail)
                     refine (refopt_any y 1 _ (fun b=>w.heap.size+2 ≤ b∧(b < w2.heap.size+1 ∨ wr.heap.size ≤ b)) wr (.slice p2 y.subs.length c2) (HTX.out.mono fun b _ hb=>⟨hb.1,.inl hb.2⟩) (fun b hb=>⟨by have:=HS3.out;omega,.inr hb⟩)).mono ?_
                     rintro e w9 ⟨s9,rfl,ht9,hb9⟩
                     generalize hz:Tr.optT y 1 _=z at *
                     have ht9':=ht9
                     have HY:=Lib.hid hz
                     clear ht9 hz
                     obtain ⟨p5,c5,rfl,hl5⟩:=ht9'.slice
                     have hlt3:=HR.out.lt
                     have HOWN2:=Lib.hid ((HR.out.below hb9).1.alloc (.cells (z.cells (.slice p5 z.subs.length c5)) 37))
                     have HNW:=Lib.hid (news_one w9 z p5 z.subs.length c5 37)
                     have HBA:Hid (w2.heap.size+1 ≤ (w9.alloc (.cells (z.cells (.slice p5 z.subs.length c5)) 37)).heap.size):=Lib.hid (by have:=(hb9).size;simp;omega)
                     have hml:ps.length+1 ≤ maxLen:=by unfold maxLen;omega
                     have hbyt:(ps.length+1) * 96 ≤ 140737488355328:=by omega
                     have HLT3:=Lib.hid hlt3
                     clear hlt3
                     have HX2:=Lib.hid (show TreesAt w9 (fun b=>w.heap.size+2 ≤ b∧u6.ownBlock ≠ some b) (.slice p5 z.subs.length c5) z.subs from ht9'.mono fun b _ hb=>⟨hb.1,fun e=>by have:=HLT3.out b e;omega⟩)
                     have HB2:=Lib.hid hb9
                     clear ht9' hb9
                     unfold Tr.cells
                     go_wp2_with (first
                       | (refine wpList_node1 rfl (.tmp 113) z p5 z.subs.length c5 rfl rfl ?_)
                       | (refine wpList_append_fresh _ rfl (.tmp 109) (.tmp 114) 35 rfl (w2.heap.size+1) 37 ie _ 10 96 Tryd.underlying35 HI.out HZ0.out HZ1.out HZ2.out rfl (by decide) _ _ _ rfl HOWN2.out ⟨w9.heap.size,0,none⟩ 1 1 (z.cells (.slice p5 z.subs.length c5)).toList rfl rfl HNW.out (nodeC_one _ _ _ _) (by decide) hml hbyt HBA.out ?_;intro v' w4 hown4 hgrow4 hwhere)
                       | fail)
                     have HG4:=Lib.hid hgrow4;have HW4:=Lib.hid hwhere
                     have hb3:Below wr.heap.size wr (w9.alloc (.cells (z.cells (.slice p5 z.subs.length c5)) 37)):=(HB2.out).alloc (HB2.out).size _
                     have HR4:=Lib.hid (HR.out.app HB2.out HX2.out hown4 HG4.out HW4.out)
                     have HB4:=Lib.hid (HB.out.trans ((hb3.mono hsz).grown HG4.out (by have:=hb3.size;omega) (fun k e=>(HLT3.out k e).1)))
                     have hs4:w2.heap.size+1 ≤ w4.heap.size:=by have:=HG4.out.size;have:=hb3.size;omega
                     refine ⟨OfRel.mk (j:=j+1) (ps:=ps ++ [(z,.slice p5 z.subs.length c5)]) rfl (by have:=HJ.out;omega) (by omega) (by rw [List.length_append,hpl];rfl) ?_ HR4.out HB4.out hs4,by have:=HJ.out;simp [intOf];omega⟩
                     rw [List.map_append,HMP.out,mayT_succ,HMB.out,HY.out,List.append_assoc];rfl
                 · obtain rfl:j=kk:=by omega
                   have hdj:decide (J < hi)=false:=decide_eq_false (by have:=HJ.out;have:=HKK.out;omega)
                   have HEQ:=Lib.hid (show ps.map (·.1)=Tr.roundsT y (0:Int) hi br by
                     unfold Tr.roundsT
                     rw [if_neg hend,show (hi - (0:Int)).toNat=j by have:=HKK.out;omega,show (0:Int).toNat=(0:Nat) by have:=HLO.out;omega]
                     exact HMP.out)
                   go_upto_region 28 with (fail)
                   clear q0 q1 q2 q3 q4 q5 q6 q7 q8 q9
                   have htr:=HR.out.trees (by have:=HS3.out;omega) (by omega)
                   rw [HEQ.out] at htr
                   have HTR:=Lib.hid htr
                   clear htr
                   have X1:=Lib.hid ((HB.out.block _ (by have:=HS3.out;omega)).trans Y1.out)
                   obtain ⟨q4,l4,c4,rfl⟩:=HR.out.slice
                   go_wp2_with (first
                     | (refine wpList_store_row rfl 37 (.tmp 2) (.tmp 117) rfl (w.heap.size+1) #[.int .i64 5,.int .u64 0,.int .u64 0,.int .u64 0,.int .u64 0,.slice q4 l4 c4,.int .i64 0,.int .i64 0,.int .i64 0,.bool false] rfl rfl 37 _ X1.out (by kernel_rfl) rfl (by simp [Value.oneCell']) ?_)
                     | fail)
                   refine bodyPost_ret (results_cell_row rfl _ _ (w.heap.size+1) 37 #[.int .i64 5,.int .u64 0,.int .u64 0,.int .u64 0,.int .u64 0,.slice q4 l4 c4,.int .i64 0,.int .i64 0,.int .i64 0,.bool false] (0,0) _ rfl (heap_setRow X1.out) Tryd.underlying37 rfl (by kernel_rfl)) rfl ⟨_, ?_,⟨.slice q4 l4 c4,rfl, ?_⟩, ?_⟩
                   · rw [Tr.many,Tr.cells]
                     simp only [Tr.kind,Tr.w0,Tr.w1,Tr.w2,Tr.w3,Tr.num,Tr.least,Tr.most,Tr.bare,u0]
                   · exact (HTR.out.keep fun b _ hb=>by rw [heap_setRow_other _ _ _ (by omega)]).mono fun b _ hb=>by omega
                   · exact below_setRow (HB3.out.trans (HB.out.mono (by have:=HS3.out;omega))) (Nat.le_succ _) _
       · go_upto_region 17 with (fail)
         clear q0 q1 q2 q3 q4 q5 q6 q7 q8 q9
         go_wp2
         go_loopw [7,6] (fun iv sv wr=>∃ m:Nat,iv=.int .i64 m∧m ≤ nn∧Hid (RowLo (w.heap.size+2) (w2.heap.size+1) wr sv (List.replicate m (y,.slice p2 y.subs.length c2)))∧Hid (Below (w2.heap.size+1) w3 wr)∧w2.heap.size+1 ≤ wr.heap.size) (fun iv _ _=>nn - (intOf iv).toNat)
         case atStart=>exact ⟨0,rfl,Nat.zero_le _,Lib.hid (RowLo.nil _ _ _),Lib.hid (Below.refl _ _),Nat.le_of_eq HZ3.out.symm⟩
         case round =>
           obtain ⟨m,rfl,hm,HR,HB,hsz⟩:=hrel
           have wm:IntKind.i64.wrap ((m:Int)+1)=(m:Int)+1:=IntWalk.i64_in _ (by omega)
           have X0:=Lib.hid ((HB.out.block _ (by have:=HS3.out;omega)).trans Y0.out);have X3:=Lib.hid ((HB.out.block _ (by omega)).trans Y3.out)
           obtain ⟨q0,q1,q2,q3,q4,q5,q6,q7,q8,q9⟩:=allTen X0.out
           obtain ⟨ps,hps⟩:∃ ps,List.replicate m (y,Value.slice p2 y.subs.length c2)=ps:=⟨_,rfl⟩
           have hpl:ps.length=m:=by rw [← hps,List.length_replicate]
           rw [hps] at HR
           by_cases hlt:m < nn
           · have hdl:decide ((m:Int) < lo)=true:=decide_eq_true (by have:=HLO.out;omega)
             have HPS:=Lib.hid hps
             clear hps
             go_upto_region 20 with (fail)
             clear q0 q1 q2 q3 q4 q5 q6 q7 q8 q9
             have HTX:=Lib.hid (HTY.out wr HB.out)
             have hlt3:=HR.out.lt
             have HOWN2:=Lib.hid ((HR.out.below (Below.refl wr.heap.size wr)).1.alloc (.cells (y.cells (.slice p2 y.subs.length c2)) 37))
             have HNW:=Lib.hid (news_one wr y p2 y.subs.length c2 37)
             have HBA:Hid (w2.heap.size+1 ≤ (wr.alloc (.cells (y.cells (.slice p2 y.subs.length c2)) 37)).heap.size):=Lib.hid (by have:=((Below.refl wr.heap.size wr)).size;simp;omega)
             have hml:ps.length+1 ≤ maxLen:=by unfold maxLen;omega
             have hbyt:(ps.length+1) * 96 ≤ 140737488355328:=by omega
             have HLT3:=Lib.hid hlt3
             clear hlt3
             go_wp2_with (first
               | (refine wpList_load_row rfl 37 (.tmp 5) rfl w2.heap.size rfl 37 _ (0,0) _ X3.out Tryd.underlying37 rfl (by kernel_rfl) ?_)
               | (refine wpList_node1 rfl (.tmp 83) y p2 y.subs.length c2 rfl rfl ?_)
               | (refine wpList_append_fresh _ rfl (.tmp 82) (.tmp 84) 35 rfl (w2.heap.size+1) 37 ie _ 10 96 Tryd.underlying35 HI.out HZ0.out HZ1.out HZ2.out rfl (by decide) _ _ _ rfl HOWN2.out ⟨wr.heap.size,0,none⟩ 1 1 (y.cells (.slice p2 y.subs.length c2)).toList rfl rfl HNW.out (nodeC_one _ _ _ _) (by decide) hml hbyt HBA.out ?_;intro v' w4 hown4 hgrow4 hwhere)
               | fail)
             have HG4:=Lib.hid hgrow4;have HW4:=Lib.hid hwhere
             have hb3:Below wr.heap.size wr (wr.alloc (.cells (y.cells (.slice p2 y.subs.length c2)) 37)):=((Below.refl wr.heap.size wr)).alloc ((Below.refl wr.heap.size wr)).size _
             have HR4:=Lib.hid (HR.out.app (Below.refl wr.heap.size wr) (HTX.out.mono fun b _ hb=>⟨hb.1,fun e=>by have:=(HLT3.out b e).1;omega⟩) hown4 HG4.out HW4.out)
             have HB4:=Lib.hid (HB.out.trans ((hb3.mono hsz).grown HG4.out (by have:=hb3.size;omega) (fun k e=>(HLT3.out k e).1)))
             have hs4:w2.heap.size+1 ≤ w4.heap.size:=by have:=HG4.out.size;have:=hb3.size;omega
             refine ⟨⟨m+1,by go_num,by omega,Lib.hid (by rw [List.replicate_succ',HPS.out];exact HR4.out),HB4,hs4⟩,by simp [intOf];omega⟩
           · obtain rfl:m=nn:=by omega
             have hdl:decide ((m:Int) < lo)=false:=decide_eq_false (by have:=HLO.out;omega)
             have HPS:=Lib.hid (show ps.map (·.1)=List.replicate m y by rw [← hps,List.map_replicate])
             clear hps
             by_cases hend:hi = -1
             · subst hend
               go_upto_region 22 with (fail)
               clear q0 q1 q2 q3 q4 q5 q6 q7 q8 q9
               have HTX:=Lib.hid (HTY.out wr HB.out)
               go_wp2_with (first
                 | (refine wpList_load_row rfl 37 (.tmp 5) rfl w2.heap.size rfl 37 _ (0,0) _ X3.out Tryd.underlying37 rfl (by kernel_rfl) ?_)
                 | fail)
               refine (refopt_any y (-1) true (fun b=>w.heap.size+2 ≤ b∧(b < w2.heap.size+1 ∨ wr.heap.size ≤ b)) wr (.slice p2 y.subs.length c2) (HTX.out.mono fun b _ hb=>⟨hb.1,.inl hb.2⟩) (fun b hb=>⟨by have:=HS3.out;omega,.inr hb⟩)).mono ?_
               rintro e w9 ⟨s9,rfl,ht9,hb9⟩
               generalize hz:Tr.optT y (-1) true=z at *
               have ht9':=ht9
               have HY:=Lib.hid (show Tr.roundsT y lo (-1) br=List.replicate m y ++ [z] by unfold Tr.roundsT;rw [if_pos rfl,show lo.toNat=m by have:=HLO.out;omega,hz])
               clear ht9 hz
               obtain ⟨p5,c5,rfl,hl5⟩:=ht9'.slice
               have hlt3:=HR.out.lt
               have HOWN2:=Lib.hid ((HR.out.below hb9).1.alloc (.cells (z.cells (.slice p5 z.subs.length c5)) 37))
               have HNW:=Lib.hid (news_one w9 z p5 z.subs.length c5 37)
               have HBA:Hid (w2.heap.size+1 ≤ (w9.alloc (.cells (z.cells (.slice p5 z.subs.length c5)) 37)).heap.size):=Lib.hid (by have:=(hb9).size;simp;omega)
               have hml:ps.length+1 ≤ maxLen:=by unfold maxLen;omega
               have hbyt:(ps.length+1) * 96 ≤ 140737488355328:=by omega
               have HLT3:=Lib.hid hlt3
               clear hlt3
               have HX2:=Lib.hid (show TreesAt w9 (fun b=>w.heap.size+2 ≤ b∧u6.ownBlock ≠ some b) (.slice p5 z.subs.length c5) z.subs from ht9'.mono fun b _ hb=>⟨hb.1,fun e=>by have:=HLT3.out b e;omega⟩)
               have HB2:=Lib.hid hb9
               clear ht9' hb9
               unfold Tr.cells
               go_upto_region 23 with (first
                 | (refine wpList_node1 rfl (.tmp 91) z p5 z.subs.length c5 rfl rfl ?_)
                 | (refine wpList_append_fresh _ rfl (.tmp 89) (.tmp 92) 35 rfl (w2.heap.size+1) 37 ie _ 10 96 Tryd.underlying35 HI.out HZ0.out HZ1.out HZ2.out rfl (by decide) _ _ _ rfl HOWN2.out ⟨w9.heap.size,0,none⟩ 1 1 (z.cells (.slice p5 z.subs.length c5)).toList rfl rfl HNW.out (nodeC_one _ _ _ _) (by decide) hml hbyt HBA.out ?_;intro v' w4 hown4 hgrow4 hwhere)
                 | fail)
               have HG4:=Lib.hid hgrow4;have HW4:=Lib.hid hwhere
               have hb3:Below wr.heap.size wr (w9.alloc (.cells (z.cells (.slice p5 z.subs.length c5)) 37)):=(HB2.out).alloc (HB2.out).size _
               have HR4:=Lib.hid (HR.out.app HB2.out HX2.out hown4 HG4.out HW4.out)
               have HB4:=Lib.hid (HB.out.trans ((hb3.mono hsz).grown HG4.out (by have:=hb3.size;omega) (fun k e=>(HLT3.out k e).1)))
               have hs4:w2.heap.size+1 ≤ w4.heap.size:=by have:=HG4.out.size;have:=hb3.size;omega
               have HEQ:=Lib.hid (show (ps ++ [(z,Value.slice p5 z.subs.length c5)]).map (·.1)=Tr.roundsT y lo (-1) br by rw [List.map_append,HPS.out,HY.out] <;> rfl)
               have hpl2:(ps ++ [(z,Value.slice p5 z.subs.length c5)]).length ≤ 300:=by rw [List.length_append,hpl,List.length_singleton];omega
               generalize ps ++ [(z,Value.slice p5 z.subs.length c5)]=ps at *
               have X0:=Lib.hid ((HB4.out.block _ (by have:=HS3.out;omega)).trans Y0.out)
               obtain ⟨q0,q1,q2,q3,q4,q5,q6,q7,q8,q9⟩:=allTen X0.out
               have hlm:decide (lo < -1)=false:=decide_eq_false (by have:=HLO.out;omega)
               go_wp2
               go_loopw [8,6] (fun iv sv wr=>OfEnd lo v' w4 iv sv wr) (fun _ _ _=>0)
               case atStart=>exact ⟨rfl,rfl,rfl⟩
               case round =>
                 obtain ⟨rfl,rfl,rfl⟩:=hrel
                 go_upto_region 28 with (fail)
                 clear q0 q1 q2 q3 q4 q5 q6 q7 q8 q9
                 clear HR HB hsz HG4 HW4 hb3 hpl
                 have HR:=HR4;have HB:=HB4;have hsz:=hs4;have hpl:=hpl2
                 have htr:=HR.out.trees (by have:=HS3.out;omega) (by omega)
                 rw [HEQ.out] at htr
                 have HTR:=Lib.hid htr
                 clear htr
                 have X1:=Lib.hid ((HB.out.block _ (by have:=HS3.out;omega)).trans Y1.out)
                 obtain ⟨q4,l4,c4,rfl⟩:=HR.out.slice
                 go_wp2_with (first
                   | (refine wpList_store_row rfl 37 (.tmp 2) (.tmp 117) rfl (w.heap.size+1) #[.int .i64 5,.int .u64 0,.int .u64 0,.int .u64 0,.int .u64 0,.slice q4 l4 c4,.int .i64 0,.int .i64 0,.int .i64 0,.bool false] rfl rfl 37 _ X1.out (by kernel_rfl) rfl (by simp [Value.oneCell']) ?_)
                   | fail)
                 refine bodyPost_ret (results_cell_row rfl _ _ (w.heap.size+1) 37 #[.int .i64 5,.int .u64 0,.int .u64 0,.int .u64 0,.int .u64 0,.slice q4 l4 c4,.int .i64 0,.int .i64 0,.int .i64 0,.bool false] (0,0) _ rfl (heap_setRow X1.out) Tryd.underlying37 rfl (by kernel_rfl)) rfl ⟨_, ?_,⟨.slice q4 l4 c4,rfl, ?_⟩, ?_⟩
                 · rw [Tr.many,Tr.cells]
                   simp only [Tr.kind,Tr.w0,Tr.w1,Tr.w2,Tr.w3,Tr.num,Tr.least,Tr.most,Tr.bare,u0]
                 · exact (HTR.out.keep fun b _ hb=>by rw [heap_setRow_other _ _ _ (by omega)]).mono fun b _ hb=>by omega
                 · exact below_setRow (HB3.out.trans (HB.out.mono (by have:=HS3.out;omega))) (Nat.le_succ _) _
             · obtain ⟨kk,hkk0⟩:∃ kk:Nat,hi=lo+kk:=⟨(hi - lo).toNat,by have:=H2.out;omega⟩
               have hkk:m+kk ≤ 255:=by have:=H2.out;have:=HLO.out;omega
               have ene:(hi == -1)=false:=by rw [beq_eq_false_iff_ne];omega
               have HKK:=Lib.hid hkk0
               clear hkk0
               go_wp2
               clear q0 q1 q2 q3 q4 q5 q6 q7 q8 q9
               go_loopw [8,6] (fun iv sv wr=>OfRel lo m kk y br (w.heap.size+2) (w2.heap.size+1) w3 iv sv wr) (fun iv _ _=>kk - (intOf iv - lo).toNat)
               case atStart=>exact OfRel.mk (J:=lo) (j:=0) (ps:=ps) rfl (by omega) (Nat.zero_le _) (by omega) (by rw [HPS.out];simp [Tr.mayT]) HR.out HB.out hsz
               case round =>
                 clear HR HB hsz X0 X3
                 clear hpl HPS ps
                 obtain ⟨J,j,ps,rfl,hJ9,hj,hpl,hMP9,hR9,hB9,hsz⟩:=hrel
                 have HJ:=Lib.hid hJ9;have HMP:=Lib.hid hMP9;have HR:=Lib.hid hR9;have HB:=Lib.hid hB9
                 clear hJ9 hMP9 hR9 hB9
                 have wj:IntKind.i64.wrap (J+1)=J+1:=IntWalk.i64_in _ (by have:=HJ.out;have:=HLO.out;omega)
                 have X0:=Lib.hid ((HB.out.block _ (by have:=HS3.out;omega)).trans Y0.out);have X3:=Lib.hid ((HB.out.block _ (by omega)).trans Y3.out)
                 obtain ⟨q0,q1,q2,q3,q4,q5,q6,q7,q8,q9⟩:=allTen X0.out
                 by_cases hlt2:j < kk
                 · have hdj:decide (J < hi)=true:=decide_eq_true (by have:=HJ.out;have:=HKK.out;omega)
                   obtain ⟨bb,hbb⟩:∃ bb,(br || decide (0 < lo) || decide (0 < j))=bb:=⟨_,rfl⟩
                   have h4:(J=0∧br=false∧bb=false) ∨ (J=0∧br=true∧bb=true) ∨ ((J == 0)=false∧bb=true):=by
                     have hJ:=HJ.out;have h0:=HLO.out
                     rw [← hbb,beq_eq_false_iff_ne]
                     by_cases e:J=0
                     · have e1:decide (0 < lo)=false:=decide_eq_false (by omega)
                       have e2:decide (0 < j)=false:=decide_eq_false (by omega)
                       rw [e1,e2];cases br <;> simp [e]
                     · refine .inr (.inr ⟨e, ?_⟩)
                       by_cases e1:0 < lo
                       · simp [e1]
                       · have e2:0 < j:=by omega
                         simp [e2]
                   have HMB:=Lib.hid hbb
                   clear hbb
                   have HTX:=Lib.hid (HTY.out wr HB.out)
                   rcases h4 with ⟨rfl,rfl,rfl⟩ | ⟨rfl,rfl,rfl⟩ | ⟨eJ,rfl⟩
                   all_goals
                     go_upto_region 27 with (fail)
                     clear q0 q1 q2 q3 q4 q5 q6 q7 q8 q9
                     go_wp2_with (first
                       | (refine wpList_load_row rfl 37 (.tmp 5) rfl w2.heap.size rfl 37 _ (0,0) _ X3.out Tryd.underlying37 rfl (by kernel_rfl) ?_)
                       | fail)
                     refine (refopt_any y 1 _ (fun b=>w.heap.size+2 ≤ b∧(b < w2.heap.size+1 ∨ wr.heap.size ≤ b)) wr (.slice p2 y.subs.length c2) (HTX.out.mono fun b _ hb=>⟨hb.1,.inl hb.2⟩) (fun b hb=>⟨by have:=HS3.out;omega,.inr hb⟩)).mono ?_
                     rintro e w9 ⟨s9,rfl,ht9,hb9⟩
                     generalize hz:Tr.optT y 1 _=z at *
                     have ht9':=ht9
                     have HY:=Lib.hid hz
                     clear ht9 hz
                     obtain ⟨p5,c5,rfl,hl5⟩:=ht9'.slice
                     have hlt3:=HR.out.lt
                     have HOWN2:=Lib.hid ((HR.out.below hb9).1.alloc (.cells (z.cells (.slice p5 z.subs.length c5)) 37))
                     have HNW:=Lib.hid (news_one w9 z p5 z.subs.length c5 37)
                     have HBA:Hid (w2.heap.size+1 ≤ (w9.alloc (.cells (z.cells (.slice p5 z.subs.length c5)) 37)).heap.size):=Lib.hid (by have:=(hb9).size;simp;omega)
                     have hml:ps.length+1 ≤ maxLen:=by unfold maxLen;omega
                     have hbyt:(ps.length+1) * 96 ≤ 140737488355328:=by omega
                     have HLT3:=Lib.hid hlt3
                     clear hlt3
                     have HX2:=Lib.hid (show TreesAt w9 (fun b=>w.heap.size+2 ≤ b∧u6.ownBlock ≠ some b) (.slice p5 z.subs.length c5) z.subs from ht9'.mono fun b _ hb=>⟨hb.1,fun e=>by have:=HLT3.out b e;omega⟩)
                     have HB2:=Lib.hid hb9
                     clear ht9' hb9
                     unfold Tr.cells
                     go_wp2_with (first
                       | (refine wpList_node1 rfl (.tmp 113) z p5 z.subs.length c5 rfl rfl ?_)
                       | (refine wpList_append_fresh _ rfl (.tmp 109) (.tmp 114) 35 rfl (w2.heap.size+1) 37 ie _ 10 96 Tryd.underlying35 HI.out HZ0.out HZ1.out HZ2.out rfl (by decide) _ _ _ rfl HOWN2.out ⟨w9.heap.size,0,none⟩ 1 1 (z.cells (.slice p5 z.subs.length c5)).toList rfl rfl HNW.out (nodeC_one _ _ _ _) (by decide) hml hbyt HBA.out ?_;intro v' w4 hown4 hgrow4 hwhere)
                       | fail)
                     have HG4:=Lib.hid hgrow4;have HW4:=Lib.hid hwhere
                     have hb3:Below wr.heap.size wr (w9.alloc (.cells (z.cells (.slice p5 z.subs.length c5)) 37)):=(HB2.out).alloc (HB2.out).size _
                     have HR4:=Lib.hid (HR.out.app HB2.out HX2.out hown4 HG4.out HW4.out)
                     have HB4:=Lib.hid (HB.out.trans ((hb3.mono hsz).grown HG4.out (by have:=hb3.size;omega) (fun k e=>(HLT3.out k e).1)))
                     have hs4:w2.heap.size+1 ≤ w4.heap.size:=by have:=HG4.out.size;have:=hb3.size;omega
                     refine ⟨OfRel.mk (j:=j+1) (ps:=ps ++ [(z,.slice p5 z.subs.length c5)]) rfl (by have:=HJ.out;omega) (by omega) (by rw [List.length_append,hpl];rfl) ?_ HR4.out HB4.out hs4,by have:=HJ.out;simp [intOf];omega⟩
                     rw [List.map_append,HMP.out,mayT_succ,HMB.out,HY.out,List.append_assoc];rfl
                 · obtain rfl:j=kk:=by omega
                   have hdj:decide (J < hi)=false:=decide_eq_false (by have:=HJ.out;have:=HKK.out;omega)
                   have HEQ:=Lib.hid (show ps.map (·.1)=Tr.roundsT y lo hi br by
                     unfold Tr.roundsT
                     rw [if_neg hend,show (hi - lo).toNat=j by have:=HKK.out;omega,show lo.toNat=m by have:=HLO.out;omega]
                     exact HMP.out)
                   go_upto_region 28 with (fail)
                   clear q0 q1 q2 q3 q4 q5 q6 q7 q8 q9
                   have htr:=HR.out.trees (by have:=HS3.out;omega) (by omega)
                   rw [HEQ.out] at htr
                   have HTR:=Lib.hid htr
                   clear htr
                   have X1:=Lib.hid ((HB.out.block _ (by have:=HS3.out;omega)).trans Y1.out)
                   obtain ⟨q4,l4,c4,rfl⟩:=HR.out.slice
                   go_wp2_with (first
                     | (refine wpList_store_row rfl 37 (.tmp 2) (.tmp 117) rfl (w.heap.size+1) #[.int .i64 5,.int .u64 0,.int .u64 0,.int .u64 0,.int .u64 0,.slice q4 l4 c4,.int .i64 0,.int .i64 0,.int .i64 0,.bool false] rfl rfl 37 _ X1.out (by kernel_rfl) rfl (by simp [Value.oneCell']) ?_)
                     | fail)
                   refine bodyPost_ret (results_cell_row rfl _ _ (w.heap.size+1) 37 #[.int .i64 5,.int .u64 0,.int .u64 0,.int .u64 0,.int .u64 0,.slice q4 l4 c4,.int .i64 0,.int .i64 0,.int .i64 0,.bool false] (0,0) _ rfl (heap_setRow X1.out) Tryd.underlying37 rfl (by kernel_rfl)) rfl ⟨_, ?_,⟨.slice q4 l4 c4,rfl, ?_⟩, ?_⟩
                   · rw [Tr.many,Tr.cells]
                     simp only [Tr.kind,Tr.w0,Tr.w1,Tr.w2,Tr.w3,Tr.num,Tr.least,Tr.most,Tr.bare,u0]
                   · exact (HTR.out.keep fun b _ hb=>by rw [heap_setRow_other _ _ _ (by omega)]).mono fun b _ hb=>by omega
                   · exact below_setRow (HB3.out.trans (HB.out.mono (by have:=HS3.out;omega))) (Nat.le_succ _) _
end Go.Proofs.YtogdjbnejpennaaDoor
namespace Go.Proofs.YtogdjbnejpennaaDoor
open Go.RowKit
theorem exsame_any:∀ t u:Tr,∀ (w:World) (B C:Nat→Prop) (va vb:Value),NodeV w B va t→NodeV w C vb u →
   Calls Tryd.prog 91 #[va,vb] w (SameEnd t u w):=by
 intro t
 induction t using Tr.rec_subs with
 | h t ih =>
   intro u w B C va vb ha hb
   obtain ⟨sa,rfl,hsa⟩:=ha
   obtain ⟨sb,rfl,hsb⟩:=hb
   obtain ⟨p,cap,rfl,hla⟩:=hsa.slice
   obtain ⟨q,cbp,rfl,hlb⟩:=hsb.slice
   have he:=eq4
   cases t with | node k a b c d ts n lo hi br =>
   cases u with | node k' a' b' c' d' us n' lo' hi' br' =>
   simp only [Tr.cells,Tr.kind,Tr.w0,Tr.w1,Tr.w2,Tr.w3,Tr.num,Tr.least,Tr.most,Tr.bare,Tr.subs] at *
   have IH:=Lib.hid ih
   clear ih
   by_cases hx:k=k'
   case neg =>
     have HN:=Lib.hid (show Tr.node k a b c d ts n lo hi br ≠ .node k' a' b' c' d' us n' lo' hi' br' from fun h=>by cases h;exact hx rfl)
     have e1:(k != k')=true:=by simpa using hx
     clear hx
     go_enter Tryd.func91,Tryd.ntmps91
     go_wp2
     go_ret
     exact sameEnd_no HN.out (by go_grown)
   obtain rfl:=hx
   by_cases hx:a=a'∧b=b'∧c=c'∧d=d'
   case neg =>
     have HN:=Lib.hid (show Tr.node k a b c d ts n lo hi br ≠ .node k a' b' c' d' us n' lo' hi' br' from fun h=>by cases h;exact hx ⟨rfl,rfl,rfl,rfl⟩)
     have e2:=U_ne hx
     clear hx
     go_enter Tryd.func91,Tryd.ntmps91
     go_wp2
     go_ret
     exact sameEnd_no HN.out (by go_grown)
   obtain ⟨rfl,rfl,rfl,rfl⟩:=hx
   by_cases hx:n=n'
   case neg =>
     have HN:=Lib.hid (show Tr.node k a b c d ts n lo hi br ≠ .node k a b c d us n' lo' hi' br' from fun h=>by cases h;exact hx rfl)
     have e1:(n != n')=true:=by simpa using hx
     clear hx
     go_enter Tryd.func91,Tryd.ntmps91
     go_wp2
     go_ret
     exact sameEnd_no HN.out (by go_grown)
   obtain rfl:=hx
   by_cases hx:lo=lo'
   case neg =>
     have HN:=Lib.hid (show Tr.node k a b c d ts n lo hi br ≠ .node k a b c d us n lo' hi' br' from fun h=>by cases h;exact hx rfl)
     have e1:(lo != lo')=true:=by simpa using hx
     clear hx
     go_enter Tryd.func91,Tryd.ntmps91
     go_wp2
     go_ret
     exact sameEnd_no HN.out (by go_grown)
   obtain rfl:=hx
   by_cases hx:hi=hi'
   case neg =>
     have HN:=Lib.hid (show Tr.node k a b c d ts n lo hi br ≠ .node k a b c d us n lo hi' br' from fun h=>by cases h;exact hx rfl)
     have e1:(hi != hi')=true:=by simpa using hx
     clear hx
     go_enter Tryd.func91,Tryd.ntmps91
     go_wp2
     go_ret
     exact sameEnd_no HN.out (by go_grown)
   obtain rfl:=hx
   by_cases hx:br=br'
   case neg =>
     have HN:=Lib.hid (show Tr.node k a b c d ts n lo hi br ≠ .node k a b c d us n lo hi br' from fun h=>by cases h;exact hx rfl)
     have hbb:(br=true∧br'=false) ∨ (br=false∧br'=true):=by cases br <;> cases br' <;> simp at hx ⊢
     clear hx
     rcases hbb with ⟨rfl,rfl⟩ | ⟨rfl,rfl⟩
     all_goals
       go_enter Tryd.func91,Tryd.ntmps91
       go_wp2
       go_ret
       exact sameEnd_no HN.out (by go_grown)
   obtain rfl:=hx
   by_cases hx:ts.length=us.length
   case neg =>
     have HN:=Lib.hid (show Tr.node k a b c d ts n lo hi br ≠ .node k a b c d us n lo hi br from fun h=>by cases h;exact hx rfl)
     have e1:((ts.length:Int) != (us.length:Int))=true:=by simp;omega
     have e2:(ts.length != us.length)=true:=by simpa using hx
     have e3:(ts.length == us.length)=false:=by simpa using hx
     clear hx
     go_enter Tryd.func91,Tryd.ntmps91
     go_wp2
     go_ret
     exact sameEnd_no HN.out (by go_grown)
   have hlen:us.length=ts.length:=hx.symm
   clear hx
   have HSA:=Lib.hid hsa;have HSB:=Lib.hid hsb
   clear hsa hsb
   rw [hlen] at HSB hlb ⊢
   go_enter Tryd.func91,Tryd.ntmps91
   go_wp2
   go_loopw [5] (fun iv wr=>∃ m:Nat,iv=.int .i64 m∧m ≤ ts.length∧Hid (∀ j,j < m→ts[j]? = us[j]?)∧Below w.heap.size w wr∧w.heap.size+1 < wr.heap.size ∧
     wr.heap[w.heap.size]? = some (.cells #[.int .i64 k,.int .u64 (Oc.U a),.int .u64 (Oc.U b),.int .u64 (Oc.U c),.int .u64 (Oc.U d),.slice p ts.length cap,.int .i64 n,.int .i64 lo,.int .i64 hi,.bool br] 37)∧wr.heap[w.heap.size+1]? = some (.cells #[.int .i64 k,.int .u64 (Oc.U a),.int .u64 (Oc.U b),.int .u64 (Oc.U c),.int .u64 (Oc.U d),.slice q ts.length cbp,.int .i64 n,.int .i64 lo,.int .i64 hi,.bool br] 37)) (fun iv _=>ts.length - (intOf iv).toNat)
   case atStart=>exact ⟨0,rfl,Nat.zero_le _,Lib.hid (fun j hj=>absurd hj (Nat.not_lt_zero _)),by go_grown,by simp,(two_new _ _ _).1,(two_new _ _ _).2⟩
   case round =>
     obtain ⟨m,rfl,hm,hall,hbel,hsz,z2,z3⟩:=hrel
     have Z2:=Lib.hid z2;have Z3:=Lib.hid z3;have HB:=Lib.hid hbel
     clear z2 z3 hbel
     have c5z:=field5 Z2.out
     have wm:IntKind.i64.wrap ((m:Int)+1)=(m:Int)+1:=IntWalk.i64_in _ (by omega)
     by_cases hlt:m < ts.length
     · obtain ⟨x,hx⟩:∃ x,ts[m]? = some x:=⟨_,List.getElem?_eq_getElem hlt⟩
       obtain ⟨y,hy⟩:∃ y,us[m]? = some y:=⟨_,List.getElem?_eq_getElem (by omega)⟩
       obtain ⟨b1,o1,s1,rfl,-,t1,sub1⟩:=HSA.out.get hx
       obtain ⟨b2,o2,s2,rfl,-,t2,sub2⟩:=HSB.out.get hy
       have T1:=Lib.hid t1;have T2:=Lib.hid t2
       have l1:=t1.lt;have l2:=t2.lt
       have HS:=Lib.hid (fun w9 (hb:Below wr.heap.size wr w9)=>IH.out x (List.mem_of_getElem? hx) y w9 B C (.agg #[.int .i64 x.kind,.int .u64 (Oc.U x.w0),.int .u64 (Oc.U x.w1),.int .u64 (Oc.U x.w2),.int .u64 (Oc.U x.w3),s1,.int .i64 x.num,.int .i64 x.least,.int .i64 x.most,.bool x.bare]) (.agg #[.int .i64 y.kind,.int .u64 (Oc.U y.w0),.int .u64 (Oc.U y.w1),.int .u64 (Oc.U y.w2),.int .u64 (Oc.U y.w3),s2,.int .i64 y.num,.int .i64 y.least,.int .i64 y.most,.bool y.bare]) ⟨s1,rfl,sub1.later (HB.out.trans (hb.mono HB.out.size))⟩ ⟨s2,rfl,sub2.later (HB.out.trans (hb.mono HB.out.size))⟩)
       clear t1 t2 sub1 sub2
       have HX:=Lib.hid hx;have HY:=Lib.hid hy
       clear hx hy
       by_cases heq:x=y
       · have HQ:=Lib.hid heq
         clear heq
         go_wp2
         refine Ri.wp_region_frame (by kernel_rfl) (by kernel_rfl) (by kernel_rfl) (by kernel_rfl)
           (fun L v w'=>Below wr.heap.size wr w'∧(L 0=true→v 0=.pointer (some ⟨w.heap.size,5,none⟩))∧(L 1=true→v 1=.slice (some ⟨b1,o1,none⟩) ts.length cap)∧(L 2=true→v 2=.int .i64 m)∧(L 3=true→v 3=.pointer (some ⟨b1,o1+m * 10,none⟩))∧(L 4=true→v 4=.agg #[.int .i64 x.kind,.int .u64 (Oc.U x.w0),.int .u64 (Oc.U x.w1),.int .u64 (Oc.U x.w2),.int .u64 (Oc.U x.w3),s1,.int .i64 x.num,.int .i64 x.least,.int .i64 x.most,.bool x.bare])∧(L 5=true→v 5=.pointer (some ⟨w.heap.size+1,5,none⟩))∧(L 6=true→v 6=.slice (some ⟨b2,o2,none⟩) ts.length cbp)∧(L 7=true→v 7=.int .i64 m)∧(L 8=true→v 8=.pointer (some ⟨b2,o2+m * 10,none⟩))∧(L 9=true→v 9=.agg #[.int .i64 y.kind,.int .u64 (Oc.U y.w0),.int .u64 (Oc.U y.w1),.int .u64 (Oc.U y.w2),.int .u64 (Oc.U y.w3),s2,.int .i64 y.num,.int .i64 y.least,.int .i64 y.most,.bool y.bare])∧(L 10=true→v 10=.bool true)∧(L 11=true→v 11=.bool true))
           ?_ ?_ ?_
         · exact ⟨(Below.refl _ _).drew,by simp,by simp,by simp,by simp,by simp,by simp,by simp,by simp,by simp,by simp,by simp,by simp⟩
         · intro i hi9 L v w9 xa hI hL hd hv ho
           have hi':i=0 ∨ i=1 ∨ i=2 ∨ i=3 ∨ i=4 ∨ i=5 ∨ i=6 ∨ i=7 ∨ i=8 ∨ i=9 ∨ i=10 ∨ i=11:=by simp at hi9;omega
           obtain ⟨hb,q0,q1,q2,q3,q4,q5,q6,q7,q8,q9,q10,q11⟩:=hI
           rcases hi' with rfl | rfl | rfl | rfl | rfl | rfl | rfl | rfl | rfl | rfl | rfl | rfl
           · have e2:xa.tmps.getD 2 undef=.pointer (some ⟨w.heap.size,0,none⟩):=ho 2 (by kernel_rfl)
             refine Ri.step_plain rfl rfl (fun K' hK=>?_)
             go_simp
             exact hK _ _ ⟨_,_,rfl,rfl,hb,fun _=>rfl,q1,q2,q3,q4,q5,q6,q7,q8,q9,q10,q11⟩
           · have l0:L 0=true:=by have:=hd _ rfl;simp [Region.binds] at this;simp [this]
             have f0:=(hv 0 63 rfl l0).trans (q0 l0)
             refine Ri.step_plain rfl rfl (fun K' hK=>?_)
             obtain c5:=field5 (keep_blk hb Z2.out)
             go_simp
             exact hK _ _ ⟨_,_,rfl,rfl,hb,q0,fun _=>rfl,q2,q3,q4,q5,q6,q7,q8,q9,q10,q11⟩
           · have e5:xa.tmps.getD 5 undef=.int .i64 m:=ho 5 (by kernel_rfl)
             refine Ri.step_plain rfl rfl (fun K' hK=>?_)
             go_simp
             exact hK _ _ ⟨_,_,rfl,rfl,hb,q0,q1,fun _=>rfl,q3,q4,q5,q6,q7,q8,q9,q10,q11⟩
           · have l0:L 1=true∧L 2=true:=by have:=hd _ rfl;simp [Region.binds] at this;simp [this]
             have f1:=(hv 1 64 rfl l0.1).trans (q1 l0.1)
             have f2:=(hv 2 65 rfl l0.2).trans (q2 l0.2)
             refine Ri.step_plain rfl rfl (fun K' hK=>?_)
             go_simp
             exact hK _ _ ⟨_,_,rfl,rfl,hb,q0,q1,q2,fun _=>rfl,q4,q5,q6,q7,q8,q9,q10,q11⟩
           · have l0:L 3=true:=by have:=hd _ rfl;simp [Region.binds] at this;simp [this]
             have f3:=(hv 3 66 rfl l0).trans (q3 l0)
             refine Ri.step_plain rfl rfl (fun K' hK=>?_)
             obtain ⟨d0,d1,d2,d3,d4,d5,d6,d7,d8,d9⟩:=(T1.out.keep ((HB.out.trans (hb.mono HB.out.size)).block _ l1))
             go_simp
             exact hK _ _ ⟨_,_,rfl,rfl,hb,q0,q1,q2,q3,fun _=>rfl,q5,q6,q7,q8,q9,q10,q11⟩
           · have e3:xa.tmps.getD 3 undef=.pointer (some ⟨w.heap.size+1,0,none⟩):=ho 3 (by kernel_rfl)
             refine Ri.step_plain rfl rfl (fun K' hK=>?_)
             go_simp
             exact hK _ _ ⟨_,_,rfl,rfl,hb,q0,q1,q2,q3,q4,fun _=>rfl,q6,q7,q8,q9,q10,q11⟩
           · have l0:L 5=true:=by have:=hd _ rfl;simp [Region.binds] at this;simp [this]
             have f5:=(hv 5 68 rfl l0).trans (q5 l0)
             refine Ri.step_plain rfl rfl (fun K' hK=>?_)
             obtain c5:=field5 (keep_blk hb Z3.out)
             go_simp
             exact hK _ _ ⟨_,_,rfl,rfl,hb,q0,q1,q2,q3,q4,q5,fun _=>rfl,q7,q8,q9,q10,q11⟩
           · have e5:xa.tmps.getD 5 undef=.int .i64 m:=ho 5 (by kernel_rfl)
             refine Ri.step_plain rfl rfl (fun K' hK=>?_)
             go_simp
             exact hK _ _ ⟨_,_,rfl,rfl,hb,q0,q1,q2,q3,q4,q5,q6,fun _=>rfl,q8,q9,q10,q11⟩
           · have l0:L 6=true∧L 7=true:=by have:=hd _ rfl;simp [Region.binds] at this;simp [this]
             have f6:=(hv 6 69 rfl l0.1).trans (q6 l0.1)
             have f7:=(hv 7 70 rfl l0.2).trans (q7 l0.2)
             refine Ri.step_plain rfl rfl (fun K' hK=>?_)
             go_simp
             exact hK _ _ ⟨_,_,rfl,rfl,hb,q0,q1,q2,q3,q4,q5,q6,q7,fun _=>rfl,q9,q10,q11⟩
           · have l0:L 8=true:=by have:=hd _ rfl;simp [Region.binds] at this;simp [this]
             have f8:=(hv 8 71 rfl l0).trans (q8 l0)
             refine Ri.step_plain rfl rfl (fun K' hK=>?_)
             obtain ⟨d0,d1,d2,d3,d4,d5,d6,d7,d8,d9⟩:=(T2.out.keep ((HB.out.trans (hb.mono HB.out.size)).block _ l2))
             go_simp
             exact hK _ _ ⟨_,_,rfl,rfl,hb,q0,q1,q2,q3,q4,q5,q6,q7,q8,fun _=>rfl,q10,q11⟩
           · have l0:L 4=true∧L 9=true:=by have:=hd _ rfl;simp [Region.binds] at this;simp [this]
             have f4:=(hv 4 67 rfl l0.1).trans (q4 l0.1)
             have f9:=(hv 9 72 rfl l0.2).trans (q9 l0.2)
             refine Ri.step_plain rfl rfl (fun K' hK=>?_)
             go_simp
             refine ((HS.out _ hb).mono fun _ _ h=>h.yes HQ.out).mono ?_
             rintro e w8 ⟨rfl,hb8⟩
             exact hK _ _ ⟨_,_,rfl,rfl,hb.trans (hb8.mono hb.size),q0,q1,q2,q3,q4,q5,q6,q7,q8,q9,fun _=>rfl,q11⟩
           · have l0:L 10=true:=by have:=hd _ rfl;simp [Region.binds] at this;simp [this]
             have f10:=(hv 10 73 rfl l0).trans (q10 l0)
             refine Ri.step_plain rfl rfl (fun K' hK=>?_)
             go_simp
             exact hK _ _ ⟨_,_,rfl,rfl,hb,q0,q1,q2,q3,q4,q5,q6,q7,q8,q9,q10,fun _=>rfl⟩
         · rintro v w9 ⟨hb,-,-,-,-,-,-,-,-,-,-,-,q11⟩
           have q11':v 11=.bool true:=q11 rfl
           simp only [Ri.frame,List.zipIdx,List.foldl_cons,List.foldl_nil,if_true,List.setIfInBounds_toArray,List.set_cons_zero,List.set_cons_succ,Nat.reduceAdd,q11']
           clear q11 q11'
           generalize v 0=y0;generalize v 1=y1;generalize v 2=y2;generalize v 3=y3;generalize v 4=y4;generalize v 5=y5;generalize v 6=y6;generalize v 7=y7;generalize v 8=y8;generalize v 9=y9;generalize v 10=y10
           have Y2:=keep_blk hb Z2.out;have Y3:=keep_blk hb Z3.out;have HB9:=HB.out.trans (hb.mono HB.out.size);have hz9:=hb.size
           have W2:=Lib.hid Y2;have W3:=Lib.hid Y3;have HB10:=Lib.hid HB9
           clear hb Y2 Y3 HB9
           go_wp2
           exact ⟨⟨m+1,by go_num,by omega,Lib.hid (fun j hj=>by
             by_cases hjm:j=m
             · rw [hjm,HX.out,HY.out,HQ.out]
             · exact hall.out j (by omega)),HB10.out,by omega,W2.out,W3.out⟩,by simp [intOf];omega⟩
       · have HQ:=Lib.hid heq
         clear heq
         go_wp2
         refine Ri.wp_region_frame (by kernel_rfl) (by kernel_rfl) (by kernel_rfl) (by kernel_rfl)
           (fun L v w'=>Below wr.heap.size wr w'∧(L 0=true→v 0=.pointer (some ⟨w.heap.size,5,none⟩))∧(L 1=true→v 1=.slice (some ⟨b1,o1,none⟩) ts.length cap)∧(L 2=true→v 2=.int .i64 m)∧(L 3=true→v 3=.pointer (some ⟨b1,o1+m * 10,none⟩))∧(L 4=true→v 4=.agg #[.int .i64 x.kind,.int .u64 (Oc.U x.w0),.int .u64 (Oc.U x.w1),.int .u64 (Oc.U x.w2),.int .u64 (Oc.U x.w3),s1,.int .i64 x.num,.int .i64 x.least,.int .i64 x.most,.bool x.bare])∧(L 5=true→v 5=.pointer (some ⟨w.heap.size+1,5,none⟩))∧(L 6=true→v 6=.slice (some ⟨b2,o2,none⟩) ts.length cbp)∧(L 7=true→v 7=.int .i64 m)∧(L 8=true→v 8=.pointer (some ⟨b2,o2+m * 10,none⟩))∧(L 9=true→v 9=.agg #[.int .i64 y.kind,.int .u64 (Oc.U y.w0),.int .u64 (Oc.U y.w1),.int .u64 (Oc.U y.w2),.int .u64 (Oc.U y.w3),s2,.int .i64 y.num,.int .i64 y.least,.int .i64 y.most,.bool y.bare])∧(L 10=true→v 10=.bool false)∧(L 11=true→v 11=.bool false))
           ?_ ?_ ?_
         · exact ⟨(Below.refl _ _).drew,by simp,by simp,by simp,by simp,by simp,by simp,by simp,by simp,by simp,by simp,by simp,by simp⟩
         · intro i hi9 L v w9 xa hI hL hd hv ho
           have hi':i=0 ∨ i=1 ∨ i=2 ∨ i=3 ∨ i=4 ∨ i=5 ∨ i=6 ∨ i=7 ∨ i=8 ∨ i=9 ∨ i=10 ∨ i=11:=by simp at hi9;omega
           obtain ⟨hb,q0,q1,q2,q3,q4,q5,q6,q7,q8,q9,q10,q11⟩:=hI
           rcases hi' with rfl | rfl | rfl | rfl | rfl | rfl | rfl | rfl | rfl | rfl | rfl | rfl
           · have e2:xa.tmps.getD 2 undef=.pointer (some ⟨w.heap.size,0,none⟩):=ho 2 (by kernel_rfl)
             refine Ri.step_plain rfl rfl (fun K' hK=>?_)
             go_simp
             exact hK _ _ ⟨_,_,rfl,rfl,hb,fun _=>rfl,q1,q2,q3,q4,q5,q6,q7,q8,q9,q10,q11⟩
           · have l0:L 0=true:=by have:=hd _ rfl;simp [Region.binds] at this;simp [this]
             have f0:=(hv 0 63 rfl l0).trans (q0 l0)
             refine Ri.step_plain rfl rfl (fun K' hK=>?_)
             obtain c5:=field5 (keep_blk hb Z2.out)
             go_simp
             exact hK _ _ ⟨_,_,rfl,rfl,hb,q0,fun _=>rfl,q2,q3,q4,q5,q6,q7,q8,q9,q10,q11⟩
           · have e5:xa.tmps.getD 5 undef=.int .i64 m:=ho 5 (by kernel_rfl)
             refine Ri.step_plain rfl rfl (fun K' hK=>?_)
             go_simp
             exact hK _ _ ⟨_,_,rfl,rfl,hb,q0,q1,fun _=>rfl,q3,q4,q5,q6,q7,q8,q9,q10,q11⟩
           · have l0:L 1=true∧L 2=true:=by have:=hd _ rfl;simp [Region.binds] at this;simp [this]
             have f1:=(hv 1 64 rfl l0.1).trans (q1 l0.1)
             have f2:=(hv 2 65 rfl l0.2).trans (q2 l0.2)
             refine Ri.step_plain rfl rfl (fun K' hK=>?_)
             go_simp
             exact hK _ _ ⟨_,_,rfl,rfl,hb,q0,q1,q2,fun _=>rfl,q4,q5,q6,q7,q8,q9,q10,q11⟩
           · have l0:L 3=true:=by have:=hd _ rfl;simp [Region.binds] at this;simp [this]
             have f3:=(hv 3 66 rfl l0).trans (q3 l0)
             refine Ri.step_plain rfl rfl (fun K' hK=>?_)
             obtain ⟨d0,d1,d2,d3,d4,d5,d6,d7,d8,d9⟩:=(T1.out.keep ((HB.out.trans (hb.mono HB.out.size)).block _ l1))
             go_simp
             exact hK _ _ ⟨_,_,rfl,rfl,hb,q0,q1,q2,q3,fun _=>rfl,q5,q6,q7,q8,q9,q10,q11⟩
           · have e3:xa.tmps.getD 3 undef=.pointer (some ⟨w.heap.size+1,0,none⟩):=ho 3 (by kernel_rfl)
             refine Ri.step_plain rfl rfl (fun K' hK=>?_)
             go_simp
             exact hK _ _ ⟨_,_,rfl,rfl,hb,q0,q1,q2,q3,q4,fun _=>rfl,q6,q7,q8,q9,q10,q11⟩
           · have l0:L 5=true:=by have:=hd _ rfl;simp [Region.binds] at this;simp [this]
             have f5:=(hv 5 68 rfl l0).trans (q5 l0)
             refine Ri.step_plain rfl rfl (fun K' hK=>?_)
             obtain c5:=field5 (keep_blk hb Z3.out)
             go_simp
             exact hK _ _ ⟨_,_,rfl,rfl,hb,q0,q1,q2,q3,q4,q5,fun _=>rfl,q7,q8,q9,q10,q11⟩
           · have e5:xa.tmps.getD 5 undef=.int .i64 m:=ho 5 (by kernel_rfl)
             refine Ri.step_plain rfl rfl (fun K' hK=>?_)
             go_simp
             exact hK _ _ ⟨_,_,rfl,rfl,hb,q0,q1,q2,q3,q4,q5,q6,fun _=>rfl,q8,q9,q10,q11⟩
           · have l0:L 6=true∧L 7=true:=by have:=hd _ rfl;simp [Region.binds] at this;simp [this]
             have f6:=(hv 6 69 rfl l0.1).trans (q6 l0.1)
             have f7:=(hv 7 70 rfl l0.2).trans (q7 l0.2)
             refine Ri.step_plain rfl rfl (fun K' hK=>?_)
             go_simp
             exact hK _ _ ⟨_,_,rfl,rfl,hb,q0,q1,q2,q3,q4,q5,q6,q7,fun _=>rfl,q9,q10,q11⟩
           · have l0:L 8=true:=by have:=hd _ rfl;simp [Region.binds] at this;simp [this]
             have f8:=(hv 8 71 rfl l0).trans (q8 l0)
             refine Ri.step_plain rfl rfl (fun K' hK=>?_)
             obtain ⟨d0,d1,d2,d3,d4,d5,d6,d7,d8,d9⟩:=(T2.out.keep ((HB.out.trans (hb.mono HB.out.size)).block _ l2))
             go_simp
             exact hK _ _ ⟨_,_,rfl,rfl,hb,q0,q1,q2,q3,q4,q5,q6,q7,q8,fun _=>rfl,q10,q11⟩
           · have l0:L 4=true∧L 9=true:=by have:=hd _ rfl;simp [Region.binds] at this;simp [this]
             have f4:=(hv 4 67 rfl l0.1).trans (q4 l0.1)
             have f9:=(hv 9 72 rfl l0.2).trans (q9 l0.2)
             refine Ri.step_plain rfl rfl (fun K' hK=>?_)
             go_simp
             refine ((HS.out _ hb).mono fun _ _ h=>h.no HQ.out).mono ?_
             rintro e w8 ⟨rfl,hb8⟩
             exact hK _ _ ⟨_,_,rfl,rfl,hb.trans (hb8.mono hb.size),q0,q1,q2,q3,q4,q5,q6,q7,q8,q9,fun _=>rfl,q11⟩
           · have l0:L 10=true:=by have:=hd _ rfl;simp [Region.binds] at this;simp [this]
             have f10:=(hv 10 73 rfl l0).trans (q10 l0)
             refine Ri.step_plain rfl rfl (fun K' hK=>?_)
             go_simp
             exact hK _ _ ⟨_,_,rfl,rfl,hb,q0,q1,q2,q3,q4,q5,q6,q7,q8,q9,q10,fun _=>rfl⟩
         · rintro v w9 ⟨hb,-,-,-,-,-,-,-,-,-,-,-,q11⟩
           have q11':v 11=.bool false:=q11 rfl
           simp only [Ri.frame,List.zipIdx,List.foldl_cons,List.foldl_nil,if_true,List.setIfInBounds_toArray,List.set_cons_zero,List.set_cons_succ,Nat.reduceAdd,q11']
           clear q11 q11'
           generalize v 0=y0;generalize v 1=y1;generalize v 2=y2;generalize v 3=y3;generalize v 4=y4;generalize v 5=y5;generalize v 6=y6;generalize v 7=y7;generalize v 8=y8;generalize v 9=y9;generalize v 10=y10
           have HB10:=Lib.hid (HB.out.trans (hb.mono HB.out.size))
           clear hb
           go_wp2
           go_ret
           refine sameEnd_no (fun h=>?_) HB10.out
           have hts:ts=us:=by injection h
           have:=HX.out
           rw [hts,HY.out] at this
           exact HQ.out (Option.some.inj this).symm
     · obtain rfl:m=ts.length:=by omega
       have hts:ts=us:=List.ext_getElem? fun j=>by
         by_cases hj:j < ts.length
         · exact hall.out j hj
         · rw [List.getElem?_eq_none (by omega),List.getElem?_eq_none (by omega)]
       have HTS:=Lib.hid hts
       clear hts hlt
       go_wp2
       go_ret
       exact sameEnd_yes (by rw [HTS.out]) HB.out
end Go.Proofs.YtogdjbnejpennaaDoor
namespace Go.Proofs.YtogdjbnejpennaaDoor
open Go.RowKit
theorem refof_any:∀ t:Tr,t.InForm→∀ (w:World) (B:Nat→Prop) (v:Value),NodeV w B v t→Calls Tryd.prog 89 #[v] w (NewEnd t.exT w):=by
 intro t
 induction t using Tr.rec_subs with
 | h t ih =>
   intro hform w B v hv
   obtain ⟨s,rfl,hs⟩:=hv
   by_cases h8:t.kind=8
   · obtain ⟨x,hx,hxf,a0,a1,a2,a3,hn,h1,h2,h3,h4⟩:=hform.rep h8
     have hr:=refof_rep x (ih x (by rw [hx];exact List.mem_singleton.2 rfl) hxf) t.least t.most t.bare h1 h2 h3 w B s (by rw [← hx];exact hs)
     have hc:t.cells s=#[.int .i64 8,.int .u64 0,.int .u64 0,.int .u64 0,.int .u64 0,s,.int .i64 0,.int .i64 t.least,.int .i64 t.most,.bool t.bare]:=by
       unfold Tr.cells;rw [h8,a0,a1,a2,a3,hn,u0]
     have he:t.exT=if t.most=0 then Tr.leaf 1 else if t.least=1∧t.most=1 then x.exT else if t.least=0∧(t.most=1 ∨ t.most = -1) then Tr.optT x.exT t.most t.bare else Tr.many 5 (Tr.roundsT x.exT t.least t.most t.bare):=by
       rw [Tr.exT_rep t x h8 hx]
       by_cases n2:t.least=0∧(t.most=1 ∨ t.most = -1)
       · simp only [if_pos n2]
         rw [a0,a1,a2,a3,hn,n2.1];rfl
       · simp only [if_neg n2]
     rw [hc,he]
     exact hr
   · have hr:=refof_list t.kind t.w0 t.w1 t.w2 t.w3 t.subs t.num t.least t.most t.bare h8 w B s (fun u hu=>ih u hu (hform.sub hu)) hs
     rw [Tr.exT_other t h8]
     exact hr
theorem refexpand_yes (t:Tr) (hc:t.checkC=0) (w:World) (B:Nat→Prop) (v:Value) (hv:NodeV w B v t) :
   Calls Tryd.prog 45 #[v] w (fun e w'=>∃ s,e=.returned (.tuple #[.agg (t.exT.cells s),.int .i64 0])∧TreesAt w' (fun b=>w.heap.size ≤ b) s t.exT.subs∧Below w.heap.size w w'):=by
 have hd:t.dpT ≤ 1000000:=by have:=(Tr.checkC_zero.1 hc).2.1;omega
 obtain ⟨s,rfl,hs⟩:=hv
 obtain ⟨p,cap,rfl,hlen⟩:=hs.slice
 obtain ⟨z0,z1⟩:=two_new w (.cells (t.cells (.slice p t.subs.length cap)) 37) (.cells noNode 37)
 have hb0:Below w.heap.size w ((w.alloc (.cells (t.cells (.slice p t.subs.length cap)) 37)).alloc (.cells noNode 37)):=by go_grown
 have hs0:((w.alloc (.cells (t.cells (.slice p t.subs.length cap)) 37)).alloc (.cells noNode 37)).heap.size=w.heap.size+2:=by simp
 have HK:=Lib.hid (fun w9 (hb:Below w.heap.size w w9)=>refcheck_any t hd w9 B (.agg (t.cells (.slice p t.subs.length cap))) ⟨_,rfl,hs.later hb⟩)
 have HX:=Lib.hid (fun w9 (hb:Below w.heap.size w w9) (hf:t.InForm)=>refof_any t hf w9 B (.agg (t.cells (.slice p t.subs.length cap))) ⟨_,rfl,hs.later hb⟩)
 have Z0:=Lib.hid z0;have Z1:=Lib.hid z1;have HB0:=Lib.hid hb0;have HS0:=Lib.hid hs0
 clear hs z0 z1 hb0 hs0 hlen
 unfold Tr.cells at *
 have hI:=(Tr.checkC_zero.1 hc).1
 have HXI:=Lib.hid (fun w9 hb=>HX.out w9 hb hI)
 rw [hc] at HK
 clear hc HX hI
 generalize t.exT=R at *
 go_enter Tryd.func45,Tryd.ntmps45
 go_upto_region 1 with (fail)
 generalize (w.alloc _).alloc _=W0 at *
 go_wp2_with (first
   | (refine wpList_load_row rfl 37 (.tmp 1) rfl w.heap.size rfl 37 _ (0,0) _ Z0.out Tryd.underlying37 rfl (by kernel_rfl) ?_)
   | fail)
 refine (HK.out W0 HB0.out).mono ?_
 rintro e w1 ⟨rfl,hb1⟩
 have Y0:=Lib.hid (keep_blk hb1 Z0.out);have Y1:=Lib.hid (keep_blk hb1 Z1.out)
 have HB1:=Lib.hid (HB0.out.trans (hb1.mono HB0.out.size))
 have HS1:=Lib.hid (show w.heap.size+2 ≤ w1.heap.size from by have:=hb1.size;have:=HS0.out;omega)
 clear hb1 HK Z0 Z1 HB0 HS0
 have HX2:=Lib.hid (HXI.out w1 HB1.out)
 clear HXI
 go_wp2_with (first
   | (refine wpList_load_row rfl 37 (.tmp 1) rfl w.heap.size rfl 37 _ (0,0) _ Y0.out Tryd.underlying37 rfl (by kernel_rfl) ?_)
   | fail)
 refine HX2.out.mono ?_
 intro e w2 he
 obtain ⟨s2,rfl,ho,hb2⟩:=he.of
 obtain ⟨p2,c2,rfl,hl2⟩:=ho.slice
 clear he
 have V1:=Lib.hid (keep_blk hb2 Y1.out)
 have HO:=Lib.hid (ho.mono (B':=fun b=>w.heap.size+2 ≤ b) fun b _ hb=>by have:=HS1.out;omega)
 have HB2:=Lib.hid (HB1.out.trans (hb2.mono HB1.out.size))
 clear ho hb2 HX2 Y0 Y1 HB1
 unfold Tr.cells
 go_wp2_with (first
   | (refine wpList_store_row rfl 37 (.tmp 2) (.tmp 12) rfl (w.heap.size+1) #[.int .i64 R.kind,.int .u64 (Oc.U R.w0),.int .u64 (Oc.U R.w1),.int .u64 (Oc.U R.w2),.int .u64 (Oc.U R.w3),.slice p2 R.subs.length c2,.int .i64 R.num,.int .i64 R.least,.int .i64 R.most,.bool R.bare] rfl rfl 37 _ V1.out (by kernel_rfl) rfl (by simp [Value.oneCell']) ?_)
   | fail)
 refine bodyPost_ret (results_row_ex rfl _ _ (w.heap.size+1) 37 #[.int .i64 R.kind,.int .u64 (Oc.U R.w0),.int .u64 (Oc.U R.w1),.int .u64 (Oc.U R.w2),.int .u64 (Oc.U R.w3),.slice p2 R.subs.length c2,.int .i64 R.num,.int .i64 R.least,.int .i64 R.most,.bool R.bare] (0,0) _ _ rfl rfl (heap_setRow V1.out) Tryd.underlying37 rfl (by kernel_rfl)) rfl ⟨.slice p2 R.subs.length c2,rfl, ?_, ?_⟩
 · exact (HO.out.keep fun b _ hb=>by rw [heap_setRow_other _ _ _ (by omega)]).mono fun b _ hb=>by omega
 · exact below_setRow HB2.out (Nat.le_succ _) _
theorem refexpand_no (t:Tr) (hd:t.dpT ≤ 1000000) (hc:t.checkC ≠ 0) (w:World) (B:Nat→Prop) (v:Value) (hv:NodeV w B v t) :
   Calls Tryd.prog 45 #[v] w (fun e w'=>e=.returned (.tuple #[.agg noNode,.int .i64 t.checkC])∧Below w.heap.size w w'):=by
 obtain ⟨s,rfl,hs⟩:=hv
 obtain ⟨p,cap,rfl,hlen⟩:=hs.slice
 obtain ⟨z0,z1⟩:=two_new w (.cells (t.cells (.slice p t.subs.length cap)) 37) (.cells noNode 37)
 have hb0:Below w.heap.size w ((w.alloc (.cells (t.cells (.slice p t.subs.length cap)) 37)).alloc (.cells noNode 37)):=by go_grown
 have hs0:((w.alloc (.cells (t.cells (.slice p t.subs.length cap)) 37)).alloc (.cells noNode 37)).heap.size=w.heap.size+2:=by simp
 have HK:=Lib.hid (fun w9 (hb:Below w.heap.size w w9)=>refcheck_any t hd w9 B (.agg (t.cells (.slice p t.subs.length cap))) ⟨_,rfl,hs.later hb⟩)
 have HX:=Lib.hid (fun w9 (hb:Below w.heap.size w w9) (hf:t.InForm)=>refof_any t hf w9 B (.agg (t.cells (.slice p t.subs.length cap))) ⟨_,rfl,hs.later hb⟩)
 have Z0:=Lib.hid z0;have Z1:=Lib.hid z1;have HB0:=Lib.hid hb0;have HS0:=Lib.hid hs0
 clear hs z0 z1 hb0 hs0 hlen
 unfold Tr.cells at *
 have ec:((t.checkC:Int) != 0)=true:=by rw [bne_iff_ne];omega
 clear hc HX
 go_enter Tryd.func45,Tryd.ntmps45
 go_upto_region 1 with (fail)
 generalize (w.alloc _).alloc _=W0 at *
 go_wp2_with (first
   | (refine wpList_load_row rfl 37 (.tmp 1) rfl w.heap.size rfl 37 _ (0,0) _ Z0.out Tryd.underlying37 rfl (by kernel_rfl) ?_)
   | fail)
 refine (HK.out W0 HB0.out).mono ?_
 rintro e w1 ⟨rfl,hb1⟩
 have Y0:=Lib.hid (keep_blk hb1 Z0.out);have Y1:=Lib.hid (keep_blk hb1 Z1.out)
 have HB1:=Lib.hid (HB0.out.trans (hb1.mono HB0.out.size))
 have HS1:=Lib.hid (show w.heap.size+2 ≤ w1.heap.size from by have:=hb1.size;have:=HS0.out;omega)
 clear hb1 HK Z0 Z1 HB0 HS0
 go_wp2_with (first
   | (refine wpList_store_row rfl 37 (.tmp 2) (.tmp 9) rfl (w.heap.size+1) noNode rfl rfl 37 _ Y1.out (by kernel_rfl) rfl (by simp [Value.oneCell']) ?_)
   | fail)
 refine bodyPost_ret (results_row_ex rfl _ _ (w.heap.size+1) 37 noNode (0,0) _ _ rfl rfl (heap_setRow Y1.out) Tryd.underlying37 rfl (by kernel_rfl)) rfl ⟨rfl,below_setRow HB1.out (Nat.le_succ _) _⟩
theorem refplain_any (t:Tr) (hd:t.dpT ≤ 1000000) (w:World) (B:Nat→Prop) (v:Value) (hv:NodeV w B v t) :
   Calls Tryd.prog 49 #[v] w (fun e w'=>∃ b:Bool,e=.returned (.bool b)∧(b=true ↔ t.Plains)∧Below w.heap.size w w'):=by
 obtain ⟨s,rfl,hs⟩:=hv
 obtain ⟨p,cap,rfl,hlen⟩:=hs.slice
 have z0:=heap_alloc_new w (.cells (t.cells (.slice p t.subs.length cap)) 37)
 have hb0:Below w.heap.size w (w.alloc (.cells (t.cells (.slice p t.subs.length cap)) 37)):=(Below.refl _ _).alloc (Nat.le_refl _) _
 have HV:=Lib.hid (fun w9 (hb:Below w.heap.size w w9)=>(show NodeV w9 B (.agg (t.cells (.slice p t.subs.length cap))) t from ⟨_,rfl,hs.later hb⟩))
 have Z0:=Lib.hid z0;have HB0:=Lib.hid hb0
 clear hs z0 hb0 hlen
 by_cases hc:t.checkC=0
 · have HX:=Lib.hid (fun w9 (hb:Below w.heap.size w w9)=>refexpand_yes t hc w9 B _ (HV.out w9 hb))
   have HP:=Lib.hid (show ∀ b:Bool,(b=true ↔ t.exT=t)→(b=true ↔ t.Plains) from fun b hb=>hb.trans ⟨fun h=>⟨hc,h⟩,fun h=>h.2⟩)
   clear hc
   generalize t.exT=R at *
   unfold Tr.cells at *
   go_enter Tryd.func49,Tryd.ntmps49
   go_upto_region 1 with (fail)
   generalize w.alloc _=W0 at *
   go_wp2_with (first
     | (refine wpList_load_row rfl 37 (.tmp 1) rfl w.heap.size rfl 37 _ (0,0) _ Z0.out Tryd.underlying37 rfl (by kernel_rfl) ?_)
     | fail)
   refine (HX.out W0 HB0.out).mono ?_
   rintro e w1 ⟨s1,rfl,ho,hb1⟩
   obtain ⟨p2,c2,rfl,hl2⟩:=ho.slice
   have Y0:=Lib.hid (heap_alloc_lt (o:=.cells #[.int .i64 R.kind,.int .u64 (Oc.U R.w0),.int .u64 (Oc.U R.w1),.int .u64 (Oc.U R.w2),.int .u64 (Oc.U R.w3),.slice p2 R.subs.length c2,.int .i64 R.num,.int .i64 R.least,.int .i64 R.most,.bool R.bare] 37) (keep_blk hb1 Z0.out))
   have Y1:=Lib.hid (heap_alloc_new w1 (.cells #[.int .i64 R.kind,.int .u64 (Oc.U R.w0),.int .u64 (Oc.U R.w1),.int .u64 (Oc.U R.w2),.int .u64 (Oc.U R.w3),.slice p2 R.subs.length c2,.int .i64 R.num,.int .i64 R.least,.int .i64 R.most,.bool R.bare] 37))
   have hba:Below w1.heap.size w1 (w1.alloc (.cells #[.int .i64 R.kind,.int .u64 (Oc.U R.w0),.int .u64 (Oc.U R.w1),.int .u64 (Oc.U R.w2),.int .u64 (Oc.U R.w3),.slice p2 R.subs.length c2,.int .i64 R.num,.int .i64 R.least,.int .i64 R.most,.bool R.bare] 37)):=(Below.refl _ _).alloc (Nat.le_refl _) _
   have HB1:=Lib.hid ((HB0.out.trans (hb1.mono HB0.out.size)).alloc (HB0.out.trans (hb1.mono HB0.out.size)).size (.cells #[.int .i64 R.kind,.int .u64 (Oc.U R.w0),.int .u64 (Oc.U R.w1),.int .u64 (Oc.U R.w2),.int .u64 (Oc.U R.w3),.slice p2 R.subs.length c2,.int .i64 R.num,.int .i64 R.least,.int .i64 R.most,.bool R.bare] 37))
   have HSM:=Lib.hid (exsame_any R t (w1.alloc (.cells #[.int .i64 R.kind,.int .u64 (Oc.U R.w0),.int .u64 (Oc.U R.w1),.int .u64 (Oc.U R.w2),.int .u64 (Oc.U R.w3),.slice p2 R.subs.length c2,.int .i64 R.num,.int .i64 R.least,.int .i64 R.most,.bool R.bare] 37)) _ B (.agg #[.int .i64 R.kind,.int .u64 (Oc.U R.w0),.int .u64 (Oc.U R.w1),.int .u64 (Oc.U R.w2),.int .u64 (Oc.U R.w3),.slice p2 R.subs.length c2,.int .i64 R.num,.int .i64 R.least,.int .i64 R.most,.bool R.bare]) _ ⟨_,rfl,ho.later hba⟩ (HV.out _ HB1.out))
   clear ho hb1 hba HX Z0 HB0
   unfold Tr.cells at HSM
   go_upto_region 2 with (fail)
   generalize w1.alloc _=w1a at *
   obtain ⟨q0,q1,q2,q3,q4,q5,q6,q7,q8,q9⟩:=allTen Y1.out
   obtain ⟨r0,r1,r2,r3,r4,r5,r6,r7,r8,r9⟩:=allTen Y0.out
   go_wp2_with fail
   clear q0 q1 q2 q3 q4 q5 q6 q7 q8 q9 r0 r1 r2 r3 r4 r5 r6 r7 r8 r9
   refine HSM.out.mono ?_
   rintro e w2 ⟨bb,rfl,hbb,hb2⟩
   have HBB:=Lib.hid hbb
   have HB2:=Lib.hid (HB1.out.trans (hb2.mono HB1.out.size))
   clear hbb hb2 HSM
   go_wp2
   go_ret
   exact ⟨bb,rfl,HP.out bb HBB.out,HB2.out⟩
 · have HX:=Lib.hid (fun w9 (hb:Below w.heap.size w w9)=>refexpand_no t hd hc w9 B _ (HV.out w9 hb))
   have HP:=Lib.hid (show ((false:Bool)=true ↔ t.Plains) from ⟨fun h=>(by cases h),fun h=>absurd h.1 hc⟩)
   have ec:((t.checkC:Int) == 0)=false:=by rw [beq_eq_false_iff_ne];omega
   clear hc
   unfold Tr.cells at *
   go_enter Tryd.func49,Tryd.ntmps49
   go_upto_region 1 with (fail)
   generalize w.alloc _=W0 at *
   go_wp2_with (first
     | (refine wpList_load_row rfl 37 (.tmp 1) rfl w.heap.size rfl 37 _ (0,0) _ Z0.out Tryd.underlying37 rfl (by kernel_rfl) ?_)
     | fail)
   refine (HX.out W0 HB0.out).mono ?_
   rintro e w1 ⟨rfl,hb1⟩
   have HB1:=Lib.hid ((HB0.out.trans (hb1.mono HB0.out.size)).alloc (HB0.out.trans (hb1.mono HB0.out.size)).size (.cells noNode 37))
   clear hb1 HX Z0 HB0
   go_wp2
   go_ret
   exact ⟨false,rfl,HP.out,HB1.out⟩
end Go.Proofs.YtogdjbnejpennaaDoor
namespace Go.Proofs.YtogdjbnejpennaaDoor
open Go.RowKit
theorem Tr.setN_nd (t:Tr) (n:Int):(t.setN n).ndT=t.ndT:=by rw [Tr.ndT_eq,Tr.ndT_eq];rfl
theorem min_exists {P:Nat→Prop} (h:∃ n,P n):∃ n,P n∧∀ m,P m→n ≤ m:=by
 obtain ⟨n,hn⟩:=h
 induction n using Nat.strongRecOn with
 | _ n ih =>
   by_cases hs:∃ m,m < n∧P m
   · obtain ⟨m,h1,h2⟩:=hs;exact ih m h1 h2
   · exact ⟨n,hn,fun m hm=>Nat.le_of_not_lt fun h=>hs ⟨m,h,hm⟩⟩
noncomputable def leastOf (P:Nat→Prop):Nat:=by
 classical exact if h:∃ n,P n∧∀ m,P m→n ≤ m then Classical.choose h else 0
theorem leastOf_spec {P:Nat→Prop} (h:∃ n,P n):P (leastOf P)∧∀ m,P m→leastOf P ≤ m:=by
 have h2:=min_exists h
 unfold leastOf
 rw [dif_pos h2]
 exact Classical.choose_spec h2
def SpAt (F:List Nat) (w:World) (iv:Value) (n:Nat):Prop:=∃ (g o:Nat) (u:Tr) (s:Value) (G:List Nat),iv=.pointer (some ⟨g,o,none⟩)∧TenAt w g o u s∧Owned w s u.subs G∧g ∉ G∧(∀ b,b ∈ G→b ∈ F)∧u.ndT=n
theorem exspoil_any (F:List Nat) (w:World) (iv:Value) (n:Nat) (h:SpAt F w iv n):Calls Tryd.prog 51 #[iv] w fun e w'=>e=.returned (.tuple #[])∧Touch F w w':=by
 have H:=Lib.hid h
 clear h
 go_enter Tryd.func51,Tryd.ntmps51
 go_wp2
 go_loopw [0] (fun iv wr=>Hid (∃ n,SpAt F wr iv n)∧Hid (Touch F w wr)) (fun iv wr=>leastOf (SpAt F wr iv))
 case atStart=>exact ⟨Lib.hid ⟨_,H.out⟩,Lib.hid (Touch.of_below F (Below.refl _ _))⟩
 case round =>
   obtain ⟨HEX,HT⟩:=hrel
   obtain ⟨hm,-⟩:=leastOf_spec HEX.out
   obtain ⟨g,o,u,s,G,rfl,ht,ho,hg,hGF,hnd⟩:=hm
   obtain ⟨d0,d1,d2,d3,d4,d5,d6,d7,d8,d9⟩:=ht
   clear d0 d1 d2 d3 d4 d6 d7 d8 d9
   have HND:=Lib.hid hnd
   by_cases h0:u.subs=[]
   · rw [h0] at ho
     obtain ⟨p,cap,rfl,-⟩:=ho.slice
     clear hnd ho hGF hg HEX H
     simp only [List.length_nil] at d5
     go_wp2
     go_end0
     exact ⟨rfl,HT.out⟩
   · have hw:∃ (g2 o2 cap:Nat) (x:Tr) (sx:Value) (G2:List Nat),s=.slice (some ⟨g2,o2,none⟩) u.subs.length cap∧(∃ cs ty,wr.heap[g2]? = some (.cells cs ty (0,0)))∧TenAt wr g2 o2 x sx∧Owned wr sx x.subs G2∧g2 ∉ G2∧(∀ b,b ∈ G2→b ∈ G)∧g2 ∈ G∧x.ndT < u.ndT:=by
       generalize hus:u.subs=ts at ho h0
       cases ho with
       | nil p cap=>exact absurd rfl h0
       | row g2 o2 cap _ S L hlen hf hc hs2 hgL hd =>
         cases ts with
         | nil=>exact absurd rfl h0
         | cons x r =>
           refine ⟨g2,o2,cap,x,S 0,L 0,rfl,hf,by simpa using hc 0 x rfl,hs2 0 x rfl,hgL 0 (by simp),fun b hb=>List.mem_cons_of_mem _ (mem_range_flatMap.2 ⟨0,by simp,hb⟩),List.mem_cons_self, ?_⟩
           rw [Tr.ndT_eq u,hus,Tr.ndS];omega
     obtain ⟨g2,o2,cap,x,sx,G2,rfl,hf,hx,hox,hg2,hGG,hg2G,hlt⟩:=hw
     have hgn:g ≠ g2:=fun e=>hg (e ▸ hg2G)
     have hd0:decide ((u.subs.length:Int) > 0)=true:=decide_eq_true (by have:=List.length_pos_iff.2 h0;omega)
     have hl0:0 < u.subs.length:=List.length_pos_iff.2 h0
     have c6:=hx.c6
     have f6:=frozen_of (o:=o2+6) hf
     have d5b:(wr.setCell ⟨g2,o2+6,none⟩ (.int .i64 5000)).cell? ⟨g,o+5,none⟩=some (.slice (some ⟨g2,o2,none⟩) u.subs.length cap):=by
       rw [← d5];unfold World.cell?;rw [Below.heap_setCell _ _ _ _ hgn]
     have HN:=Lib.hid (show SpAt F (wr.setCell ⟨g2,o2+6,none⟩ (.int .i64 5000)) (.pointer (some ⟨g2,o2,none⟩)) x.ndT from ⟨g2,o2,x.setN 5000,sx,G2,rfl,hx.setN hf 5000,hox.keep (fun b hb=>Below.heap_setCell _ _ _ _ (fun e=>hg2 (by have e2:b=g2:=e;rw [← e2];exact hb))),hg2,fun b hb=>hGF b (hGG b hb),Tr.setN_nd x 5000⟩)
     have HT2:=Lib.hid (show Touch F w (wr.setCell ⟨g2,o2+6,none⟩ (.int .i64 5000)) from HT.out.setCells (hGF _ hg2G) (o2+6) [.int .i64 5000])
     have HLT:=Lib.hid hlt
     clear hnd ho hGF hg HEX H hx hox hg2 hGG hg2G hlt h0 hf hgn
     go_wp2
     refine ⟨⟨Lib.hid ⟨_,HN.out⟩,HT2⟩, ?_⟩
     have:=(leastOf_spec ⟨_,HN.out⟩).2 _ HN.out
     have:=HND.out;have:=HLT.out
     omega
end Go.Proofs.YtogdjbnejpennaaDoor
namespace Go.Proofs.YtogdjbnejpennaaDoor
open Go.RowKit
theorem expand_o (A:Nat→Addr) (t:Tr) (hd:t.dpT ≤ 1000000) (w:World) (hE:ErrsC w A) (B:Nat→Prop) (v:Value) (hv:NodeV w B v t) :
   Calls Tryd.prog 44 #[v] w (fun e w'=>∃ s F,e=.returned (.tuple #[.agg (t.exO.cells s),sentV A t.checkC])∧Owned w' s t.exO.subs F∧(∀ b,b ∈ F→w.heap.size ≤ b)∧Below w.heap.size w w'):=by
 by_cases hc:t.checkC=0
 · rw [show t.exO=t.exT by unfold Tr.exO;rw [if_pos hc],hc,sentV_zero]
   exact expand_yes A t hc w hE B v hv
 · rw [show t.exO=Tr.zeroT by unfold Tr.exO;rw [if_neg hc]]
   refine (expand_no A t hd hc w hE B v hv).mono ?_
   rintro e w' ⟨rfl,hb⟩
   exact ⟨.slice none 0 0,[],by rw [zero_cells],.nil _ _,fun b hb=>(by cases hb),hb⟩
theorem refexpand_o (t:Tr) (hd:t.dpT ≤ 1000000) (w:World) (B:Nat→Prop) (v:Value) (hv:NodeV w B v t) :
   Calls Tryd.prog 45 #[v] w (fun e w'=>∃ s,e=.returned (.tuple #[.agg (t.exO.cells s),.int .i64 t.checkC])∧TreesAt w' (fun b=>w.heap.size ≤ b) s t.exO.subs∧Below w.heap.size w w'):=by
 by_cases hc:t.checkC=0
 · rw [show t.exO=t.exT by unfold Tr.exO;rw [if_pos hc],hc]
   exact refexpand_yes t hc w B v hv
 · rw [show t.exO=Tr.zeroT by unfold Tr.exO;rw [if_neg hc]]
   refine (refexpand_no t hd hc w B v hv).mono ?_
   rintro e w' ⟨rfl,hb⟩
   exact ⟨.slice none 0 0,by rw [zero_cells],TreesAt.nil,hb⟩
theorem ten_row {w:World} {g:Nat} {u:Tr} {s:Value} {ty:TypeId} (h:w.heap[g]? = some (.cells (u.cells s) ty)):TenAt w g 0 u s:=by
 obtain ⟨q0,q1,q2,q3,q4,q5,q6,q7,q8,q9⟩:=allTen h
 exact ⟨q0,q1,q2,q3,q4,q5,q6,q7,q8,q9⟩
theorem expandmakes_any (A:Nat→Addr) (t:Tr) (w:World) (hE:Errs w A) (B:Nat→Prop) (v:Value) (hv:NodeV w B v t) :
   Calls Tryd.prog 7 #[v] w fun e w'=>e=.returned (.bool true)∧Below w.heap.size w w':=by
 have HE:=Lib.hid (fun w9 (h:Below w.heap.size w w9)=>hE.below h)
 have HLV:=Lib.hid (fun w9 (h:Below w.heap.size w w9)=>exlives_any A w9 (hE.below h).few.c)
 obtain ⟨s,rfl,hs⟩:=hv
 obtain ⟨p,cap,rfl,-⟩:=hs.slice
 have HV:=Lib.hid (fun w9 (hb:Below w.heap.size w w9)=>(show NodeV w9 B (.agg (t.cells (.slice p t.subs.length cap))) t from ⟨_,rfl,hs.later hb⟩))
 clear hs hE
 have HF:=Lib.hid (fun w9 (hb:Below w.heap.size w w9)=>few_any t 3000 (by omega) w9 B _ (HV.out w9 hb))
 have HT:=Lib.hid (heap_alloc_new w (.cells (t.cells (.slice p t.subs.length cap)) 37))
 have HW:=Lib.hid (show Below w.heap.size w (w.alloc (.cells (t.cells (.slice p t.subs.length cap)) 37)) from (Below.refl _ _).alloc (Nat.le_refl _) _)
 have hwz:(w.alloc (.cells (t.cells (.slice p t.subs.length cap)) 37)).heap.size=w.heap.size+1:=by simp
 have HWZ:=Lib.hid hwz
 clear hwz
 unfold Tr.cells at *
 go_enter Tryd.func7,Tryd.ntmps7
 go_upto_region 1 with (fail)
 generalize w.alloc _=w0 at *
 go_wp2_with fail
 refine (HLV.out w0 HW.out).mono ?_
 rintro e w1 ⟨rfl,hb1⟩
 have HB1:=Lib.hid (HW.out.trans (hb1.mono HW.out.size));have T1:=Lib.hid (keep_blk hb1 HT.out)
 have HZ1:=Lib.hid (show w.heap.size+1 ≤ w1.heap.size from by have:=hb1.size;have:=HWZ.out;omega)
 clear hb1 HLV HW HT HWZ
 go_wp2_with (first
   | (refine wpList_load_row rfl 37 (.tmp 1) rfl w.heap.size rfl 37 _ (0,0) _ T1.out Tryd.underlying37 rfl (by kernel_rfl) ?_)
   | fail)
 refine (HF.out w1 HB1.out).mono ?_
 rintro e u2 ⟨rfl,hb2⟩
 have HB:=Lib.hid (HB1.out.trans (hb2.mono HB1.out.size));have X0:=Lib.hid (keep_blk hb2 T1.out)
 have HZ2:=Lib.hid (show w.heap.size+1 ≤ u2.heap.size from by have:=hb2.size;have:=HZ1.out;omega)
 clear hb2 HF HB1 T1 HZ1
 by_cases hf:t.ndT ≤ 3000
 case neg =>
   rw [decide_eq_false hf]
   go_wp2
   go_ret
   exact ⟨rfl,HB.out⟩
 rw [decide_eq_true hf]
 have hd:t.dpT ≤ 1000000:=by have:=Tr.dp_nd t;omega
 have HCP:=Lib.hid (fun w9 (hb:Below w.heap.size w w9)=>copynode_own t w9 B _ (HV.out w9 hb))
 have HEX:=Lib.hid (fun w9 (hb:Below w.heap.size w w9) (B9:Nat→Prop) (v9:Value) (hv9:NodeV w9 B9 v9 t)=>expand_o A t hd w9 (HE.out w9 hb).few.c B9 v9 hv9)
 have HRX:=Lib.hid (fun w9 (hb:Below w.heap.size w w9)=>refexpand_o t hd w9 B _ (HV.out w9 hb))
 have HNX:=Lib.hid (fun w9 (hb:Below w.heap.size w w9)=>sentV_num A t.checkC (Tr.checkC_lt t) w9 (HE.out w9 hb))
 obtain ⟨pl,hpl⟩:∃ pl:Bool,(pl=true ↔ t.Plains):=by
   by_cases h:t.Plains
   · exact ⟨true,⟨fun _=>h,fun _=>rfl⟩⟩
   · exact ⟨false,⟨fun h9=>(by cases h9),fun h9=>absurd h9 h⟩⟩
 have HPX:=Lib.hid (fun w9 (hb:Below w.heap.size w w9) (B9:Nat→Prop) (v9:Value) (hv9:NodeV w9 B9 v9 t)=>(explain_any A t hd w9 (HE.out w9 hb).few.c B9 v9 hv9).mono (R':=fun e w'=>e=.returned (.bool pl)∧Below w9.heap.size w9 w') (by
   rintro e w' ⟨b,rfl,hb9,h⟩
   exact ⟨by rw [Bool.eq_iff_iff.2 (hb9.trans hpl.symm)],h⟩))
 have HRP:=Lib.hid (fun w9 (hb:Below w.heap.size w w9)=>(refplain_any t hd w9 B _ (HV.out w9 hb)).mono (R':=fun e w'=>e=.returned (.bool pl)∧Below w9.heap.size w9 w') (by
   rintro e w' ⟨b,rfl,hb9,h⟩
   exact ⟨by rw [Bool.eq_iff_iff.2 (hb9.trans hpl.symm)],h⟩))
 generalize t.checkC=c at *
 generalize sentV A c=ev at *
 generalize t.exO=o at *
 clear hf hd hpl HE
 unfold Tr.cells at HRX HRP HCP
 go_wp2_with (first
   | (refine wpList_load_row rfl 37 (.tmp 1) rfl w.heap.size rfl 37 _ (0,0) _ X0.out Tryd.underlying37 rfl (by kernel_rfl) ?_)
   | fail)
 refine (HCP.out u2 HB.out).mono ?_
 rintro e u3 ⟨sm,Fm,rfl,hom,hFm,hbc⟩
 obtain ⟨pm,cm,rfl,-⟩:=hom.slice
 have hb4:Below u2.heap.size u2 (u3.alloc (.cells #[.int .i64 t.kind,.int .u64 (Oc.U t.w0),.int .u64 (Oc.U t.w1),.int .u64 (Oc.U t.w2),.int .u64 (Oc.U t.w3),.slice pm t.subs.length cm,.int .i64 t.num,.int .i64 t.least,.int .i64 t.most,.bool t.bare] 37)):=hbc.alloc hbc.size _
 have hz4:(u3.alloc (.cells #[.int .i64 t.kind,.int .u64 (Oc.U t.w0),.int .u64 (Oc.U t.w1),.int .u64 (Oc.U t.w2),.int .u64 (Oc.U t.w3),.slice pm t.subs.length cm,.int .i64 t.num,.int .i64 t.least,.int .i64 t.most,.bool t.bare] 37)).heap.size=u3.heap.size+1:=by simp
 have HFM:=Lib.hid (show ∀ b,b ∈ Fm→w.heap.size+1 ≤ b∧b < u3.heap.size from fun b hb=>⟨by have:=hFm b hb;have:=HZ2.out;omega,hom.lt b hb⟩)
 have XM:=Lib.hid (heap_alloc_new u3 (.cells #[.int .i64 t.kind,.int .u64 (Oc.U t.w0),.int .u64 (Oc.U t.w1),.int .u64 (Oc.U t.w2),.int .u64 (Oc.U t.w3),.slice pm t.subs.length cm,.int .i64 t.num,.int .i64 t.least,.int .i64 t.most,.bool t.bare] 37))
 have HOM:=Lib.hid (hom.later ((Below.refl u3.heap.size u3).alloc (Nat.le_refl _) (.cells #[.int .i64 t.kind,.int .u64 (Oc.U t.w0),.int .u64 (Oc.U t.w1),.int .u64 (Oc.U t.w2),.int .u64 (Oc.U t.w3),.slice pm t.subs.length cm,.int .i64 t.num,.int .i64 t.least,.int .i64 t.most,.bool t.bare] 37)))
 have X0n:=Lib.hid (keep_blk hb4 X0.out);have HBn:=Lib.hid (HB.out.trans (hb4.mono HB.out.size))
 have HZ3:=Lib.hid (show w.heap.size+1 ≤ u3.heap.size from by have:=hbc.size;have:=HZ2.out;omega)
 have HZ4:=Lib.hid hz4
 clear hom hFm hbc hb4 hz4 HCP X0 HB HZ2
 unfold Tr.cells
 go_upto_region 6 with (fail)
 generalize u3.alloc _=u4 at *
 have X0:=X0n;have HB:=HBn
 clear X0n HBn
 have HVM:=Lib.hid (fun w9 (hb:Below u4.heap.size u4 w9)=>(show NodeV w9 (fun b=>b ∈ Fm) (.agg (t.cells (.slice pm t.subs.length cm))) t from ⟨_,rfl,HOM.out.trees.later hb⟩))
 have HC6:=Lib.hid (HEX.out u4 HB.out _ _ (HVM.out u4 (Below.refl _ _)))
 unfold Tr.cells at HC6
 go_wp2_with (first
   | (refine wpList_load_row rfl 37 (.tmp 3) rfl u3.heap.size rfl 37 _ (0,0) _ XM.out Tryd.underlying37 rfl (by kernel_rfl) ?_)
   | fail)
 refine HC6.out.mono ?_
 rintro e u5 ⟨sa,Fa,rfl,hoa,hFa,hbc⟩
 obtain ⟨pa,ca,rfl,-⟩:=hoa.slice
 have hb4:Below u4.heap.size u4 (u5.alloc (.cells #[.int .i64 o.kind,.int .u64 (Oc.U o.w0),.int .u64 (Oc.U o.w1),.int .u64 (Oc.U o.w2),.int .u64 (Oc.U o.w3),.slice pa o.subs.length ca,.int .i64 o.num,.int .i64 o.least,.int .i64 o.most,.bool o.bare] 37)):=hbc.alloc hbc.size _
 have hz6:(u5.alloc (.cells #[.int .i64 o.kind,.int .u64 (Oc.U o.w0),.int .u64 (Oc.U o.w1),.int .u64 (Oc.U o.w2),.int .u64 (Oc.U o.w3),.slice pa o.subs.length ca,.int .i64 o.num,.int .i64 o.least,.int .i64 o.most,.bool o.bare] 37)).heap.size=u5.heap.size+1:=by simp
 have HFA:=Lib.hid (show ∀ b,b ∈ Fa→u3.heap.size+1 ≤ b∧b < u5.heap.size from fun b hb=>⟨by have:=hFa b hb;have:=HZ4.out;omega,hoa.lt b hb⟩)
 have XA:=Lib.hid (heap_alloc_new u5 (.cells #[.int .i64 o.kind,.int .u64 (Oc.U o.w0),.int .u64 (Oc.U o.w1),.int .u64 (Oc.U o.w2),.int .u64 (Oc.U o.w3),.slice pa o.subs.length ca,.int .i64 o.num,.int .i64 o.least,.int .i64 o.most,.bool o.bare] 37))
 have HOA:=Lib.hid (hoa.later ((Below.refl u5.heap.size u5).alloc (Nat.le_refl _) (.cells #[.int .i64 o.kind,.int .u64 (Oc.U o.w0),.int .u64 (Oc.U o.w1),.int .u64 (Oc.U o.w2),.int .u64 (Oc.U o.w3),.slice pa o.subs.length ca,.int .i64 o.num,.int .i64 o.least,.int .i64 o.most,.bool o.bare] 37)))
 have X0n:=Lib.hid (keep_blk hb4 X0.out);have XMn:=Lib.hid (keep_blk hb4 XM.out);have HBn:=Lib.hid (HB.out.trans (hb4.mono HB.out.size))
 have H46:=Lib.hid hb4
 have HZ5:=Lib.hid (show u3.heap.size+1 ≤ u5.heap.size from by have:=hbc.size;have:=HZ4.out;omega)
 have HZ6:=Lib.hid hz6
 clear hoa hFa hbc hb4 hz6 HC6 X0 XM HB
 go_upto_region 7 with (fail)
 generalize u5.alloc _=u6 at *
 have X0:=X0n;have XM:=XMn;have HB:=HBn
 clear X0n XMn HBn
 have HC8:=Lib.hid (HEX.out u6 HB.out _ _ (HVM.out u6 H46.out))
 unfold Tr.cells at HC8
 go_wp2_with (first
   | (refine wpList_load_row rfl 37 (.tmp 3) rfl u3.heap.size rfl 37 _ (0,0) _ XM.out Tryd.underlying37 rfl (by kernel_rfl) ?_)
   | fail)
 refine HC8.out.mono ?_
 rintro e u7 ⟨sb,Fb,rfl,hob,hFb,hbc⟩
 obtain ⟨pb,cb,rfl,-⟩:=hob.slice
 have hb4:Below u6.heap.size u6 (u7.alloc (.cells #[.int .i64 o.kind,.int .u64 (Oc.U o.w0),.int .u64 (Oc.U o.w1),.int .u64 (Oc.U o.w2),.int .u64 (Oc.U o.w3),.slice pb o.subs.length cb,.int .i64 o.num,.int .i64 o.least,.int .i64 o.most,.bool o.bare] 37)):=hbc.alloc hbc.size _
 have hz8:(u7.alloc (.cells #[.int .i64 o.kind,.int .u64 (Oc.U o.w0),.int .u64 (Oc.U o.w1),.int .u64 (Oc.U o.w2),.int .u64 (Oc.U o.w3),.slice pb o.subs.length cb,.int .i64 o.num,.int .i64 o.least,.int .i64 o.most,.bool o.bare] 37)).heap.size=u7.heap.size+1:=by simp
 have HFB:=Lib.hid (show ∀ b,b ∈ Fb→u5.heap.size+1 ≤ b∧b < u7.heap.size from fun b hb=>⟨by have:=hFb b hb;have:=HZ6.out;omega,hob.lt b hb⟩)
 have XB:=Lib.hid (heap_alloc_new u7 (.cells #[.int .i64 o.kind,.int .u64 (Oc.U o.w0),.int .u64 (Oc.U o.w1),.int .u64 (Oc.U o.w2),.int .u64 (Oc.U o.w3),.slice pb o.subs.length cb,.int .i64 o.num,.int .i64 o.least,.int .i64 o.most,.bool o.bare] 37))
 have HOB:=Lib.hid (hob.later ((Below.refl u7.heap.size u7).alloc (Nat.le_refl _) (.cells #[.int .i64 o.kind,.int .u64 (Oc.U o.w0),.int .u64 (Oc.U o.w1),.int .u64 (Oc.U o.w2),.int .u64 (Oc.U o.w3),.slice pb o.subs.length cb,.int .i64 o.num,.int .i64 o.least,.int .i64 o.most,.bool o.bare] 37)))
 have X0n:=Lib.hid (keep_blk hb4 X0.out);have XMn:=Lib.hid (keep_blk hb4 XM.out);have XAn:=Lib.hid (keep_blk hb4 XA.out);have HBn:=Lib.hid (HB.out.trans (hb4.mono HB.out.size))
 have H48:=Lib.hid (H46.out.trans (hb4.mono H46.out.size));have H68:=Lib.hid hb4
 have HZ7:=Lib.hid (show u5.heap.size+1 ≤ u7.heap.size from by have:=hbc.size;have:=HZ6.out;omega)
 have HZ8:=Lib.hid hz8
 clear hob hFb hbc hb4 hz8 HC8 X0 XM XA HB H46 HEX
 go_upto_region 8 with (fail)
 generalize u7.alloc _=u8 at *
 have X0:=X0n;have XM:=XMn;have XA:=XAn;have HB:=HBn
 clear X0n XMn XAn HBn
 go_wp2_with (first
   | (refine wpList_load_row rfl 37 (.tmp 1) rfl w.heap.size rfl 37 _ (0,0) _ X0.out Tryd.underlying37 rfl (by kernel_rfl) ?_)
   | fail)
 refine (HRX.out u8 HB.out).mono ?_
 rintro e u9 ⟨sw,rfl,htw,hbc⟩
 obtain ⟨pw,cw,rfl,-⟩:=htw.slice
 have hb4:Below u8.heap.size u8 (u9.alloc (.cells #[.int .i64 o.kind,.int .u64 (Oc.U o.w0),.int .u64 (Oc.U o.w1),.int .u64 (Oc.U o.w2),.int .u64 (Oc.U o.w3),.slice pw o.subs.length cw,.int .i64 o.num,.int .i64 o.least,.int .i64 o.most,.bool o.bare] 37)):=hbc.alloc hbc.size _
 have XW:=Lib.hid (heap_alloc_new u9 (.cells #[.int .i64 o.kind,.int .u64 (Oc.U o.w0),.int .u64 (Oc.U o.w1),.int .u64 (Oc.U o.w2),.int .u64 (Oc.U o.w3),.slice pw o.subs.length cw,.int .i64 o.num,.int .i64 o.least,.int .i64 o.most,.bool o.bare] 37))
 have HTW:=Lib.hid ((htw.mono (B':=fun b=>u7.heap.size+1 ≤ b) fun b _ hb=>by have:=HZ8.out;omega).later ((Below.refl u9.heap.size u9).alloc (Nat.le_refl _) (.cells #[.int .i64 o.kind,.int .u64 (Oc.U o.w0),.int .u64 (Oc.U o.w1),.int .u64 (Oc.U o.w2),.int .u64 (Oc.U o.w3),.slice pw o.subs.length cw,.int .i64 o.num,.int .i64 o.least,.int .i64 o.most,.bool o.bare] 37)))
 have X0n:=Lib.hid (keep_blk hb4 X0.out);have XMn:=Lib.hid (keep_blk hb4 XM.out);have XAn:=Lib.hid (keep_blk hb4 XA.out);have XBn:=Lib.hid (keep_blk hb4 XB.out);have HBn:=Lib.hid (HB.out.trans (hb4.mono HB.out.size))
 have H4n:=Lib.hid (H48.out.trans (hb4.mono H48.out.size));have H6n:=Lib.hid (H68.out.trans (hb4.mono H68.out.size));have H8n:=Lib.hid hb4
 have HZ9:=Lib.hid (show u7.heap.size+1 ≤ u9.heap.size from by have:=hbc.size;have:=HZ8.out;omega)
 clear htw hbc hb4 HRX X0 XM XA XB HB H48 H68
 go_upto_region 9 with (fail)
 generalize u9.alloc _=u10 at *
 have X0:=X0n;have XM:=XMn;have XA:=XAn;have XB:=XBn;have HB:=HBn
 clear X0n XMn XAn XBn HBn
 have HOM9:=Lib.hid (HOM.out.later H4n.out);have HOA9:=Lib.hid (HOA.out.later H6n.out);have HOB9:=Lib.hid (HOB.out.later H8n.out)
 have HNU:=Lib.hid (fun w9 (hb:Below u10.heap.size u10 w9)=>HNX.out w9 (HB.out.trans (hb.mono HB.out.size)))
 have HS1:=Lib.hid (fun w9 (hb:Below u10.heap.size u10 w9)=>(samenodes_any o o w9 _ _ (.agg (o.cells (.slice pa o.subs.length ca))) (.agg (o.cells (.slice pw o.subs.length cw))) ⟨_,rfl,HOA9.out.trees.later hb⟩ ⟨_,rfl,HTW.out.later hb⟩).mono (fun e w' h=>h.yes rfl))
 have HS2:=Lib.hid (fun w9 (hb:Below u10.heap.size u10 w9)=>(samenodes_any t t w9 _ _ (.agg (t.cells (.slice pm t.subs.length cm))) _ ⟨_,rfl,HOM9.out.trees.later hb⟩ (HV.out w9 (HB.out.trans (hb.mono HB.out.size)))).mono (fun e w' h=>h.yes rfl))
 have HP1:=Lib.hid (fun w9 (hb:Below u10.heap.size u10 w9)=>HPX.out w9 (HB.out.trans (hb.mono HB.out.size)) _ (.agg (t.cells (.slice pm t.subs.length cm))) ⟨_,rfl,HOM9.out.trees.later hb⟩)
 have HP2:=Lib.hid (fun w9 (hb:Below u10.heap.size u10 w9)=>HRP.out w9 (HB.out.trans (hb.mono HB.out.size)))
 unfold Tr.cells at HS1 HS2 HP1
 have hcc:((c:Int) != (c:Int))=false:=by simp
 clear HNX HPX HRP HVM HOM HOA HOB HV
 refine Ri.wp_region_frame (by kernel_rfl) (by kernel_rfl) (by kernel_rfl) (by kernel_rfl)
   (fun L v w'=>Below u10.heap.size u10 w'∧(L 0=true→v 0=ev)∧(L 1=true→v 1=.int .i64 (c:Int))∧(L 2=true→v 2=.int .i64 (c:Int))∧(L 3=true→v 3=.bool false)∧(L 4=true→v 4=.bool false)∧(L 5=true→v 5=.agg #[.int .i64 o.kind,.int .u64 (Oc.U o.w0),.int .u64 (Oc.U o.w1),.int .u64 (Oc.U o.w2),.int .u64 (Oc.U o.w3),.slice pa o.subs.length ca,.int .i64 o.num,.int .i64 o.least,.int .i64 o.most,.bool o.bare])∧(L 6=true→v 6=.agg #[.int .i64 o.kind,.int .u64 (Oc.U o.w0),.int .u64 (Oc.U o.w1),.int .u64 (Oc.U o.w2),.int .u64 (Oc.U o.w3),.slice pw o.subs.length cw,.int .i64 o.num,.int .i64 o.least,.int .i64 o.most,.bool o.bare])∧(L 7=true→v 7=.bool true)∧(L 8=true→v 8=.bool false)∧(L 9=true→v 9=.bool false)∧(L 10=true→v 10=.bool false)∧(L 11=true→v 11=.agg #[.int .i64 t.kind,.int .u64 (Oc.U t.w0),.int .u64 (Oc.U t.w1),.int .u64 (Oc.U t.w2),.int .u64 (Oc.U t.w3),.slice pm t.subs.length cm,.int .i64 t.num,.int .i64 t.least,.int .i64 t.most,.bool t.bare])∧(L 12=true→v 12=.agg #[.int .i64 t.kind,.int .u64 (Oc.U t.w0),.int .u64 (Oc.U t.w1),.int .u64 (Oc.U t.w2),.int .u64 (Oc.U t.w3),.slice p t.subs.length cap,.int .i64 t.num,.int .i64 t.least,.int .i64 t.most,.bool t.bare])∧(L 13=true→v 13=.bool true)∧(L 14=true→v 14=.bool false)∧(L 15=true→v 15=.bool false)∧(L 16=true→v 16=.bool false)∧(L 17=true→v 17=.agg #[.int .i64 t.kind,.int .u64 (Oc.U t.w0),.int .u64 (Oc.U t.w1),.int .u64 (Oc.U t.w2),.int .u64 (Oc.U t.w3),.slice pm t.subs.length cm,.int .i64 t.num,.int .i64 t.least,.int .i64 t.most,.bool t.bare])∧(L 18=true→v 18=.bool pl)∧(L 19=true→v 19=.agg #[.int .i64 t.kind,.int .u64 (Oc.U t.w0),.int .u64 (Oc.U t.w1),.int .u64 (Oc.U t.w2),.int .u64 (Oc.U t.w3),.slice p t.subs.length cap,.int .i64 t.num,.int .i64 t.least,.int .i64 t.most,.bool t.bare])∧(L 20=true→v 20=.bool pl)∧(L 21=true→v 21=.bool false)∧(L 22=true→v 22=.bool false))
   ?_ ?_ ?_
 · exact ⟨(Below.refl _ _).drew,by simp,by simp,by simp,by simp,by simp,by simp,by simp,by simp,by simp,by simp,by simp,by simp,by simp,by simp,by simp,by simp,by simp,by simp,by simp,by simp,by simp,by simp,by simp⟩
 · intro i hi9 L v w9 xa hI hL hd hv ho
   have hi':i=0 ∨ i=1 ∨ i=2 ∨ i=3 ∨ i=4 ∨ i=5 ∨ i=6 ∨ i=7 ∨ i=8 ∨ i=9 ∨ i=10 ∨ i=11 ∨ i=12 ∨ i=13 ∨ i=14 ∨ i=15 ∨ i=16 ∨ i=17 ∨ i=18 ∨ i=19 ∨ i=20 ∨ i=21 ∨ i=22:=by simp at hi9;omega
   obtain ⟨hb,q0,q1,q2,q3,q4,q5,q6,q7,q8,q9,q10,q11,q12,q13,q14,q15,q16,q17,q18,q19,q20,q21,q22⟩:=hI
   rcases hi' with rfl | rfl | rfl | rfl | rfl | rfl | rfl | rfl | rfl | rfl | rfl | rfl | rfl | rfl | rfl | rfl | rfl | rfl | rfl | rfl | rfl | rfl | rfl
   · have e5:xa.tmps.getD 5 undef=ev:=ho 5 (by kernel_rfl)
     refine Ri.step_plain rfl rfl (fun K' hK=>?_)
     go_simp
     exact hK _ _ ⟨_,_,rfl,rfl,hb,fun _=>rfl,q1,q2,q3,q4,q5,q6,q7,q8,q9,q10,q11,q12,q13,q14,q15,q16,q17,q18,q19,q20,q21,q22⟩
   · have l0:L 0=true:=by have:=hd _ rfl;simp [Region.binds] at this;simp [this]
     have f0:=(hv 0 32 rfl l0).trans (q0 l0)
     refine Ri.step_plain rfl rfl (fun K' hK=>?_)
     go_simp
     refine (HNU.out _ hb).mono ?_
     rintro e w8 ⟨rfl,hb8⟩
     exact hK _ _ ⟨_,_,rfl,rfl,hb.trans (hb8.mono hb.size),q0,fun _=>rfl,q2,q3,q4,q5,q6,q7,q8,q9,q10,q11,q12,q13,q14,q15,q16,q17,q18,q19,q20,q21,q22⟩
   · have e9:xa.tmps.getD 9 undef=.int .i64 (c:Int):=ho 9 (by kernel_rfl)
     refine Ri.step_plain rfl rfl (fun K' hK=>?_)
     go_simp
     exact hK _ _ ⟨_,_,rfl,rfl,hb,q0,q1,fun _=>rfl,q3,q4,q5,q6,q7,q8,q9,q10,q11,q12,q13,q14,q15,q16,q17,q18,q19,q20,q21,q22⟩
   · have l0:L 1=true∧L 2=true:=by have:=hd _ rfl;simp [Region.binds] at this;simp [this]
     have f1:=(hv 1 33 rfl l0.1).trans (q1 l0.1)
     have f2:=(hv 2 34 rfl l0.2).trans (q2 l0.2)
     refine Ri.step_plain rfl rfl (fun K' hK=>?_)
     go_simp
     exact hK _ _ ⟨_,_,rfl,rfl,hb,q0,q1,q2,fun _=>rfl,q4,q5,q6,q7,q8,q9,q10,q11,q12,q13,q14,q15,q16,q17,q18,q19,q20,q21,q22⟩
   · have l0:L 3=true:=by have:=hd _ rfl;simp [Region.binds] at this;simp [this]
     have f3:=(hv 3 35 rfl l0).trans (q3 l0)
     refine Ri.step_plain rfl rfl (fun K' hK=>?_)
     go_simp
     exact hK _ _ ⟨_,_,rfl,rfl,hb,q0,q1,q2,q3,fun _=>rfl,q5,q6,q7,q8,q9,q10,q11,q12,q13,q14,q15,q16,q17,q18,q19,q20,q21,q22⟩
   · have l0:L 4=true:=by have:=hd _ rfl;simp [Region.binds] at this;simp [this]
     have f4:=(hv 4 36 rfl l0).trans (q4 l0)
     have e4:xa.tmps.getD 4 undef=.pointer (some ⟨u5.heap.size,0,none⟩):=ho 4 (by kernel_rfl)
     refine Ri.step_wanted (b:=false) rfl rfl rfl f4 (fun K' hK=>?_)
     obtain ⟨d0,d1,d2,d3,d4,d5,d6,d7,d8,d9⟩:=allTen (keep_blk hb XA.out)
     go_simp
     exact hK _ _ ⟨_,_,rfl,rfl,hb,q0,q1,q2,q3,q4,fun _=>rfl,q6,q7,q8,q9,q10,q11,q12,q13,q14,q15,q16,q17,q18,q19,q20,q21,q22⟩
   · have l0:L 4=true:=by have:=hd _ rfl;simp [Region.binds] at this;simp [this]
     have f4:=(hv 4 36 rfl l0).trans (q4 l0)
     have e8:xa.tmps.getD 8 undef=.pointer (some ⟨u9.heap.size,0,none⟩):=ho 8 (by kernel_rfl)
     refine Ri.step_wanted (b:=false) rfl rfl rfl f4 (fun K' hK=>?_)
     obtain ⟨d0,d1,d2,d3,d4,d5,d6,d7,d8,d9⟩:=allTen (keep_blk hb XW.out)
     go_simp
     exact hK _ _ ⟨_,_,rfl,rfl,hb,q0,q1,q2,q3,q4,q5,fun _=>rfl,q7,q8,q9,q10,q11,q12,q13,q14,q15,q16,q17,q18,q19,q20,q21,q22⟩
   · have l0:L 4=true∧L 5=true∧L 6=true:=by have:=hd _ rfl;simp [Region.binds] at this;simp [this]
     have f4:=(hv 4 36 rfl l0.1).trans (q4 l0.1)
     have f5:=(hv 5 37 rfl l0.2.1).trans (q5 l0.2.1)
     have f6:=(hv 6 38 rfl l0.2.2).trans (q6 l0.2.2)
     refine Ri.step_wanted (b:=false) rfl rfl rfl f4 (fun K' hK=>?_)
     go_simp
     refine (HS1.out _ hb).mono ?_
     rintro e w8 ⟨rfl,hb8⟩
     exact hK _ _ ⟨_,_,rfl,rfl,hb.trans (hb8.mono hb.size),q0,q1,q2,q3,q4,q5,q6,fun _=>rfl,q8,q9,q10,q11,q12,q13,q14,q15,q16,q17,q18,q19,q20,q21,q22⟩
   · have l0:L 4=true∧L 7=true:=by have:=hd _ rfl;simp [Region.binds] at this;simp [this]
     have f4:=(hv 4 36 rfl l0.1).trans (q4 l0.1)
     have f7:=(hv 7 39 rfl l0.2).trans (q7 l0.2)
     refine Ri.step_wanted (b:=false) rfl rfl rfl f4 (fun K' hK=>?_)
     go_simp
     exact hK _ _ ⟨_,_,rfl,rfl,hb,q0,q1,q2,q3,q4,q5,q6,q7,fun _=>rfl,q9,q10,q11,q12,q13,q14,q15,q16,q17,q18,q19,q20,q21,q22⟩
   · have l0:L 4=true∧L 8=true:=by have:=hd _ rfl;simp [Region.binds] at this;simp [this]
     have f4:=(hv 4 36 rfl l0.1).trans (q4 l0.1)
     have f8:=(hv 8 40 rfl l0.2).trans (q8 l0.2)
     refine Ri.step_plain rfl rfl (fun K' hK=>?_)
     go_simp
     exact hK _ _ ⟨_,_,rfl,rfl,hb,q0,q1,q2,q3,q4,q5,q6,q7,q8,fun _=>rfl,q10,q11,q12,q13,q14,q15,q16,q17,q18,q19,q20,q21,q22⟩
   · have l0:L 9=true:=by have:=hd _ rfl;simp [Region.binds] at this;simp [this]
     have f9:=(hv 9 41 rfl l0).trans (q9 l0)
     refine Ri.step_plain rfl rfl (fun K' hK=>?_)
     go_simp
     exact hK _ _ ⟨_,_,rfl,rfl,hb,q0,q1,q2,q3,q4,q5,q6,q7,q8,q9,fun _=>rfl,q11,q12,q13,q14,q15,q16,q17,q18,q19,q20,q21,q22⟩
   · have l0:L 10=true:=by have:=hd _ rfl;simp [Region.binds] at this;simp [this]
     have f10:=(hv 10 42 rfl l0).trans (q10 l0)
     have e3:xa.tmps.getD 3 undef=.pointer (some ⟨u3.heap.size,0,none⟩):=ho 3 (by kernel_rfl)
     refine Ri.step_wanted (b:=false) rfl rfl rfl f10 (fun K' hK=>?_)
     obtain ⟨d0,d1,d2,d3,d4,d5,d6,d7,d8,d9⟩:=allTen (keep_blk hb XM.out)
     go_simp
     exact hK _ _ ⟨_,_,rfl,rfl,hb,q0,q1,q2,q3,q4,q5,q6,q7,q8,q9,q10,fun _=>rfl,q12,q13,q14,q15,q16,q17,q18,q19,q20,q21,q22⟩
   · have l0:L 10=true:=by have:=hd _ rfl;simp [Region.binds] at this;simp [this]
     have f10:=(hv 10 42 rfl l0).trans (q10 l0)
     have e1:xa.tmps.getD 1 undef=.pointer (some ⟨w.heap.size,0,none⟩):=ho 1 (by kernel_rfl)
     refine Ri.step_wanted (b:=false) rfl rfl rfl f10 (fun K' hK=>?_)
     obtain ⟨d0,d1,d2,d3,d4,d5,d6,d7,d8,d9⟩:=allTen (keep_blk hb X0.out)
     go_simp
     exact hK _ _ ⟨_,_,rfl,rfl,hb,q0,q1,q2,q3,q4,q5,q6,q7,q8,q9,q10,q11,fun _=>rfl,q13,q14,q15,q16,q17,q18,q19,q20,q21,q22⟩
   · have l0:L 10=true∧L 11=true∧L 12=true:=by have:=hd _ rfl;simp [Region.binds] at this;simp [this]
     have f10:=(hv 10 42 rfl l0.1).trans (q10 l0.1)
     have f11:=(hv 11 43 rfl l0.2.1).trans (q11 l0.2.1)
     have f12:=(hv 12 44 rfl l0.2.2).trans (q12 l0.2.2)
     refine Ri.step_wanted (b:=false) rfl rfl rfl f10 (fun K' hK=>?_)
     go_simp
     refine (HS2.out _ hb).mono ?_
     rintro e w8 ⟨rfl,hb8⟩
     exact hK _ _ ⟨_,_,rfl,rfl,hb.trans (hb8.mono hb.size),q0,q1,q2,q3,q4,q5,q6,q7,q8,q9,q10,q11,q12,fun _=>rfl,q14,q15,q16,q17,q18,q19,q20,q21,q22⟩
   · have l0:L 10=true∧L 13=true:=by have:=hd _ rfl;simp [Region.binds] at this;simp [this]
     have f10:=(hv 10 42 rfl l0.1).trans (q10 l0.1)
     have f13:=(hv 13 45 rfl l0.2).trans (q13 l0.2)
     refine Ri.step_wanted (b:=false) rfl rfl rfl f10 (fun K' hK=>?_)
     go_simp
     exact hK _ _ ⟨_,_,rfl,rfl,hb,q0,q1,q2,q3,q4,q5,q6,q7,q8,q9,q10,q11,q12,q13,fun _=>rfl,q15,q16,q17,q18,q19,q20,q21,q22⟩
   · have l0:L 10=true∧L 14=true:=by have:=hd _ rfl;simp [Region.binds] at this;simp [this]
     have f10:=(hv 10 42 rfl l0.1).trans (q10 l0.1)
     have f14:=(hv 14 46 rfl l0.2).trans (q14 l0.2)
     refine Ri.step_plain rfl rfl (fun K' hK=>?_)
     go_simp
     exact hK _ _ ⟨_,_,rfl,rfl,hb,q0,q1,q2,q3,q4,q5,q6,q7,q8,q9,q10,q11,q12,q13,q14,fun _=>rfl,q16,q17,q18,q19,q20,q21,q22⟩
   · have l0:L 15=true:=by have:=hd _ rfl;simp [Region.binds] at this;simp [this]
     have f15:=(hv 15 47 rfl l0).trans (q15 l0)
     refine Ri.step_plain rfl rfl (fun K' hK=>?_)
     go_simp
     exact hK _ _ ⟨_,_,rfl,rfl,hb,q0,q1,q2,q3,q4,q5,q6,q7,q8,q9,q10,q11,q12,q13,q14,q15,fun _=>rfl,q17,q18,q19,q20,q21,q22⟩
   · have l0:L 16=true:=by have:=hd _ rfl;simp [Region.binds] at this;simp [this]
     have f16:=(hv 16 48 rfl l0).trans (q16 l0)
     have e3:xa.tmps.getD 3 undef=.pointer (some ⟨u3.heap.size,0,none⟩):=ho 3 (by kernel_rfl)
     refine Ri.step_wanted (b:=false) rfl rfl rfl f16 (fun K' hK=>?_)
     obtain ⟨d0,d1,d2,d3,d4,d5,d6,d7,d8,d9⟩:=allTen (keep_blk hb XM.out)
     go_simp
     exact hK _ _ ⟨_,_,rfl,rfl,hb,q0,q1,q2,q3,q4,q5,q6,q7,q8,q9,q10,q11,q12,q13,q14,q15,q16,fun _=>rfl,q18,q19,q20,q21,q22⟩
   · have l0:L 16=true∧L 17=true:=by have:=hd _ rfl;simp [Region.binds] at this;simp [this]
     have f16:=(hv 16 48 rfl l0.1).trans (q16 l0.1)
     have f17:=(hv 17 49 rfl l0.2).trans (q17 l0.2)
     refine Ri.step_wanted (b:=false) rfl rfl rfl f16 (fun K' hK=>?_)
     go_simp
     refine (HP1.out _ hb).mono ?_
     rintro e w8 ⟨rfl,hb8⟩
     exact hK _ _ ⟨_,_,rfl,rfl,hb.trans (hb8.mono hb.size),q0,q1,q2,q3,q4,q5,q6,q7,q8,q9,q10,q11,q12,q13,q14,q15,q16,q17,fun _=>rfl,q19,q20,q21,q22⟩
   · have l0:L 16=true:=by have:=hd _ rfl;simp [Region.binds] at this;simp [this]
     have f16:=(hv 16 48 rfl l0).trans (q16 l0)
     have e1:xa.tmps.getD 1 undef=.pointer (some ⟨w.heap.size,0,none⟩):=ho 1 (by kernel_rfl)
     refine Ri.step_wanted (b:=false) rfl rfl rfl f16 (fun K' hK=>?_)
     obtain ⟨d0,d1,d2,d3,d4,d5,d6,d7,d8,d9⟩:=allTen (keep_blk hb X0.out)
     go_simp
     exact hK _ _ ⟨_,_,rfl,rfl,hb,q0,q1,q2,q3,q4,q5,q6,q7,q8,q9,q10,q11,q12,q13,q14,q15,q16,q17,q18,fun _=>rfl,q20,q21,q22⟩
   · have l0:L 16=true∧L 19=true:=by have:=hd _ rfl;simp [Region.binds] at this;simp [this]
     have f16:=(hv 16 48 rfl l0.1).trans (q16 l0.1)
     have f19:=(hv 19 51 rfl l0.2).trans (q19 l0.2)
     refine Ri.step_wanted (b:=false) rfl rfl rfl f16 (fun K' hK=>?_)
     go_simp
     refine (HP2.out _ hb).mono ?_
     rintro e w8 ⟨rfl,hb8⟩
     exact hK _ _ ⟨_,_,rfl,rfl,hb.trans (hb8.mono hb.size),q0,q1,q2,q3,q4,q5,q6,q7,q8,q9,q10,q11,q12,q13,q14,q15,q16,q17,q18,q19,fun _=>rfl,q21,q22⟩
   · have l0:L 16=true∧L 18=true∧L 20=true:=by have:=hd _ rfl;simp [Region.binds] at this;simp [this]
     have f16:=(hv 16 48 rfl l0.1).trans (q16 l0.1)
     have f18:=(hv 18 50 rfl l0.2.1).trans (q18 l0.2.1)
     have f20:=(hv 20 52 rfl l0.2.2).trans (q20 l0.2.2)
     refine Ri.step_wanted (b:=false) rfl rfl rfl f16 (fun K' hK=>?_)
     go_simp
     exact hK _ _ ⟨_,_,rfl,rfl,hb,q0,q1,q2,q3,q4,q5,q6,q7,q8,q9,q10,q11,q12,q13,q14,q15,q16,q17,q18,q19,q20,fun _=>rfl,q22⟩
   · have l0:L 16=true∧L 21=true:=by have:=hd _ rfl;simp [Region.binds] at this;simp [this]
     have f16:=(hv 16 48 rfl l0.1).trans (q16 l0.1)
     have f21:=(hv 21 53 rfl l0.2).trans (q21 l0.2)
     refine Ri.step_plain rfl rfl (fun K' hK=>?_)
     go_simp
     exact hK _ _ ⟨_,_,rfl,rfl,hb,q0,q1,q2,q3,q4,q5,q6,q7,q8,q9,q10,q11,q12,q13,q14,q15,q16,q17,q18,q19,q20,q21,fun _=>rfl⟩
 · rintro v w9 ⟨hb,-,-,-,-,-,-,-,-,-,-,-,-,-,-,-,-,-,-,-,-,-,-,q22⟩
   have q22':v 22=.bool false:=q22 rfl
   simp only [Ri.frame,List.zipIdx,List.foldl_cons,List.foldl_nil,if_true,List.setIfInBounds_toArray,List.set_cons_zero,List.set_cons_succ,Nat.reduceAdd,q22']
   clear q22 q22'
   generalize v 0=y0;generalize v 1=y1;generalize v 2=y2;generalize v 3=y3;generalize v 4=y4;generalize v 5=y5;generalize v 6=y6;generalize v 7=y7;generalize v 8=y8;generalize v 9=y9;generalize v 10=y10;generalize v 11=y11;generalize v 12=y12;generalize v 13=y13;generalize v 14=y14;generalize v 15=y15;generalize v 16=y16;generalize v 17=y17;generalize v 18=y18;generalize v 19=y19;generalize v 20=y20;generalize v 21=y21
   have XM9:=Lib.hid (keep_blk hb XM.out);have XA9:=Lib.hid (keep_blk hb XA.out);have XB9:=Lib.hid (keep_blk hb XB.out);have XW9:=Lib.hid (keep_blk hb XW.out)
   have HM9:=Lib.hid (HOM9.out.later hb);have HA9:=Lib.hid (HOA9.out.later hb);have HB9:=Lib.hid (HOB9.out.later hb);have HW9:=Lib.hid (HTW.out.later hb)
   have HBB:=Lib.hid (HB.out.trans (hb.mono HB.out.size))
   clear hb HNU HS1 HS2 HP1 HP2 XM XA XB XW X0 HB HOM9 HOA9 HOB9 HTW H4n H6n H8n
   go_wp2_with (first
     | (refine wpList_load_row rfl 37 (.tmp 3) rfl u3.heap.size rfl 37 _ (0,0) _ XM9.out Tryd.underlying37 rfl (by kernel_rfl) ?_)
     | fail)
   refine (spoil_any t w9 (.slice pm t.subs.length cm) Fm HM9.out).mono ?_
   rintro e v1 ⟨rfl,ht1⟩
   have hA1:∀ k,u3.heap.size ≤ k→k < w9.heap.size→v1.heap[k]? = w9.heap[k]?:=fun k h1 h2=>ht1.block k h2 (fun hm=>by have:=HFM.out k hm;omega)
   have XA1:=Lib.hid ((hA1 _ (by have:=HZ5.out;omega) (Array.getElem?_eq_some_iff.1 XA9.out).1).trans XA9.out)
   have XB1:=Lib.hid ((hA1 _ (by have:=HZ5.out;have:=HZ7.out;omega) (Array.getElem?_eq_some_iff.1 XB9.out).1).trans XB9.out)
   have XW1:=Lib.hid ((hA1 _ (by have:=HZ5.out;have:=HZ7.out;have:=HZ9.out;omega) (Array.getElem?_eq_some_iff.1 XW9.out).1).trans XW9.out)
   have HA1:=Lib.hid (HA9.out.keep (w':=v1) fun b hb=>hA1 b (by have:=HFA.out b hb;omega) (HA9.out.lt b hb))
   have HB1:=Lib.hid (HB9.out.keep (w':=v1) fun b hb=>hA1 b (by have:=HFB.out b hb;have:=HZ5.out;omega) (HB9.out.lt b hb))
   have HW1:=Lib.hid (HW9.out.keep (w':=v1) fun b hlt hb=>hA1 b (by have:=HZ5.out;have:=HZ7.out;omega) hlt)
   have HBB1:=Lib.hid (HBB.out.trans (ht1.below (fun k hk=>by have:=HFM.out k hk;omega) HBB.out.size))
   clear hA1 ht1 XM9 XA9 XB9 XW9 HM9 HA9 HB9 HW9 HBB
   have HS3:=Lib.hid ((samenodes_any o o v1 _ _ (.agg (o.cells (.slice pa o.subs.length ca))) (.agg (o.cells (.slice pw o.subs.length cw))) ⟨_,rfl,HA1.out.trees⟩ ⟨_,rfl,HW1.out⟩).mono (fun e w' h=>h.yes rfl))
   unfold Tr.cells at HS3
   go_wp2_with (first
     | (refine wpList_load_row rfl 37 (.tmp 4) rfl u5.heap.size rfl 37 _ (0,0) _ XA1.out Tryd.underlying37 rfl (by kernel_rfl) ?_)
     | (refine wpList_load_row rfl 37 (.tmp 8) rfl u9.heap.size rfl 37 _ (0,0) _ XW1.out Tryd.underlying37 rfl (by kernel_rfl) ?_)
     | fail)
   refine HS3.out.mono ?_
   rintro e v2 ⟨rfl,hb2⟩
   have XA2:=Lib.hid (keep_blk hb2 XA1.out);have XB2:=Lib.hid (keep_blk hb2 XB1.out);have XW2:=Lib.hid (keep_blk hb2 XW1.out)
   have HA2:=Lib.hid (HA1.out.later hb2);have HB2:=Lib.hid (HB1.out.later hb2);have HW2:=Lib.hid (HW1.out.later hb2)
   have HBB2:=Lib.hid (HBB1.out.trans (hb2.mono HBB1.out.size))
   clear hb2 HS3 XA1 XB1 XW1 HA1 HB1 HW1 HBB1
   have HSP:=Lib.hid (exspoil_any Fa v2 (.pointer (some ⟨u5.heap.size,0,none⟩)) o.ndT ⟨u5.heap.size,0,o,.slice pa o.subs.length ca,Fa,rfl,ten_row XA2.out,HA2.out,fun hm=>by have:=HFA.out _ hm;omega,fun _ hb=>hb,rfl⟩)
   go_wp2_with fail
   refine HSP.out.mono ?_
   rintro e v3 ⟨rfl,ht3⟩
   have hA3:∀ k,u5.heap.size ≤ k→k < v2.heap.size→v3.heap[k]? = v2.heap[k]?:=fun k h1 h2=>ht3.block k h2 (fun hm=>by have:=HFA.out k hm;omega)
   have XB3:=Lib.hid ((hA3 _ (by have:=HZ7.out;omega) (Array.getElem?_eq_some_iff.1 XB2.out).1).trans XB2.out)
   have XW3:=Lib.hid ((hA3 _ (by have:=HZ7.out;have:=HZ9.out;omega) (Array.getElem?_eq_some_iff.1 XW2.out).1).trans XW2.out)
   have HB3:=Lib.hid (HB2.out.keep (w':=v3) fun b hb=>hA3 b (by have:=HFB.out b hb;omega) (HB2.out.lt b hb))
   have HW3:=Lib.hid (HW2.out.keep (w':=v3) fun b hlt hb=>hA3 b (by have:=HZ7.out;omega) hlt)
   have HBB3:=Lib.hid (HBB2.out.trans (ht3.below (fun k hk=>by have:=HFA.out k hk;have:=HZ3.out;omega) HBB2.out.size))
   clear hA3 ht3 XA2 XB2 XW2 HA2 HB2 HW2 HBB2 HSP
   have HS4:=Lib.hid ((samenodes_any o o v3 _ _ (.agg (o.cells (.slice pb o.subs.length cb))) (.agg (o.cells (.slice pw o.subs.length cw))) ⟨_,rfl,HB3.out.trees⟩ ⟨_,rfl,HW3.out⟩).mono (fun e w' h=>h.yes rfl))
   unfold Tr.cells at HS4
   go_wp2_with (first
     | (refine wpList_load_row rfl 37 (.tmp 6) rfl u7.heap.size rfl 37 _ (0,0) _ XB3.out Tryd.underlying37 rfl (by kernel_rfl) ?_)
     | (refine wpList_load_row rfl 37 (.tmp 8) rfl u9.heap.size rfl 37 _ (0,0) _ XW3.out Tryd.underlying37 rfl (by kernel_rfl) ?_)
     | fail)
   refine HS4.out.mono ?_
   rintro e v4 ⟨rfl,hb4⟩
   have HBB4:=Lib.hid (HBB3.out.trans (hb4.mono HBB3.out.size))
   clear hb4 HS4
   go_wp2
   go_ret
   exact ⟨rfl,HBB4.out⟩
end Go.Proofs.YtogdjbnejpennaaDoor
