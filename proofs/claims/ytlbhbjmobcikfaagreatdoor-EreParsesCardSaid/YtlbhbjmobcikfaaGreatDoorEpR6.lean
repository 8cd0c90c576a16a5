/- Part 6 of what these proofs need. -/
import Derived.ChangeOld
import Derived.Deep.Slices
import Derived.Laws.IdiomArrays
import Derived.Lib.SmallJoins
import Derived.Lib.LaidTab
import Derived.Lib.ItoaNum
import Derived.Lib.AppendIntMem
import Derived.LaidLaws
import Derived.Test.YtlbhbjmobcikfaaGreatDoorEpR5
set_option maxRecDepth 100000
set_option maxHeartbeats 16000000
namespace Go.Proofs.YtlbhbjmobcikfaaGreatDoor
open Go.RowKit
theorem own_one {w:World} {base:Nat} {x:Tr} {s:Value} (hb:base ≤ w.heap.size):(w.alloc (.cells (x.cells s) 28)).ownsRow base 28 10 (.slice (some ⟨w.heap.size,0,none⟩) 1 1) 1 (rowOf [(x,s)]) :=
 ⟨rfl,.inr ⟨w.heap.size,1,x.cells s,rfl,hb,heap_alloc_new w _,Nat.le_refl _,by unfold maxLen;decide,rfl,by simp [rowOf,Tr.cells]⟩⟩
theorem SRow.one {w:World} {base:Nat} {ov:Value} {x:Tr} {s:Value} (hb:base ≤ w.heap.size) (hx:TreesAt w (fun b=>base ≤ b∧ov.ownBlock ≠ some b) s x.subs) (ho:∀ b,ov.ownBlock=some b→b < w.heap.size):SRow (w.alloc (.cells (x.cells s) 28)) base ov (.slice (some ⟨w.heap.size,0,none⟩) 1 1) [(x,s)]:=by
 refine ⟨own_one hb,fun i t s' hi=>?_,fun b h=>?_⟩
 · have hi0:i=0:=by
     cases i with
     | zero=>rfl
     | succ i=>simp at hi
   subst hi0
   simp only [List.getElem?_cons_zero,Option.some.injEq,Prod.mk.injEq] at hi
   obtain ⟨rfl,rfl⟩:=hi
   exact (hx.mono (B':=fun b=>(base ≤ b∧(Value.slice (some ⟨w.heap.size,0,none⟩) 1 1).ownBlock ≠ some b)∧ov.ownBlock ≠ some b) fun b hb hP=>⟨⟨hP.1,fun e=>by have:w.heap.size=b:=Option.some.inj e;omega⟩,hP.2⟩).later ((Below.refl _ _).alloc (Nat.le_refl _) _)
 · have e:w.heap.size=b:=Option.some.inj h
   intro h2;have:=ho b h2;omega
theorem alts_unfold {f:Nat→Nat} {n d:Nat} {ic nl:Bool} {H:Nat→Nat→Ep.Out} {k:Nat} {l:List Tr} {i g:Nat} : esb d f (Ep.alts f n ic nl H (k+1) l i g)=match esb d f (Ep.branch f n ic nl H (n+1) [] i g) with
   | .err c p=>.err c p
   | .ok t j g'=>if f j=124 then esb d f (Ep.alts f n ic nl H k (l ++ [t]) (j+1) g') else .ok (.several 6 (l ++ [t])) j g':=by
 rw [Ep.alts]
 cases hb:Ep.branch f n ic nl H (n+1) [] i g with
 | err c p=>rfl
 | ok t j g' =>
   by_cases h:d=0∧f j=41
   · have h1:esb d f (.ok t j g')=.err 2 j:=if_pos h
     rw [h1]
     simp only
     rw [if_neg (by omega)]
     exact if_pos h
   · have h1:esb d f (.ok t j g')=.ok t j g':=if_neg h
     rw [h1]
     simp only
     by_cases hc:f j=124
     · rw [if_pos hc,if_pos hc]
     · rw [if_neg hc,if_neg hc];exact if_neg h
theorem EsEnd.cases {P:Nat→Prop} {R:Nat} {s:ByteArray} {fl:Int} {d:Nat} {ov:Value} {O:Ep.Out} {w:World} {e:Ending} {w':World} (h:EsEnd P R s fl d ov O w e w') :
   ∃ (ov':Value) (x:Tr) (p:Option Addr) (l k:Nat),e=.returned (.agg (x.cells (.slice p l k)))∧(ov'.ownBlock=ov.ownBlock ∨ ∃ b,ov'.ownBlock=some b∧w.heap.size ≤ b)∧Opn w' R d ov'∧Touch (obs R ov) w w' ∧
     ((∃ j g,O=.ok x j g∧TreesAt w' (fun b=>(P b ∨ w.heap.size ≤ b)∧ov'.ownBlock ≠ some b) (.slice p l k) x.subs∧w'.heap[R]? = some (.cells (stC s j fl g ov' 0 0) 60)) ∨
      (∃ c q i g,O=.err c q∧c ≠ 0∧w'.heap[R]? = some (.cells (stC s i fl g ov' c q) 60)∧i+d ≤ s.size+64∧g ≤ s.size)):=by
 obtain ⟨ov',h1,h2,h3,h4⟩:=h
 cases O with
 | ok t j g =>
   obtain ⟨v,h5,h6,h7⟩:=h4
   obtain ⟨p,c,rfl,-⟩:=h6.slice
   exact ⟨ov',t,p,_,c,h5,h1,h2,h3,.inl ⟨j,g,rfl,h6,h7⟩⟩
 | err c q =>
   obtain ⟨h5,x,p,l,k,i,g,h6,h7,h8⟩:=h4
   exact ⟨ov',x,p,l,k,h6,h1,h2,h3,.inr ⟨c,q,i,g,rfl,h5,h7,h8⟩⟩
theorem espattern_any (w:World) (R:Nat) (s:ByteArray) (hs:s.size ≤ 1024) (i0:Nat) (fl:Int) (g0:Nat) (ov:Value) (d:Nat) (hR:w.heap[R]? = some (.cells (stC s i0 fl g0 ov 0 0) 60)) (hop:Opn w R d ov) (hi0:i0 ≤ s.size) (hd:d ≤ 32) (hdi:d ≤ i0) (hg0:2 * g0 ≤ i0+d)
   (H:Nat→Nat→Ep.Out) (hA:Ep.Ahead s.size H) (hH:Ep.Right s.size d H)
   (HG:∀ i g ov w,i < s.size→d ≤ i→2 * g ≤ i+d→bt s i=40→w.heap[R]? = some (.cells (stC s i fl g ov 0 0) 60)→Opn w R d ov→Calls Tryz.prog 94 #[.pointer (some ⟨R,0,none⟩),.int .i64 (i:Int)] w (EsEnd (fun _=>False) R s fl d ov (H i g) w))
   (O:Ep.Out) (hO:Ep.alts (bt s) s.size (icB fl) (nlB fl) H (s.size+1) [] i0 g0=O) :
   Calls Tryz.prog 31 #[.pointer (some ⟨R,0,none⟩)] w (EsEnd (fun _=>False) R s fl d ov (esb d (bt s) O) w):=by
 have hlt:=st_lt hR
 have hb0:Below w.heap.size w (w.alloc (.cells #[.int .i64 0,.int .u64 0,.int .u64 0,.int .u64 0,.int .u64 0,.slice none 0 0,.int .i64 0,.int .i64 0,.int .i64 0,.bool false] 28)):=(Below.refl _ _).alloc (Nat.le_refl _) _
 have hnov:ov.ownBlock ≠ some w.heap.size:=fun e=>by have:=(hop.lt e).2;omega
 have HC0:=Lib.hid (keep_blk hb0 hR);have HOP0:=Lib.hid (hop.later hb0);have HT0:=Lib.hid (Touch.of_below (obs R ov) hb0)
 have Z0:=Lib.hid (heap_alloc_new w (.cells #[.int .i64 0,.int .u64 0,.int .u64 0,.int .u64 0,.int .u64 0,.slice none 0 0,.int .i64 0,.int .i64 0,.int .i64 0,.bool false] 28))
 have HU:=Lib.hid (alts_unfold (f:=bt s) (n:=s.size) (d:=d) (ic:=icB fl) (nl:=nlB fl) (H:=H) (k:=s.size) (l:=[]) (i:=i0) (g:=g0))
 rw [hO] at HU
 have HBC:=Lib.hid (fun (w':World) (i g:Nat) (ov':Value) (h1:w'.heap[R]? = some (.cells (stC s i fl g ov' 0 0) 60)) (h2:Opn w' R d ov') (h3:i ≤ s.size) (h4:d ≤ i) (h5:2 * g ≤ i+d)=>esbranch_any w' R s hs i fl g ov' d h1 h2 h3 hd h4 h5 H hA hH HG _ rfl)
 have HNX:=Lib.hid (fun (i g:Nat) (t:Tr) (j g':Nat) (hi:i ≤ s.size) (hg:2 * g ≤ i+d) (h:esb d (bt s) (Ep.branch (bt s) s.size (icB fl) (nlB fl) H (s.size+1) [] i g)=.ok t j g')=>show i ≤ j∧j ≤ s.size∧2 * g' ≤ j+d from by
   cases hb:Ep.branch (bt s) s.size (icB fl) (nlB fl) H (s.size+1) [] i g with
   | err c p=>rw [hb] at h;cases h
   | ok t' j' g2 =>
     have h1:=Ep.branch_next (bt_txt s) hA hi hb
     have h2:=Ep.branch_form (bt_txt s) hA hH hi (fun x hx=>by cases hx) hg hb
     rw [hb] at h
     unfold esb at h
     simp only at h
     split at h
     · cases h
     · injection h with q1 q2 q3
       subst q1 q2 q3
       exact ⟨h1.1,h1.2,h2.2⟩)
 clear hR hop hb0 hO hA hH HG
 go_enter Tryz.func31,Tryz.ntmps31
 obtain ⟨ie,hi0',hz0,hz1,hz2⟩:=info_parts Tryz.infoNode
 have HI:=Lib.hid hi0';have HZ0:=Lib.hid hz0;have HZ1:=Lib.hid hz1;have HZ2:=Lib.hid hz2
 clear hi0' hz0 hz1 hz2
 go_wp2_with fail
 have hW0:(w.alloc (.cells #[.int .i64 0,.int .u64 0,.int .u64 0,.int .u64 0,.int .u64 0,.slice none 0 0,.int .i64 0,.int .i64 0,.int .i64 0,.bool false] 28)).heap.size=w.heap.size+1:=by simp
 generalize World.alloc w _=W0 at *
 refine (HBC.out W0 i0 g0 ov HC0.out HOP0.out hi0 hdi hg0).mono ?_
 intro e w5 he
 obtain ⟨ov5,x,p5,l5,k5,rfl,hr5,ho5,ht5,hAB⟩:=he.cases
 have Z5:=Lib.hid (he.keepsBlk Z0.out (by omega) hnov)
 have HAB:=Lib.hid hAB
 have HT5:=Lib.hid (HT0.out.trans ht5);have HO5:=Lib.hid ho5;have hs5:=ht5.size
 clear he hAB ho5 ht5
 go_upto_region 2 with (first
   | (refine wpList_node1 rfl (.tmp 5) x p5 l5 k5 rfl rfl ?_)
   | fail)
 have hbx:Below w5.heap.size w5 (w5.alloc (.cells (x.cells (.slice p5 l5 k5)) 28)):=(Below.refl _ _).alloc (Nat.le_refl _) _
 have HT6:=Lib.hid (HT5.out.later hbx);have HO6:=Lib.hid (HO5.out.later hbx);have Z6:=Lib.hid (keep_blk hbx Z5.out)
 have hrl6:ov5.ownBlock=ov.ownBlock ∨ ∃ b,ov5.ownBlock=some b∧w.heap.size+1 ≤ b:=by
   rcases hr5 with e1 | ⟨b',e1,e2⟩
   · exact .inl e1
   · exact .inr ⟨b',e1,by omega⟩
 have hst:(∃ k i g:Nat,s.size - i ≤ k∧i ≤ s.size∧d ≤ i∧2 * g ≤ i+d∧[(x,Value.slice p5 l5 k5)].length ≤ i+1∧Hid ((if bt s i=124 then esb d (bt s) (Ep.alts (bt s) s.size (icB fl) (nlB fl) H k ([(x,Value.slice p5 l5 k5)].map (·.1)) (i+1) g) else .ok (.several 6 ([(x,Value.slice p5 l5 k5)].map (·.1))) i g)=esb d (bt s) O)∧Hid ((w5.alloc (.cells (x.cells (.slice p5 l5 k5)) 28)).heap[R]? = some (.cells (stC s i fl g ov5 0 0) 60))∧Hid (SRow (w5.alloc (.cells (x.cells (.slice p5 l5 k5)) 28)) (w.heap.size+1) ov5 (.slice (some ⟨w5.heap.size,0,none⟩) 1 1) [(x,Value.slice p5 l5 k5)])) ∨
    (∃ (c:Nat) (q:Int) (i g:Nat),c ≠ 0∧Hid (esb d (bt s) O=.err c q)∧i+d ≤ s.size+64∧g ≤ s.size∧Hid ((w5.alloc (.cells (x.cells (.slice p5 l5 k5)) 28)).heap[R]? = some (.cells (stC s i fl g ov5 c q) 60))∧Hid ((w5.alloc (.cells (x.cells (.slice p5 l5 k5)) 28)).ownsRow (w.heap.size+1) 28 10 (.slice (some ⟨w5.heap.size,0,none⟩) 1 1) 1 (rowOf [(x,Value.slice p5 l5 k5)]))∧Hid (Slc [(x,Value.slice p5 l5 k5)])∧(∀ b,(Value.slice (some ⟨w5.heap.size,0,none⟩) 1 1).ownBlock=some b→ov5.ownBlock ≠ some b)):=by
   rcases HAB.out with ⟨j,g,hO5,htr5,hc5⟩ | ⟨c,q,i5,g5,hO5,hcn,hc5,hi5,hg5⟩
   · obtain ⟨q1,q2,q3⟩:=HNX.out i0 g0 x j g hi0 hg0 hO5
     have hu:=HU.out
     rw [hO5] at hu
     simp only at hu
     exact .inl ⟨s.size,j,g,by omega,q2,by omega,q3,by simp,Lib.hid hu.symm,Lib.hid (keep_blk hbx hc5),Lib.hid (SRow.one (by omega) (htr5.mono fun b _ hP=>⟨by rcases hP.1 with h | h;exact h.elim;omega,hP.2⟩) (fun b hb=>(HO5.out.lt hb).2))⟩
   · have hu:=HU.out
     rw [hO5] at hu
     exact .inr ⟨c,q,i5,g5,hcn,Lib.hid hu,hi5,hg5,Lib.hid (keep_blk hbx hc5),Lib.hid (own_one (by omega)),Lib.hid (fun i t s' hi=>by
       cases i with
       | zero=>simp only [List.getElem?_cons_zero,Option.some.injEq,Prod.mk.injEq] at hi;obtain ⟨rfl,rfl⟩:=hi;exact ⟨_,_,_,rfl⟩
       | succ i=>simp at hi),fun b h h2=>by have e:w5.heap.size=b:=Option.some.inj h;have:=(HO5.out.lt h2).2;omega⟩
 have H60:=Lib.hid hst
 clear hst hbx HAB HU
 unfold Tr.cells at HT6 HO6 Z6 H60 ⊢
 go_loopw [3] (fun sv wr=>∃ (ps:List (Tr × Value)) (ovr:Value),ps.length ≤ s.size+1∧Hid (Touch (obs R ov) w wr)∧(ovr.ownBlock=ov.ownBlock ∨ ∃ b,ovr.ownBlock=some b∧w.heap.size+1 ≤ b)∧Hid (Opn wr R d ovr)∧Hid (wr.heap[w.heap.size]? = some (.cells #[.int .i64 0,.int .u64 0,.int .u64 0,.int .u64 0,.int .u64 0,.slice none 0 0,.int .i64 0,.int .i64 0,.int .i64 0,.bool false] 28))∧w.heap.size < wr.heap.size ∧
   ((∃ k i g:Nat,s.size - i ≤ k∧i ≤ s.size∧d ≤ i∧2 * g ≤ i+d∧ps.length ≤ i+1∧Hid ((if bt s i=124 then esb d (bt s) (Ep.alts (bt s) s.size (icB fl) (nlB fl) H k (ps.map (·.1)) (i+1) g) else .ok (.several 6 (ps.map (·.1))) i g)=esb d (bt s) O)∧Hid (wr.heap[R]? = some (.cells (stC s i fl g ovr 0 0) 60))∧Hid (SRow wr (w.heap.size+1) ovr sv ps)) ∨
    (∃ (c:Nat) (q:Int) (i g:Nat),c ≠ 0∧Hid (esb d (bt s) O=.err c q)∧i+d ≤ s.size+64∧g ≤ s.size∧Hid (wr.heap[R]? = some (.cells (stC s i fl g ovr c q) 60))∧Hid (wr.ownsRow (w.heap.size+1) 28 10 sv ps.length (rowOf ps))∧Hid (Slc ps)∧(∀ b,sv.ownBlock=some b→ovr.ownBlock ≠ some b)))) (fun _ wr=>esM R s.size wr)
 case atStart=>exact ⟨[(x,Value.slice p5 l5 k5)],ov5,by simp,HT6,hrl6,HO6,Z6,blk_lt Z6.out,H60.out⟩
 case round =>
   obtain ⟨ps,ovr,hpl,HT,hrel1,HOP,Z,hsz,hAB⟩:=hrel
   have hrel0:ovr.ownBlock=ov.ownBlock ∨ ∃ b,ovr.ownBlock=some b∧w.heap.size ≤ b:=by
     rcases hrel1 with e | ⟨b,e,hb⟩
     · exact .inl e
     · exact .inr ⟨b,e,by omega⟩
   have hovw:ovr.ownBlock ≠ some w.heap.size:=by
     rcases hrel1 with e | ⟨b,e,hb⟩
     · rw [e];exact hnov
     · rw [e];intro h;have:=Option.some.inj h;omega
   clear H60 HT6 HO6 Z6 hrl6
   rcases hAB with ⟨k,i,g,hk,hil,hdl,hgl,hpi,HBR,HC,HSROW⟩ | ⟨c,q,i,g,hc0,HOE,hid,hgn,HC,HOWNB,HSLCB,hapB⟩
   · obtain ⟨c0,c1,c2,c3,c4,c5,c6⟩:=st7 HC.out
     have HM:=Lib.hid (esM_is HC.out s.size)
     have HIS:=Lib.hid (esis_any wr R s i fl g ovr 0 0 HC.out i 124 (by omega))
     by_cases h124:bt s i=124
     · have k124:(bt s i == 124)=true:=by rw [h124];rfl
       have hlt2:=(bt_txt s).lt h124 (by decide)
       obtain ⟨k,rfl⟩:∃ m,k=m+1:=⟨k - 1,by omega⟩
       have hbr:=HBR.out
       rw [if_pos h124,alts_unfold] at hbr
       have HBR2:=Lib.hid hbr
       have wi:IntKind.i64.wrap ((i:Int)+1)=(i:Int)+1:=IntWalk.i64_in _ (by omega)
       have hP3:=st_place HC.out (i+1) (v:=(i:Int)+1) (by omega)
       have ht3:Touch [R] wr (wr.setCell ⟨R,1,none⟩ (.int .i64 ((i:Int)+1))):=(Touch.refl [R] _).setCell List.mem_cons_self 1 _
       have HP3:=Lib.hid hP3;have HOP3:=Lib.hid (HOP.out.touch ht3);have HT3:=Lib.hid (HT.out.trans (ht3.obs (ov:=ov)))
       have Z3:=Lib.hid ((ht3.block w.heap.size (blk_lt Z.out) (by simp;omega)).trans Z.out)
       have HS3:=Lib.hid (HSROW.out.touch (ht3.obs (ov:=ovr)) (by omega) (.inl rfl))
       have hsz3:w.heap.size < (wr.setCell ⟨R,1,none⟩ (.int .i64 ((i:Int)+1))).heap.size:=blk_lt Z3.out
       obtain ⟨f1,f3,f4,f5,f6⟩:=stf HC.out
       clear hbr HBR hP3 ht3
       go_wp2_with fail
       refine HIS.out.mono ?_;rintro e w' ⟨rfl,rfl⟩
       rw [k124]
       go_wp2_with fail
       clear c0 c1 c2 c3 c4 c5 c6 f1 f3 f4 f5 f6 HIS HT HOP Z HC HSROW hsz
       generalize World.setCell _ _ _=W3 at *
       refine (HBC.out W3 (i+1) g ovr HP3.out HOP3.out (by omega) (by omega) (by omega)).mono ?_
       intro e w7 he
       obtain ⟨ov7,y,p7,l7,c7,rfl,hr7,ho7,ht7,hAB7⟩:=he.cases
       have Z7:=Lib.hid (he.keepsBlk Z3.out (by omega) hovw)
       have hrl7:ov7.ownBlock=ov.ownBlock ∨ ∃ b,ov7.ownBlock=some b∧w.heap.size+1 ≤ b:=by
         rcases hr7 with e1 | ⟨b',e1,e2⟩
         · rw [e1];exact hrel1
         · exact .inr ⟨b',e1,by omega⟩
       have hap7:∀ b,u3.ownBlock=some b→ov7.ownBlock ≠ some b:=fun b hb=>by
         have h1:=(HS3.out.own.lt b hb).2
         rcases hr7 with e1 | ⟨b',e1,e2⟩
         · rw [e1];exact HS3.out.apart b hb
         · rw [e1];intro h;have:=Option.some.inj h;omega
       have hu3:∀ b,u3.ownBlock=some b→b < W3.heap.size:=fun b hb=>(HS3.out.own.lt b hb).2
       have HOWN9:=Lib.hid (own_touch HS3.out.own ht7 (show R < w.heap.size+1 by omega) HS3.out.apart)
       have HS7:=Lib.hid (HS3.out.touch ht7 (show R < w.heap.size+1 by omega) hr7);have HSL:=Lib.hid HS3.out.slc
       have HT7:=Lib.hid (touch_obs HT3.out hrel1 ht7);have HO7:=Lib.hid ho7;have HAB7:=Lib.hid hAB7
       have hs7:w.heap.size < w7.heap.size:=blk_lt Z7.out
       clear he ho7 ht7 hAB7 hr7 HP3 HOP3 HT3 Z3 HS3
       have HOWA:=Lib.hid (HOWN9.out.alloc (.cells (y.cells (.slice p7 l7 c7)) 28))
       have HNW:Hid (∀ (jz:Nat) (zv:Value),(y.cells (.slice p7 l7 c7)).toList[jz]? = some zv→(w7.alloc (.cells (y.cells (.slice p7 l7 c7)) 28)).cell? ((⟨w7.heap.size,0,none⟩:Addr).add jz)=some zv):=Lib.hid (fun jz zv hu=>by
         have ea:(⟨w7.heap.size,0,none⟩:Addr).add jz=⟨w7.heap.size,jz,none⟩:=by unfold Addr.add;split <;> simp_all
         rw [ea,cell_new];simpa using hu)
       have HBA:Hid (w.heap.size+1 ≤ (w7.alloc (.cells (y.cells (.slice p7 l7 c7)) 28)).heap.size):=Lib.hid (by simp;omega)
       have hml:ps.length+1 ≤ maxLen:=by unfold maxLen;omega
       have hbyt:(ps.length+1) * 96 ≤ 140737488355328:=by omega
       have hbal:Below w7.heap.size w7 (w7.alloc (.cells (y.cells (.slice p7 l7 c7)) 28)):=(Below.refl _ _).alloc (Nat.le_refl _) _
       have HBAL:=Lib.hid hbal
       clear hbal
       unfold Tr.cells
       go_wp2_with (first
         | (refine wpList_load_row rfl 28 (.tmp 6) rfl w.heap.size rfl 28 _ (0,0) _ Z7.out Tryz.underlying28 rfl (by kernel_rfl) ?_)
         | (refine wpList_node1 rfl (.tmp 29) y p7 l7 c7 rfl rfl ?_)
         | (refine wpList_append_fresh _ rfl (.tmp 27) (.tmp 30) 26 rfl (w.heap.size+1) 28 ie _ 10 96 Tryz.underlying26 HI.out HZ0.out HZ1.out HZ2.out rfl (by decide) _ _ _ rfl HOWA.out ⟨w7.heap.size,0,none⟩ 1 1 (y.cells (.slice p7 l7 c7)).toList rfl rfl HNW.out (nodeC_one _ _ _ _) (by decide) hml hbyt HBA.out ?_;intro v' w4 hown4 hgrow4 hwhere)
         | fail)
       have hsvR:u3.ownBlock ≠ some R:=fun e=>by have:=(HOWN9.out.lt R e).1;omega
       have hsvw:u3.ownBlock ≠ some w.heap.size:=fun e=>by have:=(HOWN9.out.lt _ e).1;omega
       have key:∀ b x,w7.heap[b]? = some x→u3.ownBlock ≠ some b→w4.heap[b]? = some x:=fun b x hx hne=>(hgrow4.block b (Nat.lt_of_lt_of_le (blk_lt hx) HBAL.out.size) (fun e=>hne e.symm)).trans (keep_blk HBAL.out hx)
       have ht4:=(HT7.out.later HBAL.out).grown hgrow4 (fun b e=>by have:=(HOWN9.out.lt b e).1;omega)
       have hz4:=key w.heap.size _ Z7.out hsvw
       have hop4:=(HO7.out.later HBAL.out).grownx hgrow4 hap7
       rcases HAB7.out with ⟨j,g2,hO7,htr7,hc7⟩ | ⟨c,q,i7,g7,hO7,hcn,hc7,hi7,hg7⟩
       · obtain ⟨q1,q2,q3⟩:=HNX.out (i+1) g y j g2 (by omega) (by omega) hO7
         have hbr:=HBR2.out
         rw [hO7] at hbr
         simp only at hbr
         have hc4:=key R _ hc7 hsvR
         have HM4:=Lib.hid (esM_is hc4 s.size)
         have hx:TreesAt w7 (fun b=>(w.heap.size+1 ≤ b∧u3.ownBlock ≠ some b)∧ov7.ownBlock ≠ some b) (.slice p7 l7 c7) y.subs:=htr7.mono fun b _ hP=>⟨⟨by rcases hP.1 with h | h;exact h.elim;omega,fun e=>by have:=hu3 b e;rcases hP.1 with h | h;exact h.elim;omega⟩,hP.2⟩
         have hs4:=(HS7.out.later (R:=R) HBAL.out (by omega)).snoc (hx.later HBAL.out) hown4 hgrow4 hwhere (fun b hb=>Nat.lt_of_lt_of_le (HO7.out.lt hb).2 HBAL.out.size)
         refine ⟨⟨ps ++ [(y,.slice p7 l7 c7)],ov7,by rw [List.length_append];simp;omega,Lib.hid ht4,hrl7,Lib.hid hop4,Lib.hid hz4,blk_lt hz4,.inl ⟨k,j,g2,by omega,q2,by omega,q3,by rw [List.length_append];simp;omega,Lib.hid (by rw [List.map_append];exact hbr),Lib.hid hc4,Lib.hid hs4⟩⟩,by rw [HM4.out,HM.out];simp;omega⟩
       · have hbr:=HBR2.out
         rw [hO7] at hbr
         simp only at hbr
         have hc4:=key R _ hc7 hsvR
         have HM4:=Lib.hid (esM_is hc4 s.size)
         refine ⟨⟨ps ++ [(y,.slice p7 l7 c7)],ov7,by rw [List.length_append];simp;omega,Lib.hid ht4,hrl7,Lib.hid hop4,Lib.hid hz4,blk_lt hz4,.inr ⟨c,q,i7,g7,hcn,Lib.hid hbr.symm,hi7,hg7,Lib.hid hc4,Lib.hid (by rw [rowOf_snoc,List.length_append];exact hown4),Lib.hid HSL.out.snoc,apart_new hap7 HO7.out HBAL.out.size hwhere⟩⟩,by rw [HM4.out,HM.out,if_neg hcn];simp;omega⟩
     · have k124:(bt s i == 124)=false:=by rw [beq_eq_false_iff_ne];exact h124
       have hbr:=HBR.out
       rw [if_neg h124] at hbr
       have HESB0:=Lib.hid hbr
       have HTw:=HT;have Zw:=Z;have HOPw:=HOP;have HCw:=HC;have HSR:=HSROW
       have HOWN:=Lib.hid HSR.out.own;have HSLC:=Lib.hid HSR.out.slc
       clear hbr h124 HBR
       go_wp2_with fail
       refine HIS.out.mono ?_;rintro e w' ⟨rfl,rfl⟩
       rw [k124]
       go_wp2_with fail
       have hsev:=sev_slice HOWN.out HSLC.out
       obtain ⟨px,lx,cx,hsv⟩:=hsev
       have hcall:=esseveral_any 6 ps u3 (w.heap.size+1) wr HOWN.out (fun t s h=>HSLC.out 0 t s h) (by have:=hpl;omega)
       rw [hsv] at hcall
       have HTRX:=Lib.hid (by have:=HSR.out.sev 6 (by have:=hpl;omega);rw [hsv] at this;exact this)
       obtain ⟨T,hTE⟩:∃ T,Tr.several 6 (ps.map (·.1))=T:=⟨_,rfl⟩
       rw [hTE] at hcall HTRX
       have HESB:=Lib.hid (HESB0.out.symm.trans (by rw [hTE]))
       refine hcall.mono ?_
       rintro e w3 ⟨rfl,hb3⟩
       have Z3:=Lib.hid (keep_blk hb3 Zw.out);have HC3:=Lib.hid (keep_blk hb3 HCw.out);have HT3:=Lib.hid (HTw.out.later hb3);have HOP3:=Lib.hid (HOPw.out.later hb3)
       have HTR3:=Lib.hid (HTRX.out.later hb3)
       clear hcall hsv hb3 hTE
       unfold Tr.cells
       go_wp2_with (first
         | (refine wpList_store_row rfl 28 (.tmp 2) (.tmp 33) rfl w.heap.size #[.int .i64 T.kind,.int .u64 (Oc.U T.w0),.int .u64 (Oc.U T.w1),.int .u64 (Oc.U T.w2),.int .u64 (Oc.U T.w3),.slice px lx cx,.int .i64 T.num,.int .i64 T.least,.int .i64 T.most,.bool T.bare] rfl rfl 28 _ Z3.out (by kernel_rfl) rfl (by simp [Value.oneCell']) ?_)
         | fail)
       have hT:=HT3.out.setRow_new (Nat.le_refl w.heap.size) #[.int .i64 T.kind,.int .u64 (Oc.U T.w0),.int .u64 (Oc.U T.w1),.int .u64 (Oc.U T.w2),.int .u64 (Oc.U T.w3),.slice px lx cx,.int .i64 T.num,.int .i64 T.least,.int .i64 T.most,.bool T.bare]
       exact bodyPost_ret (results_cell_row rfl _ _ w.heap.size 28 #[.int .i64 T.kind,.int .u64 (Oc.U T.w0),.int .u64 (Oc.U T.w1),.int .u64 (Oc.U T.w2),.int .u64 (Oc.U T.w3),.slice px lx cx,.int .i64 T.num,.int .i64 T.least,.int .i64 T.most,.bool T.bare] (0,0) _ rfl (heap_setRow Z3.out) Tryz.underlying28 rfl (by kernel_rfl)) rfl (by rw [HESB.out];exact ⟨ovr,hrel0,HOP3.out.setRow hovw _,hT,.slice px lx cx,rfl,(HTR3.out.keep fun b _ hP=>heap_setRow_other _ _ _ (by omega)).mono fun b _ hP=>⟨.inr (by omega),hP.2⟩,(heap_setRow_other _ _ _ (by omega)).trans HC3.out⟩)
   · have hcz:((c:Int) == 0)=false:=by rw [beq_eq_false_iff_ne];omega
     have hcz':(c == 0)=false:=by rw [beq_eq_false_iff_ne];exact hc0
     obtain ⟨c0,c1,c2,c3,c4,c5,c6⟩:=st7 HC.out
     have HTw:=HT;have Zw:=Z;have HOPw:=HOP;have HCw:=HC
     have HOWN:=HOWNB;have HSLC:=HSLCB
     go_wp2_with fail
     have hsev:=sev_slice HOWN.out HSLC.out
     obtain ⟨px,lx,cx,hsv⟩:=hsev
     have hcall:=esseveral_any 6 ps u3 (w.heap.size+1) wr HOWN.out (fun t s h=>HSLC.out 0 t s h) (by have:=hpl;omega)
     rw [hsv] at hcall
     obtain ⟨T,hTE⟩:∃ T,Tr.several 6 (ps.map (·.1))=T:=⟨_,rfl⟩
     rw [hTE] at hcall
     refine hcall.mono ?_
     rintro e w3 ⟨rfl,hb3⟩
     have Z3:=Lib.hid (keep_blk hb3 Zw.out);have HC3:=Lib.hid (keep_blk hb3 HCw.out);have HT3:=Lib.hid (HTw.out.later hb3);have HOP3:=Lib.hid (HOPw.out.later hb3)
     clear hcall hsv hb3 hTE
     unfold Tr.cells
     go_wp2_with (first
       | (refine wpList_store_row rfl 28 (.tmp 2) (.tmp 33) rfl w.heap.size #[.int .i64 T.kind,.int .u64 (Oc.U T.w0),.int .u64 (Oc.U T.w1),.int .u64 (Oc.U T.w2),.int .u64 (Oc.U T.w3),.slice px lx cx,.int .i64 T.num,.int .i64 T.least,.int .i64 T.most,.bool T.bare] rfl rfl 28 _ Z3.out (by kernel_rfl) rfl (by simp [Value.oneCell']) ?_)
       | fail)
     have hT:=HT3.out.setRow_new (Nat.le_refl w.heap.size) #[.int .i64 T.kind,.int .u64 (Oc.U T.w0),.int .u64 (Oc.U T.w1),.int .u64 (Oc.U T.w2),.int .u64 (Oc.U T.w3),.slice px lx cx,.int .i64 T.num,.int .i64 T.least,.int .i64 T.most,.bool T.bare]
     exact bodyPost_ret (results_cell_row rfl _ _ w.heap.size 28 #[.int .i64 T.kind,.int .u64 (Oc.U T.w0),.int .u64 (Oc.U T.w1),.int .u64 (Oc.U T.w2),.int .u64 (Oc.U T.w3),.slice px lx cx,.int .i64 T.num,.int .i64 T.least,.int .i64 T.most,.bool T.bare] (0,0) _ rfl (heap_setRow Z3.out) Tryz.underlying28 rfl (by kernel_rfl)) rfl (by rw [HOE.out];exact ⟨ovr,hrel0,HOP3.out.setRow hovw _,hT,hc0,T,px,lx,cx,_,_,rfl,(heap_setRow_other _ _ _ (by omega)).trans HC3.out,hid,hgn⟩)
end Go.Proofs.YtlbhbjmobcikfaaGreatDoor
namespace Go.Proofs.YtlbhbjmobcikfaaGreatDoor
open Go.RowKit
theorem Tryz.infoInt:(Tryz.prog.info? 3).map (fun i=>(i.zero,i.size,i.bytes))=some (some (.int .i64 0),1,8):=by kernel_rfl
theorem esgroup_deep (w:World) (R:Nat) (s:ByteArray) (i:Nat) (fl:Int) (g:Nat) (ov:Value) (hR:w.heap[R]? = some (.cells (stC s i fl g ov 0 0) 60)) (hop:Opn w R 32 ov) (hi:i < s.size) (hgs:g ≤ s.size) :
   Calls Tryz.prog 94 #[.pointer (some ⟨R,0,none⟩),.int .i64 (i:Int)] w (EsEnd (fun _=>False) R s fl 32 ov (.err 11 i) w):=by
 have hlt:=st_lt hR
 have hb0:Below w.heap.size w (w.alloc (.cells #[.int .i64 0,.int .u64 0,.int .u64 0,.int .u64 0,.int .u64 0,.slice none 0 0,.int .i64 0,.int .i64 0,.int .i64 0,.bool false] 28)):=(Below.refl _ _).alloc (Nat.le_refl _) _
 have hnov:ov.ownBlock ≠ some w.heap.size:=fun e=>by have:=(hop.lt e).2;omega
 have hR1:=keep_blk hb0 hR
 have HR1:=Lib.hid hR1;have HOP1:=Lib.hid (hop.later hb0);have HB0:=Lib.hid hb0
 have Z0:=Lib.hid (heap_alloc_new w (.cells #[.int .i64 0,.int .u64 0,.int .u64 0,.int .u64 0,.int .u64 0,.slice none 0 0,.int .i64 0,.int .i64 0,.int .i64 0,.bool false] 28))
 have hRw:R ≠ w.heap.size:=by omega
 obtain ⟨po,co,hos⟩:=hop.slice
 obtain ⟨c0,c1,c2,c3,c4,c5,c6⟩:=st7 hR1
 rw [hos] at c4
 clear hR hop hb0 hR1
 go_enter Tryz.func94,Tryz.ntmps94
 go_wp2_with fail
 generalize World.alloc w _=W1 at *
 refine (esfault_any W1 R s i fl g ov 0 HR1.out 11 (i:Int)).mono ?_
 rintro e w7 ⟨rfl,hR7,ht7⟩
 have Z7:=Lib.hid ((ht7.block w.heap.size (blk_lt Z0.out) (by simp;omega)).trans Z0.out)
 have HR7:=Lib.hid hR7;have HT7:=Lib.hid ((Touch.of_below [R] HB0.out).trans ht7);have HOP7:=Lib.hid (HOP1.out.touch ht7)
 clear hR7 ht7
 go_wp2_with (first
   | (refine wpList_store_row rfl 28 (.tmp 4) (.tmp 16) rfl w.heap.size #[.int .i64 0,.int .u64 0,.int .u64 0,.int .u64 0,.int .u64 0,.slice none 0 0,.int .i64 0,.int .i64 0,.int .i64 0,.bool false] rfl rfl 28 _ Z7.out (by kernel_rfl) rfl (by simp [Value.oneCell']) ?_)
   | fail)
 have hT:=HT7.out.setRow_new (Nat.le_refl w.heap.size) #[.int .i64 0,.int .u64 0,.int .u64 0,.int .u64 0,.int .u64 0,.slice none 0 0,.int .i64 0,.int .i64 0,.int .i64 0,.bool false]
 exact bodyPost_ret (results_cell_row rfl _ _ w.heap.size 28 #[.int .i64 0,.int .u64 0,.int .u64 0,.int .u64 0,.int .u64 0,.slice none 0 0,.int .i64 0,.int .i64 0,.int .i64 0,.bool false] (0,0) _ rfl (heap_setRow Z7.out) Tryz.underlying28 rfl (by kernel_rfl)) rfl ⟨ov,.inl rfl,HOP7.out.setRow hnov _,hT.obs,by decide,Tr.leaf 0,_,_,_,_,_,rfl,(heap_setRow_other _ _ _ hRw).trans HR7.out,by omega,hgs⟩
def esgrp (f:Nat→Nat) (i g:Nat):Ep.Out→Ep.Out
 | .err c p=>.err c p
 | .ok t j g'=>if f j=41 then .ok (.grp (g+1:Nat) t) (j+1) g' else .err 2 i
theorem Touch.grown2 {F:List Nat} {a w w':World} {row:Option Nat} (h:Touch F a w) (hg:w.grownBy w' row) (hr:∀ k,row=some k→k ∈ F ∨ a.heap.size ≤ k):Touch F a w' :=
 ⟨hg.os.trans h.os,hg.tape.trans h.tape,hg.output.trans h.output,Nat.le_trans h.size hg.size,fun k hk hn=>(hg.block k (Nat.lt_of_lt_of_le hk h.size) (fun e=>by rcases hr k e.symm with h1 | h1;exact hn h1;omega)).trans (h.block k hk hn)⟩
theorem Opn.cut {w:World} {R d:Nat} {p:Option Addr} {cap:Nat} (h:Opn w R (d+1) (.slice p (d+1) cap)):Opn w R d (.slice p d cap)∧d ≤ cap∧∃ b,p=some ⟨b,0,none⟩:=by
 obtain ⟨xs,h⟩:=h
 rcases h.2 with ⟨h1,h2⟩ | ⟨g,cap',cur,h1,hb,hg,hn,hm,hc,ht⟩
 · omega
 · injection h1 with e1 e2 e3
   subst e1 e3
   exact ⟨⟨xs.take d,by have:=h.1;rw [List.length_take];omega,.inr ⟨g,cap,cur,rfl,hb,hg,by omega,hm,hc,by rw [← ht,List.take_take];congr 1;omega⟩⟩,by omega,g,rfl⟩
theorem esgroup_in (w:World) (R:Nat) (s:ByteArray) (hs:s.size ≤ 1024) (i:Nat) (fl:Int) (g:Nat) (ov:Value) (d:Nat) (hR:w.heap[R]? = some (.cells (stC s i fl g ov 0 0) 60)) (hop:Opn w R d ov) (hi:i < s.size) (hd:d < 32) (hgs:g ≤ s.size) (Q:Ep.Out)
   (HP:∀ w' ov',w'.heap[R]? = some (.cells (stC s (i+1) fl (g+1) ov' 0 0) 60)→Opn w' R (d+1) ov'→Calls Tryz.prog 31 #[.pointer (some ⟨R,0,none⟩)] w' (EsEnd (fun _=>False) R s fl (d+1) ov' Q w'))
   (hstop:∀ t j g',Q=.ok t j g'→j ≤ s.size∧g' ≤ s.size∧(j=s.size ∨ bt s j=41)) :
   Calls Tryz.prog 94 #[.pointer (some ⟨R,0,none⟩),.int .i64 (i:Int)] w (EsEnd (fun _=>False) R s fl d ov (esgrp (bt s) i g Q) w):=by
 have hlt:=st_lt hR
 have hb0:Below w.heap.size w (w.alloc (.cells #[.int .i64 0,.int .u64 0,.int .u64 0,.int .u64 0,.int .u64 0,.slice none 0 0,.int .i64 0,.int .i64 0,.int .i64 0,.bool false] 28)):=(Below.refl _ _).alloc (Nat.le_refl _) _
 have hnov:ov.ownBlock ≠ some w.heap.size:=fun e=>by have:=(hop.lt e).2;omega
 have hR1:=keep_blk hb0 hR
 have HR1:=Lib.hid hR1;have HOP1:=Lib.hid (hop.later hb0);have HB0:=Lib.hid hb0
 have Z0:=Lib.hid (heap_alloc_new w (.cells #[.int .i64 0,.int .u64 0,.int .u64 0,.int .u64 0,.int .u64 0,.slice none 0 0,.int .i64 0,.int .i64 0,.int .i64 0,.bool false] 28))
 have hRw:R ≠ w.heap.size:=by omega
 have hW1:(w.alloc (.cells #[.int .i64 0,.int .u64 0,.int .u64 0,.int .u64 0,.int .u64 0,.slice none 0 0,.int .i64 0,.int .i64 0,.int .i64 0,.bool false] 28)).heap.size=w.heap.size+1:=by simp
 have hsl:=hop.slice
 obtain ⟨po,co,hos⟩:=hsl
 obtain ⟨c0,c1,c2,c3,c4,c5,c6⟩:=st7 hR1
 rw [hos] at c4
 have hge:decide ((32:Int) ≤ (d:Int))=false:=by simp;omega
 have hge':decide (32 ≤ d)=false:=by simp;omega
 have HPP:=Lib.hid HP;have H60:=Lib.hid hstop
 clear hR hop hb0 hR1 HP hstop
 go_enter Tryz.func94,Tryz.ntmps94
 go_upto_region 4 with (fail)
 generalize World.alloc w _=W1 at *
 have hbA:Below W1.heap.size W1 (W1.alloc (.cells #[.int .i64 (i:Int)] 3)):=(Below.refl _ _).alloc (Nat.le_refl _) _
 have HBA:=Lib.hid hbA
 have hxs:=HOP1.out.later hbA
 obtain ⟨xs,hown⟩:=hxs
 rw [hos] at hown
 have HOWN:=Lib.hid hown
 have hovR:ov.ownBlock ≠ some R:=fun e=>by have:=(HOP1.out.lt e).1;omega
 rw [hos] at hovR
 have HC1:=Lib.hid (keep_blk hbA HR1.out)
 obtain ⟨ie,hi0',hz0,hz1,hz2⟩:=info_parts Tryz.infoInt
 have HI:=Lib.hid hi0';have HZ0:=Lib.hid hz0;have HZ1:=Lib.hid hz1;have HZ2:=Lib.hid hz2
 have HNW:Hid (∀ (jz:Nat) (zv:Value),([.int .i64 (i:Int)]:List Value)[jz]? = some zv→(W1.alloc (.cells #[.int .i64 (i:Int)] 3)).cell? ((⟨w.heap.size+1,0,none⟩:Addr).add jz)=some zv):=Lib.hid (fun jz zv hu=>by
   rw [← hW1]
   have ea:(⟨W1.heap.size,0,none⟩:Addr).add jz=⟨W1.heap.size,jz,none⟩:=by unfold Addr.add;split <;> simp_all
   rw [ea,cell_new];simpa using hu)
 have HBS:Hid (R+1 ≤ (W1.alloc (.cells #[.int .i64 (i:Int)] 3)).heap.size):=Lib.hid (by simp;omega)
 have hml:d+1 ≤ maxLen:=by unfold maxLen;omega
 have hbyt:(d+1) * 8 ≤ 140737488355328:=by omega
 clear hbA hown hi0' hz0 hz1 hz2
 go_upto_region 5 with (first
   | (refine wpList_append_fresh _ rfl (.tmp 21) (.tmp 23) 58 rfl (R+1) 3 ie _ 1 8 Tryz.underlying58 HI.out HZ0.out HZ1.out HZ2.out rfl (by decide) (.slice po d co) d xs rfl HOWN.out ⟨w.heap.size+1,0,none⟩ 1 1 [.int .i64 (i:Int)] rfl rfl HNW.out (by simp [Value.oneCell']) (by decide) hml hbyt HBS.out ?_;intro v' w4 hown4 hgrow4 hwhere;obtain ⟨p4,k4,rfl⟩:=(show Opn w4 R (d+1) v' from ⟨_,hown4⟩).slice;have HC4:=Lib.hid ((hgrow4.block R (blk_lt HC1.out) (fun e=>hovR e.symm)).trans HC1.out);obtain ⟨f1,f3,f4,f5,f6⟩:=stf HC4.out;obtain ⟨b0,b1,b2,b3,b4,b5,b6⟩:=st7 HC4.out)
   | fail)
 have HOP4:=Lib.hid (show Opn w4 R (d+1) (.slice p4 (d+1) k4) from ⟨_,hown4⟩)
 rw [← hos] at hgrow4 hwhere
 have hr4:(Value.slice p4 (d+1) k4).ownBlock=ov.ownBlock ∨ ∃ b,(Value.slice p4 (d+1) k4).ownBlock=some b∧w.heap.size+1 ≤ b:=by
   rcases hwhere with e | e
   · exact .inl e
   · exact .inr ⟨_,e,by simp;omega⟩
 have HT4:=Lib.hid (((Touch.of_below (obs R ov) HB0.out).later HBA.out).grown2 hgrow4 (fun k e=>.inl (mem_obs.2 (.inr e))))
 have Z4:=Lib.hid ((hgrow4.block w.heap.size (by simp;omega) (fun e=>hnov e.symm)).trans (keep_blk HBA.out Z0.out))
 clear hown4 hgrow4 hwhere HNW HBS HBA HOWN HI HZ0 HZ1 HZ2 hml hbyt HC1 HR1 HOP1 HB0 Z0 f1 f3 f4 f5 f6 c0 c1 c2 c3 c4 c5 c6 b0 b1 b2 b3 b4 b5 b6
 have hC5:=st_open HC4.out (.slice p4 (d+1) k4)
 have ht5:Touch [R] w4 (w4.setCell ⟨R,4,none⟩ (.slice p4 (d+1) k4)):=(Touch.refl [R] w4).setCell List.mem_cons_self 4 _
 have HC5:=Lib.hid hC5;have HT5:=Lib.hid (HT4.out.trans (ht5.obs (ov:=ov)));have HOP5:=Lib.hid (HOP4.out.touch ht5)
 have Z5:=Lib.hid ((ht5.block w.heap.size (blk_lt Z4.out) (by simp;omega)).trans Z4.out)
 clear hC5 ht5 HC4 HT4 HOP4 Z4
 generalize w4.setCell ⟨R,4,none⟩ _=W5 at *
 obtain ⟨c0,c1,c2,c3,c4,c5,c6⟩:=st7 HC5.out
 obtain ⟨f1,f3,f4,f5,f6⟩:=stf HC5.out
 have wg:IntKind.i64.wrap ((g:Int)+1)=(g:Int)+1:=IntWalk.i64_in _ (by omega)
 have wi:IntKind.i64.wrap ((i:Int)+1)=(i:Int)+1:=IntWalk.i64_in _ (by omega)
 go_upto_region 6 with (fail)
 have hC6:=st_groups HC5.out (g+1) (v:=(g:Int)+1) (by omega)
 have ht6:Touch [R] W5 (W5.setCell ⟨R,3,none⟩ (.int .i64 ((g:Int)+1))):=(Touch.refl [R] W5).setCell List.mem_cons_self 3 _
 have HC6:=Lib.hid hC6;have HT6:=Lib.hid (HT5.out.trans (ht6.obs (ov:=ov)));have HOP6:=Lib.hid (HOP5.out.touch ht6)
 have Z6:=Lib.hid ((ht6.block w.heap.size (blk_lt Z5.out) (by simp;omega)).trans Z5.out)
 clear hC6 ht6 HC5 HT5 HOP5 Z5 c0 c1 c2 c3 c4 c5 c6 f1 f3 f4 f5 f6
 generalize W5.setCell ⟨R,3,none⟩ _=W6 at *
 obtain ⟨c0,c1,c2,c3,c4,c5,c6⟩:=st7 HC6.out
 obtain ⟨f1,f3,f4,f5,f6⟩:=stf HC6.out
 have c3':W6.cell? ⟨R,3,none⟩=some (.int .i64 ((g:Int)+1)):=c3
 clear c3
 go_upto_region 8 with (fail)
 have hC7:=st_place HC6.out (i+1) (v:=(i:Int)+1) (by omega)
 have ht7:Touch [R] W6 (W6.setCell ⟨R,1,none⟩ (.int .i64 ((i:Int)+1))):=(Touch.refl [R] W6).setCell List.mem_cons_self 1 _
 have HC7:=Lib.hid hC7;have HT7:=Lib.hid (HT6.out.trans (ht7.obs (ov:=ov)));have HOP7:=Lib.hid (HOP6.out.touch ht7)
 have Z7:=Lib.hid ((ht7.block w.heap.size (blk_lt Z6.out) (by simp;omega)).trans Z6.out)
 clear hC7 ht7 HC6 HT6 HOP6 Z6 c0 c1 c2 c3' c4 c5 c6 f1 f3 f4 f5 f6 wg wi
 generalize W6.setCell ⟨R,1,none⟩ _=W7 at *
 go_wp2_with fail
 refine (HPP.out W7 _ HC7.out HOP7.out).mono ?_
 intro e w8 he
 obtain ⟨ov8,x,p8,l8,k8,rfl,hr8,ho8,ht8,hAB⟩:=he.cases
 have hv7:(Value.slice p4 (d+1) k4).ownBlock ≠ some w.heap.size:=by
   rcases hr4 with e | ⟨b,e,hb⟩
   · rw [e];exact hnov
   · rw [e];intro e2;have:=Option.some.inj e2;omega
 have hs7:w.heap.size < W7.heap.size:=blk_lt Z7.out
 have hr8':ov8.ownBlock=ov.ownBlock ∨ ∃ b,ov8.ownBlock=some b∧w.heap.size+1 ≤ b:=by
   rcases hr8 with e | ⟨b,e,hb⟩
   · rw [e];exact hr4
   · exact .inr ⟨b,e,by omega⟩
 have hv8:ov8.ownBlock ≠ some w.heap.size:=by
   rcases hr8' with e | ⟨b,e,hb⟩
   · rw [e];exact hnov
   · rw [e];intro e2;have:=Option.some.inj e2;omega
 have Z8:=Lib.hid (he.keepsBlk Z7.out (by omega) hv7)
 have HT8:=Lib.hid (touch_obs HT7.out hr4 ht8)
 obtain ⟨p9,k9,rfl⟩:=ho8.slice
 have hcut:=ho8.cut
 obtain ⟨-,hdk,b9,rfl⟩:=hcut
 have hb9:=(ho8.lt (g:=b9) rfl).2
 have HO8:=Lib.hid ho8;have HAB:=Lib.hid hAB
 clear he ho8 ht8 hAB HPP HC7 HT7 HOP7 Z7 hr8 hv7
 unfold Tr.cells
 go_upto_region 9 with (fail)
 have hbx:Below w8.heap.size w8 (w8.alloc (.cells #[.int .i64 x.kind,.int .u64 (Oc.U x.w0),.int .u64 (Oc.U x.w1),.int .u64 (Oc.U x.w2),.int .u64 (Oc.U x.w3),.slice p8 l8 k8,.int .i64 x.num,.int .i64 x.least,.int .i64 x.most,.bool x.bare] 28)):=(Below.refl _ _).alloc (Nat.le_refl _) _
 have hsx:(w8.alloc (.cells #[.int .i64 x.kind,.int .u64 (Oc.U x.w0),.int .u64 (Oc.U x.w1),.int .u64 (Oc.U x.w2),.int .u64 (Oc.U x.w3),.slice p8 l8 k8,.int .i64 x.num,.int .i64 x.least,.int .i64 x.most,.bool x.bare] 28)).heap.size=w8.heap.size+1:=by simp
 have HBX:=Lib.hid hbx
 have HOX:=Lib.hid (HO8.out.later hbx);have HTX:=Lib.hid (HT8.out.later hbx);have ZX:=Lib.hid (keep_blk hbx Z8.out);have YX:=Lib.hid (heap_alloc_new w8 (.cells #[.int .i64 x.kind,.int .u64 (Oc.U x.w0),.int .u64 (Oc.U x.w1),.int .u64 (Oc.U x.w2),.int .u64 (Oc.U x.w3),.slice p8 l8 k8,.int .i64 x.num,.int .i64 x.least,.int .i64 x.most,.bool x.bare] 28));have HKX:=Lib.hid (Touch.of_below [R] hbx)
 have hs8:w.heap.size < w8.heap.size:=blk_lt Z8.out
 clear hbx Z8 HT8
 generalize hWX:w8.alloc (.cells #[.int .i64 x.kind,.int .u64 (Oc.U x.w0),.int .u64 (Oc.U x.w1),.int .u64 (Oc.U x.w2),.int .u64 (Oc.U x.w3),.slice p8 l8 k8,.int .i64 x.num,.int .i64 x.least,.int .i64 x.most,.bool x.bare] 28)=WX at *
 have hrel:(Value.slice (some ⟨b9,0,none⟩) d k9).ownBlock=ov.ownBlock ∨ ∃ b,(Value.slice (some ⟨b9,0,none⟩) d k9).ownBlock=some b∧w.heap.size ≤ b:=by
   rcases hr8' with e | ⟨b,e,hb⟩
   · exact .inl e
   · exact .inr ⟨b,e,by omega⟩
 rcases HAB.out with ⟨j,g',hQ,htr,hc8⟩ | ⟨c,q,j,g',hQ,hcn,hc8,hj8,hg8⟩
 · obtain ⟨hjs,hgs',hst⟩:=H60.out x j g' hQ
   have HC9:=Lib.hid (keep_blk HBX.out hc8)
   have HTR:=Lib.hid htr
   clear H60 HAB htr hc8
   rcases hst with rfl | h41
   · have hge2:decide ((s.size:Int) ≤ s.size)=true:=by simp
     obtain ⟨c0,c1,c2,c3,c4,c5,c6⟩:=st7 HC9.out
     go_quiet (fail)
     have HCq:=Lib.hid (keep_blk (drewN_below (Below.refl _ _) nq) HC9.out);have HTq:=Lib.hid (HTX.out.later (drewN_below (Below.refl _ _) nq));have HOq:=Lib.hid (HOX.out.later (drewN_below (Below.refl _ _) nq));have HKq:=Lib.hid (HKX.out.drewN nq)
     have Zq:=Lib.hid (keep_blk (drewN_below (Below.refl _ _) nq) ZX.out);have Yq:=Lib.hid (keep_blk (drewN_below (Below.refl _ _) nq) YX.out)
     clear HC9 HTX HOX HKX ZX YX c0 c1 c2 c3 c4 c5 c6
     generalize World.drewN _ _=Wq at *
     go_wp2_with fail
     refine (esfault_any Wq R s s.size fl g' _ 0 HCq.out 2 (i:Int)).mono ?_
     rintro e Wn ⟨rfl,hRn,htn⟩
     have HCn:=Lib.hid hRn;have HTn:=Lib.hid (HTq.out.trans (htn.obs (ov:=ov)));have HOn:=Lib.hid (HOq.out.touch htn);have HKn:=Lib.hid (HKq.out.trans htn)
     have Zn:=Lib.hid ((htn.block w.heap.size (blk_lt Zq.out) (by simp;omega)).trans Zq.out);have Yn:=Lib.hid ((htn.block w8.heap.size (blk_lt Yq.out) (by simp;omega)).trans Yq.out)
     clear hRn htn HCq HTq HOq HKq Zq Yq
     obtain ⟨c0,c1,c2,c3,c4,c5,c6⟩:=st7 HCn.out
     obtain ⟨f1,f3,f4,f5,f6⟩:=stf HCn.out
     have hCa:=st_place HCn.out (s.size+1) (v:=(s.size:Int)+1) (by omega)
     have hta:Touch [R] Wn (Wn.setCell ⟨R,1,none⟩ (.int .i64 ((s.size:Int)+1))):=(Touch.refl [R] Wn).setCell List.mem_cons_self 1 _
     have wj:IntKind.i64.wrap ((s.size:Int)+1)=(s.size:Int)+1:=IntWalk.i64_in _ (by omega)
     have HCa:=Lib.hid hCa;have HTa:=Lib.hid (HTn.out.trans (hta.obs (ov:=ov)));have HOa:=Lib.hid (HOn.out.touch hta);have HKa:=Lib.hid (HKn.out.trans hta)
     have Za:=Lib.hid ((hta.block w.heap.size (blk_lt Zn.out) (by simp;omega)).trans Zn.out)
     have Ya:=Lib.hid ((hta.block w8.heap.size (blk_lt Yn.out) (by simp;omega)).trans Yn.out)
     clear hCa hta
     go_upto_region 12 with (fail)
     clear HCn HTn HOn HKn Zn Yn c0 c1 c2 c3 c4 c5 c6 f1 f3 f4 f5 f6 wj
     generalize Wn.setCell ⟨R,1,none⟩ _=Wa at *
     obtain ⟨c0,c1,c2,c3,c4,c5,c6⟩:=st7 HCa.out
     obtain ⟨f1,f3,f4,f5,f6⟩:=stf HCa.out
     have ws:IntKind.i64.wrap (((d+1:Nat):Int) - 1)=(d:Int):=by rw [IntWalk.i64_in _ (by omega)];omega
     go_region
     have hCb:=st_open HCa.out (.slice (some ⟨b9,0,none⟩) d k9)
     have htb:Touch [R] Wa (Wa.setCell ⟨R,4,none⟩ (.slice (some ⟨b9,0,none⟩) d k9)).drew:=(((Touch.refl [R] Wa).setCell List.mem_cons_self 4 _).drewN 1)
     have HCb:=Lib.hid (show (Wa.setCell ⟨R,4,none⟩ (.slice (some ⟨b9,0,none⟩) d k9)).drew.heap[R]? = _ from hCb);have HTb:=Lib.hid (HTa.out.trans (htb.obs (ov:=ov)));have HOb:=Lib.hid ((HOa.out.cut).1.touch htb);have HKb:=Lib.hid (HKa.out.trans htb)
     have Zb:=Lib.hid ((htb.block w.heap.size (blk_lt Za.out) (by simp;omega)).trans Za.out)
     have Yb:=Lib.hid ((htb.block w8.heap.size (blk_lt Ya.out) (by simp;omega)).trans Ya.out)
     clear hCb htb HCa HTa HOa HKa Za Ya c0 c1 c2 c3 c4 c5 c6 f1 f3 f4 f5 f6 ws
     generalize (Wa.setCell ⟨R,4,none⟩ _).drew=Wb at *
     have hbc:Below Wb.heap.size Wb (Wb.alloc (.cells #[.int .i64 x.kind,.int .u64 (Oc.U x.w0),.int .u64 (Oc.U x.w1),.int .u64 (Oc.U x.w2),.int .u64 (Oc.U x.w3),.slice p8 l8 k8,.int .i64 x.num,.int .i64 x.least,.int .i64 x.most,.bool x.bare] 28)):=(Below.refl _ _).alloc (Nat.le_refl _) _
     have HBC:=Lib.hid hbc
     have Zc:=Lib.hid (keep_blk hbc Zb.out)
     clear hbc
     go_wp2_with (first
       | (refine wpList_load_row rfl 28 (.tmp 6) rfl w8.heap.size rfl 28 _ (0,0) _ Yb.out Tryz.underlying28 rfl (by kernel_rfl) ?_)
       | (refine wpList_node1 rfl (.tmp 89) x p8 l8 k8 rfl rfl ?_)
       | (refine wpList_store_row rfl 28 (.tmp 4) (.tmp 91) rfl w.heap.size (#[.int .i64 7,.int .u64 0,.int .u64 0,.int .u64 0,.int .u64 0,.slice (some ⟨Wb.heap.size,0,none⟩) 1 1,.int .i64 ((g:Int)+1),.int .i64 0,.int .i64 0,.bool false]:Array Value) rfl rfl 28 _ Zc.out (by kernel_rfl) rfl (by simp [Value.oneCell']) ?_)
       | fail)
     have hT:=(HTb.out.later HBC.out).setRow_new (Nat.le_refl w.heap.size) (#[.int .i64 7,.int .u64 0,.int .u64 0,.int .u64 0,.int .u64 0,.slice (some ⟨Wb.heap.size,0,none⟩) 1 1,.int .i64 ((g:Int)+1),.int .i64 0,.int .i64 0,.bool false]:Array Value)
     have hCe:((Wb.alloc (.cells #[.int .i64 x.kind,.int .u64 (Oc.U x.w0),.int .u64 (Oc.U x.w1),.int .u64 (Oc.U x.w2),.int .u64 (Oc.U x.w3),.slice p8 l8 k8,.int .i64 x.num,.int .i64 x.least,.int .i64 x.most,.bool x.bare] 28)).setRow w.heap.size (#[.int .i64 7,.int .u64 0,.int .u64 0,.int .u64 0,.int .u64 0,.slice (some ⟨Wb.heap.size,0,none⟩) 1 1,.int .i64 ((g:Int)+1),.int .i64 0,.int .i64 0,.bool false]:Array Value)).heap[R]? = _:=(heap_setRow_other _ _ _ hRw).trans (keep_blk HBC.out HCb.out)
     have hOe:=(HOb.out.later HBC.out).setRow (ov:=.slice (some ⟨b9,0,none⟩) d k9) (g:=w.heap.size) (by exact hv8) (#[.int .i64 7,.int .u64 0,.int .u64 0,.int .u64 0,.int .u64 0,.slice (some ⟨Wb.heap.size,0,none⟩) 1 1,.int .i64 ((g:Int)+1),.int .i64 0,.int .i64 0,.bool false]:Array Value)
     have hOut:esgrp (bt s) i g Q=.err 2 i:=by rw [hQ];unfold esgrp;exact if_neg (by rw [bt_out (Nat.le_refl _)];decide)
     rw [hOut]
     exact bodyPost_ret (results_cell_row rfl _ _ w.heap.size 28 (#[.int .i64 7,.int .u64 0,.int .u64 0,.int .u64 0,.int .u64 0,.slice (some ⟨Wb.heap.size,0,none⟩) 1 1,.int .i64 ((g:Int)+1),.int .i64 0,.int .i64 0,.bool false]:Array Value) (0,0) _ rfl (heap_setRow Zc.out) Tryz.underlying28 rfl (by kernel_rfl)) rfl ⟨.slice (some ⟨b9,0,none⟩) d k9,hrel,hOe,hT,(by decide),Tr.grp (g+1:Nat) x,_,_,_,_,_,rfl,hCe,by omega,by omega⟩
   · have hjl:=(bt_txt s).lt h41 (by omega)
     have hge2:decide ((s.size:Int) ≤ j)=false:=by simp;omega
     have hge2':decide (s.size ≤ j)=false:=by simp;omega
     obtain ⟨c0,c1,c2,c3,c4,c5,c6⟩:=st7 HC9.out
     go_quiet (fail)
     have HCn:=Lib.hid (keep_blk (drewN_below (Below.refl _ _) nq) HC9.out);have HTn:=Lib.hid (HTX.out.later (drewN_below (Below.refl _ _) nq));have HOn:=Lib.hid (HOX.out.later (drewN_below (Below.refl _ _) nq));have HKn:=Lib.hid (HKX.out.drewN nq)
     have Zn:=Lib.hid (keep_blk (drewN_below (Below.refl _ _) nq) ZX.out);have Yn:=Lib.hid (keep_blk (drewN_below (Below.refl _ _) nq) YX.out)
     clear HC9 HTX HOX HKX ZX YX c0 c1 c2 c3 c4 c5 c6
     generalize World.drewN _ _=Wn at *
     obtain ⟨c0,c1,c2,c3,c4,c5,c6⟩:=st7 HCn.out
     obtain ⟨f1,f3,f4,f5,f6⟩:=stf HCn.out
     have hCa:=st_place HCn.out (j+1) (v:=(j:Int)+1) (by omega)
     have hta:Touch [R] Wn (Wn.setCell ⟨R,1,none⟩ (.int .i64 ((j:Int)+1))):=(Touch.refl [R] Wn).setCell List.mem_cons_self 1 _
     have wj:IntKind.i64.wrap ((j:Int)+1)=(j:Int)+1:=IntWalk.i64_in _ (by omega)
     have HCa:=Lib.hid hCa;have HTa:=Lib.hid (HTn.out.trans (hta.obs (ov:=ov)));have HOa:=Lib.hid (HOn.out.touch hta);have HKa:=Lib.hid (HKn.out.trans hta)
     have Za:=Lib.hid ((hta.block w.heap.size (blk_lt Zn.out) (by simp;omega)).trans Zn.out)
     have Ya:=Lib.hid ((hta.block w8.heap.size (blk_lt Yn.out) (by simp;omega)).trans Yn.out)
     clear hCa hta
     go_upto_region 12 with (fail)
     clear HCn HTn HOn HKn Zn Yn c0 c1 c2 c3 c4 c5 c6 f1 f3 f4 f5 f6 wj
     generalize Wn.setCell ⟨R,1,none⟩ _=Wa at *
     obtain ⟨c0,c1,c2,c3,c4,c5,c6⟩:=st7 HCa.out
     obtain ⟨f1,f3,f4,f5,f6⟩:=stf HCa.out
     have ws:IntKind.i64.wrap (((d+1:Nat):Int) - 1)=(d:Int):=by rw [IntWalk.i64_in _ (by omega)];omega
     go_region
     have hCb:=st_open HCa.out (.slice (some ⟨b9,0,none⟩) d k9)
     have htb:Touch [R] Wa (Wa.setCell ⟨R,4,none⟩ (.slice (some ⟨b9,0,none⟩) d k9)).drew:=(((Touch.refl [R] Wa).setCell List.mem_cons_self 4 _).drewN 1)
     have HCb:=Lib.hid (show (Wa.setCell ⟨R,4,none⟩ (.slice (some ⟨b9,0,none⟩) d k9)).drew.heap[R]? = _ from hCb);have HTb:=Lib.hid (HTa.out.trans (htb.obs (ov:=ov)));have HOb:=Lib.hid ((HOa.out.cut).1.touch htb);have HKb:=Lib.hid (HKa.out.trans htb)
     have Zb:=Lib.hid ((htb.block w.heap.size (blk_lt Za.out) (by simp;omega)).trans Za.out)
     have Yb:=Lib.hid ((htb.block w8.heap.size (blk_lt Ya.out) (by simp;omega)).trans Ya.out)
     clear hCb htb HCa HTa HOa HKa Za Ya c0 c1 c2 c3 c4 c5 c6 f1 f3 f4 f5 f6 ws
     generalize (Wa.setCell ⟨R,4,none⟩ _).drew=Wb at *
     have hbc:Below Wb.heap.size Wb (Wb.alloc (.cells #[.int .i64 x.kind,.int .u64 (Oc.U x.w0),.int .u64 (Oc.U x.w1),.int .u64 (Oc.U x.w2),.int .u64 (Oc.U x.w3),.slice p8 l8 k8,.int .i64 x.num,.int .i64 x.least,.int .i64 x.most,.bool x.bare] 28)):=(Below.refl _ _).alloc (Nat.le_refl _) _
     have HBC:=Lib.hid hbc
     have Zc:=Lib.hid (keep_blk hbc Zb.out)
     clear hbc
     go_wp2_with (first
       | (refine wpList_load_row rfl 28 (.tmp 6) rfl w8.heap.size rfl 28 _ (0,0) _ Yb.out Tryz.underlying28 rfl (by kernel_rfl) ?_)
       | (refine wpList_node1 rfl (.tmp 89) x p8 l8 k8 rfl rfl ?_)
       | (refine wpList_store_row rfl 28 (.tmp 4) (.tmp 91) rfl w.heap.size (#[.int .i64 7,.int .u64 0,.int .u64 0,.int .u64 0,.int .u64 0,.slice (some ⟨Wb.heap.size,0,none⟩) 1 1,.int .i64 ((g:Int)+1),.int .i64 0,.int .i64 0,.bool false]:Array Value) rfl rfl 28 _ Zc.out (by kernel_rfl) rfl (by simp [Value.oneCell']) ?_)
       | fail)
     have hT:=(HTb.out.later HBC.out).setRow_new (Nat.le_refl w.heap.size) (#[.int .i64 7,.int .u64 0,.int .u64 0,.int .u64 0,.int .u64 0,.slice (some ⟨Wb.heap.size,0,none⟩) 1 1,.int .i64 ((g:Int)+1),.int .i64 0,.int .i64 0,.bool false]:Array Value)
     have hCe:((Wb.alloc (.cells #[.int .i64 x.kind,.int .u64 (Oc.U x.w0),.int .u64 (Oc.U x.w1),.int .u64 (Oc.U x.w2),.int .u64 (Oc.U x.w3),.slice p8 l8 k8,.int .i64 x.num,.int .i64 x.least,.int .i64 x.most,.bool x.bare] 28)).setRow w.heap.size (#[.int .i64 7,.int .u64 0,.int .u64 0,.int .u64 0,.int .u64 0,.slice (some ⟨Wb.heap.size,0,none⟩) 1 1,.int .i64 ((g:Int)+1),.int .i64 0,.int .i64 0,.bool false]:Array Value)).heap[R]? = _:=(heap_setRow_other _ _ _ hRw).trans (keep_blk HBC.out HCb.out)
     have hOe:=(HOb.out.later HBC.out).setRow (ov:=.slice (some ⟨b9,0,none⟩) d k9) (g:=w.heap.size) (by exact hv8) (#[.int .i64 7,.int .u64 0,.int .u64 0,.int .u64 0,.int .u64 0,.slice (some ⟨Wb.heap.size,0,none⟩) 1 1,.int .i64 ((g:Int)+1),.int .i64 0,.int .i64 0,.bool false]:Array Value)
     have hOut:esgrp (bt s) i g Q=.ok (.grp (g+1:Nat) x) (j+1) g':=by rw [hQ];exact if_pos h41
     rw [hOut]
     have htr1:TreesAt Wb (fun b=>w.heap.size+1 ≤ b∧b9 ≠ b) (.slice p8 l8 k8) x.subs:=(HTR.out.keep fun b hb hP=>HKb.out.block b hb (by simp;rcases hP.1 with h | h;exact h.elim;omega)).mono fun b _ hP=>⟨by rcases hP.1 with h | h;exact h.elim;omega,fun e=>hP.2 (by rw [e];rfl)⟩
     have htr2:=htr1.one ⟨(by have:=HKb.out.size;omega),(by have:=HKb.out.size;omega)⟩
     have htr3:TreesAt ((Wb.alloc (.cells #[.int .i64 x.kind,.int .u64 (Oc.U x.w0),.int .u64 (Oc.U x.w1),.int .u64 (Oc.U x.w2),.int .u64 (Oc.U x.w3),.slice p8 l8 k8,.int .i64 x.num,.int .i64 x.least,.int .i64 x.most,.bool x.bare] 28)).setRow w.heap.size (#[.int .i64 7,.int .u64 0,.int .u64 0,.int .u64 0,.int .u64 0,.slice (some ⟨Wb.heap.size,0,none⟩) 1 1,.int .i64 ((g:Int)+1),.int .i64 0,.int .i64 0,.bool false]:Array Value)) (fun b=>(False ∨ w.heap.size ≤ b)∧(Value.slice (some ⟨b9,0,none⟩) d k9).ownBlock ≠ some b) (.slice (some ⟨Wb.heap.size,0,none⟩) 1 1) [x]:=(htr2.keep fun b _ hP=>heap_setRow_other _ _ _ (fun e=>by have:=hP.1;omega)).mono fun b _ hP=>⟨.inr (by have:=hP.1;omega),fun e=>hP.2 (Option.some.inj e)⟩
     exact bodyPost_ret (results_cell_row rfl _ _ w.heap.size 28 (#[.int .i64 7,.int .u64 0,.int .u64 0,.int .u64 0,.int .u64 0,.slice (some ⟨Wb.heap.size,0,none⟩) 1 1,.int .i64 ((g:Int)+1),.int .i64 0,.int .i64 0,.bool false]:Array Value) (0,0) _ rfl (heap_setRow Zc.out) Tryz.underlying28 rfl (by kernel_rfl)) rfl ⟨.slice (some ⟨b9,0,none⟩) d k9,hrel,hOe,hT,_,rfl,htr3,hCe⟩
 · have HC9:=Lib.hid (keep_blk HBX.out hc8)
   have hcz:((c:Int) == 0)=false:=by rw [beq_eq_false_iff_ne];omega
   have hcz':(c == 0)=false:=by rw [beq_eq_false_iff_ne];omega
   clear H60 HAB hc8
   obtain ⟨c0,c1,c2,c3,c4,c5,c6⟩:=st7 HC9.out
   go_quiet (fail)
   have HCn:=Lib.hid (keep_blk (drewN_below (Below.refl _ _) nq) HC9.out);have HTn:=Lib.hid (HTX.out.later (drewN_below (Below.refl _ _) nq));have HOn:=Lib.hid (HOX.out.later (drewN_below (Below.refl _ _) nq));have HKn:=Lib.hid (HKX.out.drewN nq)
   have Zn:=Lib.hid (keep_blk (drewN_below (Below.refl _ _) nq) ZX.out);have Yn:=Lib.hid (keep_blk (drewN_below (Below.refl _ _) nq) YX.out)
   clear HC9 HTX HOX HKX ZX YX c0 c1 c2 c3 c4 c5 c6
   generalize World.drewN _ _=Wn at *
   obtain ⟨c0,c1,c2,c3,c4,c5,c6⟩:=st7 HCn.out
   obtain ⟨f1,f3,f4,f5,f6⟩:=stf HCn.out
   have hCa:=st_place HCn.out (j+1) (v:=(j:Int)+1) (by omega)
   have hta:Touch [R] Wn (Wn.setCell ⟨R,1,none⟩ (.int .i64 ((j:Int)+1))):=(Touch.refl [R] Wn).setCell List.mem_cons_self 1 _
   have wj:IntKind.i64.wrap ((j:Int)+1)=(j:Int)+1:=IntWalk.i64_in _ (by omega)
   have HCa:=Lib.hid hCa;have HTa:=Lib.hid (HTn.out.trans (hta.obs (ov:=ov)));have HOa:=Lib.hid (HOn.out.touch hta);have HKa:=Lib.hid (HKn.out.trans hta)
   have Za:=Lib.hid ((hta.block w.heap.size (blk_lt Zn.out) (by simp;omega)).trans Zn.out)
   have Ya:=Lib.hid ((hta.block w8.heap.size (blk_lt Yn.out) (by simp;omega)).trans Yn.out)
   clear hCa hta
   go_upto_region 12 with (fail)
   clear HCn HTn HOn HKn Zn Yn c0 c1 c2 c3 c4 c5 c6 f1 f3 f4 f5 f6 wj
   generalize Wn.setCell ⟨R,1,none⟩ _=Wa at *
   obtain ⟨c0,c1,c2,c3,c4,c5,c6⟩:=st7 HCa.out
   obtain ⟨f1,f3,f4,f5,f6⟩:=stf HCa.out
   have ws:IntKind.i64.wrap (((d+1:Nat):Int) - 1)=(d:Int):=by rw [IntWalk.i64_in _ (by omega)];omega
   go_region
   have hCb:=st_open HCa.out (.slice (some ⟨b9,0,none⟩) d k9)
   have htb:Touch [R] Wa (Wa.setCell ⟨R,4,none⟩ (.slice (some ⟨b9,0,none⟩) d k9)).drew:=(((Touch.refl [R] Wa).setCell List.mem_cons_self 4 _).drewN 1)
   have HCb:=Lib.hid (show (Wa.setCell ⟨R,4,none⟩ (.slice (some ⟨b9,0,none⟩) d k9)).drew.heap[R]? = _ from hCb);have HTb:=Lib.hid (HTa.out.trans (htb.obs (ov:=ov)));have HOb:=Lib.hid ((HOa.out.cut).1.touch htb);have HKb:=Lib.hid (HKa.out.trans htb)
   have Zb:=Lib.hid ((htb.block w.heap.size (blk_lt Za.out) (by simp;omega)).trans Za.out)
   have Yb:=Lib.hid ((htb.block w8.heap.size (blk_lt Ya.out) (by simp;omega)).trans Ya.out)
   clear hCb htb HCa HTa HOa HKa Za Ya c0 c1 c2 c3 c4 c5 c6 f1 f3 f4 f5 f6 ws
   generalize (Wa.setCell ⟨R,4,none⟩ _).drew=Wb at *
   have hbc:Below Wb.heap.size Wb (Wb.alloc (.cells #[.int .i64 x.kind,.int .u64 (Oc.U x.w0),.int .u64 (Oc.U x.w1),.int .u64 (Oc.U x.w2),.int .u64 (Oc.U x.w3),.slice p8 l8 k8,.int .i64 x.num,.int .i64 x.least,.int .i64 x.most,.bool x.bare] 28)):=(Below.refl _ _).alloc (Nat.le_refl _) _
   have HBC:=Lib.hid hbc
   have Zc:=Lib.hid (keep_blk hbc Zb.out)
   clear hbc
   go_wp2_with (first
     | (refine wpList_load_row rfl 28 (.tmp 6) rfl w8.heap.size rfl 28 _ (0,0) _ Yb.out Tryz.underlying28 rfl (by kernel_rfl) ?_)
     | (refine wpList_node1 rfl (.tmp 89) x p8 l8 k8 rfl rfl ?_)
     | (refine wpList_store_row rfl 28 (.tmp 4) (.tmp 91) rfl w.heap.size (#[.int .i64 7,.int .u64 0,.int .u64 0,.int .u64 0,.int .u64 0,.slice (some ⟨Wb.heap.size,0,none⟩) 1 1,.int .i64 ((g:Int)+1),.int .i64 0,.int .i64 0,.bool false]:Array Value) rfl rfl 28 _ Zc.out (by kernel_rfl) rfl (by simp [Value.oneCell']) ?_)
     | fail)
   have hT:=(HTb.out.later HBC.out).setRow_new (Nat.le_refl w.heap.size) (#[.int .i64 7,.int .u64 0,.int .u64 0,.int .u64 0,.int .u64 0,.slice (some ⟨Wb.heap.size,0,none⟩) 1 1,.int .i64 ((g:Int)+1),.int .i64 0,.int .i64 0,.bool false]:Array Value)
   have hCe:((Wb.alloc (.cells #[.int .i64 x.kind,.int .u64 (Oc.U x.w0),.int .u64 (Oc.U x.w1),.int .u64 (Oc.U x.w2),.int .u64 (Oc.U x.w3),.slice p8 l8 k8,.int .i64 x.num,.int .i64 x.least,.int .i64 x.most,.bool x.bare] 28)).setRow w.heap.size (#[.int .i64 7,.int .u64 0,.int .u64 0,.int .u64 0,.int .u64 0,.slice (some ⟨Wb.heap.size,0,none⟩) 1 1,.int .i64 ((g:Int)+1),.int .i64 0,.int .i64 0,.bool false]:Array Value)).heap[R]? = _:=(heap_setRow_other _ _ _ hRw).trans (keep_blk HBC.out HCb.out)
   have hOe:=(HOb.out.later HBC.out).setRow (ov:=.slice (some ⟨b9,0,none⟩) d k9) (g:=w.heap.size) (by exact hv8) (#[.int .i64 7,.int .u64 0,.int .u64 0,.int .u64 0,.int .u64 0,.slice (some ⟨Wb.heap.size,0,none⟩) 1 1,.int .i64 ((g:Int)+1),.int .i64 0,.int .i64 0,.bool false]:Array Value)
   have hOut:esgrp (bt s) i g Q=.err c q:=by rw [hQ];rfl
   rw [hOut]
   exact bodyPost_ret (results_cell_row rfl _ _ w.heap.size 28 (#[.int .i64 7,.int .u64 0,.int .u64 0,.int .u64 0,.int .u64 0,.slice (some ⟨Wb.heap.size,0,none⟩) 1 1,.int .i64 ((g:Int)+1),.int .i64 0,.int .i64 0,.bool false]:Array Value) (0,0) _ rfl (heap_setRow Zc.out) Tryz.underlying28 rfl (by kernel_rfl)) rfl ⟨.slice (some ⟨b9,0,none⟩) d k9,hrel,hOe,hT,hcn,Tr.grp (g+1:Nat) x,_,_,_,_,_,rfl,hCe,by omega,by omega⟩
end Go.Proofs.YtlbhbjmobcikfaaGreatDoor
namespace Go.Proofs.YtlbhbjmobcikfaaGreatDoor
open Go.RowKit
theorem branch_stop {f:Nat→Nat} {n:Nat} {ic nl:Bool} {H:Nat→Nat→Ep.Out} : ∀ (k:Nat) {l:List Tr} {i g j g':Nat} {t:Tr},Ep.branch f n ic nl H k l i g=.ok t j g'→n ≤ j ∨ f j=124 ∨ f j=41
 | 0,_,_,_,_,_,_,h=>by cases h
 | k+1,l,i,g,j,g',t,h=>by
   by_cases hb:n ≤ i ∨ f i=124 ∨ f i=41
   · rw [branch_size hb] at h;injection h with h1 h2 h3;subst h2;exact hb
   · rw [branch_step hb] at h
     cases hp:Ep.piece f n ic nl H i g with
     | err c p=>rw [hp] at h;cases h
     | ok u m g2=>rw [hp] at h;exact branch_stop k h
theorem alts_stop {f:Nat→Nat} {n:Nat} {ic nl:Bool} {H:Nat→Nat→Ep.Out} : ∀ (k:Nat) {l:List Tr} {i g j g':Nat} {t:Tr},Ep.alts f n ic nl H k l i g=.ok t j g'→n ≤ j ∨ f j=41
 | 0,_,_,_,_,_,_,h=>by cases h
 | k+1,l,i,g,j,g',t,h=>by
   unfold Ep.alts at h
   cases hb:Ep.branch f n ic nl H (n+1) [] i g with
   | err c p=>rw [hb] at h;cases h
   | ok u m g2 =>
     rw [hb] at h
     simp only at h
     split at h
     · exact alts_stop k h
     · rename_i hc
       injection h with h1 h2 h3
       subst h2
       rcases branch_stop _ hb with h | h | h
       · exact .inl h
       · exact absurd h hc
       · exact .inr h
theorem esb_in {d:Nat} {f:Nat→Nat} {O:Ep.Out} : esb (d+1) f O=O:=by
 cases O with
 | err c p=>rfl
 | ok t j g=>unfold esb;exact if_neg (by omega)
theorem group_grp {f:Nat→Nat} {n:Nat} {ic nl:Bool} {r i g:Nat} : Ep.group f n ic nl (r+1) i g=esgrp f i g (Ep.alts f n ic nl (Ep.group f n ic nl r) (n+1) [] (i+1) (g+1)):=by
 rw [Ep.group]
 cases Ep.alts f n ic nl (Ep.group f n ic nl r) (n+1) [] (i+1) (g+1) <;> rfl
theorem esgroup_any (R:Nat) (s:ByteArray) (hs:s.size ≤ 1024) (fl:Int):∀ (r d:Nat),r+d=32→∀ (i g:Nat) (ov:Value) (w:World),i < s.size→d ≤ i→2 * g ≤ i+d→w.heap[R]? = some (.cells (stC s i fl g ov 0 0) 60)→Opn w R d ov →
   Calls Tryz.prog 94 #[.pointer (some ⟨R,0,none⟩),.int .i64 (i:Int)] w (EsEnd (fun _=>False) R s fl d ov (Ep.group (bt s) s.size (icB fl) (nlB fl) r i g) w):=by
 intro r
 induction r with
 | zero =>
   intro d hd i g ov w hi hdi hg hR hop
   obtain rfl:d=32:=by omega
   exact esgroup_deep w R s i fl g ov hR hop hi (by omega)
 | succ r ih =>
   intro d hd i g ov w hi hdi hg hR hop
   rw [group_grp]
   refine esgroup_in w R s hs i fl g ov d hR hop hi (by omega) (by omega) _ (fun w' ov' h1 h2=>?_) (fun t j g' h=>?_)
   · have:=espattern_any w' R s hs (i+1) fl (g+1) ov' (d+1) h1 h2 (by omega) (by omega) (by omega) (by omega) _ (Ep.group_next (bt_txt s) r) (Ep.group_right (bt_txt s) hs r (d+1) (by omega)) (fun i' g' ov2 w2 a b c _ h3 h4=>ih (d+1) (by omega) i' g' ov2 w2 a b c h3 h4) _ rfl
     rw [esb_in] at this
     exact this
   · have h1:=Ep.alts_next (bt_txt s) (Ep.group_next (bt_txt s) r) (by omega) h
     have h2:=(Ep.alts_form (bt_txt s) (Ep.group_next (bt_txt s) r) (Ep.group_right (bt_txt s) hs r (d+1) (by omega)) (by omega) (fun x hx=>by cases hx) (by omega) h).2
     exact ⟨h1.2,by omega,by rcases alts_stop _ h with h | h;exact .inl (by omega);exact .inr h⟩
theorem espat_any (w:World) (R:Nat) (s:ByteArray) (hs:s.size ≤ 1024) (fl:Int) (ov:Value) (hR:w.heap[R]? = some (.cells (stC s 0 fl 0 ov 0 0) 60)) (hop:Opn w R 0 ov) :
   Calls Tryz.prog 31 #[.pointer (some ⟨R,0,none⟩)] w (EsEnd (fun _=>False) R s fl 0 ov (esb 0 (bt s) (Ep.pat (bt s) s.size (icB fl) (nlB fl) 32 0 0)) w) :=
 espattern_any w R s hs 0 fl 0 ov 0 hR hop (by omega) (by omega) (by omega) (by omega) _ (Ep.group_next (bt_txt s) 32) (Ep.group_right (bt_txt s) hs 32 0 (by omega)) (fun i g ov2 w2 a b c _ h3 h4=>esgroup_any R s hs fl 32 0 (by omega) i g ov2 w2 a b c h3 h4) _ rfl
end Go.Proofs.YtlbhbjmobcikfaaGreatDoor
namespace Go.Proofs.YtlbhbjmobcikfaaGreatDoor
open Go.RowKit
def ansErr (c:Nat) (q:Int):Value:=.agg #[.int .i64 0,.int .u64 0,.int .u64 0,.int .u64 0,.int .u64 0,.slice none 0 0,.int .i64 0,.int .i64 0,.int .i64 0,.bool false,.int .i64 0,.int .i64 (c:Int),.int .i64 q]
def ansOk (x:Tr) (p:Option Addr) (l k g:Nat):Value:=.agg #[.int .i64 x.kind,.int .u64 (Oc.U x.w0),.int .u64 (Oc.U x.w1),.int .u64 (Oc.U x.w2),.int .u64 (Oc.U x.w3),.slice p l k,.int .i64 x.num,.int .i64 x.least,.int .i64 x.most,.bool x.bare,.int .i64 (g:Int),.int .i64 0,.int .i64 0]
theorem esdone_err (w:World) (R:Nat) (s:ByteArray) (i:Nat) (fl:Int) (g:Nat) (ov:Value) (c:Nat) (q:Int) (hR:w.heap[R]? = some (.cells (stC s i fl g ov c q) 60)) (hc:c ≠ 0) (x:Tr) (p:Option Addr) (l k:Nat) :
   Calls Tryz.prog 32 #[.pointer (some ⟨R,0,none⟩),.agg (x.cells (.slice p l k))] w fun e w'=>e=.returned (ansErr c q)∧Touch [R] w w':=by
 have hlt:=st_lt hR
 have hb2:Below w.heap.size w ((w.alloc (.cells #[.int .i64 x.kind,.int .u64 (Oc.U x.w0),.int .u64 (Oc.U x.w1),.int .u64 (Oc.U x.w2),.int .u64 (Oc.U x.w3),.slice p l k,.int .i64 x.num,.int .i64 x.least,.int .i64 x.most,.bool x.bare] 28)).alloc (.cells #[.int .i64 0,.int .u64 0,.int .u64 0,.int .u64 0,.int .u64 0,.slice none 0 0,.int .i64 0,.int .i64 0,.int .i64 0,.bool false,.int .i64 0,.int .i64 0,.int .i64 0] 34)):=((Below.refl w.heap.size w).alloc (Nat.le_refl _) _).alloc (by simp) _
 have Z2:=Lib.hid (two_new w (.cells #[.int .i64 x.kind,.int .u64 (Oc.U x.w0),.int .u64 (Oc.U x.w1),.int .u64 (Oc.U x.w2),.int .u64 (Oc.U x.w3),.slice p l k,.int .i64 x.num,.int .i64 x.least,.int .i64 x.most,.bool x.bare] 28) (.cells #[.int .i64 0,.int .u64 0,.int .u64 0,.int .u64 0,.int .u64 0,.slice none 0 0,.int .i64 0,.int .i64 0,.int .i64 0,.bool false,.int .i64 0,.int .i64 0,.int .i64 0] 34)).2
 have B2:=Lib.hid (two_new w (.cells #[.int .i64 x.kind,.int .u64 (Oc.U x.w0),.int .u64 (Oc.U x.w1),.int .u64 (Oc.U x.w2),.int .u64 (Oc.U x.w3),.slice p l k,.int .i64 x.num,.int .i64 x.least,.int .i64 x.most,.bool x.bare] 28) (.cells #[.int .i64 0,.int .u64 0,.int .u64 0,.int .u64 0,.int .u64 0,.slice none 0 0,.int .i64 0,.int .i64 0,.int .i64 0,.bool false,.int .i64 0,.int .i64 0,.int .i64 0] 34)).1
 have HC2:=Lib.hid (keep_blk hb2 hR);have HB2:=Lib.hid hb2
 have hcut:(cutW w R).heap.size ≤ w.heap.size+1:=by rw [cutW_size hlt];omega
 have hcz:((c:Int) == 0)=false:=by rw [beq_eq_false_iff_ne];omega
 have hcz':(c == 0)=false:=by rw [beq_eq_false_iff_ne];omega
 have HBC:=Lib.hid (cutW_below hlt (Touch.of_below [R] hb2));have HT5:=Lib.hid (Touch.of_below [R] hb2)
 obtain ⟨c0,c1,c2,c3,c4,c5,c6⟩:=st7 HC2.out
 clear hR hb2
 unfold Tr.cells ansErr
 go_enter Tryz.func32,Tryz.ntmps32
 go_upto_region 4 with (fail)
 clear c0 c1 c2 c3 c4 c5 c6
 generalize World.alloc (World.alloc w _) _=W5 at *
 have Z5:=Z2;have HC5:=HC2
 have hsW:w.heap.size+1 < W5.heap.size:=blk_lt Z5.out
 refine Ri.wp_region_frame (by kernel_rfl) (by kernel_rfl) (by kernel_rfl) (by kernel_rfl)
   (fun L v w'=>Below (cutW w R).heap.size (cutW w R) w'∧W5.heap.size ≤ w'.heap.size∧(L 9=true→w'.heap[(w.heap.size+1)]? = some (.cells #[.int .i64 0,.int .u64 0,.int .u64 0,.int .u64 0,.int .u64 0,.slice none 0 0,.int .i64 0,.int .i64 0,.int .i64 0,.bool false,.int .i64 0,.int .i64 (c:Int),.int .i64 q] 34))∧(L 9=false→w'.heap[(w.heap.size+1)]? = some (.cells #[.int .i64 0,.int .u64 0,.int .u64 0,.int .u64 0,.int .u64 0,.slice none 0 0,.int .i64 0,.int .i64 0,.int .i64 0,.bool false,.int .i64 0,.int .i64 0,.int .i64 0] 34))∧w'.heap[R]? = some (.cells (stC s i fl g ov c q) 60)∧(∀ k,k < W5.heap.size→k ≠ (w.heap.size+1)→w'.heap[k]? = W5.heap[k]?)∧(L 0=true→v 0=.pointer (some ⟨R,0,none⟩))∧(L 1=true→v 1=.pointer (some ⟨R,0,none⟩))∧(L 2=true→v 2=.pointer (some ⟨R,5,none⟩))∧(L 3=true→v 3=.int .i64 (c:Int))∧(L 4=true→v 4=.pointer (some ⟨R,0,none⟩))∧(L 5=true→v 5=.pointer (some ⟨R,0,none⟩))∧(L 6=true→v 6=.pointer (some ⟨R,6,none⟩))∧(L 7=true→v 7=.int .i64 q)∧(L 8=true→v 8=.agg #[.int .i64 0,.int .u64 0,.int .u64 0,.int .u64 0,.int .u64 0,.slice none 0 0,.int .i64 0,.int .i64 0,.int .i64 0,.bool false,.int .i64 0,.int .i64 (c:Int),.int .i64 q]))
   ?_ ?_ ?_
 · exact ⟨HBC.out.drew,Nat.le_refl _,(by simp),(fun _=>Z5.out),HC5.out,fun _ _ _=>rfl,by simp,by simp,by simp,by simp,by simp,by simp,by simp,by simp,by simp⟩
 · intro i hi9 L v w9 xa hI hL hd hv ho
   have hi':i=0 ∨ i=1 ∨ i=2 ∨ i=3 ∨ i=4 ∨ i=5 ∨ i=6 ∨ i=7 ∨ i=8 ∨ i=9:=by simp at hi9;omega
   obtain ⟨hb,hz,qn,qo,k0,kf,q0,q1,q2,q3,q4,q5,q6,q7,q8⟩:=hI
   rcases hi' with rfl | rfl | rfl | rfl | rfl | rfl | rfl | rfl | rfl | rfl
   · have e0:xa.tmps.getD 0 undef=.pointer (some ⟨R,0,none⟩):=ho 0 (by kernel_rfl)
     refine Ri.step_plain rfl rfl (fun K' hK=>?_)
     go_simp
     exact hK _ _ ⟨_,_,rfl,rfl,hb,hz,qn,qo,k0,kf,fun _=>rfl,q1,q2,q3,q4,q5,q6,q7,q8⟩
   · have l0:L 0=true:=by have:=hd _ rfl;simp [Region.binds] at this;simp [this]
     have f0:=(hv 0 27 rfl l0).trans (q0 l0)
     refine Ri.step_plain rfl rfl (fun K' hK=>?_)
     go_simp
     exact hK _ _ ⟨_,_,rfl,rfl,hb,hz,qn,qo,k0,kf,q0,fun _=>rfl,q2,q3,q4,q5,q6,q7,q8⟩
   · have l0:L 1=true:=by have:=hd _ rfl;simp [Region.binds] at this;simp [this]
     have f1:=(hv 1 28 rfl l0).trans (q1 l0)
     refine Ri.step_plain rfl rfl (fun K' hK=>?_)
     go_simp
     exact hK _ _ ⟨_,_,rfl,rfl,hb,hz,qn,qo,k0,kf,q0,q1,fun _=>rfl,q3,q4,q5,q6,q7,q8⟩
   · have l0:L 2=true:=by have:=hd _ rfl;simp [Region.binds] at this;simp [this]
     have f2:=(hv 2 29 rfl l0).trans (q2 l0)
     refine Ri.step_plain rfl rfl (fun K' hK=>?_)
     obtain ⟨_,_,_,_,_,k5',_⟩:=st7 k0
     go_simp
     exact hK _ _ ⟨_,_,rfl,rfl,hb,hz,qn,qo,k0,kf,q0,q1,q2,fun _=>rfl,q4,q5,q6,q7,q8⟩
   · have e0:xa.tmps.getD 0 undef=.pointer (some ⟨R,0,none⟩):=ho 0 (by kernel_rfl)
     refine Ri.step_plain rfl rfl (fun K' hK=>?_)
     go_simp
     exact hK _ _ ⟨_,_,rfl,rfl,hb,hz,qn,qo,k0,kf,q0,q1,q2,q3,fun _=>rfl,q5,q6,q7,q8⟩
   · have l0:L 4=true:=by have:=hd _ rfl;simp [Region.binds] at this;simp [this]
     have f4:=(hv 4 31 rfl l0).trans (q4 l0)
     refine Ri.step_plain rfl rfl (fun K' hK=>?_)
     go_simp
     exact hK _ _ ⟨_,_,rfl,rfl,hb,hz,qn,qo,k0,kf,q0,q1,q2,q3,q4,fun _=>rfl,q6,q7,q8⟩
   · have l0:L 5=true:=by have:=hd _ rfl;simp [Region.binds] at this;simp [this]
     have f5:=(hv 5 32 rfl l0).trans (q5 l0)
     refine Ri.step_plain rfl rfl (fun K' hK=>?_)
     go_simp
     exact hK _ _ ⟨_,_,rfl,rfl,hb,hz,qn,qo,k0,kf,q0,q1,q2,q3,q4,q5,fun _=>rfl,q7,q8⟩
   · have l0:L 6=true:=by have:=hd _ rfl;simp [Region.binds] at this;simp [this]
     have f6:=(hv 6 33 rfl l0).trans (q6 l0)
     refine Ri.step_plain rfl rfl (fun K' hK=>?_)
     obtain ⟨_,_,_,_,_,_,k6'⟩:=st7 k0
     go_simp
     exact hK _ _ ⟨_,_,rfl,rfl,hb,hz,qn,qo,k0,kf,q0,q1,q2,q3,q4,q5,q6,fun _=>rfl,q8⟩
   · have l0:L 3=true∧L 7=true:=by have:=hd _ rfl;simp [Region.binds] at this;simp [this]
     have f3:=(hv 3 30 rfl l0.1).trans (q3 l0.1)
     have f7:=(hv 7 34 rfl l0.2).trans (q7 l0.2)
     refine Ri.step_plain rfl rfl (fun K' hK=>?_)
     have g30:=(Array.getD_eq_getD_getElem? (xs:=xa.tmps) (i:=30) (d:=undef)).symm.trans f3
     have g34:=(Array.getD_eq_getD_getElem? (xs:=xa.tmps) (i:=34) (d:=undef)).symm.trans f7
     go_simp
     exact hK _ _ ⟨_,_,rfl,rfl,hb,hz,qn,qo,k0,kf,q0,q1,q2,q3,q4,q5,q6,q7,fun _=>rfl⟩
   · have l0:L 8=true:=by have:=hd _ rfl;simp [Region.binds] at this;simp [this]
     have f8:=(hv 8 35 rfl l0).trans (q8 l0)
     have e4:xa.tmps.getD 4 undef=.pointer (some ⟨w.heap.size+1,0,none⟩):=ho 4 (by kernel_rfl)
     refine Ri.step_plain rfl rfl (fun K' hK=>?_)
     refine wp_store_row _ _ _ rfl (w.heap.size+1) #[.int .i64 0,.int .u64 0,.int .u64 0,.int .u64 0,.int .u64 0,.slice none 0 0,.int .i64 0,.int .i64 0,.int .i64 0,.bool false,.int .i64 0,.int .i64 (c:Int),.int .i64 q] e4 f8 34 _ (qo hL) (by kernel_rfl) (by kernel_rfl) (by simp [Value.oneCell']) ?_
     exact hK _ _ ⟨_,undef,rfl,rfl,below_setRow hb hcut _,by simpa using hz,(fun _=>heap_setRow (qo hL)),(fun h=>by cases h),(heap_setRow_other _ _ _ (by omega)).trans k0,(fun k hk hn=>(heap_setRow_other _ _ _ hn).trans (kf k hk hn)),q0,q1,q2,q3,q4,q5,q6,q7,q8⟩
 · rintro v w9 ⟨hb,hz,qn,-,k0,kf,-,-,-,-,-,-,-,-,-⟩
   have zN:=qn rfl;clear qn
   simp only [Ri.frame,List.zipIdx,List.foldl_cons,List.foldl_nil,if_true,List.setIfInBounds_toArray,List.set_cons_zero,List.set_cons_succ,Nat.reduceAdd]
   generalize v 0=y0;generalize v 1=y1;generalize v 2=y2;generalize v 3=y3;generalize v 4=y4;generalize v 5=y5;generalize v 6=y6;generalize v 7=y7;generalize v 8=y8
   have HTx:Touch [R] w w9:=⟨hb.os,hb.tape,hb.output,Nat.le_trans HT5.out.size hz,fun k hk hn=>(kf k (Nat.lt_of_lt_of_le hk HT5.out.size) (by omega)).trans (HT5.out.block k hk hn)⟩
   go_wp2_with fail
   exact bodyPost_ret (results_cell_row rfl _ _ (w.heap.size+1) 34 #[.int .i64 0,.int .u64 0,.int .u64 0,.int .u64 0,.int .u64 0,.slice none 0 0,.int .i64 0,.int .i64 0,.int .i64 0,.bool false,.int .i64 0,.int .i64 (c:Int),.int .i64 q] (0,0) _ rfl zN Tryz.underlying34 rfl (by kernel_rfl)) rfl ⟨rfl,HTx⟩
theorem esdone_big (w:World) (R:Nat) (s:ByteArray) (i:Nat) (fl:Int) (g:Nat) (ov:Value) (hR:w.heap[R]? = some (.cells (stC s i fl g ov 0 0) 60)) (x:Tr) (p:Option Addr) (l k:Nat) (P:Nat→Prop) (ht:TreesAt w P (.slice p l k) x.subs) (hf:x.InForm) (hsz:2000 < x.szT) :
   Calls Tryz.prog 32 #[.pointer (some ⟨R,0,none⟩),.agg (x.cells (.slice p l k))] w fun e w'=>e=.returned (ansErr 10 (s.size:Int))∧Touch [R] w w':=by
 have hlt:=st_lt hR
 have hb2:Below w.heap.size w ((w.alloc (.cells #[.int .i64 x.kind,.int .u64 (Oc.U x.w0),.int .u64 (Oc.U x.w1),.int .u64 (Oc.U x.w2),.int .u64 (Oc.U x.w3),.slice p l k,.int .i64 x.num,.int .i64 x.least,.int .i64 x.most,.bool x.bare] 28)).alloc (.cells #[.int .i64 0,.int .u64 0,.int .u64 0,.int .u64 0,.int .u64 0,.slice none 0 0,.int .i64 0,.int .i64 0,.int .i64 0,.bool false,.int .i64 0,.int .i64 0,.int .i64 0] 34)):=((Below.refl w.heap.size w).alloc (Nat.le_refl _) _).alloc (by simp) _
 have Z2:=Lib.hid (two_new w (.cells #[.int .i64 x.kind,.int .u64 (Oc.U x.w0),.int .u64 (Oc.U x.w1),.int .u64 (Oc.U x.w2),.int .u64 (Oc.U x.w3),.slice p l k,.int .i64 x.num,.int .i64 x.least,.int .i64 x.most,.bool x.bare] 28) (.cells #[.int .i64 0,.int .u64 0,.int .u64 0,.int .u64 0,.int .u64 0,.slice none 0 0,.int .i64 0,.int .i64 0,.int .i64 0,.bool false,.int .i64 0,.int .i64 0,.int .i64 0] 34)).2
 have B2:=Lib.hid (two_new w (.cells #[.int .i64 x.kind,.int .u64 (Oc.U x.w0),.int .u64 (Oc.U x.w1),.int .u64 (Oc.U x.w2),.int .u64 (Oc.U x.w3),.slice p l k,.int .i64 x.num,.int .i64 x.least,.int .i64 x.most,.bool x.bare] 28) (.cells #[.int .i64 0,.int .u64 0,.int .u64 0,.int .u64 0,.int .u64 0,.slice none 0 0,.int .i64 0,.int .i64 0,.int .i64 0,.bool false,.int .i64 0,.int .i64 0,.int .i64 0] 34)).1
 have HC2:=Lib.hid (keep_blk hb2 hR);have HB2:=Lib.hid hb2
 have hcut:(cutW w R).heap.size ≤ w.heap.size+1:=by rw [cutW_size hlt];omega
 have hge:decide ((2000:Int) < (x.szT:Int))=true:=by simp;omega
 have hge':decide (2000 < x.szT)=true:=by simp;omega
 have HSZ:=Lib.hid (fun w' (hb:Below w.heap.size w w')=>refSize_any x hf w' P _ ⟨_,rfl,ht.later hb⟩)
 have hsz2:=HSZ.out _ hb2
 have HS2:=Lib.hid hsz2
 obtain ⟨c0,c1,c2,c3,c4,c5,c6⟩:=st7 HC2.out
 obtain ⟨d0,d1,d2,d3,d4,d5,d6,d7,d8,d9⟩:=allTen B2.out
 clear hR hb2 hf ht HSZ hsz2
 unfold Tr.cells ansErr at *
 go_enter Tryz.func32,Tryz.ntmps32
 go_wp2_with fail
 refine HS2.out.mono ?_
 rintro e w3 ⟨rfl,hb3⟩
 have HB3:=Lib.hid (HB2.out.trans (hb3.mono HB2.out.size));have Z3:=Lib.hid (keep_blk hb3 Z2.out);have HC3:=Lib.hid (keep_blk hb3 HC2.out)
 clear hb3 c0 c1 c2 c3 c4 c5 c6 d0 d1 d2 d3 d4 d5 d6 d7 d8 d9 HC2 Z2
 obtain ⟨c0,c1,c2,c3,c4,c5,c6⟩:=st7 HC3.out
 go_wp2_with fail
 refine (esfault_any w3 R s i fl g ov 0 HC3.out 10 (s.size:Int)).mono ?_
 rintro e W5 ⟨rfl,hR5,ht5⟩
 have HC5:=Lib.hid hR5;have Z5:=Lib.hid ((ht5.block (w.heap.size+1) (blk_lt Z3.out) (by simp;omega)).trans Z3.out)
 have HT5:=Lib.hid ((Touch.of_below [R] HB3.out).trans ht5)
 have HBC:=Lib.hid (cutW_below hlt HT5.out)
 clear hR5 ht5 c0 c1 c2 c3 c4 c5 c6
 obtain ⟨c0,c1,c2,c3,c4,c5,c6⟩:=st7 HC5.out
 go_upto_region 4 with (fail)
 clear c0 c1 c2 c3 c4 c5 c6
 have hsW:w.heap.size+1 < W5.heap.size:=blk_lt Z5.out
 refine Ri.wp_region_frame (by kernel_rfl) (by kernel_rfl) (by kernel_rfl) (by kernel_rfl)
   (fun L v w'=>Below (cutW w R).heap.size (cutW w R) w'∧W5.heap.size ≤ w'.heap.size∧(L 9=true→w'.heap[(w.heap.size+1)]? = some (.cells #[.int .i64 0,.int .u64 0,.int .u64 0,.int .u64 0,.int .u64 0,.slice none 0 0,.int .i64 0,.int .i64 0,.int .i64 0,.bool false,.int .i64 0,.int .i64 (10:Int),.int .i64 (s.size:Int)] 34))∧(L 9=false→w'.heap[(w.heap.size+1)]? = some (.cells #[.int .i64 0,.int .u64 0,.int .u64 0,.int .u64 0,.int .u64 0,.slice none 0 0,.int .i64 0,.int .i64 0,.int .i64 0,.bool false,.int .i64 0,.int .i64 0,.int .i64 0] 34))∧w'.heap[R]? = some (.cells (stC s i fl g ov 10 (s.size:Int)) 60)∧(∀ k,k < W5.heap.size→k ≠ (w.heap.size+1)→w'.heap[k]? = W5.heap[k]?)∧(L 0=true→v 0=.pointer (some ⟨R,0,none⟩))∧(L 1=true→v 1=.pointer (some ⟨R,0,none⟩))∧(L 2=true→v 2=.pointer (some ⟨R,5,none⟩))∧(L 3=true→v 3=.int .i64 (10:Int))∧(L 4=true→v 4=.pointer (some ⟨R,0,none⟩))∧(L 5=true→v 5=.pointer (some ⟨R,0,none⟩))∧(L 6=true→v 6=.pointer (some ⟨R,6,none⟩))∧(L 7=true→v 7=.int .i64 (s.size:Int))∧(L 8=true→v 8=.agg #[.int .i64 0,.int .u64 0,.int .u64 0,.int .u64 0,.int .u64 0,.slice none 0 0,.int .i64 0,.int .i64 0,.int .i64 0,.bool false,.int .i64 0,.int .i64 (10:Int),.int .i64 (s.size:Int)]))
   ?_ ?_ ?_
 · exact ⟨HBC.out.drew,Nat.le_refl _,(by simp),(fun _=>Z5.out),HC5.out,fun _ _ _=>rfl,by simp,by simp,by simp,by simp,by simp,by simp,by simp,by simp,by simp⟩
 · intro i hi9 L v w9 xa hI hL hd hv ho
   have hi':i=0 ∨ i=1 ∨ i=2 ∨ i=3 ∨ i=4 ∨ i=5 ∨ i=6 ∨ i=7 ∨ i=8 ∨ i=9:=by simp at hi9;omega
   obtain ⟨hb,hz,qn,qo,k0,kf,q0,q1,q2,q3,q4,q5,q6,q7,q8⟩:=hI
   rcases hi' with rfl | rfl | rfl | rfl | rfl | rfl | rfl | rfl | rfl | rfl
   · have e0:xa.tmps.getD 0 undef=.pointer (some ⟨R,0,none⟩):=ho 0 (by kernel_rfl)
     refine Ri.step_plain rfl rfl (fun K' hK=>?_)
     go_simp
     exact hK _ _ ⟨_,_,rfl,rfl,hb,hz,qn,qo,k0,kf,fun _=>rfl,q1,q2,q3,q4,q5,q6,q7,q8⟩
   · have l0:L 0=true:=by have:=hd _ rfl;simp [Region.binds] at this;simp [this]
     have f0:=(hv 0 27 rfl l0).trans (q0 l0)
     refine Ri.step_plain rfl rfl (fun K' hK=>?_)
     go_simp
     exact hK _ _ ⟨_,_,rfl,rfl,hb,hz,qn,qo,k0,kf,q0,fun _=>rfl,q2,q3,q4,q5,q6,q7,q8⟩
   · have l0:L 1=true:=by have:=hd _ rfl;simp [Region.binds] at this;simp [this]
     have f1:=(hv 1 28 rfl l0).trans (q1 l0)
     refine Ri.step_plain rfl rfl (fun K' hK=>?_)
     go_simp
     exact hK _ _ ⟨_,_,rfl,rfl,hb,hz,qn,qo,k0,kf,q0,q1,fun _=>rfl,q3,q4,q5,q6,q7,q8⟩
   · have l0:L 2=true:=by have:=hd _ rfl;simp [Region.binds] at this;simp [this]
     have f2:=(hv 2 29 rfl l0).trans (q2 l0)
     refine Ri.step_plain rfl rfl (fun K' hK=>?_)
     obtain ⟨_,_,_,_,_,k5',_⟩:=st7 k0
     go_simp
     exact hK _ _ ⟨_,_,rfl,rfl,hb,hz,qn,qo,k0,kf,q0,q1,q2,fun _=>rfl,q4,q5,q6,q7,q8⟩
   · have e0:xa.tmps.getD 0 undef=.pointer (some ⟨R,0,none⟩):=ho 0 (by kernel_rfl)
     refine Ri.step_plain rfl rfl (fun K' hK=>?_)
     go_simp
     exact hK _ _ ⟨_,_,rfl,rfl,hb,hz,qn,qo,k0,kf,q0,q1,q2,q3,fun _=>rfl,q5,q6,q7,q8⟩
   · have l0:L 4=true:=by have:=hd _ rfl;simp [Region.binds] at this;simp [this]
     have f4:=(hv 4 31 rfl l0).trans (q4 l0)
     refine Ri.step_plain rfl rfl (fun K' hK=>?_)
     go_simp
     exact hK _ _ ⟨_,_,rfl,rfl,hb,hz,qn,qo,k0,kf,q0,q1,q2,q3,q4,fun _=>rfl,q6,q7,q8⟩
   · have l0:L 5=true:=by have:=hd _ rfl;simp [Region.binds] at this;simp [this]
     have f5:=(hv 5 32 rfl l0).trans (q5 l0)
     refine Ri.step_plain rfl rfl (fun K' hK=>?_)
     go_simp
     exact hK _ _ ⟨_,_,rfl,rfl,hb,hz,qn,qo,k0,kf,q0,q1,q2,q3,q4,q5,fun _=>rfl,q7,q8⟩
   · have l0:L 6=true:=by have:=hd _ rfl;simp [Region.binds] at this;simp [this]
     have f6:=(hv 6 33 rfl l0).trans (q6 l0)
     refine Ri.step_plain rfl rfl (fun K' hK=>?_)
     obtain ⟨_,_,_,_,_,_,k6'⟩:=st7 k0
     go_simp
     exact hK _ _ ⟨_,_,rfl,rfl,hb,hz,qn,qo,k0,kf,q0,q1,q2,q3,q4,q5,q6,fun _=>rfl,q8⟩
   · have l0:L 3=true∧L 7=true:=by have:=hd _ rfl;simp [Region.binds] at this;simp [this]
     have f3:=(hv 3 30 rfl l0.1).trans (q3 l0.1)
     have f7:=(hv 7 34 rfl l0.2).trans (q7 l0.2)
     refine Ri.step_plain rfl rfl (fun K' hK=>?_)
     have g30:=(Array.getD_eq_getD_getElem? (xs:=xa.tmps) (i:=30) (d:=undef)).symm.trans f3
     have g34:=(Array.getD_eq_getD_getElem? (xs:=xa.tmps) (i:=34) (d:=undef)).symm.trans f7
     go_simp
     exact hK _ _ ⟨_,_,rfl,rfl,hb,hz,qn,qo,k0,kf,q0,q1,q2,q3,q4,q5,q6,q7,fun _=>rfl⟩
   · have l0:L 8=true:=by have:=hd _ rfl;simp [Region.binds] at this;simp [this]
     have f8:=(hv 8 35 rfl l0).trans (q8 l0)
     have e4:xa.tmps.getD 4 undef=.pointer (some ⟨w.heap.size+1,0,none⟩):=ho 4 (by kernel_rfl)
     refine Ri.step_plain rfl rfl (fun K' hK=>?_)
     refine wp_store_row _ _ _ rfl (w.heap.size+1) #[.int .i64 0,.int .u64 0,.int .u64 0,.int .u64 0,.int .u64 0,.slice none 0 0,.int .i64 0,.int .i64 0,.int .i64 0,.bool false,.int .i64 0,.int .i64 (10:Int),.int .i64 (s.size:Int)] e4 f8 34 _ (qo hL) (by kernel_rfl) (by kernel_rfl) (by simp [Value.oneCell']) ?_
     exact hK _ _ ⟨_,undef,rfl,rfl,below_setRow hb hcut _,by simpa using hz,(fun _=>heap_setRow (qo hL)),(fun h=>by cases h),(heap_setRow_other _ _ _ (by omega)).trans k0,(fun k hk hn=>(heap_setRow_other _ _ _ hn).trans (kf k hk hn)),q0,q1,q2,q3,q4,q5,q6,q7,q8⟩
 · rintro v w9 ⟨hb,hz,qn,-,k0,kf,-,-,-,-,-,-,-,-,-⟩
   have zN:=qn rfl;clear qn
   simp only [Ri.frame,List.zipIdx,List.foldl_cons,List.foldl_nil,if_true,List.setIfInBounds_toArray,List.set_cons_zero,List.set_cons_succ,Nat.reduceAdd]
   generalize v 0=y0;generalize v 1=y1;generalize v 2=y2;generalize v 3=y3;generalize v 4=y4;generalize v 5=y5;generalize v 6=y6;generalize v 7=y7;generalize v 8=y8
   have HTx:Touch [R] w w9:=⟨hb.os,hb.tape,hb.output,Nat.le_trans HT5.out.size hz,fun k hk hn=>(kf k (Nat.lt_of_lt_of_le hk HT5.out.size) (by omega)).trans (HT5.out.block k hk hn)⟩
   go_wp2_with fail
   exact bodyPost_ret (results_cell_row rfl _ _ (w.heap.size+1) 34 #[.int .i64 0,.int .u64 0,.int .u64 0,.int .u64 0,.int .u64 0,.slice none 0 0,.int .i64 0,.int .i64 0,.int .i64 0,.bool false,.int .i64 0,.int .i64 (10:Int),.int .i64 (s.size:Int)] (0,0) _ rfl zN Tryz.underlying34 rfl (by kernel_rfl)) rfl ⟨rfl,HTx⟩
theorem esdone_ok (w:World) (R:Nat) (s:ByteArray) (i:Nat) (fl:Int) (g:Nat) (ov:Value) (hR:w.heap[R]? = some (.cells (stC s i fl g ov 0 0) 60)) (x:Tr) (p:Option Addr) (l k:Nat) (P:Nat→Prop) (ht:TreesAt w P (.slice p l k) x.subs) (hf:x.InForm) (hsz:x.szT ≤ 2000) :
   Calls Tryz.prog 32 #[.pointer (some ⟨R,0,none⟩),.agg (x.cells (.slice p l k))] w fun e w'=>e=.returned (ansOk x p l k g)∧Touch [R] w w':=by
 have hlt:=st_lt hR
 have hb2:Below w.heap.size w ((w.alloc (.cells #[.int .i64 x.kind,.int .u64 (Oc.U x.w0),.int .u64 (Oc.U x.w1),.int .u64 (Oc.U x.w2),.int .u64 (Oc.U x.w3),.slice p l k,.int .i64 x.num,.int .i64 x.least,.int .i64 x.most,.bool x.bare] 28)).alloc (.cells #[.int .i64 0,.int .u64 0,.int .u64 0,.int .u64 0,.int .u64 0,.slice none 0 0,.int .i64 0,.int .i64 0,.int .i64 0,.bool false,.int .i64 0,.int .i64 0,.int .i64 0] 34)):=((Below.refl w.heap.size w).alloc (Nat.le_refl _) _).alloc (by simp) _
 have Z2:=Lib.hid (two_new w (.cells #[.int .i64 x.kind,.int .u64 (Oc.U x.w0),.int .u64 (Oc.U x.w1),.int .u64 (Oc.U x.w2),.int .u64 (Oc.U x.w3),.slice p l k,.int .i64 x.num,.int .i64 x.least,.int .i64 x.most,.bool x.bare] 28) (.cells #[.int .i64 0,.int .u64 0,.int .u64 0,.int .u64 0,.int .u64 0,.slice none 0 0,.int .i64 0,.int .i64 0,.int .i64 0,.bool false,.int .i64 0,.int .i64 0,.int .i64 0] 34)).2
 have B2:=Lib.hid (two_new w (.cells #[.int .i64 x.kind,.int .u64 (Oc.U x.w0),.int .u64 (Oc.U x.w1),.int .u64 (Oc.U x.w2),.int .u64 (Oc.U x.w3),.slice p l k,.int .i64 x.num,.int .i64 x.least,.int .i64 x.most,.bool x.bare] 28) (.cells #[.int .i64 0,.int .u64 0,.int .u64 0,.int .u64 0,.int .u64 0,.slice none 0 0,.int .i64 0,.int .i64 0,.int .i64 0,.bool false,.int .i64 0,.int .i64 0,.int .i64 0] 34)).1
 have HC2:=Lib.hid (keep_blk hb2 hR);have HB2:=Lib.hid hb2
 have hcut:(cutW w R).heap.size ≤ w.heap.size+1:=by rw [cutW_size hlt];omega
 have hge:decide ((2000:Int) < (x.szT:Int))=false:=by simp;omega
 have hge':decide (2000 < x.szT)=false:=by simp;omega
 have HSZ:=Lib.hid (fun w' (hb:Below w.heap.size w w')=>refSize_any x hf w' P _ ⟨_,rfl,ht.later hb⟩)
 have hsz2:=HSZ.out _ hb2
 have HS2:=Lib.hid hsz2
 obtain ⟨c0,c1,c2,c3,c4,c5,c6⟩:=st7 HC2.out
 obtain ⟨d0,d1,d2,d3,d4,d5,d6,d7,d8,d9⟩:=allTen B2.out
 clear hR hb2 hf ht HSZ hsz2
 unfold Tr.cells ansOk at *
 go_enter Tryz.func32,Tryz.ntmps32
 go_wp2_with fail
 refine HS2.out.mono ?_
 rintro e W5 ⟨rfl,hb3⟩
 have HB3:=Lib.hid (HB2.out.trans (hb3.mono HB2.out.size));have Z5:=Lib.hid (keep_blk hb3 Z2.out);have B5:=Lib.hid (keep_blk hb3 B2.out);have HC5:=Lib.hid (keep_blk hb3 HC2.out)
 have HT5:=Lib.hid (Touch.of_below [R] HB3.out)
 have HBC:=Lib.hid (cutW_below hlt HT5.out)
 clear hb3 c0 c1 c2 c3 c4 c5 c6 d0 d1 d2 d3 d4 d5 d6 d7 d8 d9 HC2 Z2 B2
 obtain ⟨c0,c1,c2,c3,c4,c5,c6⟩:=st7 HC5.out
 go_upto_region 5 with (fail)
 clear c0 c1 c2 c3 c4 c5 c6
 have hsW:w.heap.size+1 < W5.heap.size:=blk_lt Z5.out
 refine Ri.wp_region_frame (by kernel_rfl) (by kernel_rfl) (by kernel_rfl) (by kernel_rfl)
   (fun L v w'=>Below (cutW w R).heap.size (cutW w R) w'∧W5.heap.size ≤ w'.heap.size∧(L 6=true→w'.heap[(w.heap.size+1)]? = some (.cells #[.int .i64 x.kind,.int .u64 (Oc.U x.w0),.int .u64 (Oc.U x.w1),.int .u64 (Oc.U x.w2),.int .u64 (Oc.U x.w3),.slice p l k,.int .i64 x.num,.int .i64 x.least,.int .i64 x.most,.bool x.bare,.int .i64 (g:Int),.int .i64 0,.int .i64 0] 34))∧(L 6=false→w'.heap[(w.heap.size+1)]? = some (.cells #[.int .i64 0,.int .u64 0,.int .u64 0,.int .u64 0,.int .u64 0,.slice none 0 0,.int .i64 0,.int .i64 0,.int .i64 0,.bool false,.int .i64 0,.int .i64 0,.int .i64 0] 34))∧w'.heap[R]? = some (.cells (stC s i fl g ov 0 0) 60)∧w'.heap[w.heap.size]? = some (.cells #[.int .i64 x.kind,.int .u64 (Oc.U x.w0),.int .u64 (Oc.U x.w1),.int .u64 (Oc.U x.w2),.int .u64 (Oc.U x.w3),.slice p l k,.int .i64 x.num,.int .i64 x.least,.int .i64 x.most,.bool x.bare] 28)∧(∀ k,k < W5.heap.size→k ≠ (w.heap.size+1)→w'.heap[k]? = W5.heap[k]?)∧(L 0=true→v 0=.agg #[.int .i64 x.kind,.int .u64 (Oc.U x.w0),.int .u64 (Oc.U x.w1),.int .u64 (Oc.U x.w2),.int .u64 (Oc.U x.w3),.slice p l k,.int .i64 x.num,.int .i64 x.least,.int .i64 x.most,.bool x.bare])∧(L 1=true→v 1=.pointer (some ⟨R,0,none⟩))∧(L 2=true→v 2=.pointer (some ⟨R,0,none⟩))∧(L 3=true→v 3=.pointer (some ⟨R,3,none⟩))∧(L 4=true→v 4=.int .i64 (g:Int))∧(L 5=true→v 5=.agg #[.int .i64 x.kind,.int .u64 (Oc.U x.w0),.int .u64 (Oc.U x.w1),.int .u64 (Oc.U x.w2),.int .u64 (Oc.U x.w3),.slice p l k,.int .i64 x.num,.int .i64 x.least,.int .i64 x.most,.bool x.bare,.int .i64 (g:Int),.int .i64 0,.int .i64 0]))
   ?_ ?_ ?_
 · exact ⟨HBC.out.drew,Nat.le_refl _,(by simp),(fun _=>Z5.out),HC5.out,B5.out,fun _ _ _=>rfl,by simp,by simp,by simp,by simp,by simp,by simp⟩
 · intro i hi9 L v w9 xa hI hL hd hv ho
   have hi':i=0 ∨ i=1 ∨ i=2 ∨ i=3 ∨ i=4 ∨ i=5 ∨ i=6:=by simp at hi9;omega
   obtain ⟨hb,hz,qn,qo,k0,k1,kf,q0,q1,q2,q3,q4,q5⟩:=hI
   rcases hi' with rfl | rfl | rfl | rfl | rfl | rfl | rfl
   · have e3:xa.tmps.getD 3 undef=.pointer (some ⟨w.heap.size,0,none⟩):=ho 3 (by kernel_rfl)
     refine Ri.step_plain rfl rfl (fun K' hK=>?_)
     refine wp_load_row _ _ rfl _ e3 _ _ _ _ k1 Tryz.underlying28 rfl (by kernel_rfl) ?_
     exact hK _ _ ⟨_,_,rfl,rfl,hb,hz,qn,qo,k0,k1,kf,fun _=>rfl,q1,q2,q3,q4,q5⟩
   · have e0:xa.tmps.getD 0 undef=.pointer (some ⟨R,0,none⟩):=ho 0 (by kernel_rfl)
     refine Ri.step_plain rfl rfl (fun K' hK=>?_)
     go_simp
     exact hK _ _ ⟨_,_,rfl,rfl,hb,hz,qn,qo,k0,k1,kf,q0,fun _=>rfl,q2,q3,q4,q5⟩
   · have l0:L 1=true:=by have:=hd _ rfl;simp [Region.binds] at this;simp [this]
     have f1:=(hv 1 37 rfl l0).trans (q1 l0)
     refine Ri.step_plain rfl rfl (fun K' hK=>?_)
     go_simp
     exact hK _ _ ⟨_,_,rfl,rfl,hb,hz,qn,qo,k0,k1,kf,q0,q1,fun _=>rfl,q3,q4,q5⟩
   · have l0:L 2=true:=by have:=hd _ rfl;simp [Region.binds] at this;simp [this]
     have f2:=(hv 2 38 rfl l0).trans (q2 l0)
     refine Ri.step_plain rfl rfl (fun K' hK=>?_)
     go_simp
     exact hK _ _ ⟨_,_,rfl,rfl,hb,hz,qn,qo,k0,k1,kf,q0,q1,q2,fun _=>rfl,q4,q5⟩
   · have l0:L 3=true:=by have:=hd _ rfl;simp [Region.binds] at this;simp [this]
     have f3:=(hv 3 39 rfl l0).trans (q3 l0)
     refine Ri.step_plain rfl rfl (fun K' hK=>?_)
     obtain ⟨_,_,_,k3',_⟩:=st7 k0
     go_simp
     exact hK _ _ ⟨_,_,rfl,rfl,hb,hz,qn,qo,k0,k1,kf,q0,q1,q2,q3,fun _=>rfl,q5⟩
   · have l0:L 0=true∧L 4=true:=by have:=hd _ rfl;simp [Region.binds] at this;simp [this]
     have f0:=(hv 0 36 rfl l0.1).trans (q0 l0.1)
     have f4:=(hv 4 40 rfl l0.2).trans (q4 l0.2)
     refine Ri.step_plain rfl rfl (fun K' hK=>?_)
     have g36:=(Array.getD_eq_getD_getElem? (xs:=xa.tmps) (i:=36) (d:=undef)).symm.trans f0
     have g40:=(Array.getD_eq_getD_getElem? (xs:=xa.tmps) (i:=40) (d:=undef)).symm.trans f4
     go_simp
     exact hK _ _ ⟨_,_,rfl,rfl,hb,hz,qn,qo,k0,k1,kf,q0,q1,q2,q3,q4,fun _=>rfl⟩
   · have l0:L 5=true:=by have:=hd _ rfl;simp [Region.binds] at this;simp [this]
     have f5:=(hv 5 41 rfl l0).trans (q5 l0)
     have e4:xa.tmps.getD 4 undef=.pointer (some ⟨w.heap.size+1,0,none⟩):=ho 4 (by kernel_rfl)
     refine Ri.step_plain rfl rfl (fun K' hK=>?_)
     refine wp_store_row _ _ _ rfl (w.heap.size+1) #[.int .i64 x.kind,.int .u64 (Oc.U x.w0),.int .u64 (Oc.U x.w1),.int .u64 (Oc.U x.w2),.int .u64 (Oc.U x.w3),.slice p l k,.int .i64 x.num,.int .i64 x.least,.int .i64 x.most,.bool x.bare,.int .i64 (g:Int),.int .i64 0,.int .i64 0] e4 f5 34 _ (qo hL) (by kernel_rfl) (by kernel_rfl) (by simp [Value.oneCell']) ?_
     exact hK _ _ ⟨_,undef,rfl,rfl,below_setRow hb hcut _,by simpa using hz,(fun _=>heap_setRow (qo hL)),(fun h=>by cases h),(heap_setRow_other _ _ _ (by omega)).trans k0,(heap_setRow_other _ _ _ (by omega)).trans k1,(fun k hk hn=>(heap_setRow_other _ _ _ hn).trans (kf k hk hn)),q0,q1,q2,q3,q4,q5⟩
 · rintro v w9 ⟨hb,hz,qn,-,k0,k1,kf,-,-,-,-,-,-⟩
   have zN:=qn rfl;clear qn
   simp only [Ri.frame,List.zipIdx,List.foldl_cons,List.foldl_nil,if_true,List.setIfInBounds_toArray,List.set_cons_zero,List.set_cons_succ,Nat.reduceAdd]
   generalize v 0=y0;generalize v 1=y1;generalize v 2=y2;generalize v 3=y3;generalize v 4=y4;generalize v 5=y5
   have HTx:Touch [R] w w9:=⟨hb.os,hb.tape,hb.output,Nat.le_trans HT5.out.size hz,fun k hk hn=>(kf k (Nat.lt_of_lt_of_le hk HT5.out.size) (by omega)).trans (HT5.out.block k hk hn)⟩
   go_wp2_with fail
   exact bodyPost_ret (results_cell_row rfl _ _ (w.heap.size+1) 34 #[.int .i64 x.kind,.int .u64 (Oc.U x.w0),.int .u64 (Oc.U x.w1),.int .u64 (Oc.U x.w2),.int .u64 (Oc.U x.w3),.slice p l k,.int .i64 x.num,.int .i64 x.least,.int .i64 x.most,.bool x.bare,.int .i64 (g:Int),.int .i64 0,.int .i64 0] (0,0) _ rfl zN Tryz.underlying34 rfl (by kernel_rfl)) rfl ⟨rfl,HTx⟩
end Go.Proofs.YtlbhbjmobcikfaaGreatDoor
namespace Go.Proofs.YtlbhbjmobcikfaaGreatDoor
open Go.RowKit
def AnsIs (O:Ep.Out) (w w':World) (v:Value):Prop:=match O with
 | .ok x _ g=>∃ p l k,v=ansOk x p l k g∧TreesAt w' (fun b=>w.heap.size ≤ b) (.slice p l k) x.subs
 | .err c q=>v=ansErr c q∧c ≠ 0
def EsAns (O:Ep.Out) (w:World) (e:Ending) (w':World):Prop:=∃ v,e=.returned v∧AnsIs O w w' v∧Below w.heap.size w w'
theorem whole_of {f:Nat→Nat} {n:Nat} {ic nl:Bool} (hf:Br.Txt f n) (hn:n ≤ 1024):match esb 0 f (Ep.pat f n ic nl 32 0 0) with
   | .err c q=>Ep.whole f n ic nl=.err c q
   | .ok t _ g=>t.InForm∧(2000 < t.szT→Ep.whole f n ic nl=.err 10 n)∧(t.szT ≤ 2000→∃ j,Ep.whole f n ic nl=.ok t j g):=by
 unfold Ep.whole
 cases hp:Ep.pat f n ic nl 32 0 0 with
 | err c q=>rfl
 | ok t j g =>
   have h1:=Ep.alts_next hf (Ep.group_next hf 32) (by omega) hp
   have h2:=(Ep.alts_form hf (Ep.group_next hf 32) (Ep.group_right hf hn 32 0 (by omega)) (by omega) (fun x hx=>by cases hx) (by omega) hp).1
   have h3:=alts_stop _ hp
   by_cases hc:f j=41
   · have hj:=hf.lt hc (by omega)
     have e:esb 0 f (.ok t j g)=.err 2 j:=if_pos ⟨rfl,hc⟩
     rw [e]
     simp only
     rw [if_pos hj]
   · have hj:n ≤ j:=by rcases h3 with h | h;exact h;exact absurd h hc
     have e:esb 0 f (.ok t j g)=.ok t j g:=if_neg (fun h=>hc h.2)
     rw [e]
     simp only
     rw [if_neg (by omega)]
     exact ⟨h2,fun h=>if_pos h,fun h=>⟨j,if_neg (by omega)⟩⟩
theorem esparse_long (w:World) (s:ByteArray) (fl:Int) (hs:1024 < s.size):Calls Tryz.prog 13 #[.string s,.int .i64 fl] w (EsAns (.err 12 1024) w):=by
 have hd:decide ((1024:Int) < s.size)=true:=by simp;omega
 have hd':decide (1024 < s.size)=true:=by simpa using hs
 have Z0:=Lib.hid (heap_alloc_new w (.cells #[.int .i64 0,.int .u64 0,.int .u64 0,.int .u64 0,.int .u64 0,.slice none 0 0,.int .i64 0,.int .i64 0,.int .i64 0,.bool false,.int .i64 0,.int .i64 0,.int .i64 0] 34))
 have HB0:=Lib.hid ((Below.refl w.heap.size w).alloc (Nat.le_refl _) (.cells #[.int .i64 0,.int .u64 0,.int .u64 0,.int .u64 0,.int .u64 0,.slice none 0 0,.int .i64 0,.int .i64 0,.int .i64 0,.bool false,.int .i64 0,.int .i64 0,.int .i64 0] 34))
 clear hs
 go_enter Tryz.func13,Tryz.ntmps13
 go_wp2_with (first
   | (refine wpList_store_row rfl 34 (.tmp 4) (.tmp 10) rfl w.heap.size #[.int .i64 0,.int .u64 0,.int .u64 0,.int .u64 0,.int .u64 0,.slice none 0 0,.int .i64 0,.int .i64 0,.int .i64 0,.bool false,.int .i64 0,.int .i64 12,.int .i64 1024] rfl rfl 34 _ Z0.out (by kernel_rfl) rfl (by simp [Value.oneCell']) ?_)
   | fail)
 exact bodyPost_ret (results_cell_row rfl _ _ w.heap.size 34 #[.int .i64 0,.int .u64 0,.int .u64 0,.int .u64 0,.int .u64 0,.slice none 0 0,.int .i64 0,.int .i64 0,.int .i64 0,.bool false,.int .i64 0,.int .i64 12,.int .i64 1024] (0,0) _ rfl (heap_setRow Z0.out) Tryz.underlying34 rfl (by kernel_rfl)) rfl ⟨_,rfl,⟨rfl,by decide⟩,below_setRow HB0.out (Nat.le_refl _) _⟩
theorem esparse_short (w:World) (s:ByteArray) (fl:Int) (hs:s.size ≤ 1024):Calls Tryz.prog 13 #[.string s,.int .i64 fl] w (EsAns (Ep.whole (bt s) s.size (icB fl) (nlB fl)) w):=by
 have hd:decide ((1024:Int) < s.size)=false:=by simp;omega
 have hd':decide (1024 < s.size)=false:=by simp;omega
 have hb2:Below w.heap.size w ((w.alloc (.cells #[.int .i64 0,.int .u64 0,.int .u64 0,.int .u64 0,.int .u64 0,.slice none 0 0,.int .i64 0,.int .i64 0,.int .i64 0,.bool false,.int .i64 0,.int .i64 0,.int .i64 0] 34)).alloc (.cells (stC s 0 fl 0 (.slice none 0 0) 0 0) 60)):=((Below.refl w.heap.size w).alloc (Nat.le_refl _) _).alloc (by simp) _
 have HB2:=Lib.hid hb2
 have hs2:((w.alloc (.cells #[.int .i64 0,.int .u64 0,.int .u64 0,.int .u64 0,.int .u64 0,.slice none 0 0,.int .i64 0,.int .i64 0,.int .i64 0,.bool false,.int .i64 0,.int .i64 0,.int .i64 0] 34)).alloc (.cells (stC s 0 fl 0 (.slice none 0 0) 0 0) 60)).heap.size=w.heap.size+2:=by simp
 have Z2:=Lib.hid (two_new w (.cells #[.int .i64 0,.int .u64 0,.int .u64 0,.int .u64 0,.int .u64 0,.slice none 0 0,.int .i64 0,.int .i64 0,.int .i64 0,.bool false,.int .i64 0,.int .i64 0,.int .i64 0] 34) (.cells (stC s 0 fl 0 (.slice none 0 0) 0 0) 60)).1
 have HC2:=Lib.hid (two_new w (.cells #[.int .i64 0,.int .u64 0,.int .u64 0,.int .u64 0,.int .u64 0,.slice none 0 0,.int .i64 0,.int .i64 0,.int .i64 0,.bool false,.int .i64 0,.int .i64 0,.int .i64 0] 34) (.cells (stC s 0 fl 0 (.slice none 0 0) 0 0) 60)).2
 have hw0:=whole_of (ic:=icB fl) (nl:=nlB fl) (bt_txt s) hs
 generalize Ep.whole (bt s) s.size (icB fl) (nlB fl)=O at *
 have HW:=Lib.hid hw0
 clear hw0
 have hop:Opn ((w.alloc (.cells #[.int .i64 0,.int .u64 0,.int .u64 0,.int .u64 0,.int .u64 0,.slice none 0 0,.int .i64 0,.int .i64 0,.int .i64 0,.bool false,.int .i64 0,.int .i64 0,.int .i64 0] 34)).alloc (.cells (stC s 0 fl 0 (.slice none 0 0) 0 0) 60)) (w.heap.size+1) 0 (.slice none 0 0):=⟨[],World.ownsRow_nil _ _ _ _⟩
 have HPC:=Lib.hid (espat_any _ (w.heap.size+1) s hs fl _ HC2.out hop)
 clear hb2 hs hop
 go_enter Tryz.func13,Tryz.ntmps13
 go_upto_region 4 with (fail)
 go_wp2_with fail
 refine HPC.out.mono ?_
 intro e w3 he
 clear HPC
 obtain ⟨ov3,x,p,l,k,rfl,-,-,ht3,hAB⟩:=he.cases
 generalize (w.alloc _).alloc _=W2 at *
 have ht3':Touch [w.heap.size+1] W2 w3:=ht3.mono (fun k hk=>by rcases mem_obs.1 hk with h | h;exact List.mem_singleton.2 h;cases h)
 have Z3:=Lib.hid ((ht3'.block w.heap.size (blk_lt Z2.out) (by simp)).trans Z2.out)
 have HT3:=Lib.hid ((Touch.of_below [w.heap.size+1] HB2.out).trans ht3')
 have HAB:=Lib.hid hAB
 clear he ht3 ht3' hAB Z2 HB2 HC2
 unfold Tr.cells
 go_upto_region 5 with (fail)
 have hbx:Below w3.heap.size w3 (w3.alloc (.cells #[.int .i64 x.kind,.int .u64 (Oc.U x.w0),.int .u64 (Oc.U x.w1),.int .u64 (Oc.U x.w2),.int .u64 (Oc.U x.w3),.slice p l k,.int .i64 x.num,.int .i64 x.least,.int .i64 x.most,.bool x.bare] 28)):=(Below.refl _ _).alloc (Nat.le_refl _) _
 have HBX:=Lib.hid hbx
 have HTX:=Lib.hid (HT3.out.later hbx);have ZX:=Lib.hid (keep_blk hbx Z3.out);have YX:=Lib.hid (heap_alloc_new w3 (.cells #[.int .i64 x.kind,.int .u64 (Oc.U x.w0),.int .u64 (Oc.U x.w1),.int .u64 (Oc.U x.w2),.int .u64 (Oc.U x.w3),.slice p l k,.int .i64 x.num,.int .i64 x.least,.int .i64 x.most,.bool x.bare] 28))
 obtain ⟨d0,d1,d2,d3,d4,d5,d6,d7,d8,d9⟩:=allTen YX.out
 clear hbx Z3 HT3 YX
 generalize w3.alloc (.cells #[.int .i64 x.kind,.int .u64 (Oc.U x.w0),.int .u64 (Oc.U x.w1),.int .u64 (Oc.U x.w2),.int .u64 (Oc.U x.w3),.slice p l k,.int .i64 x.num,.int .i64 x.least,.int .i64 x.most,.bool x.bare] 28)=WX at *
 rcases HAB.out with ⟨j,g,hO,htr,hc⟩ | ⟨c,q,j,g,hO,hcn,hc,-,-⟩
 · have hw:=HW.out
   rw [hO] at hw
   obtain ⟨hf,hbig,hok⟩:=hw
   have htX:=htr.later HBX.out
   have hcX:=keep_blk HBX.out hc
   by_cases hsz:2000 < x.szT
   · have HOW:=Lib.hid (hbig hsz)
     have hd5:=esdone_big WX _ s j fl g _ hcX x p l k _ htX hf hsz
     unfold Tr.cells ansErr at hd5
     have HD5:=Lib.hid hd5
     clear hd5 hbig hok htX hcX htr hc HAB HW hf hsz hO
     go_wp2_with fail
     refine HD5.out.mono ?_
     rintro e w5 ⟨rfl,ht5⟩
     have HT5:=Lib.hid (HTX.out.trans ht5)
     have Z5:=Lib.hid ((ht5.block w.heap.size (blk_lt ZX.out) (by simp)).trans ZX.out)
     clear ht5
     go_wp2_with (first
       | (refine wpList_store_row rfl 34 (.tmp 4) (.tmp 19) rfl w.heap.size #[.int .i64 0,.int .u64 0,.int .u64 0,.int .u64 0,.int .u64 0,.slice none 0 0,.int .i64 0,.int .i64 0,.int .i64 0,.bool false,.int .i64 0,.int .i64 10,.int .i64 (s.size:Int)] rfl rfl 34 _ Z5.out (by kernel_rfl) rfl (by simp [Value.oneCell']) ?_)
       | fail)
     exact bodyPost_ret (results_cell_row rfl _ _ w.heap.size 34 #[.int .i64 0,.int .u64 0,.int .u64 0,.int .u64 0,.int .u64 0,.slice none 0 0,.int .i64 0,.int .i64 0,.int .i64 0,.bool false,.int .i64 0,.int .i64 10,.int .i64 (s.size:Int)] (0,0) _ rfl (heap_setRow Z5.out) Tryz.underlying34 rfl (by kernel_rfl)) rfl ⟨_,rfl,(by rw [HOW.out];exact ⟨rfl,by decide⟩),below_setRow (HT5.out.below (fun k hk=>by have:=List.mem_singleton.1 hk;omega) (Nat.le_refl _)) (Nat.le_refl _) _⟩
   · obtain ⟨j',hok2⟩:=hok (by omega)
     have HOW:=Lib.hid hok2
     have hd5:=esdone_ok WX _ s j fl g _ hcX x p l k _ htX hf (by omega)
     unfold Tr.cells ansOk at hd5
     have HD5:=Lib.hid hd5;have HTR:=Lib.hid htX
     clear hd5 hbig hok hok2 htX hcX htr hc HAB HW hf hsz hO
     go_wp2_with fail
     refine HD5.out.mono ?_
     rintro e w5 ⟨rfl,ht5⟩
     have HT5:=Lib.hid (HTX.out.trans ht5)
     have Z5:=Lib.hid ((ht5.block w.heap.size (blk_lt ZX.out) (by simp)).trans ZX.out)
     have HTR5:=Lib.hid (HTR.out.keep fun b hb hP=>ht5.block b hb (by simp;rcases hP.1 with h | h;exact h.elim;omega))
     clear ht5
     go_wp2_with (first
       | (refine wpList_store_row rfl 34 (.tmp 4) (.tmp 19) rfl w.heap.size #[.int .i64 x.kind,.int .u64 (Oc.U x.w0),.int .u64 (Oc.U x.w1),.int .u64 (Oc.U x.w2),.int .u64 (Oc.U x.w3),.slice p l k,.int .i64 x.num,.int .i64 x.least,.int .i64 x.most,.bool x.bare,.int .i64 (g:Int),.int .i64 0,.int .i64 0] rfl rfl 34 _ Z5.out (by kernel_rfl) rfl (by simp [Value.oneCell']) ?_)
       | fail)
     exact bodyPost_ret (results_cell_row rfl _ _ w.heap.size 34 #[.int .i64 x.kind,.int .u64 (Oc.U x.w0),.int .u64 (Oc.U x.w1),.int .u64 (Oc.U x.w2),.int .u64 (Oc.U x.w3),.slice p l k,.int .i64 x.num,.int .i64 x.least,.int .i64 x.most,.bool x.bare,.int .i64 (g:Int),.int .i64 0,.int .i64 0] (0,0) _ rfl (heap_setRow Z5.out) Tryz.underlying34 rfl (by kernel_rfl)) rfl ⟨_,rfl,(by rw [HOW.out];exact ⟨p,l,k,rfl,(HTR5.out.keep fun b _ hP=>heap_setRow_other _ _ _ (fun e=>by rcases hP.1 with h | h;exact h.elim;omega)).mono fun b _ hP=>by rcases hP.1 with h | h;exact h.elim;omega⟩),below_setRow (HT5.out.below (fun k hk=>by have:=List.mem_singleton.1 hk;omega) (Nat.le_refl _)) (Nat.le_refl _) _⟩
 · have hw:=HW.out
   rw [hO] at hw
   have HOW:Hid (O=.err c q):=Lib.hid hw
   have hd5:=esdone_err WX _ s j fl g _ c q (keep_blk HBX.out hc) hcn x p l k
   unfold Tr.cells ansErr at hd5
   have HD5:=Lib.hid hd5
   clear hd5 hw hc HAB HW hO
   go_wp2_with fail
   refine HD5.out.mono ?_
   rintro e w5 ⟨rfl,ht5⟩
   have HT5:=Lib.hid (HTX.out.trans ht5)
   have Z5:=Lib.hid ((ht5.block w.heap.size (blk_lt ZX.out) (by simp)).trans ZX.out)
   clear ht5
   go_wp2_with (first
     | (refine wpList_store_row rfl 34 (.tmp 4) (.tmp 19) rfl w.heap.size #[.int .i64 0,.int .u64 0,.int .u64 0,.int .u64 0,.int .u64 0,.slice none 0 0,.int .i64 0,.int .i64 0,.int .i64 0,.bool false,.int .i64 0,.int .i64 (c:Int),.int .i64 q] rfl rfl 34 _ Z5.out (by kernel_rfl) rfl (by simp [Value.oneCell']) ?_)
     | fail)
   exact bodyPost_ret (results_cell_row rfl _ _ w.heap.size 34 #[.int .i64 0,.int .u64 0,.int .u64 0,.int .u64 0,.int .u64 0,.slice none 0 0,.int .i64 0,.int .i64 0,.int .i64 0,.bool false,.int .i64 0,.int .i64 (c:Int),.int .i64 q] (0,0) _ rfl (heap_setRow Z5.out) Tryz.underlying34 rfl (by kernel_rfl)) rfl ⟨_,rfl,(by rw [HOW.out];exact ⟨rfl,hcn⟩),below_setRow (HT5.out.below (fun k hk=>by have:=List.mem_singleton.1 hk;omega) (Nat.le_refl _)) (Nat.le_refl _) _⟩
theorem esparse_any (w:World) (s:ByteArray) (fl:Int):Calls Tryz.prog 13 #[.string s,.int .i64 fl] w (EsAns (Ep.parse (bt s) s.size (icB fl) (nlB fl)) w):=by
 unfold Ep.parse
 by_cases h:1024 < s.size
 · rw [if_pos h];exact esparse_long w s fl h
 · rw [if_neg h];exact esparse_short w s fl (by omega)
end Go.Proofs.YtlbhbjmobcikfaaGreatDoor
namespace Go.Proofs.YtlbhbjmobcikfaaGreatDoor
open Go.RowKit
theorem thirteen {w:World} {b:Nat} {x0 x1 x2 x3 x4 x5 x6 x7 x8 x9 x10 x11 x12:Value} {t:TypeId} (h:w.heap[b]? = some (.cells #[x0,x1,x2,x3,x4,x5,x6,x7,x8,x9,x10,x11,x12] t)) :
   w.cell? ⟨b,0,none⟩=some x0∧w.cell? ⟨b,1,none⟩=some x1∧w.cell? ⟨b,2,none⟩=some x2∧w.cell? ⟨b,3,none⟩=some x3∧w.cell? ⟨b,4,none⟩=some x4∧w.cell? ⟨b,5,none⟩=some x5∧w.cell? ⟨b,6,none⟩=some x6∧w.cell? ⟨b,7,none⟩=some x7∧w.cell? ⟨b,8,none⟩=some x8∧w.cell? ⟨b,9,none⟩=some x9∧w.cell? ⟨b,10,none⟩=some x10∧w.cell? ⟨b,11,none⟩=some x11∧w.cell? ⟨b,12,none⟩=some x12:=by
 simp [World.cell?,h]
theorem ereparses_ok (A:Nat→Addr) (x:ByteArray) (fl:Int) (w:World) (hE:BrEnv w A) (hT:ErrType w) (T:Tr) (j g:Nat) (hO:Ep.parse (bt x) x.size (icB fl) (nlB fl)=.ok T j g) :
   Calls Tryz.prog 3 #[.string x,.int .i64 fl] w fun e w'=>e=.returned (.bool true)∧Below w.heap.size w w':=by
 have hf:=fun w=>esparse_any w x fl
 rw [hO] at hf
 have HL:=Lib.hid (eplives_any A w hE hT)
 have HE:=Lib.hid hE;have HT:=Lib.hid hT
 have HD:=Lib.hid parse_does;have HF:=Lib.hid hf
 have HOO:=Lib.hid hO
 clear hE hT hO hf
 go_enter Tryz.func3,Tryz.ntmps3
 go_wp2_with fail
 refine HL.out.mono ?_;rintro e w1 ⟨rfl,hb1⟩
 have HB1S:=Lib.hid hb1.size;have HB1:=Lib.hid hb1;have HE1:=Lib.hid (HE.out.below hb1)
 clear hb1 HL
 go_wp2_with fail
 refine (HD.out A _ x fl HE1.out).mono ?_
 intro e w2 he
 obtain ⟨v2,F2,rfl,ho2,hF2,hb2⟩:=he.ok HOO.out
 obtain ⟨p2,c2,rfl,-⟩:=ho2.slice
 have HL2:=Lib.hid ho2.lt;have HF2:=Lib.hid hF2
 have hk2:=hb2.alloc hb2.size (.cells #[.int .i64 T.kind,.int .u64 (Oc.U T.w0),.int .u64 (Oc.U T.w1),.int .u64 (Oc.U T.w2),.int .u64 (Oc.U T.w3),.slice p2 T.subs.length c2,.int .i64 T.num,.int .i64 T.least,.int .i64 T.most,.bool T.bare] 28)
 have hb2n:Below w2.heap.size w2 (w2.alloc (.cells #[.int .i64 T.kind,.int .u64 (Oc.U T.w0),.int .u64 (Oc.U T.w1),.int .u64 (Oc.U T.w2),.int .u64 (Oc.U T.w3),.slice p2 T.subs.length c2,.int .i64 T.num,.int .i64 T.least,.int .i64 T.most,.bool T.bare] 28)):=(Below.refl _ _).alloc (Nat.le_refl _) _
 have HB2:=Lib.hid (HB1.out.trans (hk2.mono HB1.out.size))
 have HE2:=Lib.hid (HE.out.below HB2.out)
 have Z2:=Lib.hid (heap_alloc_new w2 (.cells #[.int .i64 T.kind,.int .u64 (Oc.U T.w0),.int .u64 (Oc.U T.w1),.int .u64 (Oc.U T.w2),.int .u64 (Oc.U T.w3),.slice p2 T.subs.length c2,.int .i64 T.num,.int .i64 T.least,.int .i64 T.most,.bool T.bare] 28))
 have HX2:=Lib.hid (ho2.later hb2n)
 have hs12:=hb2.size
 clear he hk2 hb2n hb2 ho2 hF2
 unfold Tr.cells at *
 go_wp2_with fail
 refine (HD.out A _ x fl HE2.out).mono ?_
 intro e w3 he
 obtain ⟨v3,F3,rfl,ho3,hF3,hb3⟩:=he.ok HOO.out
 obtain ⟨p3,c3,rfl,-⟩:=ho3.slice
 have hk3:=hb3.alloc hb3.size (.cells #[.int .i64 T.kind,.int .u64 (Oc.U T.w0),.int .u64 (Oc.U T.w1),.int .u64 (Oc.U T.w2),.int .u64 (Oc.U T.w3),.slice p3 T.subs.length c3,.int .i64 T.num,.int .i64 T.least,.int .i64 T.most,.bool T.bare] 28)
 have hb3n:Below w3.heap.size w3 (w3.alloc (.cells #[.int .i64 T.kind,.int .u64 (Oc.U T.w0),.int .u64 (Oc.U T.w1),.int .u64 (Oc.U T.w2),.int .u64 (Oc.U T.w3),.slice p3 T.subs.length c3,.int .i64 T.num,.int .i64 T.least,.int .i64 T.most,.bool T.bare] 28)):=(Below.refl _ _).alloc (Nat.le_refl _) _
 have HB3:=Lib.hid (HB2.out.trans (hk3.mono HB2.out.size))
 have Z3:=Lib.hid (heap_alloc_new w3 (.cells #[.int .i64 T.kind,.int .u64 (Oc.U T.w0),.int .u64 (Oc.U T.w1),.int .u64 (Oc.U T.w2),.int .u64 (Oc.U T.w3),.slice p3 T.subs.length c3,.int .i64 T.num,.int .i64 T.least,.int .i64 T.most,.bool T.bare] 28))
 have HX3:=Lib.hid ((ho3.trees.mono (fun b _ hb=>hF3 b hb)).later hb3n)
 have HY2:=Lib.hid (HX2.out.later hk3)
 have Y2:=Lib.hid (keep_blk hk3 Z2.out)
 have hs23:w2.heap.size+1 ≤ w3.heap.size:=by have:=hb3.size;simpa using this
 clear he hk3 hb3n hb3 HX2 Z2 ho3 hF3
 unfold Tr.cells at *
 go_wp2_with fail
 refine (HF.out _).mono ?_
 rintro e w4 ⟨v4,rfl,ha4,hb4⟩
 obtain ⟨p4,l4,c4,rfl,ht4⟩:=ha4
 have hk4:=hb4.alloc hb4.size (.cells #[.int .i64 T.kind,.int .u64 (Oc.U T.w0),.int .u64 (Oc.U T.w1),.int .u64 (Oc.U T.w2),.int .u64 (Oc.U T.w3),.slice p4 l4 c4,.int .i64 T.num,.int .i64 T.least,.int .i64 T.most,.bool T.bare,.int .i64 (g:Int),.int .i64 0,.int .i64 0] 34)
 have hb4n:Below w4.heap.size w4 (w4.alloc (.cells #[.int .i64 T.kind,.int .u64 (Oc.U T.w0),.int .u64 (Oc.U T.w1),.int .u64 (Oc.U T.w2),.int .u64 (Oc.U T.w3),.slice p4 l4 c4,.int .i64 T.num,.int .i64 T.least,.int .i64 T.most,.bool T.bare,.int .i64 (g:Int),.int .i64 0,.int .i64 0] 34)):=(Below.refl _ _).alloc (Nat.le_refl _) _
 have HB4:=Lib.hid (HB3.out.trans (hk4.mono HB3.out.size))
 have Z4:=Lib.hid (heap_alloc_new w4 (.cells #[.int .i64 T.kind,.int .u64 (Oc.U T.w0),.int .u64 (Oc.U T.w1),.int .u64 (Oc.U T.w2),.int .u64 (Oc.U T.w3),.slice p4 l4 c4,.int .i64 T.num,.int .i64 T.least,.int .i64 T.most,.bool T.bare,.int .i64 (g:Int),.int .i64 0,.int .i64 0] 34))
 have X3:=Lib.hid (keep_blk hk4 Z3.out);have X2:=Lib.hid (keep_blk hk4 Y2.out)
 have HV3:=Lib.hid (HX3.out.later hk4);have HV2:=Lib.hid (HY2.out.later hk4)
 have HV4:=Lib.hid (ht4.later hb4n)
 have HEW:=Lib.hid (HE.out.below HB4.out);have HTW:=Lib.hid (HT.out.later HB4.out)
 have hs34:w3.heap.size+1 ≤ w4.heap.size:=by have:=hb4.size;simpa using this
 clear hk4 hb4n hb4 HX3 HY2 Z3 Y2 HB1 HB2 HB3 HE1 HE2 HD HF HOO HE HT ht4
 unfold ansOk
 go_wp2_with fail
 generalize World.alloc w4 _=W at *
 have HSN:=Lib.hid (fun w' (hb:Below W.heap.size W w')=>(samenodes_any T T w' _ _ _ _ ⟨_,rfl,HV2.out.trees.later hb⟩ ⟨_,rfl,HV4.out.later hb⟩).mono (fun _ _ h=>h.yes rfl))
 unfold Tr.cells at HSN
 refine Ri.wp_region_frame (by kernel_rfl) (by kernel_rfl) (by kernel_rfl) (by kernel_rfl)
   (fun L v w'=>Below W.heap.size W w'∧(L 0=true→v 0=.nilIface)∧(L 1=true→v 1=.int .i64 0)∧(L 2=true→v 2=.pointer (some ⟨w4.heap.size,11,none⟩))∧(L 3=true→v 3=.int .i64 0)∧(L 4=true→v 4=.bool false)∧(L 5=true→v 5=.bool false)∧(L 6=true→v 6=.nilIface)∧(L 7=true→v 7=.int .i64 0)∧(L 8=true→v 8=.pointer (some ⟨w4.heap.size,11,none⟩))∧(L 9=true→v 9=.int .i64 0)∧(L 10=true→v 10=.bool false)∧(L 11=true→v 11=.bool false)∧(L 12=true→v 12=.bool false)∧(L 13=true→v 13=.int .i64 (g:Int))∧(L 14=true→v 14=.pointer (some ⟨w4.heap.size,10,none⟩))∧(L 15=true→v 15=.int .i64 (g:Int))∧(L 16=true→v 16=.bool false)∧(L 17=true→v 17=.bool false)∧(L 18=true→v 18=.bool false)∧(L 19=true→v 19=.int .i64 (g:Int))∧(L 20=true→v 20=.int .i64 (g:Int))∧(L 21=true→v 21=.bool false)∧(L 22=true→v 22=.bool false)∧(L 23=true→v 23=.bool false)∧(L 24=true→v 24=.agg #[.int .i64 T.kind,.int .u64 (Oc.U T.w0),.int .u64 (Oc.U T.w1),.int .u64 (Oc.U T.w2),.int .u64 (Oc.U T.w3),.slice p2 T.subs.length c2,.int .i64 T.num,.int .i64 T.least,.int .i64 T.most,.bool T.bare])∧(L 25=true→v 25=.pointer (some ⟨w4.heap.size,0,none⟩))∧(L 26=true→v 26=.agg #[.int .i64 T.kind,.int .u64 (Oc.U T.w0),.int .u64 (Oc.U T.w1),.int .u64 (Oc.U T.w2),.int .u64 (Oc.U T.w3),.slice p4 l4 c4,.int .i64 T.num,.int .i64 T.least,.int .i64 T.most,.bool T.bare])∧(L 27=true→v 27=.bool true)∧(L 28=true→v 28=.bool false)∧(L 29=true→v 29=.bool false))
   ?_ ?_ ?_
 · exact ⟨(Below.refl _ _).drew,by simp,by simp,by simp,by simp,by simp,by simp,by simp,by simp,by simp,by simp,by simp,by simp,by simp,by simp,by simp,by simp,by simp,by simp,by simp,by simp,by simp,by simp,by simp,by simp,by simp,by simp,by simp,by simp,by simp,by simp⟩
 · intro i hi9 L v w9 xa hI hL hd hv ho
   have hi':i=0 ∨ i=1 ∨ i=2 ∨ i=3 ∨ i=4 ∨ i=5 ∨ i=6 ∨ i=7 ∨ i=8 ∨ i=9 ∨ i=10 ∨ i=11 ∨ i=12 ∨ i=13 ∨ i=14 ∨ i=15 ∨ i=16 ∨ i=17 ∨ i=18 ∨ i=19 ∨ i=20 ∨ i=21 ∨ i=22 ∨ i=23 ∨ i=24 ∨ i=25 ∨ i=26 ∨ i=27 ∨ i=28 ∨ i=29:=by simp at hi9;omega
   obtain ⟨hb,q0,q1,q2,q3,q4,q5,q6,q7,q8,q9,q10,q11,q12,q13,q14,q15,q16,q17,q18,q19,q20,q21,q22,q23,q24,q25,q26,q27,q28,q29⟩:=hI
   rcases hi' with rfl | rfl | rfl | rfl | rfl | rfl | rfl | rfl | rfl | rfl | rfl | rfl | rfl | rfl | rfl | rfl | rfl | rfl | rfl | rfl | rfl | rfl | rfl | rfl | rfl | rfl | rfl | rfl | rfl | rfl
   · have e7:xa.tmps.getD 7 undef=.nilIface:=ho 7 (by kernel_rfl)
     refine Ri.step_plain rfl rfl (fun K' hK=>?_)
     go_simp
     exact hK _ _ ⟨_,_,rfl,rfl,hb,fun _=>rfl,q1,q2,q3,q4,q5,q6,q7,q8,q9,q10,q11,q12,q13,q14,q15,q16,q17,q18,q19,q20,q21,q22,q23,q24,q25,q26,q27,q28,q29⟩
   · have l0:L 0=true:=by have:=hd _ rfl;simp [Region.binds] at this;simp [this]
     have f0:=(hv 0 31 rfl l0).trans (q0 l0)
     refine Ri.step_plain rfl rfl (fun K' hK=>?_)
     go_simp
     refine (num_nil _).mono ?_
     rintro e w8 ⟨rfl,rfl⟩
     exact hK _ _ ⟨_,_,rfl,rfl,hb,q0,fun _=>rfl,q2,q3,q4,q5,q6,q7,q8,q9,q10,q11,q12,q13,q14,q15,q16,q17,q18,q19,q20,q21,q22,q23,q24,q25,q26,q27,q28,q29⟩
   · have e11:xa.tmps.getD 11 undef=.pointer (some ⟨w4.heap.size,0,none⟩):=ho 11 (by kernel_rfl)
     refine Ri.step_plain rfl rfl (fun K' hK=>?_)
     go_simp
     exact hK _ _ ⟨_,_,rfl,rfl,hb,q0,q1,fun _=>rfl,q3,q4,q5,q6,q7,q8,q9,q10,q11,q12,q13,q14,q15,q16,q17,q18,q19,q20,q21,q22,q23,q24,q25,q26,q27,q28,q29⟩
   · have l0:L 2=true:=by have:=hd _ rfl;simp [Region.binds] at this;simp [this]
     have f2:=(hv 2 33 rfl l0).trans (q2 l0)
     refine Ri.step_plain rfl rfl (fun K' hK=>?_)
     obtain ⟨e0,e1,e2,e3,e4,e5,e6,e7,e8,e9,e10,e11,e12⟩:=thirteen (keep_blk hb Z4.out)
     go_simp
     exact hK _ _ ⟨_,_,rfl,rfl,hb,q0,q1,q2,fun _=>rfl,q4,q5,q6,q7,q8,q9,q10,q11,q12,q13,q14,q15,q16,q17,q18,q19,q20,q21,q22,q23,q24,q25,q26,q27,q28,q29⟩
   · have l0:L 1=true∧L 3=true:=by have:=hd _ rfl;simp [Region.binds] at this;simp [this]
     have f1:=(hv 1 32 rfl l0.1).trans (q1 l0.1)
     have f3:=(hv 3 34 rfl l0.2).trans (q3 l0.2)
     refine Ri.step_plain rfl rfl (fun K' hK=>?_)
     go_simp
     exact hK _ _ ⟨_,_,rfl,rfl,hb,q0,q1,q2,q3,fun _=>rfl,q5,q6,q7,q8,q9,q10,q11,q12,q13,q14,q15,q16,q17,q18,q19,q20,q21,q22,q23,q24,q25,q26,q27,q28,q29⟩
   · have l0:L 4=true:=by have:=hd _ rfl;simp [Region.binds] at this;simp [this]
     have f4:=(hv 4 35 rfl l0).trans (q4 l0)
     refine Ri.step_plain rfl rfl (fun K' hK=>?_)
     go_simp
     exact hK _ _ ⟨_,_,rfl,rfl,hb,q0,q1,q2,q3,q4,fun _=>rfl,q6,q7,q8,q9,q10,q11,q12,q13,q14,q15,q16,q17,q18,q19,q20,q21,q22,q23,q24,q25,q26,q27,q28,q29⟩
   · have l0:L 5=true:=by have:=hd _ rfl;simp [Region.binds] at this;simp [this]
     have f5:=(hv 5 36 rfl l0).trans (q5 l0)
     have e10:xa.tmps.getD 10 undef=.nilIface:=ho 10 (by kernel_rfl)
     refine Ri.step_wanted (b:=false) rfl rfl rfl f5 (fun K' hK=>?_)
     go_simp
     exact hK _ _ ⟨_,_,rfl,rfl,hb,q0,q1,q2,q3,q4,q5,fun _=>rfl,q7,q8,q9,q10,q11,q12,q13,q14,q15,q16,q17,q18,q19,q20,q21,q22,q23,q24,q25,q26,q27,q28,q29⟩
   · have l0:L 5=true∧L 6=true:=by have:=hd _ rfl;simp [Region.binds] at this;simp [this]
     have f5:=(hv 5 36 rfl l0.1).trans (q5 l0.1)
     have f6:=(hv 6 37 rfl l0.2).trans (q6 l0.2)
     refine Ri.step_wanted (b:=false) rfl rfl rfl f5 (fun K' hK=>?_)
     go_simp
     refine (num_nil _).mono ?_
     rintro e w8 ⟨rfl,rfl⟩
     exact hK _ _ ⟨_,_,rfl,rfl,hb,q0,q1,q2,q3,q4,q5,q6,fun _=>rfl,q8,q9,q10,q11,q12,q13,q14,q15,q16,q17,q18,q19,q20,q21,q22,q23,q24,q25,q26,q27,q28,q29⟩
   · have l0:L 5=true:=by have:=hd _ rfl;simp [Region.binds] at this;simp [this]
     have f5:=(hv 5 36 rfl l0).trans (q5 l0)
     have e11:xa.tmps.getD 11 undef=.pointer (some ⟨w4.heap.size,0,none⟩):=ho 11 (by kernel_rfl)
     refine Ri.step_wanted (b:=false) rfl rfl rfl f5 (fun K' hK=>?_)
     go_simp
     exact hK _ _ ⟨_,_,rfl,rfl,hb,q0,q1,q2,q3,q4,q5,q6,q7,fun _=>rfl,q9,q10,q11,q12,q13,q14,q15,q16,q17,q18,q19,q20,q21,q22,q23,q24,q25,q26,q27,q28,q29⟩
   · have l0:L 5=true∧L 8=true:=by have:=hd _ rfl;simp [Region.binds] at this;simp [this]
     have f5:=(hv 5 36 rfl l0.1).trans (q5 l0.1)
     have f8:=(hv 8 39 rfl l0.2).trans (q8 l0.2)
     refine Ri.step_wanted (b:=false) rfl rfl rfl f5 (fun K' hK=>?_)
     obtain ⟨e0,e1,e2,e3,e4,e5,e6,e7,e8,e9,e10,e11,e12⟩:=thirteen (keep_blk hb Z4.out)
     go_simp
     exact hK _ _ ⟨_,_,rfl,rfl,hb,q0,q1,q2,q3,q4,q5,q6,q7,q8,fun _=>rfl,q10,q11,q12,q13,q14,q15,q16,q17,q18,q19,q20,q21,q22,q23,q24,q25,q26,q27,q28,q29⟩
   · have l0:L 5=true∧L 7=true∧L 9=true:=by have:=hd _ rfl;simp [Region.binds] at this;simp [this]
     have f5:=(hv 5 36 rfl l0.1).trans (q5 l0.1)
     have f7:=(hv 7 38 rfl l0.2.1).trans (q7 l0.2.1)
     have f9:=(hv 9 40 rfl l0.2.2).trans (q9 l0.2.2)
     refine Ri.step_wanted (b:=false) rfl rfl rfl f5 (fun K' hK=>?_)
     go_simp
     exact hK _ _ ⟨_,_,rfl,rfl,hb,q0,q1,q2,q3,q4,q5,q6,q7,q8,q9,fun _=>rfl,q11,q12,q13,q14,q15,q16,q17,q18,q19,q20,q21,q22,q23,q24,q25,q26,q27,q28,q29⟩
   · have l0:L 5=true∧L 10=true:=by have:=hd _ rfl;simp [Region.binds] at this;simp [this]
     have f5:=(hv 5 36 rfl l0.1).trans (q5 l0.1)
     have f10:=(hv 10 41 rfl l0.2).trans (q10 l0.2)
     refine Ri.step_plain rfl rfl (fun K' hK=>?_)
     go_simp
     exact hK _ _ ⟨_,_,rfl,rfl,hb,q0,q1,q2,q3,q4,q5,q6,q7,q8,q9,q10,fun _=>rfl,q12,q13,q14,q15,q16,q17,q18,q19,q20,q21,q22,q23,q24,q25,q26,q27,q28,q29⟩
   · have l0:L 11=true:=by have:=hd _ rfl;simp [Region.binds] at this;simp [this]
     have f11:=(hv 11 42 rfl l0).trans (q11 l0)
     refine Ri.step_plain rfl rfl (fun K' hK=>?_)
     go_simp
     exact hK _ _ ⟨_,_,rfl,rfl,hb,q0,q1,q2,q3,q4,q5,q6,q7,q8,q9,q10,q11,fun _=>rfl,q13,q14,q15,q16,q17,q18,q19,q20,q21,q22,q23,q24,q25,q26,q27,q28,q29⟩
   · have l0:L 12=true:=by have:=hd _ rfl;simp [Region.binds] at this;simp [this]
     have f12:=(hv 12 43 rfl l0).trans (q12 l0)
     have e6:xa.tmps.getD 6 undef=.int .i64 (g:Int):=ho 6 (by kernel_rfl)
     refine Ri.step_wanted (b:=false) rfl rfl rfl f12 (fun K' hK=>?_)
     go_simp
     exact hK _ _ ⟨_,_,rfl,rfl,hb,q0,q1,q2,q3,q4,q5,q6,q7,q8,q9,q10,q11,q12,fun _=>rfl,q14,q15,q16,q17,q18,q19,q20,q21,q22,q23,q24,q25,q26,q27,q28,q29⟩
   · have l0:L 12=true:=by have:=hd _ rfl;simp [Region.binds] at this;simp [this]
     have f12:=(hv 12 43 rfl l0).trans (q12 l0)
     have e11:xa.tmps.getD 11 undef=.pointer (some ⟨w4.heap.size,0,none⟩):=ho 11 (by kernel_rfl)
     refine Ri.step_wanted (b:=false) rfl rfl rfl f12 (fun K' hK=>?_)
     go_simp
     exact hK _ _ ⟨_,_,rfl,rfl,hb,q0,q1,q2,q3,q4,q5,q6,q7,q8,q9,q10,q11,q12,q13,fun _=>rfl,q15,q16,q17,q18,q19,q20,q21,q22,q23,q24,q25,q26,q27,q28,q29⟩
   · have l0:L 12=true∧L 14=true:=by have:=hd _ rfl;simp [Region.binds] at this;simp [this]
     have f12:=(hv 12 43 rfl l0.1).trans (q12 l0.1)
     have f14:=(hv 14 45 rfl l0.2).trans (q14 l0.2)
     refine Ri.step_wanted (b:=false) rfl rfl rfl f12 (fun K' hK=>?_)
     obtain ⟨e0,e1,e2,e3,e4,e5,e6,e7,e8,e9,e10,e11,e12⟩:=thirteen (keep_blk hb Z4.out)
     go_simp
     exact hK _ _ ⟨_,_,rfl,rfl,hb,q0,q1,q2,q3,q4,q5,q6,q7,q8,q9,q10,q11,q12,q13,q14,fun _=>rfl,q16,q17,q18,q19,q20,q21,q22,q23,q24,q25,q26,q27,q28,q29⟩
   · have l0:L 12=true∧L 13=true∧L 15=true:=by have:=hd _ rfl;simp [Region.binds] at this;simp [this]
     have f12:=(hv 12 43 rfl l0.1).trans (q12 l0.1)
     have f13:=(hv 13 44 rfl l0.2.1).trans (q13 l0.2.1)
     have f15:=(hv 15 46 rfl l0.2.2).trans (q15 l0.2.2)
     refine Ri.step_wanted (b:=false) rfl rfl rfl f12 (fun K' hK=>?_)
     go_simp
     exact hK _ _ ⟨_,_,rfl,rfl,hb,q0,q1,q2,q3,q4,q5,q6,q7,q8,q9,q10,q11,q12,q13,q14,q15,fun _=>rfl,q17,q18,q19,q20,q21,q22,q23,q24,q25,q26,q27,q28,q29⟩
   · have l0:L 12=true∧L 16=true:=by have:=hd _ rfl;simp [Region.binds] at this;simp [this]
     have f12:=(hv 12 43 rfl l0.1).trans (q12 l0.1)
     have f16:=(hv 16 47 rfl l0.2).trans (q16 l0.2)
     refine Ri.step_plain rfl rfl (fun K' hK=>?_)
     go_simp
     exact hK _ _ ⟨_,_,rfl,rfl,hb,q0,q1,q2,q3,q4,q5,q6,q7,q8,q9,q10,q11,q12,q13,q14,q15,q16,fun _=>rfl,q18,q19,q20,q21,q22,q23,q24,q25,q26,q27,q28,q29⟩
   · have l0:L 17=true:=by have:=hd _ rfl;simp [Region.binds] at this;simp [this]
     have f17:=(hv 17 48 rfl l0).trans (q17 l0)
     refine Ri.step_plain rfl rfl (fun K' hK=>?_)
     go_simp
     exact hK _ _ ⟨_,_,rfl,rfl,hb,q0,q1,q2,q3,q4,q5,q6,q7,q8,q9,q10,q11,q12,q13,q14,q15,q16,q17,fun _=>rfl,q19,q20,q21,q22,q23,q24,q25,q26,q27,q28,q29⟩
   · have l0:L 18=true:=by have:=hd _ rfl;simp [Region.binds] at this;simp [this]
     have f18:=(hv 18 49 rfl l0).trans (q18 l0)
     have e9:xa.tmps.getD 9 undef=.int .i64 (g:Int):=ho 9 (by kernel_rfl)
     refine Ri.step_wanted (b:=false) rfl rfl rfl f18 (fun K' hK=>?_)
     go_simp
     exact hK _ _ ⟨_,_,rfl,rfl,hb,q0,q1,q2,q3,q4,q5,q6,q7,q8,q9,q10,q11,q12,q13,q14,q15,q16,q17,q18,fun _=>rfl,q20,q21,q22,q23,q24,q25,q26,q27,q28,q29⟩
   · have l0:L 18=true:=by have:=hd _ rfl;simp [Region.binds] at this;simp [this]
     have f18:=(hv 18 49 rfl l0).trans (q18 l0)
     have e6:xa.tmps.getD 6 undef=.int .i64 (g:Int):=ho 6 (by kernel_rfl)
     refine Ri.step_wanted (b:=false) rfl rfl rfl f18 (fun K' hK=>?_)
     go_simp
     exact hK _ _ ⟨_,_,rfl,rfl,hb,q0,q1,q2,q3,q4,q5,q6,q7,q8,q9,q10,q11,q12,q13,q14,q15,q16,q17,q18,q19,fun _=>rfl,q21,q22,q23,q24,q25,q26,q27,q28,q29⟩
   · have l0:L 18=true∧L 19=true∧L 20=true:=by have:=hd _ rfl;simp [Region.binds] at this;simp [this]
     have f18:=(hv 18 49 rfl l0.1).trans (q18 l0.1)
     have f19:=(hv 19 50 rfl l0.2.1).trans (q19 l0.2.1)
     have f20:=(hv 20 51 rfl l0.2.2).trans (q20 l0.2.2)
     refine Ri.step_wanted (b:=false) rfl rfl rfl f18 (fun K' hK=>?_)
     go_simp
     exact hK _ _ ⟨_,_,rfl,rfl,hb,q0,q1,q2,q3,q4,q5,q6,q7,q8,q9,q10,q11,q12,q13,q14,q15,q16,q17,q18,q19,q20,fun _=>rfl,q22,q23,q24,q25,q26,q27,q28,q29⟩
   · have l0:L 18=true∧L 21=true:=by have:=hd _ rfl;simp [Region.binds] at this;simp [this]
     have f18:=(hv 18 49 rfl l0.1).trans (q18 l0.1)
     have f21:=(hv 21 52 rfl l0.2).trans (q21 l0.2)
     refine Ri.step_plain rfl rfl (fun K' hK=>?_)
     go_simp
     exact hK _ _ ⟨_,_,rfl,rfl,hb,q0,q1,q2,q3,q4,q5,q6,q7,q8,q9,q10,q11,q12,q13,q14,q15,q16,q17,q18,q19,q20,q21,fun _=>rfl,q23,q24,q25,q26,q27,q28,q29⟩
   · have l0:L 22=true:=by have:=hd _ rfl;simp [Region.binds] at this;simp [this]
     have f22:=(hv 22 53 rfl l0).trans (q22 l0)
     refine Ri.step_plain rfl rfl (fun K' hK=>?_)
     go_simp
     exact hK _ _ ⟨_,_,rfl,rfl,hb,q0,q1,q2,q3,q4,q5,q6,q7,q8,q9,q10,q11,q12,q13,q14,q15,q16,q17,q18,q19,q20,q21,q22,fun _=>rfl,q24,q25,q26,q27,q28,q29⟩
   · have l0:L 23=true:=by have:=hd _ rfl;simp [Region.binds] at this;simp [this]
     have f23:=(hv 23 54 rfl l0).trans (q23 l0)
     have e5:xa.tmps.getD 5 undef=.pointer (some ⟨w2.heap.size,0,none⟩):=ho 5 (by kernel_rfl)
     refine Ri.step_wanted (b:=false) rfl rfl rfl f23 (fun K' hK=>?_)
     refine wp_load_row _ _ rfl _ e5 _ _ _ _ (keep_blk hb X2.out) Tryz.underlying28 rfl (by kernel_rfl) ?_
     exact hK _ _ ⟨_,_,rfl,rfl,hb,q0,q1,q2,q3,q4,q5,q6,q7,q8,q9,q10,q11,q12,q13,q14,q15,q16,q17,q18,q19,q20,q21,q22,q23,fun _=>rfl,q25,q26,q27,q28,q29⟩
   · have l0:L 23=true:=by have:=hd _ rfl;simp [Region.binds] at this;simp [this]
     have f23:=(hv 23 54 rfl l0).trans (q23 l0)
     have e11:xa.tmps.getD 11 undef=.pointer (some ⟨w4.heap.size,0,none⟩):=ho 11 (by kernel_rfl)
     refine Ri.step_wanted (b:=false) rfl rfl rfl f23 (fun K' hK=>?_)
     go_simp
     exact hK _ _ ⟨_,_,rfl,rfl,hb,q0,q1,q2,q3,q4,q5,q6,q7,q8,q9,q10,q11,q12,q13,q14,q15,q16,q17,q18,q19,q20,q21,q22,q23,q24,fun _=>rfl,q26,q27,q28,q29⟩
   · have l0:L 23=true∧L 25=true:=by have:=hd _ rfl;simp [Region.binds] at this;simp [this]
     have f23:=(hv 23 54 rfl l0.1).trans (q23 l0.1)
     have f25:=(hv 25 56 rfl l0.2).trans (q25 l0.2)
     refine Ri.step_wanted (b:=false) rfl rfl rfl f23 (fun K' hK=>?_)
     obtain ⟨e0,e1,e2,e3,e4,e5,e6,e7,e8,e9,e10,e11,e12⟩:=thirteen (keep_blk hb Z4.out)
     go_simp
     exact hK _ _ ⟨_,_,rfl,rfl,hb,q0,q1,q2,q3,q4,q5,q6,q7,q8,q9,q10,q11,q12,q13,q14,q15,q16,q17,q18,q19,q20,q21,q22,q23,q24,q25,fun _=>rfl,q27,q28,q29⟩
   · have l0:L 23=true∧L 24=true∧L 26=true:=by have:=hd _ rfl;simp [Region.binds] at this;simp [this]
     have f23:=(hv 23 54 rfl l0.1).trans (q23 l0.1)
     have f24:=(hv 24 55 rfl l0.2.1).trans (q24 l0.2.1)
     have f26:=(hv 26 57 rfl l0.2.2).trans (q26 l0.2.2)
     refine Ri.step_wanted (b:=false) rfl rfl rfl f23 (fun K' hK=>?_)
     go_simp
     refine (HSN.out _ hb).mono ?_
     rintro e w8 ⟨rfl,hb8⟩
     exact hK _ _ ⟨_,_,rfl,rfl,hb.trans (hb8.mono hb.size),q0,q1,q2,q3,q4,q5,q6,q7,q8,q9,q10,q11,q12,q13,q14,q15,q16,q17,q18,q19,q20,q21,q22,q23,q24,q25,q26,fun _=>rfl,q28,q29⟩
   · have l0:L 23=true∧L 27=true:=by have:=hd _ rfl;simp [Region.binds] at this;simp [this]
     have f23:=(hv 23 54 rfl l0.1).trans (q23 l0.1)
     have f27:=(hv 27 58 rfl l0.2).trans (q27 l0.2)
     refine Ri.step_wanted (b:=false) rfl rfl rfl f23 (fun K' hK=>?_)
     go_simp
     exact hK _ _ ⟨_,_,rfl,rfl,hb,q0,q1,q2,q3,q4,q5,q6,q7,q8,q9,q10,q11,q12,q13,q14,q15,q16,q17,q18,q19,q20,q21,q22,q23,q24,q25,q26,q27,fun _=>rfl,q29⟩
   · have l0:L 23=true∧L 28=true:=by have:=hd _ rfl;simp [Region.binds] at this;simp [this]
     have f23:=(hv 23 54 rfl l0.1).trans (q23 l0.1)
     have f28:=(hv 28 59 rfl l0.2).trans (q28 l0.2)
     refine Ri.step_plain rfl rfl (fun K' hK=>?_)
     go_simp
     exact hK _ _ ⟨_,_,rfl,rfl,hb,q0,q1,q2,q3,q4,q5,q6,q7,q8,q9,q10,q11,q12,q13,q14,q15,q16,q17,q18,q19,q20,q21,q22,q23,q24,q25,q26,q27,q28,fun _=>rfl⟩
 · rintro v w9 ⟨hb,-,-,-,-,-,-,-,-,-,-,-,-,-,-,-,-,-,-,-,-,-,-,-,-,-,-,-,-,-,q29⟩
   have q29':v 29=.bool false:=q29 rfl
   simp only [Ri.frame,List.zipIdx,List.foldl_cons,List.foldl_nil,if_true,List.setIfInBounds_toArray,List.set_cons_zero,List.set_cons_succ,Nat.reduceAdd,q29']
   clear q29 q29'
   generalize v 0=y0;generalize v 1=y1;generalize v 2=y2;generalize v 3=y3;generalize v 4=y4;generalize v 5=y5;generalize v 6=y6;generalize v 7=y7;generalize v 8=y8;generalize v 9=y9;generalize v 10=y10;generalize v 11=y11;generalize v 12=y12;generalize v 13=y13;generalize v 14=y14;generalize v 15=y15;generalize v 16=y16;generalize v 17=y17;generalize v 18=y18;generalize v 19=y19;generalize v 20=y20;generalize v 21=y21;generalize v 22=y22;generalize v 23=y23;generalize v 24=y24;generalize v 25=y25;generalize v 26=y26;generalize v 27=y27;generalize v 28=y28
   have HB5:=Lib.hid (HB4.out.trans (hb.mono HB4.out.size));have Z5:=Lib.hid (keep_blk hb Z4.out)
   have U2:=Lib.hid (keep_blk hb X2.out);have U3:=Lib.hid (keep_blk hb X3.out)
   have HO5:=Lib.hid (HV2.out.later hb);have HT3:=Lib.hid (HV3.out.later hb);have HT4:=Lib.hid (HV4.out.later hb)
   have hsW:w4.heap.size < w9.heap.size:=blk_lt Z5.out
   clear hb HSN HV2 HV3 HV4 X2 X3 Z4 HB4 HEW HTW
   obtain ⟨d0,d1,d2,d3,d4,d5,d6,d7,d8,d9⟩:=allTen U2.out
   go_wp2_with fail
   refine (spoil_any T w9 _ F2 HO5.out).mono ?_
   rintro e w10 ⟨rfl,ht⟩
   have hnF:∀ b,w2.heap.size ≤ b→b ∉ F2:=fun b hb hm=>by have:=HL2.out b hm;omega
   have U3':=Lib.hid ((ht.block w3.heap.size (by omega) (hnF _ (by omega))).trans U3.out)
   have Z5':=Lib.hid ((ht.block w4.heap.size hsW (hnF _ (by omega))).trans Z5.out)
   have hk3:∀ b,w2.heap.size+1 ≤ b→b < w9.heap.size→w10.heap[b]? = w9.heap[b]?:=fun b h1 hb=>ht.block b hb (hnF b (by omega))
   have hsa:Calls Tryz.prog 15 #[.agg (T.cells (.slice p3 T.subs.length c3)),.agg (T.cells (.slice p4 l4 c4))] w10 (SameEnd T T w10):=samenodes_any T T w10 _ _ _ _ ⟨_,rfl,HT3.out.keep fun b hb hP=>hk3 b (by simpa using hP) hb⟩ ⟨_,rfl,HT4.out.keep fun b hb hP=>hk3 b (Nat.le_trans (by omega) (show w3.heap.size+1 ≤ b by simpa using hP)) hb⟩
   have HSA:=Lib.hid (hsa.mono (fun _ _ h=>h.yes rfl))
   have HB6:=Lib.hid (HB5.out.trans ((ht.below (fun k hk=>HF2.out k hk) (by omega)).mono HB1S.out))
   clear hsa ht hk3 d0 d1 d2 d3 d4 d5 d6 d7 d8 d9
   unfold Tr.cells at HSA
   obtain ⟨d0,d1,d2,d3,d4,d5,d6,d7,d8,d9⟩:=allTen U3'.out
   obtain ⟨e0,e1,e2,e3,e4,e5,e6,e7,e8,e9,e10,e11,e12⟩:=thirteen Z5'.out
   go_wp2_with fail
   refine HSA.out.mono ?_
   rintro e w11 ⟨rfl,hb11⟩
   have HB7:=Lib.hid (HB6.out.trans (hb11.mono HB6.out.size))
   clear hb11 d0 d1 d2 d3 d4 d5 d6 d7 d8 d9 e0 e1 e2 e3 e4 e5 e6 e7 e8 e9 e10 e11 e12
   go_wp2
   go_ret
   exact ⟨rfl,HB7.out⟩
theorem ereparses_err (A:Nat→Addr) (x:ByteArray) (fl:Int) (w:World) (hE:BrEnv w A) (hT:ErrType w) (c:Nat) (q:Int) (hO:Ep.parse (bt x) x.size (icB fl) (nlB fl)=.err c q) :
   Calls Tryz.prog 3 #[.string x,.int .i64 fl] w fun e w'=>e=.returned (.bool true)∧Below w.heap.size w w':=by
 have hf:=fun w=>esparse_any w x fl
 rw [hO] at hf
 have HL:=Lib.hid (eplives_any A w hE hT)
 have HE:=Lib.hid hE;have HT:=Lib.hid hT
 have HD:=Lib.hid parse_does;have HF:=Lib.hid hf
 have HOO:=Lib.hid hO
 clear hE hT hO hf
 go_enter Tryz.func3,Tryz.ntmps3
 go_wp2_with fail
 refine HL.out.mono ?_;rintro e w1 ⟨rfl,hb1⟩
 have HB1:=Lib.hid hb1;have HE1:=Lib.hid (HE.out.below hb1)
 clear hb1 HL
 go_wp2_with fail
 refine (HD.out A _ x fl HE1.out).mono ?_
 intro e w2 he
 obtain ⟨v2,rfl,he2,hb2⟩:=he.err HOO.out
 obtain ⟨i2,rfl⟩:=he2.iface
 have hk2:=hb2.alloc hb2.size (.cells #[.int .i64 0,.int .u64 0,.int .u64 0,.int .u64 0,.int .u64 0,.slice none 0 0,.int .i64 0,.int .i64 0,.int .i64 0,.bool false] 28)
 have hb2n:Below w2.heap.size w2 (w2.alloc (.cells #[.int .i64 0,.int .u64 0,.int .u64 0,.int .u64 0,.int .u64 0,.slice none 0 0,.int .i64 0,.int .i64 0,.int .i64 0,.bool false] 28)):=(Below.refl _ _).alloc (Nat.le_refl _) _
 have HB2:=Lib.hid (HB1.out.trans (hk2.mono HB1.out.size))
 have HE2:=Lib.hid (HE.out.below HB2.out)
 have Z2:=Lib.hid (heap_alloc_new w2 (.cells #[.int .i64 0,.int .u64 0,.int .u64 0,.int .u64 0,.int .u64 0,.slice none 0 0,.int .i64 0,.int .i64 0,.int .i64 0,.bool false] 28))
 have HX2:=Lib.hid (he2.at.later hb2n)
 have hs12:=hb2.size
 clear he hk2 hb2n hb2 he2
 go_wp2_with fail
 refine (HD.out A _ x fl HE2.out).mono ?_
 intro e w3 he
 obtain ⟨v3,rfl,he3,hb3⟩:=he.err HOO.out
 obtain ⟨i3,rfl⟩:=he3.iface
 have hk3:=hb3.alloc hb3.size (.cells #[.int .i64 0,.int .u64 0,.int .u64 0,.int .u64 0,.int .u64 0,.slice none 0 0,.int .i64 0,.int .i64 0,.int .i64 0,.bool false] 28)
 have hb3n:Below w3.heap.size w3 (w3.alloc (.cells #[.int .i64 0,.int .u64 0,.int .u64 0,.int .u64 0,.int .u64 0,.slice none 0 0,.int .i64 0,.int .i64 0,.int .i64 0,.bool false] 28)):=(Below.refl _ _).alloc (Nat.le_refl _) _
 have HB3:=Lib.hid (HB2.out.trans (hk3.mono HB2.out.size))
 have Z3:=Lib.hid (heap_alloc_new w3 (.cells #[.int .i64 0,.int .u64 0,.int .u64 0,.int .u64 0,.int .u64 0,.slice none 0 0,.int .i64 0,.int .i64 0,.int .i64 0,.bool false] 28))
 have HX3:=Lib.hid (he3.at.later hb3n)
 have HY2:=Lib.hid (HX2.out.later hk3)
 have Y2:=Lib.hid (keep_blk hk3 Z2.out)
 have hs23:w2.heap.size+1 ≤ w3.heap.size:=by have:=hb3.size;simpa using this
 clear he hk3 hb3n hb3 HX2 Z2 he3
 go_wp2_with fail
 refine (HF.out _).mono ?_
 rintro e w4 ⟨v4,rfl,ha4,hb4⟩
 obtain ⟨rfl,-⟩:=ha4
 have hk4:=hb4.alloc hb4.size (.cells #[.int .i64 0,.int .u64 0,.int .u64 0,.int .u64 0,.int .u64 0,.slice none 0 0,.int .i64 0,.int .i64 0,.int .i64 0,.bool false,.int .i64 0,.int .i64 (c:Int),.int .i64 q] 34)
 have hb4n:Below w4.heap.size w4 (w4.alloc (.cells #[.int .i64 0,.int .u64 0,.int .u64 0,.int .u64 0,.int .u64 0,.slice none 0 0,.int .i64 0,.int .i64 0,.int .i64 0,.bool false,.int .i64 0,.int .i64 (c:Int),.int .i64 q] 34)):=(Below.refl _ _).alloc (Nat.le_refl _) _
 have HB4:=Lib.hid (HB3.out.trans (hk4.mono HB3.out.size))
 have Z4:=Lib.hid (heap_alloc_new w4 (.cells #[.int .i64 0,.int .u64 0,.int .u64 0,.int .u64 0,.int .u64 0,.slice none 0 0,.int .i64 0,.int .i64 0,.int .i64 0,.bool false,.int .i64 0,.int .i64 (c:Int),.int .i64 q] 34))
 have X3:=Lib.hid (keep_blk hk4 Z3.out);have X2:=Lib.hid (keep_blk hk4 Y2.out)
 have HV3:=Lib.hid (HX3.out.later hk4);have HV2:=Lib.hid (HY2.out.later hk4)
 have HEW:=Lib.hid (HE.out.below HB4.out);have HTW:=Lib.hid (HT.out.later HB4.out)
 have hs34:w3.heap.size+1 ≤ w4.heap.size:=by have:=hb4.size;simpa using this
 clear hk4 hb4n hb4 HX3 HY2 Z3 Y2 HB1 HB2 HB3 HE1 HE2 HD HF HOO HE HT 
 unfold ansErr
 go_wp2_with fail
 generalize World.alloc w4 _=W at *
 have HSN:=Lib.hid (fun w' (_:Below W.heap.size W w')=>(samenodes_any (Tr.leaf 0) (Tr.leaf 0) w' (fun _=>True) (fun _=>True) _ _ ⟨.slice none 0 0,rfl,TreesAt.nil⟩ ⟨.slice none 0 0,rfl,TreesAt.nil⟩).mono (fun _ _ h=>h.yes rfl))
 refine Ri.wp_region_frame (by kernel_rfl) (by kernel_rfl) (by kernel_rfl) (by kernel_rfl)
   (fun L v w'=>Below W.heap.size W w'∧(L 0=true→v 0=.iface 65 i2)∧(L 1=true→v 1=.int .i64 (c:Int))∧(L 2=true→v 2=.pointer (some ⟨w4.heap.size,11,none⟩))∧(L 3=true→v 3=.int .i64 (c:Int))∧(L 4=true→v 4=.bool false)∧(L 5=true→v 5=.bool false)∧(L 6=true→v 6=.iface 65 i3)∧(L 7=true→v 7=.int .i64 (c:Int))∧(L 8=true→v 8=.pointer (some ⟨w4.heap.size,11,none⟩))∧(L 9=true→v 9=.int .i64 (c:Int))∧(L 10=true→v 10=.bool false)∧(L 11=true→v 11=.bool false)∧(L 12=true→v 12=.bool false)∧(L 13=true→v 13=.int .i64 0)∧(L 14=true→v 14=.pointer (some ⟨w4.heap.size,10,none⟩))∧(L 15=true→v 15=.int .i64 0)∧(L 16=true→v 16=.bool false)∧(L 17=true→v 17=.bool false)∧(L 18=true→v 18=.bool false)∧(L 19=true→v 19=.int .i64 0)∧(L 20=true→v 20=.int .i64 0)∧(L 21=true→v 21=.bool false)∧(L 22=true→v 22=.bool false)∧(L 23=true→v 23=.bool false)∧(L 24=true→v 24=.agg #[.int .i64 0,.int .u64 0,.int .u64 0,.int .u64 0,.int .u64 0,.slice none 0 0,.int .i64 0,.int .i64 0,.int .i64 0,.bool false])∧(L 25=true→v 25=.pointer (some ⟨w4.heap.size,0,none⟩))∧(L 26=true→v 26=.agg #[.int .i64 0,.int .u64 0,.int .u64 0,.int .u64 0,.int .u64 0,.slice none 0 0,.int .i64 0,.int .i64 0,.int .i64 0,.bool false])∧(L 27=true→v 27=.bool true)∧(L 28=true→v 28=.bool false)∧(L 29=true→v 29=.bool false))
   ?_ ?_ ?_
 · exact ⟨(Below.refl _ _).drew,by simp,by simp,by simp,by simp,by simp,by simp,by simp,by simp,by simp,by simp,by simp,by simp,by simp,by simp,by simp,by simp,by simp,by simp,by simp,by simp,by simp,by simp,by simp,by simp,by simp,by simp,by simp,by simp,by simp,by simp⟩
 · intro i hi9 L v w9 xa hI hL hd hv ho
   have hi':i=0 ∨ i=1 ∨ i=2 ∨ i=3 ∨ i=4 ∨ i=5 ∨ i=6 ∨ i=7 ∨ i=8 ∨ i=9 ∨ i=10 ∨ i=11 ∨ i=12 ∨ i=13 ∨ i=14 ∨ i=15 ∨ i=16 ∨ i=17 ∨ i=18 ∨ i=19 ∨ i=20 ∨ i=21 ∨ i=22 ∨ i=23 ∨ i=24 ∨ i=25 ∨ i=26 ∨ i=27 ∨ i=28 ∨ i=29:=by simp at hi9;omega
   obtain ⟨hb,q0,q1,q2,q3,q4,q5,q6,q7,q8,q9,q10,q11,q12,q13,q14,q15,q16,q17,q18,q19,q20,q21,q22,q23,q24,q25,q26,q27,q28,q29⟩:=hI
   rcases hi' with rfl | rfl | rfl | rfl | rfl | rfl | rfl | rfl | rfl | rfl | rfl | rfl | rfl | rfl | rfl | rfl | rfl | rfl | rfl | rfl | rfl | rfl | rfl | rfl | rfl | rfl | rfl | rfl | rfl | rfl
   · have e7:xa.tmps.getD 7 undef=.iface 65 i2:=ho 7 (by kernel_rfl)
     refine Ri.step_plain rfl rfl (fun K' hK=>?_)
     go_simp
     exact hK _ _ ⟨_,_,rfl,rfl,hb,fun _=>rfl,q1,q2,q3,q4,q5,q6,q7,q8,q9,q10,q11,q12,q13,q14,q15,q16,q17,q18,q19,q20,q21,q22,q23,q24,q25,q26,q27,q28,q29⟩
   · have l0:L 0=true:=by have:=hd _ rfl;simp [Region.binds] at this;simp [this]
     have f0:=(hv 0 31 rfl l0).trans (q0 l0)
     refine Ri.step_plain rfl rfl (fun K' hK=>?_)
     go_simp
     refine (HV2.out.later hb |>.num (HEW.out.below hb)).mono ?_
     rintro e w8 ⟨rfl,hb8⟩
     exact hK _ _ ⟨_,_,rfl,rfl,hb.trans (hb8.mono hb.size),q0,fun _=>rfl,q2,q3,q4,q5,q6,q7,q8,q9,q10,q11,q12,q13,q14,q15,q16,q17,q18,q19,q20,q21,q22,q23,q24,q25,q26,q27,q28,q29⟩
   · have e11:xa.tmps.getD 11 undef=.pointer (some ⟨w4.heap.size,0,none⟩):=ho 11 (by kernel_rfl)
     refine Ri.step_plain rfl rfl (fun K' hK=>?_)
     go_simp
     exact hK _ _ ⟨_,_,rfl,rfl,hb,q0,q1,fun _=>rfl,q3,q4,q5,q6,q7,q8,q9,q10,q11,q12,q13,q14,q15,q16,q17,q18,q19,q20,q21,q22,q23,q24,q25,q26,q27,q28,q29⟩
   · have l0:L 2=true:=by have:=hd _ rfl;simp [Region.binds] at this;simp [this]
     have f2:=(hv 2 33 rfl l0).trans (q2 l0)
     refine Ri.step_plain rfl rfl (fun K' hK=>?_)
     obtain ⟨e0,e1,e2,e3,e4,e5,e6,e7,e8,e9,e10,e11,e12⟩:=thirteen (keep_blk hb Z4.out)
     go_simp
     exact hK _ _ ⟨_,_,rfl,rfl,hb,q0,q1,q2,fun _=>rfl,q4,q5,q6,q7,q8,q9,q10,q11,q12,q13,q14,q15,q16,q17,q18,q19,q20,q21,q22,q23,q24,q25,q26,q27,q28,q29⟩
   · have l0:L 1=true∧L 3=true:=by have:=hd _ rfl;simp [Region.binds] at this;simp [this]
     have f1:=(hv 1 32 rfl l0.1).trans (q1 l0.1)
     have f3:=(hv 3 34 rfl l0.2).trans (q3 l0.2)
     refine Ri.step_plain rfl rfl (fun K' hK=>?_)
     go_simp
     exact hK _ _ ⟨_,_,rfl,rfl,hb,q0,q1,q2,q3,fun _=>rfl,q5,q6,q7,q8,q9,q10,q11,q12,q13,q14,q15,q16,q17,q18,q19,q20,q21,q22,q23,q24,q25,q26,q27,q28,q29⟩
   · have l0:L 4=true:=by have:=hd _ rfl;simp [Region.binds] at this;simp [this]
     have f4:=(hv 4 35 rfl l0).trans (q4 l0)
     refine Ri.step_plain rfl rfl (fun K' hK=>?_)
     go_simp
     exact hK _ _ ⟨_,_,rfl,rfl,hb,q0,q1,q2,q3,q4,fun _=>rfl,q6,q7,q8,q9,q10,q11,q12,q13,q14,q15,q16,q17,q18,q19,q20,q21,q22,q23,q24,q25,q26,q27,q28,q29⟩
   · have l0:L 5=true:=by have:=hd _ rfl;simp [Region.binds] at this;simp [this]
     have f5:=(hv 5 36 rfl l0).trans (q5 l0)
     have e10:xa.tmps.getD 10 undef=.iface 65 i3:=ho 10 (by kernel_rfl)
     refine Ri.step_wanted (b:=false) rfl rfl rfl f5 (fun K' hK=>?_)
     go_simp
     exact hK _ _ ⟨_,_,rfl,rfl,hb,q0,q1,q2,q3,q4,q5,fun _=>rfl,q7,q8,q9,q10,q11,q12,q13,q14,q15,q16,q17,q18,q19,q20,q21,q22,q23,q24,q25,q26,q27,q28,q29⟩
   · have l0:L 5=true∧L 6=true:=by have:=hd _ rfl;simp [Region.binds] at this;simp [this]
     have f5:=(hv 5 36 rfl l0.1).trans (q5 l0.1)
     have f6:=(hv 6 37 rfl l0.2).trans (q6 l0.2)
     refine Ri.step_wanted (b:=false) rfl rfl rfl f5 (fun K' hK=>?_)
     go_simp
     refine (HV3.out.later hb |>.num (HEW.out.below hb)).mono ?_
     rintro e w8 ⟨rfl,hb8⟩
     exact hK _ _ ⟨_,_,rfl,rfl,hb.trans (hb8.mono hb.size),q0,q1,q2,q3,q4,q5,q6,fun _=>rfl,q8,q9,q10,q11,q12,q13,q14,q15,q16,q17,q18,q19,q20,q21,q22,q23,q24,q25,q26,q27,q28,q29⟩
   · have l0:L 5=true:=by have:=hd _ rfl;simp [Region.binds] at this;simp [this]
     have f5:=(hv 5 36 rfl l0).trans (q5 l0)
     have e11:xa.tmps.getD 11 undef=.pointer (some ⟨w4.heap.size,0,none⟩):=ho 11 (by kernel_rfl)
     refine Ri.step_wanted (b:=false) rfl rfl rfl f5 (fun K' hK=>?_)
     go_simp
     exact hK _ _ ⟨_,_,rfl,rfl,hb,q0,q1,q2,q3,q4,q5,q6,q7,fun _=>rfl,q9,q10,q11,q12,q13,q14,q15,q16,q17,q18,q19,q20,q21,q22,q23,q24,q25,q26,q27,q28,q29⟩
   · have l0:L 5=true∧L 8=true:=by have:=hd _ rfl;simp [Region.binds] at this;simp [this]
     have f5:=(hv 5 36 rfl l0.1).trans (q5 l0.1)
     have f8:=(hv 8 39 rfl l0.2).trans (q8 l0.2)
     refine Ri.step_wanted (b:=false) rfl rfl rfl f5 (fun K' hK=>?_)
     obtain ⟨e0,e1,e2,e3,e4,e5,e6,e7,e8,e9,e10,e11,e12⟩:=thirteen (keep_blk hb Z4.out)
     go_simp
     exact hK _ _ ⟨_,_,rfl,rfl,hb,q0,q1,q2,q3,q4,q5,q6,q7,q8,fun _=>rfl,q10,q11,q12,q13,q14,q15,q16,q17,q18,q19,q20,q21,q22,q23,q24,q25,q26,q27,q28,q29⟩
   · have l0:L 5=true∧L 7=true∧L 9=true:=by have:=hd _ rfl;simp [Region.binds] at this;simp [this]
     have f5:=(hv 5 36 rfl l0.1).trans (q5 l0.1)
     have f7:=(hv 7 38 rfl l0.2.1).trans (q7 l0.2.1)
     have f9:=(hv 9 40 rfl l0.2.2).trans (q9 l0.2.2)
     refine Ri.step_wanted (b:=false) rfl rfl rfl f5 (fun K' hK=>?_)
     go_simp
     exact hK _ _ ⟨_,_,rfl,rfl,hb,q0,q1,q2,q3,q4,q5,q6,q7,q8,q9,fun _=>rfl,q11,q12,q13,q14,q15,q16,q17,q18,q19,q20,q21,q22,q23,q24,q25,q26,q27,q28,q29⟩
   · have l0:L 5=true∧L 10=true:=by have:=hd _ rfl;simp [Region.binds] at this;simp [this]
     have f5:=(hv 5 36 rfl l0.1).trans (q5 l0.1)
     have f10:=(hv 10 41 rfl l0.2).trans (q10 l0.2)
     refine Ri.step_plain rfl rfl (fun K' hK=>?_)
     go_simp
     exact hK _ _ ⟨_,_,rfl,rfl,hb,q0,q1,q2,q3,q4,q5,q6,q7,q8,q9,q10,fun _=>rfl,q12,q13,q14,q15,q16,q17,q18,q19,q20,q21,q22,q23,q24,q25,q26,q27,q28,q29⟩
   · have l0:L 11=true:=by have:=hd _ rfl;simp [Region.binds] at this;simp [this]
     have f11:=(hv 11 42 rfl l0).trans (q11 l0)
     refine Ri.step_plain rfl rfl (fun K' hK=>?_)
     go_simp
     exact hK _ _ ⟨_,_,rfl,rfl,hb,q0,q1,q2,q3,q4,q5,q6,q7,q8,q9,q10,q11,fun _=>rfl,q13,q14,q15,q16,q17,q18,q19,q20,q21,q22,q23,q24,q25,q26,q27,q28,q29⟩
   · have l0:L 12=true:=by have:=hd _ rfl;simp [Region.binds] at this;simp [this]
     have f12:=(hv 12 43 rfl l0).trans (q12 l0)
     have e6:xa.tmps.getD 6 undef=.int .i64 0:=ho 6 (by kernel_rfl)
     refine Ri.step_wanted (b:=false) rfl rfl rfl f12 (fun K' hK=>?_)
     go_simp
     exact hK _ _ ⟨_,_,rfl,rfl,hb,q0,q1,q2,q3,q4,q5,q6,q7,q8,q9,q10,q11,q12,fun _=>rfl,q14,q15,q16,q17,q18,q19,q20,q21,q22,q23,q24,q25,q26,q27,q28,q29⟩
   · have l0:L 12=true:=by have:=hd _ rfl;simp [Region.binds] at this;simp [this]
     have f12:=(hv 12 43 rfl l0).trans (q12 l0)
     have e11:xa.tmps.getD 11 undef=.pointer (some ⟨w4.heap.size,0,none⟩):=ho 11 (by kernel_rfl)
     refine Ri.step_wanted (b:=false) rfl rfl rfl f12 (fun K' hK=>?_)
     go_simp
     exact hK _ _ ⟨_,_,rfl,rfl,hb,q0,q1,q2,q3,q4,q5,q6,q7,q8,q9,q10,q11,q12,q13,fun _=>rfl,q15,q16,q17,q18,q19,q20,q21,q22,q23,q24,q25,q26,q27,q28,q29⟩
   · have l0:L 12=true∧L 14=true:=by have:=hd _ rfl;simp [Region.binds] at this;simp [this]
     have f12:=(hv 12 43 rfl l0.1).trans (q12 l0.1)
     have f14:=(hv 14 45 rfl l0.2).trans (q14 l0.2)
     refine Ri.step_wanted (b:=false) rfl rfl rfl f12 (fun K' hK=>?_)
     obtain ⟨e0,e1,e2,e3,e4,e5,e6,e7,e8,e9,e10,e11,e12⟩:=thirteen (keep_blk hb Z4.out)
     go_simp
     exact hK _ _ ⟨_,_,rfl,rfl,hb,q0,q1,q2,q3,q4,q5,q6,q7,q8,q9,q10,q11,q12,q13,q14,fun _=>rfl,q16,q17,q18,q19,q20,q21,q22,q23,q24,q25,q26,q27,q28,q29⟩
   · have l0:L 12=true∧L 13=true∧L 15=true:=by have:=hd _ rfl;simp [Region.binds] at this;simp [this]
     have f12:=(hv 12 43 rfl l0.1).trans (q12 l0.1)
     have f13:=(hv 13 44 rfl l0.2.1).trans (q13 l0.2.1)
     have f15:=(hv 15 46 rfl l0.2.2).trans (q15 l0.2.2)
     refine Ri.step_wanted (b:=false) rfl rfl rfl f12 (fun K' hK=>?_)
     go_simp
     exact hK _ _ ⟨_,_,rfl,rfl,hb,q0,q1,q2,q3,q4,q5,q6,q7,q8,q9,q10,q11,q12,q13,q14,q15,fun _=>rfl,q17,q18,q19,q20,q21,q22,q23,q24,q25,q26,q27,q28,q29⟩
   · have l0:L 12=true∧L 16=true:=by have:=hd _ rfl;simp [Region.binds] at this;simp [this]
     have f12:=(hv 12 43 rfl l0.1).trans (q12 l0.1)
     have f16:=(hv 16 47 rfl l0.2).trans (q16 l0.2)
     refine Ri.step_plain rfl rfl (fun K' hK=>?_)
     go_simp
     exact hK _ _ ⟨_,_,rfl,rfl,hb,q0,q1,q2,q3,q4,q5,q6,q7,q8,q9,q10,q11,q12,q13,q14,q15,q16,fun _=>rfl,q18,q19,q20,q21,q22,q23,q24,q25,q26,q27,q28,q29⟩
   · have l0:L 17=true:=by have:=hd _ rfl;simp [Region.binds] at this;simp [this]
     have f17:=(hv 17 48 rfl l0).trans (q17 l0)
     refine Ri.step_plain rfl rfl (fun K' hK=>?_)
     go_simp
     exact hK _ _ ⟨_,_,rfl,rfl,hb,q0,q1,q2,q3,q4,q5,q6,q7,q8,q9,q10,q11,q12,q13,q14,q15,q16,q17,fun _=>rfl,q19,q20,q21,q22,q23,q24,q25,q26,q27,q28,q29⟩
   · have l0:L 18=true:=by have:=hd _ rfl;simp [Region.binds] at this;simp [this]
     have f18:=(hv 18 49 rfl l0).trans (q18 l0)
     have e9:xa.tmps.getD 9 undef=.int .i64 0:=ho 9 (by kernel_rfl)
     refine Ri.step_wanted (b:=false) rfl rfl rfl f18 (fun K' hK=>?_)
     go_simp
     exact hK _ _ ⟨_,_,rfl,rfl,hb,q0,q1,q2,q3,q4,q5,q6,q7,q8,q9,q10,q11,q12,q13,q14,q15,q16,q17,q18,fun _=>rfl,q20,q21,q22,q23,q24,q25,q26,q27,q28,q29⟩
   · have l0:L 18=true:=by have:=hd _ rfl;simp [Region.binds] at this;simp [this]
     have f18:=(hv 18 49 rfl l0).trans (q18 l0)
     have e6:xa.tmps.getD 6 undef=.int .i64 0:=ho 6 (by kernel_rfl)
     refine Ri.step_wanted (b:=false) rfl rfl rfl f18 (fun K' hK=>?_)
     go_simp
     exact hK _ _ ⟨_,_,rfl,rfl,hb,q0,q1,q2,q3,q4,q5,q6,q7,q8,q9,q10,q11,q12,q13,q14,q15,q16,q17,q18,q19,fun _=>rfl,q21,q22,q23,q24,q25,q26,q27,q28,q29⟩
   · have l0:L 18=true∧L 19=true∧L 20=true:=by have:=hd _ rfl;simp [Region.binds] at this;simp [this]
     have f18:=(hv 18 49 rfl l0.1).trans (q18 l0.1)
     have f19:=(hv 19 50 rfl l0.2.1).trans (q19 l0.2.1)
     have f20:=(hv 20 51 rfl l0.2.2).trans (q20 l0.2.2)
     refine Ri.step_wanted (b:=false) rfl rfl rfl f18 (fun K' hK=>?_)
     go_simp
     exact hK _ _ ⟨_,_,rfl,rfl,hb,q0,q1,q2,q3,q4,q5,q6,q7,q8,q9,q10,q11,q12,q13,q14,q15,q16,q17,q18,q19,q20,fun _=>rfl,q22,q23,q24,q25,q26,q27,q28,q29⟩
   · have l0:L 18=true∧L 21=true:=by have:=hd _ rfl;simp [Region.binds] at this;simp [this]
     have f18:=(hv 18 49 rfl l0.1).trans (q18 l0.1)
     have f21:=(hv 21 52 rfl l0.2).trans (q21 l0.2)
     refine Ri.step_plain rfl rfl (fun K' hK=>?_)
     go_simp
     exact hK _ _ ⟨_,_,rfl,rfl,hb,q0,q1,q2,q3,q4,q5,q6,q7,q8,q9,q10,q11,q12,q13,q14,q15,q16,q17,q18,q19,q20,q21,fun _=>rfl,q23,q24,q25,q26,q27,q28,q29⟩
   · have l0:L 22=true:=by have:=hd _ rfl;simp [Region.binds] at this;simp [this]
     have f22:=(hv 22 53 rfl l0).trans (q22 l0)
     refine Ri.step_plain rfl rfl (fun K' hK=>?_)
     go_simp
     exact hK _ _ ⟨_,_,rfl,rfl,hb,q0,q1,q2,q3,q4,q5,q6,q7,q8,q9,q10,q11,q12,q13,q14,q15,q16,q17,q18,q19,q20,q21,q22,fun _=>rfl,q24,q25,q26,q27,q28,q29⟩
   · have l0:L 23=true:=by have:=hd _ rfl;simp [Region.binds] at this;simp [this]
     have f23:=(hv 23 54 rfl l0).trans (q23 l0)
     have e5:xa.tmps.getD 5 undef=.pointer (some ⟨w2.heap.size,0,none⟩):=ho 5 (by kernel_rfl)
     refine Ri.step_wanted (b:=false) rfl rfl rfl f23 (fun K' hK=>?_)
     refine wp_load_row _ _ rfl _ e5 _ _ _ _ (keep_blk hb X2.out) Tryz.underlying28 rfl (by kernel_rfl) ?_
     exact hK _ _ ⟨_,_,rfl,rfl,hb,q0,q1,q2,q3,q4,q5,q6,q7,q8,q9,q10,q11,q12,q13,q14,q15,q16,q17,q18,q19,q20,q21,q22,q23,fun _=>rfl,q25,q26,q27,q28,q29⟩
   · have l0:L 23=true:=by have:=hd _ rfl;simp [Region.binds] at this;simp [this]
     have f23:=(hv 23 54 rfl l0).trans (q23 l0)
     have e11:xa.tmps.getD 11 undef=.pointer (some ⟨w4.heap.size,0,none⟩):=ho 11 (by kernel_rfl)
     refine Ri.step_wanted (b:=false) rfl rfl rfl f23 (fun K' hK=>?_)
     go_simp
     exact hK _ _ ⟨_,_,rfl,rfl,hb,q0,q1,q2,q3,q4,q5,q6,q7,q8,q9,q10,q11,q12,q13,q14,q15,q16,q17,q18,q19,q20,q21,q22,q23,q24,fun _=>rfl,q26,q27,q28,q29⟩
   · have l0:L 23=true∧L 25=true:=by have:=hd _ rfl;simp [Region.binds] at this;simp [this]
     have f23:=(hv 23 54 rfl l0.1).trans (q23 l0.1)
     have f25:=(hv 25 56 rfl l0.2).trans (q25 l0.2)
     refine Ri.step_wanted (b:=false) rfl rfl rfl f23 (fun K' hK=>?_)
     obtain ⟨e0,e1,e2,e3,e4,e5,e6,e7,e8,e9,e10,e11,e12⟩:=thirteen (keep_blk hb Z4.out)
     go_simp
     exact hK _ _ ⟨_,_,rfl,rfl,hb,q0,q1,q2,q3,q4,q5,q6,q7,q8,q9,q10,q11,q12,q13,q14,q15,q16,q17,q18,q19,q20,q21,q22,q23,q24,q25,fun _=>rfl,q27,q28,q29⟩
   · have l0:L 23=true∧L 24=true∧L 26=true:=by have:=hd _ rfl;simp [Region.binds] at this;simp [this]
     have f23:=(hv 23 54 rfl l0.1).trans (q23 l0.1)
     have f24:=(hv 24 55 rfl l0.2.1).trans (q24 l0.2.1)
     have f26:=(hv 26 57 rfl l0.2.2).trans (q26 l0.2.2)
     refine Ri.step_wanted (b:=false) rfl rfl rfl f23 (fun K' hK=>?_)
     go_simp
     refine (HSN.out _ hb).mono ?_
     rintro e w8 ⟨rfl,hb8⟩
     exact hK _ _ ⟨_,_,rfl,rfl,hb.trans (hb8.mono hb.size),q0,q1,q2,q3,q4,q5,q6,q7,q8,q9,q10,q11,q12,q13,q14,q15,q16,q17,q18,q19,q20,q21,q22,q23,q24,q25,q26,fun _=>rfl,q28,q29⟩
   · have l0:L 23=true∧L 27=true:=by have:=hd _ rfl;simp [Region.binds] at this;simp [this]
     have f23:=(hv 23 54 rfl l0.1).trans (q23 l0.1)
     have f27:=(hv 27 58 rfl l0.2).trans (q27 l0.2)
     refine Ri.step_wanted (b:=false) rfl rfl rfl f23 (fun K' hK=>?_)
     go_simp
     exact hK _ _ ⟨_,_,rfl,rfl,hb,q0,q1,q2,q3,q4,q5,q6,q7,q8,q9,q10,q11,q12,q13,q14,q15,q16,q17,q18,q19,q20,q21,q22,q23,q24,q25,q26,q27,fun _=>rfl,q29⟩
   · have l0:L 23=true∧L 28=true:=by have:=hd _ rfl;simp [Region.binds] at this;simp [this]
     have f23:=(hv 23 54 rfl l0.1).trans (q23 l0.1)
     have f28:=(hv 28 59 rfl l0.2).trans (q28 l0.2)
     refine Ri.step_plain rfl rfl (fun K' hK=>?_)
     go_simp
     exact hK _ _ ⟨_,_,rfl,rfl,hb,q0,q1,q2,q3,q4,q5,q6,q7,q8,q9,q10,q11,q12,q13,q14,q15,q16,q17,q18,q19,q20,q21,q22,q23,q24,q25,q26,q27,q28,fun _=>rfl⟩
 · rintro v w9 ⟨hb,-,-,-,-,-,-,-,-,-,-,-,-,-,-,-,-,-,-,-,-,-,-,-,-,-,-,-,-,-,q29⟩
   have q29':v 29=.bool false:=q29 rfl
   simp only [Ri.frame,List.zipIdx,List.foldl_cons,List.foldl_nil,if_true,List.setIfInBounds_toArray,List.set_cons_zero,List.set_cons_succ,Nat.reduceAdd,q29']
   clear q29 q29'
   generalize v 0=y0;generalize v 1=y1;generalize v 2=y2;generalize v 3=y3;generalize v 4=y4;generalize v 5=y5;generalize v 6=y6;generalize v 7=y7;generalize v 8=y8;generalize v 9=y9;generalize v 10=y10;generalize v 11=y11;generalize v 12=y12;generalize v 13=y13;generalize v 14=y14;generalize v 15=y15;generalize v 16=y16;generalize v 17=y17;generalize v 18=y18;generalize v 19=y19;generalize v 20=y20;generalize v 21=y21;generalize v 22=y22;generalize v 23=y23;generalize v 24=y24;generalize v 25=y25;generalize v 26=y26;generalize v 27=y27;generalize v 28=y28
   have HB5:=Lib.hid (HB4.out.trans (hb.mono HB4.out.size));have Z5:=Lib.hid (keep_blk hb Z4.out)
   have HV5:=Lib.hid (HV2.out.later hb);have HV6:=Lib.hid (HV3.out.later hb);have HT5:=Lib.hid (HTW.out.later hb)
   clear hb HSN HV2 HV3 X2 X3 Z4 HB4 HEW HTW
   go_wp2_with fail
   refine Ri.wp_region_frame (by kernel_rfl) (by kernel_rfl) (by kernel_rfl) (by kernel_rfl)
     (fun L v w'=>Below w9.heap.size w9 w'∧(L 0=true→v 0=.iface 65 i2)∧(L 1=true→v 1=.int .i64 q)∧(L 2=true→v 2=.pointer (some ⟨w4.heap.size,12,none⟩))∧(L 3=true→v 3=.int .i64 q)∧(L 4=true→v 4=.bool true)∧(L 5=true→v 5=.bool true)∧(L 6=true→v 6=.iface 65 i3)∧(L 7=true→v 7=.int .i64 q)∧(L 8=true→v 8=.pointer (some ⟨w4.heap.size,12,none⟩))∧(L 9=true→v 9=.int .i64 q)∧(L 10=true→v 10=.bool true)∧(L 11=true→v 11=.bool true)∧(L 12=true→v 12=.bool true))
     ?_ ?_ ?_
   · exact ⟨(Below.refl _ _).drew,by simp,by simp,by simp,by simp,by simp,by simp,by simp,by simp,by simp,by simp,by simp,by simp,by simp⟩
   · intro i hi9 L v w10 xa hI hL hd hv ho
     have hi':i=0 ∨ i=1 ∨ i=2 ∨ i=3 ∨ i=4 ∨ i=5 ∨ i=6 ∨ i=7 ∨ i=8 ∨ i=9 ∨ i=10 ∨ i=11 ∨ i=12:=by simp at hi9;omega
     obtain ⟨hb,q0,q1,q2,q3,q4,q5,q6,q7,q8,q9,q10,q11,q12⟩:=hI
     rcases hi' with rfl | rfl | rfl | rfl | rfl | rfl | rfl | rfl | rfl | rfl | rfl | rfl | rfl
     · have e7:xa.tmps.getD 7 undef=.iface 65 i2:=ho 7 (by kernel_rfl)
       refine Ri.step_plain rfl rfl (fun K' hK=>?_)
       go_simp
       exact hK _ _ ⟨_,_,rfl,rfl,hb,fun _=>rfl,q1,q2,q3,q4,q5,q6,q7,q8,q9,q10,q11,q12⟩
     · have l0:L 0=true:=by have:=hd _ rfl;simp [Region.binds] at this;simp [this]
       have f0:=(hv 0 63 rfl l0).trans (q0 l0)
       refine Ri.step_plain rfl rfl (fun K' hK=>?_)
       go_simp
       refine (HV5.out.later hb |>.place (HT5.out.later hb)).mono ?_
       rintro e w8 ⟨rfl,hb8⟩
       exact hK _ _ ⟨_,_,rfl,rfl,hb.trans (hb8.mono hb.size),q0,fun _=>rfl,q2,q3,q4,q5,q6,q7,q8,q9,q10,q11,q12⟩
     · have e11:xa.tmps.getD 11 undef=.pointer (some ⟨w4.heap.size,0,none⟩):=ho 11 (by kernel_rfl)
       refine Ri.step_plain rfl rfl (fun K' hK=>?_)
       go_simp
       exact hK _ _ ⟨_,_,rfl,rfl,hb,q0,q1,fun _=>rfl,q3,q4,q5,q6,q7,q8,q9,q10,q11,q12⟩
     · have l0:L 2=true:=by have:=hd _ rfl;simp [Region.binds] at this;simp [this]
       have f2:=(hv 2 65 rfl l0).trans (q2 l0)
       refine Ri.step_plain rfl rfl (fun K' hK=>?_)
       obtain ⟨e0,e1,e2,e3,e4,e5,e6,e7,e8,e9,e10,e11,e12⟩:=thirteen (keep_blk hb Z5.out)
       go_simp
       exact hK _ _ ⟨_,_,rfl,rfl,hb,q0,q1,q2,fun _=>rfl,q4,q5,q6,q7,q8,q9,q10,q11,q12⟩
     · have l0:L 1=true∧L 3=true:=by have:=hd _ rfl;simp [Region.binds] at this;simp [this]
       have f1:=(hv 1 64 rfl l0.1).trans (q1 l0.1)
       have f3:=(hv 3 66 rfl l0.2).trans (q3 l0.2)
       refine Ri.step_plain rfl rfl (fun K' hK=>?_)
       go_simp
       exact hK _ _ ⟨_,_,rfl,rfl,hb,q0,q1,q2,q3,fun _=>rfl,q5,q6,q7,q8,q9,q10,q11,q12⟩
     · have l0:L 4=true:=by have:=hd _ rfl;simp [Region.binds] at this;simp [this]
       have f4:=(hv 4 67 rfl l0).trans (q4 l0)
       refine Ri.step_plain rfl rfl (fun K' hK=>?_)
       go_simp
       exact hK _ _ ⟨_,_,rfl,rfl,hb,q0,q1,q2,q3,q4,fun _=>rfl,q6,q7,q8,q9,q10,q11,q12⟩
     · have l0:L 5=true:=by have:=hd _ rfl;simp [Region.binds] at this;simp [this]
       have f5:=(hv 5 68 rfl l0).trans (q5 l0)
       have e10:xa.tmps.getD 10 undef=.iface 65 i3:=ho 10 (by kernel_rfl)
       refine Ri.step_wanted (b:=true) rfl rfl rfl f5 (fun K' hK=>?_)
       go_simp
       exact hK _ _ ⟨_,_,rfl,rfl,hb,q0,q1,q2,q3,q4,q5,fun _=>rfl,q7,q8,q9,q10,q11,q12⟩
     · have l0:L 5=true∧L 6=true:=by have:=hd _ rfl;simp [Region.binds] at this;simp [this]
       have f5:=(hv 5 68 rfl l0.1).trans (q5 l0.1)
       have f6:=(hv 6 69 rfl l0.2).trans (q6 l0.2)
       refine Ri.step_wanted (b:=true) rfl rfl rfl f5 (fun K' hK=>?_)
       go_simp
       refine (HV6.out.later hb |>.place (HT5.out.later hb)).mono ?_
       rintro e w8 ⟨rfl,hb8⟩
       exact hK _ _ ⟨_,_,rfl,rfl,hb.trans (hb8.mono hb.size),q0,q1,q2,q3,q4,q5,q6,fun _=>rfl,q8,q9,q10,q11,q12⟩
     · have l0:L 5=true:=by have:=hd _ rfl;simp [Region.binds] at this;simp [this]
       have f5:=(hv 5 68 rfl l0).trans (q5 l0)
       have e11:xa.tmps.getD 11 undef=.pointer (some ⟨w4.heap.size,0,none⟩):=ho 11 (by kernel_rfl)
       refine Ri.step_wanted (b:=true) rfl rfl rfl f5 (fun K' hK=>?_)
       go_simp
       exact hK _ _ ⟨_,_,rfl,rfl,hb,q0,q1,q2,q3,q4,q5,q6,q7,fun _=>rfl,q9,q10,q11,q12⟩
     · have l0:L 5=true∧L 8=true:=by have:=hd _ rfl;simp [Region.binds] at this;simp [this]
       have f5:=(hv 5 68 rfl l0.1).trans (q5 l0.1)
       have f8:=(hv 8 71 rfl l0.2).trans (q8 l0.2)
       refine Ri.step_wanted (b:=true) rfl rfl rfl f5 (fun K' hK=>?_)
       obtain ⟨e0,e1,e2,e3,e4,e5,e6,e7,e8,e9,e10,e11,e12⟩:=thirteen (keep_blk hb Z5.out)
       go_simp
       exact hK _ _ ⟨_,_,rfl,rfl,hb,q0,q1,q2,q3,q4,q5,q6,q7,q8,fun _=>rfl,q10,q11,q12⟩
     · have l0:L 5=true∧L 7=true∧L 9=true:=by have:=hd _ rfl;simp [Region.binds] at this;simp [this]
       have f5:=(hv 5 68 rfl l0.1).trans (q5 l0.1)
       have f7:=(hv 7 70 rfl l0.2.1).trans (q7 l0.2.1)
       have f9:=(hv 9 72 rfl l0.2.2).trans (q9 l0.2.2)
       refine Ri.step_wanted (b:=true) rfl rfl rfl f5 (fun K' hK=>?_)
       go_simp
       exact hK _ _ ⟨_,_,rfl,rfl,hb,q0,q1,q2,q3,q4,q5,q6,q7,q8,q9,fun _=>rfl,q11,q12⟩
     · have l0:L 5=true∧L 10=true:=by have:=hd _ rfl;simp [Region.binds] at this;simp [this]
       have f5:=(hv 5 68 rfl l0.1).trans (q5 l0.1)
       have f10:=(hv 10 73 rfl l0.2).trans (q10 l0.2)
       refine Ri.step_plain rfl rfl (fun K' hK=>?_)
       go_simp
       exact hK _ _ ⟨_,_,rfl,rfl,hb,q0,q1,q2,q3,q4,q5,q6,q7,q8,q9,q10,fun _=>rfl,q12⟩
     · have l0:L 11=true:=by have:=hd _ rfl;simp [Region.binds] at this;simp [this]
       have f11:=(hv 11 74 rfl l0).trans (q11 l0)
       refine Ri.step_plain rfl rfl (fun K' hK=>?_)
       go_simp
       exact hK _ _ ⟨_,_,rfl,rfl,hb,q0,q1,q2,q3,q4,q5,q6,q7,q8,q9,q10,q11,fun _=>rfl⟩
   · rintro v w10 ⟨hb,-,-,-,-,-,-,-,-,-,-,-,-,q12⟩
     have q12':v 12=.bool true:=q12 rfl
     simp only [Ri.frame,List.zipIdx,List.foldl_cons,List.foldl_nil,if_true,List.setIfInBounds_toArray,List.set_cons_zero,List.set_cons_succ,Nat.reduceAdd,q12']
     clear q12 q12'
     generalize v 0=y0;generalize v 1=y1;generalize v 2=y2;generalize v 3=y3;generalize v 4=y4;generalize v 5=y5;generalize v 6=y6;generalize v 7=y7;generalize v 8=y8;generalize v 9=y9;generalize v 10=y10;generalize v 11=y11
     have HB6:=Lib.hid (HB5.out.trans (hb.mono HB5.out.size))
     clear hb
     go_wp2
     go_ret
     exact ⟨rfl,HB6.out⟩
theorem ereparses_any (A:Nat→Addr) (x:ByteArray) (fl:Int) (w:World) (hE:BrEnv w A) (hT:ErrType w) :
   Calls Tryz.prog 3 #[.string x,.int .i64 fl] w fun e w'=>e=.returned (.bool true)∧Below w.heap.size w w':=by
 cases hO:Ep.parse (bt x) x.size (icB fl) (nlB fl) with
 | ok T j g=>exact ereparses_ok A x fl w hE hT T j g hO
 | err c q=>exact ereparses_err A x fl w hE hT c q hO
end Go.Proofs.YtlbhbjmobcikfaaGreatDoor
namespace Go.Proofs.YtlbhbjmobcikfaaGreatDoor
open Go.ChangeShapes Go.WideShapes Go.ChangeAt Go.RowKit
theorem Tryz.own:ownKnob Tryz.prog.godebug=none:=by kernel_rfl
theorem Tryz.laidOut:laidOutB Tryz.prog=true:=by kernel_rfl
end Go.Proofs.YtlbhbjmobcikfaaGreatDoor
namespace Go.Proofs.YtlbhbjmobcikfaaGreatDoor
open Go.RowKit
structure FaEnv (w:World):Prop where
 ty:ErrType w
end Go.Proofs.YtlbhbjmobcikfaaGreatDoor
namespace Go.Proofs.YtlbhbjmobcikfaaGreatDoor
open Go.ChangeShapes Go.WideShapes Go.ChangeAt Go.RowKit
theorem laid_split {P:Program} {l:List (String × DataW Unit)} {W:World} (h:laidMetH P l W):laidMet P (l.filter fun x=>x.2.handleName?.isNone) W∧handlesMet P (l.filter fun x=>x.2.handleName?.isSome) W:=by
 unfold laidMetH at h
 generalize hfl:(l.filter fun x=>x.2.handleName?.isSome)=fl at h
 cases fl with
 | nil =>
   have e:(l.filter fun x=>x.2.handleName?.isNone)=l:=by
     rw [List.filter_eq_self]
     intro x hx
     have:=List.filter_eq_nil_iff.1 hfl x hx
     cases hh:x.2.handleName? with
     | none=>rfl
     | some y=>rw [hh] at this;simp at this
   rw [e]
   exact ⟨h,fun x hx=>by cases hx⟩
 | cons x r=>exact h
theorem Tryz.errorTypeG : Tryz.prog.globalNamed "errors.errorType" = some 21 := by kernel_rfl
theorem Tryz.rtypeT : (Tryz.prog.cutTypes.find? (·.1 == "internal/reflectlite.rtype")).map (·.2) = some 108 := by kernel_rfl
theorem Tryz.errorRow:((List.range Tryz.prog.types.size).filter fun t=>Tryz.prog.rowNamed t [101,114,114,111,114])=[30]:=by kernel_rfl
theorem Tryz.errorHandle:typeHandle Tryz.prog 30=.pointer (some ⟨Tryz.prog.globals.size,30,none⟩):=by kernel_rfl
theorem errtype_of {l : List (String × DataW Unit)} {W : World} (h : handlesMet Tryz.prog l W) (hl : ("errors.errorType", Rows.laid_errors_errorType) ∈ l) : ErrType W := by
 obtain ⟨name,u,ty,e1,e2,e3,e4,e5⟩:=h _ hl
 have en:name=[101,114,114,111,114]:=(Option.some.inj e1).symm
 subst en
 obtain rfl:=Option.some.inj (Tryz.rtypeT.symm.trans e2)
 have hm:ty ∈ (List.range Tryz.prog.types.size).filter fun t=>Tryz.prog.rowNamed t [101,114,114,111,114]:=List.mem_filter.2 ⟨List.mem_range.2 e3,e4⟩
 rw [Tryz.errorRow] at hm
 obtain rfl:=List.mem_singleton.1 hm
 rw [Tryz.errorHandle] at e5
 unfold ErrType
 simpa using World.var?_cell Tryz.errorTypeG e5 0
theorem errList_plain:∀ x,x ∈ errList→x.2.handleName?.isNone=true:=by
 have h:(errList.all fun x=>x.2.handleName?.isNone)=true:=by kernel_rfl
 intro x hx
 exact List.all_eq_true.1 h x hx
theorem errs_handle_of {l : List (String × DataW Unit)} {W : World} (h : laidMetH Tryz.prog l W) (hl : ∀ x, x ∈ errList → x ∈ l) (hh : ("errors.errorType", Rows.laid_errors_errorType) ∈ l) : (∃ A, Errs W A) ∧ ErrType W := by
 obtain ⟨h1,h2⟩:=laid_split h
 exact ⟨errs_of h1 fun x hx=>List.mem_filter.2 ⟨hl x hx,errList_plain x hx⟩,errtype_of h2 (List.mem_filter.2 ⟨hh,rfl⟩)⟩
end Go.Proofs.YtlbhbjmobcikfaaGreatDoor
namespace Go.Proofs.YtlbhbjmobcikfaaGreatDoor
open Go.ChangeShapes Go.WideShapes Go.ChangeAt Go.RowKit
theorem fault_env_of {l : List (String × DataW Unit)} {W : World} (h : laidMetH Tryz.prog l W) (hl : ∀ x, x ∈ errList → x ∈ l) (hh : ("errors.errorType", Rows.laid_errors_errorType) ∈ l)
   : (∃ A,Errs W A)∧FaEnv W:=by
 obtain ⟨h1,h2⟩:=errs_handle_of h hl hh
 have h3:=(laid_split h).1
 exact ⟨h1,{
   ty:=h2
   }⟩
end Go.Proofs.YtlbhbjmobcikfaaGreatDoor
