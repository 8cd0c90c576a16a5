/- Part 6 of what these proofs need. -/
import Derived.ChangeOld
import Derived.Deep.Slices
import Derived.Laws.IdiomArrays
import Derived.Lib.SmallJoins
import Derived.Lib.LaidTab
import Derived.Lib.ItoaNum
import Derived.Lib.AppendIntMem
import Derived.LaidLaws
import Derived.Test.YtfcilopifjddpaaGreatDoorBpR5
set_option maxRecDepth 100000
set_option maxHeartbeats 16000000
namespace Go.Proofs.YtfcilopifjddpaaGreatDoor
open Go.RowKit
theorem BsEnd.ok {P:Nat→Prop} {R:Nat} {s:ByteArray} {fl:Int} {m:Nat} {ov:Value} {O:Ep.Out} {w:World} {e:Ending} {w':World} (h:BsEnd P R s fl m ov O w e w') {t:Tr} {j g:Nat} (hO:O=.ok t j g) :
   ∃ ov' v,e=.returned (.agg (t.cells v))∧TreesAt w' (fun b=>(P b ∨ w.heap.size ≤ b)∧ov'.ownBlock ≠ some b) v t.subs∧w'.heap[R]? = some (.cells (stC s j fl g ov' 0 0) 58)∧(ov'.ownBlock=ov.ownBlock ∨ ∃ b,ov'.ownBlock=some b∧w.heap.size ≤ b)∧Opn w' R 0 ov'∧Touch (obs R ov) w w':=by
 subst hO
 obtain ⟨ov',h1,h2,h3,v,h4,h5,h6⟩:=h
 exact ⟨ov',v,h4,h5,h6,h1,h2,h3⟩
theorem BsEnd.err {P:Nat→Prop} {R:Nat} {s:ByteArray} {fl:Int} {m:Nat} {ov:Value} {O:Ep.Out} {w:World} {e:Ending} {w':World} (h:BsEnd P R s fl m ov O w e w') {c:Nat} {q:Int} (hO:O=.err c q) :
   ∃ (ov':Value) (x:Tr) (p:Option Addr) (l k i g:Nat),e=.returned (.agg (x.cells (.slice p l k)))∧w'.heap[R]? = some (.cells (stC s i fl g ov' c q) 58)∧c ≠ 0∧i+m ≤ s.size+128∧g ≤ s.size∧(ov'.ownBlock=ov.ownBlock ∨ ∃ b,ov'.ownBlock=some b∧w.heap.size ≤ b)∧Opn w' R 0 ov'∧Touch (obs R ov) w w':=by
 subst hO
 obtain ⟨ov',h1,h2,h3,h5,x,p,l,k,i,g,h6,h7,h8,h9⟩:=h
 exact ⟨ov',x,p,l,k,i,g,h6,h7,h5,h8,h9,h1,h2,h3⟩
theorem bspiece_mid {f:Nat→Nat} {n:Nat} {ic nl:Bool} {H:Nat→Nat→Ep.Out} {fr bg:Bool} {i g:Nat} (h1:Bp.isEnd f n i=false) (h2:((f i == 42 && !fr && !bg) || Bp.two f 92 123 i)=false):bspiece f n ic nl H fr bg i g=match Bp.atom f n ic nl H i g with
   | .err c p=>.err c p
   | .ok t j g'=>Bp.rep f n t j g':=by
 unfold bspiece
 simp only [Bool.or_eq_false_iff] at h2
 rw [h1,h2.2,if_neg (by decide),if_neg (fun h=>by have:=h2.1;rw [h.1,h.2.1,h.2.2] at this;cases this),if_neg (by decide)]
 cases Bp.atom f n ic nl H i g <;> rfl
theorem bspiece_nine {f:Nat→Nat} {n:Nat} {ic nl:Bool} {H:Nat→Nat→Ep.Out} {fr bg:Bool} {i g:Nat} (h1:Bp.isEnd f n i=false) (h2:((f i == 42 && !fr && !bg) || Bp.two f 92 123 i)=true):bspiece f n ic nl H fr bg i g=.err 9 i:=by
 unfold bspiece
 rw [h1,if_neg (by decide)]
 simp only [Bool.or_eq_true,Bool.and_eq_true,beq_iff_eq,Bool.not_eq_true'] at h2
 rcases h2 with ⟨⟨h3,h4⟩,h5⟩ | h3
 · rw [if_pos ⟨h3,h4,h5⟩]
 · have:=(Bp.two_iff.1 h3).1
   rw [if_neg (by omega),if_pos h3]
theorem bspiece_three {f:Nat→Nat} {n:Nat} {ic nl:Bool} {H:Nat→Nat→Ep.Out} {fr bg:Bool} {i g:Nat} (h1:Bp.isEnd f n i=false) (h2:((f i == 42 && !fr && !bg) || Bp.two f 92 123 i)=false) (h3:Bp.two f 92 125 i=true):bspiece f n ic nl H fr bg i g=.err 3 i:=by
 rw [bspiece_mid h1 h2]
 obtain ⟨h4,h5⟩:=Bp.two_iff.1 h3
 have h6:Bp.two f 92 40 i=false:=by unfold Bp.two;rw [h5];simp
 unfold Bp.atom
 rw [if_neg (by omega),if_neg (by omega),h6,if_neg (by decide),if_pos h3]
theorem bsisEnd_is {f:Nat→Nat} {n i:Nat} (b:Bool) (h:(f i=36∧(n ≤ i+1 ∨ Bp.two f 92 41 (i+1)=true)) ↔ b=true):Bp.isEnd f n i=b:=by
 unfold Bp.isEnd
 cases b with
 | true=>simpa using h
 | false =>
   rw [Bool.eq_false_iff]
   intro h2
   simp only [Bool.and_eq_true,beq_iff_eq,Bool.or_eq_true,decide_eq_true_eq] at h2
   exact absurd (h.1 h2) (by decide)
theorem bspieces_any (w:World) (R:Nat) (s:ByteArray) (hs:s.size ≤ 1024) (i0:Nat) (fl:Int) (g0:Nat) (ov:Value) (k:Nat) (hR:w.heap[R]? = some (.cells (stC s i0 fl g0 ov 0 0) 58)) (hop:Opn w R 0 ov) (hi0:i0 ≤ s.size) (hk:k ≤ 32) (hg0:2 * g0 ≤ i0)
   (H:Nat→Nat→Ep.Out) (hA:Bp.Ahead s.size H) (hH:Bp.Right s.size H)
   (HG:∀ i g ov w,i < s.size→2 * g ≤ i→Bp.two (bt s) 92 40 i=true→w.heap[R]? = some (.cells (stC s i fl g ov 0 0) 58)→Opn w R 0 ov→Calls Tryz.prog 61 #[.pointer (some ⟨R,0,none⟩),.int .i64 (k:Int)] w (BsEnd (fun _=>False) R s fl (2 * k) ov (H i g) w))
   (O:Ep.Out) (hO:Bp.seq (bt s) s.size (icB fl) (nlB fl) H i0 g0=O) :
   Calls Tryz.prog 29 #[.pointer (some ⟨R,0,none⟩),.int .i64 (k:Int)] w (BsEnd (fun _=>False) R s fl (2 * k) ov (bsb k (bt s) O) w):=by
 have hlt:=st_lt hR
 have hb0:Below w.heap.size w (w.alloc (.cells #[.int .i64 0,.int .u64 0,.int .u64 0,.int .u64 0,.int .u64 0,.slice none 0 0,.int .i64 0,.int .i64 0,.int .i64 0,.bool false] 28)):=(Below.refl _ _).alloc (Nat.le_refl _) _
 have hnov:ov.ownBlock ≠ some w.heap.size:=fun e=>by have:=(hop.lt e).2;omega
 have HC0:=Lib.hid (keep_blk hb0 hR);have HOP0:=Lib.hid (hop.later hb0);have HT0:=Lib.hid (Touch.of_below (obs R ov) hb0)
 have Z0:=Lib.hid (heap_alloc_new w (.cells #[.int .i64 0,.int .u64 0,.int .u64 0,.int .u64 0,.int .u64 0,.slice none 0 0,.int .i64 0,.int .i64 0,.int .i64 0,.bool false] 28))
 have HO:=Lib.hid hO;have HAA:=Lib.hid hA;have HHH:=Lib.hid hH;have HGG:=Lib.hid HG
 have HTQ:=Lib.hid (fun i a b (ha:a < 256) (hb:b < 256) (hi:i ≤ 4294967296) (w:World)=>(bstwo_any s i a b ha hb hi w).mono (R':=fun e w'=>e=.returned (.bool (Bp.two (bt s) a b i))∧w'=w) fun _ _ h=>⟨h.1,h.2.symm⟩)
 clear hR hop hb0 hO hA hH HG
 go_enter Tryz.func29,Tryz.ntmps29
 obtain ⟨ie,hi0',hz0,hz1,hz2⟩:=info_parts Tryz.infoNode
 have HI:=Lib.hid hi0';have HZ0:=Lib.hid hz0;have HZ1:=Lib.hid hz1;have HZ2:=Lib.hid hz2
 clear hi0' hz0 hz1 hz2
 go_wp2
 go_loopw [5,6,7] (fun sv fv bv wr=>∃ (ps:List (Tr × Value)) (ovr:Value) (fr bg:Bool),fv=.bool fr∧bv=.bool bg∧ps.length ≤ s.size+1∧Hid (Touch (obs R ov) w wr)∧(ovr.ownBlock=ov.ownBlock ∨ ∃ b,ovr.ownBlock=some b∧w.heap.size+1 ≤ b)∧Hid (Opn wr R 0 ovr)∧Hid (wr.heap[w.heap.size]? = some (.cells #[.int .i64 0,.int .u64 0,.int .u64 0,.int .u64 0,.int .u64 0,.slice none 0 0,.int .i64 0,.int .i64 0,.int .i64 0,.bool false] 28))∧w.heap.size < wr.heap.size ∧
   ((∃ q i g:Nat,(fr=true→bg=false∧ps=[])∧(fr=false→bg=false→s.size+1 ≤ q+i)∧i ≤ s.size∧2 * g ≤ i∧ps.length ≤ i∧Hid (bsrem (bt s) s.size (icB fl) (nlB fl) H fr bg q (ps.map (·.1)) i g=O)∧Hid (wr.heap[R]? = some (.cells (stC s i fl g ovr 0 0) 58))∧Hid (SRow wr (w.heap.size+1) ovr sv ps)) ∨
    (∃ (c:Nat) (q:Int) (i g:Nat),c ≠ 0∧Hid (bsb k (bt s) O=.err c q)∧i+2 * k ≤ s.size+128∧g ≤ s.size∧Hid (wr.heap[R]? = some (.cells (stC s i fl g ovr c q) 58))∧Hid (wr.ownsRow (w.heap.size+1) 28 10 sv ps.length (rowOf ps))∧Hid (Slc ps)∧(∀ b,sv.ownBlock=some b→ovr.ownBlock ≠ some b)))) (fun _ _ _ wr=>esM R s.size wr)
 case atStart=>exact ⟨[],ov,true,false,rfl,rfl,Nat.zero_le _,HT0,.inl rfl,HOP0,Z0,by simp,.inl ⟨0,i0,g0,fun _=>⟨rfl,rfl⟩,fun h=>(by cases h),hi0,hg0,Nat.zero_le _,HO,HC0,Lib.hid (SRow.nil _ _ _)⟩⟩
 case round =>
   obtain ⟨ps,ovr,fr,bg,rfl,rfl,hpl,HT,hrel1,HOP,Z,hsz,hAB⟩:=hrel
   have hrel0:ovr.ownBlock=ov.ownBlock ∨ ∃ b,ovr.ownBlock=some b∧w.heap.size ≤ b:=by
     rcases hrel1 with e | ⟨b,e,hb⟩
     · exact .inl e
     · exact .inr ⟨b,e,by omega⟩
   have hovw:ovr.ownBlock ≠ some w.heap.size:=by
     rcases hrel1 with e | ⟨b,e,hb⟩
     · rw [e];exact hnov
     · rw [e];intro h;have:=Option.some.inj h;omega
   rcases hAB with ⟨q,i,g,hfr,hq,hil,hgl,hpi,HBR,HC,HSROW⟩ | ⟨c,q,i,g,hc0,HOE,hid,hgn,HC,HOWNB,HSLCB,hapB⟩
   · obtain ⟨c0,c1,c2,c3,c4,c5,c6⟩:=st7 HC.out
     have hbr:=HBR.out
     by_cases hlt2:i < s.size
     · have hd1:decide ((i:Int) < s.size)=true:=by simp;omega
       have hd1':decide (i < s.size)=true:=by simpa using hlt2
       have hbk:=bt_at hlt2
       by_cases hst:k ≠ 0∧Bp.two (bt s) 92 41 i=true
       · obtain ⟨hk0,h41⟩:=hst
         have ht41:=fun w=>HTQ.out i 92 41 (by omega) (by omega) (by omega) w
         simp only [h41] at ht41
         have HT41:=Lib.hid ht41
         rw [bsrem_end (bt_txt s) fr bg (fun h=>by rw [(hfr h).2];rfl) (fun h1 h2=>by have:=hq h1 h2;omega) (.inr h41)] at hbr
         subst hbr
         clear ht41
         have hkp:decide ((0:Int) < (k:Int))=true:=by simp;omega
         have hkp':decide (0 < k)=true:=by simp;omega
         have hesb:bsb k (bt s) (.ok (.several 5 (ps.map (·.1))) i g)=.ok (.several 5 (ps.map (·.1))) i g:=by
           unfold bsb;exact if_neg (fun h=>hk0 h.1)
         clear hq hfr
         as_aux_lemma =>
           go_wp2
           go_quiet ((go_at_call 58;exact Calls.quiet_of_same (HT41.out _)))
           have HTw:=Lib.hid (HT.out.later (drewN_below (Below.refl _ _) nq));have Zw:=Lib.hid (keep_blk (drewN_below (Below.refl _ _) nq) Z.out);have HOPw:=Lib.hid (HOP.out.later (drewN_below (Below.refl _ _) nq));have HCw:=Lib.hid (keep_blk (drewN_below (Below.refl _ _) nq) HC.out)
           have HSR:=Lib.hid (HSROW.out.later (R:=R) (drewN_below (Below.refl _ _) nq) (by omega))
           have HOWN:=Lib.hid HSR.out.own;have HSLC:=Lib.hid HSR.out.slc
           clear c0 c1 c2 c3 c4 c5 c6
           generalize World.drewN _ _=W at *
           go_wp2_with fail
           have hsev:=sev_slice HOWN.out HSLC.out
           obtain ⟨px,lx,cx,hsv⟩:=hsev
           have hcall:=esseveral_any 5 ps u5 (w.heap.size+1) W HOWN.out (fun t s h=>HSLC.out 0 t s h) (by have:=hpl;omega)
           rw [hsv] at hcall
           have HTRX:=Lib.hid (by have:=HSR.out.sev 5 (by have:=hpl;omega);rw [hsv] at this;exact this)
           obtain ⟨T,hTE⟩:∃ T,Tr.several 5 (ps.map (·.1))=T:=⟨_,rfl⟩
           rw [hTE] at hcall HTRX
           have HESB:=Lib.hid (hesb.trans (by rw [hTE]))
           clear hesb
           refine hcall.mono ?_
           rintro e w3 ⟨rfl,hb3⟩
           have Z3:=Lib.hid (keep_blk hb3 Zw.out);have HC3:=Lib.hid (keep_blk hb3 HCw.out);have HT3:=Lib.hid (HTw.out.later hb3);have HOP3:=Lib.hid (HOPw.out.later hb3)
           have HTR3:=Lib.hid (HTRX.out.later hb3)
           clear hcall hsv hb3 hTE
           unfold Tr.cells
           go_wp2_with (first
             | (refine wpList_store_row rfl 28 (.tmp 4) (.tmp 156) rfl w.heap.size #[.int .i64 T.kind,.int .u64 (Oc.U T.w0),.int .u64 (Oc.U T.w1),.int .u64 (Oc.U T.w2),.int .u64 (Oc.U T.w3),.slice px lx cx,.int .i64 T.num,.int .i64 T.least,.int .i64 T.most,.bool T.bare] rfl rfl 28 _ Z3.out (by kernel_rfl) rfl (by simp [Value.oneCell']) ?_)
             | fail)
           have hT:=HT3.out.setRow_new (Nat.le_refl w.heap.size) #[.int .i64 T.kind,.int .u64 (Oc.U T.w0),.int .u64 (Oc.U T.w1),.int .u64 (Oc.U T.w2),.int .u64 (Oc.U T.w3),.slice px lx cx,.int .i64 T.num,.int .i64 T.least,.int .i64 T.most,.bool T.bare]
           exact bodyPost_ret (results_cell_row rfl _ _ w.heap.size 28 #[.int .i64 T.kind,.int .u64 (Oc.U T.w0),.int .u64 (Oc.U T.w1),.int .u64 (Oc.U T.w2),.int .u64 (Oc.U T.w3),.slice px lx cx,.int .i64 T.num,.int .i64 T.least,.int .i64 T.most,.bool T.bare] (0,0) _ rfl (heap_setRow Z3.out) Tryz.underlying28 rfl (by kernel_rfl)) rfl (by rw [HESB.out];exact ⟨ovr,hrel0,HOP3.out.setRow hovw _,hT,.slice px lx cx,rfl,(HTR3.out.keep fun b _ hP=>heap_setRow_other _ _ _ (by omega)).mono fun b _ hP=>⟨.inr (by omega),hP.2⟩,(heap_setRow_other _ _ _ (by omega)).trans HC3.out⟩)
       · have HST:=Lib.hid hst
         have hsx:∀ n,(wr.drewN n).heap.size=wr.heap.size:=fun _=>rfl
         have HM:=Lib.hid (esM_is HC.out s.size)
         clear hst hbr hd1' hbk
         go_upto_region 4 with (fail)
         go_cut [42] (fun u wx=>u=.bool true∧∃ n,wx=wr.drewN n)
         case first =>
           by_cases hk0:k=0
           · have hkp:decide ((0:Int) < (k:Int))=false:=by simp;omega
             have hkp':decide (0 < k)=false:=by simp;omega
             clear hk0
             go_wp2
             go_quiet (fail)
             go_wp2
             go_meet
             exact ⟨rfl,nq,rfl⟩
           · have h41:Bp.two (bt s) 92 41 i=false:=by
               cases h:Bp.two (bt s) 92 41 i with
               | false=>rfl
               | true=>exact absurd ⟨hk0,h⟩ HST.out
             have hkp:decide ((0:Int) < (k:Int))=true:=by simp;omega
             have hkp':decide (0 < k)=true:=by simp;omega
             have ht41:=fun w=>HTQ.out i 92 41 (by omega) (by omega) (by omega) w
             simp only [h41] at ht41
             have HT41:=Lib.hid ht41
             clear ht41 hk0
             go_wp2
             go_quiet ((go_at_call 58;exact Calls.quiet_of_same (HT41.out _)))
             go_wp2
             go_meet
             exact ⟨rfl,nq,rfl⟩
         case rest =>
           obtain ⟨rfl,nd,rfl⟩:=hcut
           have HTv:=Lib.hid (HT.out.later (drewN_below (Below.refl _ _) nd));have Zv:=Lib.hid (keep_blk (drewN_below (Below.refl _ _) nd) Z.out);have HOPv:=Lib.hid (HOP.out.later (drewN_below (Below.refl _ _) nd));have HCv:=Lib.hid (keep_blk (drewN_below (Below.refl _ _) nd) HC.out)
           have HSV:=Lib.hid (HSROW.out.later (R:=R) (drewN_below (Below.refl _ _) nd) (by omega))
           have hszv:w.heap.size < (wr.drewN nd).heap.size:=hsz
           clear HT HSROW HOP Z HC hsx c0 c1 c2 c3 c4 c5 c6
           generalize World.drewN _ _=V at *
           obtain ⟨c0,c1,c2,c3,c4,c5,c6⟩:=st7 HCv.out
           have HIS:=Lib.hid (fun b hb=>esis_any V R s i fl g ovr 0 0 HCv.out i b hb)
           have HTW:=Lib.hid (fun j b (hj:j ≤ s.size) (hb:b < 256)=>bstwo_any s j 92 b (by omega) hb (by omega) V)
           have wi:IntKind.i64.wrap ((i:Int)+1)=(i:Int)+1:=IntWalk.i64_in _ (by omega)
           have wl:IntKind.i64.wrap ((s.size:Int) - 1)=(s.size:Int) - 1:=IntWalk.i64_in _ (by omega)
           have hnt:k=0 ∨ Bp.two (bt s) 92 41 i=false:=by
             by_cases hk0:k=0
             · exact .inl hk0
             · cases h:Bp.two (bt s) 92 41 i with
               | false=>exact .inr rfl
               | true=>exact absurd ⟨hk0,h⟩ HST.out
           clear HST
           have HQ:=Lib.hid hq;have HFR:=Lib.hid hfr;have HNT:=Lib.hid hnt
           clear hq hfr hnt
           go_upto_region 10 with (fail)
           go_cut [62] (fun u wx=>u=.bool (fr && (bt s i == 94))∧V=wx)
           case first =>
             cases fr with
             | false =>
               go_wp2_with fail
               go_meet
               exact ⟨rfl,rfl⟩
             | true =>
               go_wp2_with fail
               refine (HIS.out 94 (by omega)).mono ?_;rintro e w' ⟨rfl,rfl⟩
               go_wp2_with fail
               go_meet
               exact ⟨rfl,rfl⟩
           case rest =>
             obtain ⟨rfl,rfl⟩:=hcut
             by_cases hm94:fr=true∧bt s i=94
             · have hx94:(fr && (bt s i == 94))=true:=by rw [hm94.1,hm94.2];rfl
               rw [hx94]
               obtain ⟨rfl,hm⟩:=hm94
               obtain ⟨rfl,hps⟩:=HFR.out rfl
               have hbr:=HBR.out
               rw [bsrem_begin hm] at hbr
               have HB2:=Lib.hid hbr
               clear hbr HBR hx94 hm
               as_aux_lemma =>
                 have HOWN9:=Lib.hid HSV.out.own
                 have HOWA:=Lib.hid (HOWN9.out.alloc (.cells ((Tr.leaf 3).cells (.slice none 0 0)) 28))
                 have HNW:Hid (∀ (jz:Nat) (zv:Value),((Tr.leaf 3).cells (.slice none 0 0)).toList[jz]? = some zv→(V.alloc (.cells ((Tr.leaf 3).cells (.slice none 0 0)) 28)).cell? ((⟨V.heap.size,0,none⟩:Addr).add jz)=some zv):=Lib.hid (fun jz zv hu=>by
                   have ea:(⟨V.heap.size,0,none⟩:Addr).add jz=⟨V.heap.size,jz,none⟩:=by unfold Addr.add;split <;> simp_all
                   rw [ea,cell_new];simpa using hu)
                 have HBA:Hid (w.heap.size+1 ≤ (V.alloc (.cells ((Tr.leaf 3).cells (.slice none 0 0)) 28)).heap.size):=Lib.hid (by simp;omega)
                 have hml:ps.length+1 ≤ maxLen:=by unfold maxLen;omega
                 have hbyt:(ps.length+1) * 96 ≤ 140737488355328:=by omega
                 have hbal:Below V.heap.size V (V.alloc (.cells ((Tr.leaf 3).cells (.slice none 0 0)) 28)):=(Below.refl _ _).alloc (Nat.le_refl _) _
                 have HBAL:=Lib.hid hbal
                 clear hbal
                 go_upto_region 12 with (first
                   | (refine wpList_node1 rfl (.tmp 70) (Tr.leaf 3) none 0 0 rfl rfl ?_)
                   | (refine wpList_append_fresh _ rfl (.tmp 69) (.tmp 71) 26 rfl (w.heap.size+1) 28 ie _ 10 96 Tryz.underlying26 HI.out HZ0.out HZ1.out HZ2.out rfl (by decide) _ _ _ rfl HOWA.out ⟨V.heap.size,0,none⟩ 1 1 ((Tr.leaf 3).cells (.slice none 0 0)).toList rfl rfl HNW.out (nodeC_one _ _ _ _) (by decide) hml hbyt HBA.out ?_;intro v' w4 hown4 hgrow4 hwhere)
                   | fail)
                 have hsvR:u5.ownBlock ≠ some R:=fun e=>by have:=(HOWN9.out.lt R e).1;omega
                 have hsvw:u5.ownBlock ≠ some w.heap.size:=fun e=>by have:=(HOWN9.out.lt _ e).1;omega
                 have key:∀ b x,V.heap[b]? = some x→u5.ownBlock ≠ some b→w4.heap[b]? = some x:=fun b x hx hne=>(hgrow4.block b (Nat.lt_of_lt_of_le (blk_lt hx) HBAL.out.size) (fun e=>hne e.symm)).trans (keep_blk HBAL.out hx)
                 have hx:TreesAt (V.alloc (.cells ((Tr.leaf 3).cells (.slice none 0 0)) 28)) (fun b=>(w.heap.size+1 ≤ b∧u5.ownBlock ≠ some b)∧ovr.ownBlock ≠ some b) (.slice none 0 0) (Tr.leaf 3).subs:=TreesAt.nil
                 have hs4:=(HSV.out.later (R:=R) HBAL.out (by omega)).snoc hx hown4 hgrow4 hwhere (fun b hb=>Nat.lt_of_lt_of_le (HOPv.out.lt hb).2 HBAL.out.size)
                 have hc4:=key R _ HCv.out hsvR
                 have hz4:=key w.heap.size _ Zv.out hsvw
                 have ht4:=(HTv.out.later HBAL.out).grown hgrow4 (fun b e=>by have:=(HOWN9.out.lt b e).1;omega)
                 have hop4:=(HOPv.out.later HBAL.out).grownx hgrow4 HSV.out.apart
                 have hc5:=st_place hc4 (i+1) (v:=(i:Int)+1) (by omega)
                 have ht5:Touch [R] w4 (w4.setCell ⟨R,1,none⟩ (.int .i64 ((i:Int)+1))):=(Touch.refl [R] _).setCell List.mem_cons_self 1 _
                 obtain ⟨b0,b1,b2,b3,b4,b5,b6⟩:=st7 hc4
                 obtain ⟨m1,m3,m4,m5,m6⟩:=stf hc4
                 have HC5:=Lib.hid hc5;have HT5:=Lib.hid (ht4.trans (ht5.obs (ov:=ov)));have HS5:=Lib.hid (hs4.touch (ht5.obs (ov:=ovr)) (by omega) (.inl rfl));have HOP5:=Lib.hid (hop4.touch ht5)
                 have Z5:=Lib.hid ((ht5.block w.heap.size (blk_lt hz4) (by simp;omega)).trans hz4)
                 have hM5:=esM_is hc5 s.size
                 have HM5:=Lib.hid hM5
                 have hsz5:w.heap.size < (w4.setCell ⟨R,1,none⟩ (.int .i64 ((i:Int)+1))).heap.size:=blk_lt Z5.out
                 clear hx hs4 hc4 hz4 ht4 hop4 hc5 ht5 hM5 c0 c1 c2 c3 c4 c5 c6 hown4 hgrow4 hwhere key HNW HBA HOWA HBAL HOWN9 HSV HCv HTv Zv HOPv HIS HTW
                 go_wp2
                 generalize w4.setCell ⟨R,1,none⟩ (.int .i64 ((i:Int)+1))=W5 at *
                 exact ⟨⟨ps ++ [(Tr.leaf 3,.slice none 0 0)],ovr,false,true,rfl,rfl,by rw [List.length_append];simp;omega,HT5,hrel1,HOP5,Z5,hsz5,.inl ⟨q,i+1,g,(fun h=>by cases h),(fun _ h=>by cases h),by omega,by omega,by rw [List.length_append];simp;omega,Lib.hid (by rw [List.map_append,hps];exact HB2.out),HC5,HS5⟩⟩,by rw [HM5.out,HM.out];simp;omega⟩
             · have hx94:(fr && (bt s i == 94))=false:=by
                 cases fr with
                 | false=>rfl
                 | true=>show (bt s i == 94)=false;rw [beq_eq_false_iff_ne];exact fun h=>hm94 ⟨rfl,h⟩
               rw [hx94]
               have HB94:Hid (fr=true→bt s i ≠ 94):=Lib.hid (fun h1 h2=>hm94 ⟨h1,h2⟩)
               clear hx94 hm94
               go_upto_region 15 with (fail)
               go_cut [80] (fun u wx=>u=.bool (Bp.isEnd (bt s) s.size i)∧V=wx)
               case first =>
                 by_cases h36:bt s i=36
                 · by_cases hend:i+1=s.size
                   · have hE:=bsisEnd_is (f:=bt s) (n:=s.size) (i:=i) true ⟨fun _=>rfl,fun _=>⟨h36,.inl (by omega)⟩⟩
                     have HE:=Lib.hid hE
                     have e1:((i:Int) == (s.size:Int) - 1)=true:=by rw [beq_iff_eq];omega
                     have k36:(bt s i == 36)=true:=by rw [h36];rfl
                     clear hE h36 hend
                     go_wp2_with fail
                     refine (HIS.out 36 (by omega)).mono ?_;rintro e w' ⟨rfl,rfl⟩
                     rw [k36]
                     go_wp2_with fail
                     go_meet
                     exact ⟨congrArg Value.bool HE.out.symm,rfl⟩
                   · have hE:=bsisEnd_is (f:=bt s) (n:=s.size) (i:=i) (Bp.two (bt s) 92 41 (i+1)) ⟨fun h=>by rcases h.2 with h | h;omega;exact h,fun h=>⟨h36,.inr h⟩⟩
                     have HE:=Lib.hid hE
                     have e1:((i:Int) == (s.size:Int) - 1)=false:=by rw [beq_eq_false_iff_ne];omega
                     have k36:(bt s i == 36)=true:=by rw [h36];rfl
                     have htw:=HTW.out (i+1) 41 (by omega) (by omega)
                     rw [show ((i+1:Nat):Int)=(i:Int)+1 from by omega] at htw
                     have HT41:=Lib.hid htw
                     clear hE h36 hend htw
                     go_wp2_with fail
                     refine (HIS.out 36 (by omega)).mono ?_;rintro e w' ⟨rfl,rfl⟩
                     rw [k36]
                     go_wp2_with fail
                     refine HT41.out.mono ?_;rintro e w' ⟨rfl,rfl⟩
                     go_wp2_with fail
                     go_meet
                     exact ⟨congrArg Value.bool HE.out.symm,rfl⟩
                 · have hE:=bsisEnd_is (f:=bt s) (n:=s.size) (i:=i) false ⟨fun h=>absurd h.1 h36,fun h=>by cases h⟩
                   have HE:=Lib.hid hE
                   have k36:(bt s i == 36)=false:=by rw [beq_eq_false_iff_ne];exact h36
                   clear hE h36
                   go_wp2_with fail
                   refine (HIS.out 36 (by omega)).mono ?_;rintro e w' ⟨rfl,rfl⟩
                   rw [k36]
                   go_wp2_with fail
                   go_meet
                   exact ⟨congrArg Value.bool HE.out.symm,rfl⟩
               case rest =>
                 obtain ⟨rfl,rfl⟩:=hcut
                 by_cases hE:Bp.isEnd (bt s) s.size i=true
                 · rw [hE]
                   have hn41:¬ (s.size ≤ i ∨ Bp.two (bt s) 92 41 i=true):=fun h=>by
                     have h36:bt s i=36:=by unfold Bp.isEnd at hE;simp only [Bool.and_eq_true,beq_iff_eq] at hE;exact hE.1
                     rcases h with h | h
                     · omega
                     · have:=(Bp.two_iff.1 h).1;omega
                   obtain ⟨q2,hq2,hb2⟩:=bsrem_ok (f:=bt s) (n:=s.size) (ic:=icB fl) (nl:=nlB fl) (H:=H) (q:=q) (l:=ps.map (·.1)) (i:=i) (g:=g) fr bg (fun h=>⟨(HFR.out h).1,by rw [(HFR.out h).2];rfl⟩) HQ.out hn41 HB94.out (t:=.leaf 4) (j:=i+1) (g':=g) (by omega) (by unfold bspiece;exact if_pos hE)
                   have hbr:=HBR.out
                   rw [hb2] at hbr
                   have HB2:=Lib.hid hbr
                   clear hbr HBR hE hb2 hn41 HB94
                   as_aux_lemma =>
                     have HOWN9:=Lib.hid HSV.out.own
                     have HOWA:=Lib.hid (HOWN9.out.alloc (.cells ((Tr.leaf 4).cells (.slice none 0 0)) 28))
                     have HNW:Hid (∀ (jz:Nat) (zv:Value),((Tr.leaf 4).cells (.slice none 0 0)).toList[jz]? = some zv→(V.alloc (.cells ((Tr.leaf 4).cells (.slice none 0 0)) 28)).cell? ((⟨V.heap.size,0,none⟩:Addr).add jz)=some zv):=Lib.hid (fun jz zv hu=>by
                       have ea:(⟨V.heap.size,0,none⟩:Addr).add jz=⟨V.heap.size,jz,none⟩:=by unfold Addr.add;split <;> simp_all
                       rw [ea,cell_new];simpa using hu)
                     have HBA:Hid (w.heap.size+1 ≤ (V.alloc (.cells ((Tr.leaf 4).cells (.slice none 0 0)) 28)).heap.size):=Lib.hid (by simp;omega)
                     have hml:ps.length+1 ≤ maxLen:=by unfold maxLen;omega
                     have hbyt:(ps.length+1) * 96 ≤ 140737488355328:=by omega
                     have hbal:Below V.heap.size V (V.alloc (.cells ((Tr.leaf 4).cells (.slice none 0 0)) 28)):=(Below.refl _ _).alloc (Nat.le_refl _) _
                     have HBAL:=Lib.hid hbal
                     clear hbal
                     go_upto_region 17 with (first
                       | (refine wpList_node1 rfl (.tmp 104) (Tr.leaf 4) none 0 0 rfl rfl ?_)
                       | (refine wpList_append_fresh _ rfl (.tmp 103) (.tmp 105) 26 rfl (w.heap.size+1) 28 ie _ 10 96 Tryz.underlying26 HI.out HZ0.out HZ1.out HZ2.out rfl (by decide) _ _ _ rfl HOWA.out ⟨V.heap.size,0,none⟩ 1 1 ((Tr.leaf 4).cells (.slice none 0 0)).toList rfl rfl HNW.out (nodeC_one _ _ _ _) (by decide) hml hbyt HBA.out ?_;intro v' w4 hown4 hgrow4 hwhere)
                       | fail)
                     have hsvR:u5.ownBlock ≠ some R:=fun e=>by have:=(HOWN9.out.lt R e).1;omega
                     have hsvw:u5.ownBlock ≠ some w.heap.size:=fun e=>by have:=(HOWN9.out.lt _ e).1;omega
                     have key:∀ b x,V.heap[b]? = some x→u5.ownBlock ≠ some b→w4.heap[b]? = some x:=fun b x hx hne=>(hgrow4.block b (Nat.lt_of_lt_of_le (blk_lt hx) HBAL.out.size) (fun e=>hne e.symm)).trans (keep_blk HBAL.out hx)
                     have hx:TreesAt (V.alloc (.cells ((Tr.leaf 4).cells (.slice none 0 0)) 28)) (fun b=>(w.heap.size+1 ≤ b∧u5.ownBlock ≠ some b)∧ovr.ownBlock ≠ some b) (.slice none 0 0) (Tr.leaf 4).subs:=TreesAt.nil
                     have hs4:=(HSV.out.later (R:=R) HBAL.out (by omega)).snoc hx hown4 hgrow4 hwhere (fun b hb=>Nat.lt_of_lt_of_le (HOPv.out.lt hb).2 HBAL.out.size)
                     have hc4:=key R _ HCv.out hsvR
                     have hz4:=key w.heap.size _ Zv.out hsvw
                     have ht4:=(HTv.out.later HBAL.out).grown hgrow4 (fun b e=>by have:=(HOWN9.out.lt b e).1;omega)
                     have hop4:=(HOPv.out.later HBAL.out).grownx hgrow4 HSV.out.apart
                     have hc5:=st_place hc4 (i+1) (v:=(i:Int)+1) (by omega)
                     have ht5:Touch [R] w4 (w4.setCell ⟨R,1,none⟩ (.int .i64 ((i:Int)+1))):=(Touch.refl [R] _).setCell List.mem_cons_self 1 _
                     obtain ⟨b0,b1,b2,b3,b4,b5,b6⟩:=st7 hc4
                     obtain ⟨m1,m3,m4,m5,m6⟩:=stf hc4
                     have HC5:=Lib.hid hc5;have HT5:=Lib.hid (ht4.trans (ht5.obs (ov:=ov)));have HS5:=Lib.hid (hs4.touch (ht5.obs (ov:=ovr)) (by omega) (.inl rfl));have HOP5:=Lib.hid (hop4.touch ht5)
                     have Z5:=Lib.hid ((ht5.block w.heap.size (blk_lt hz4) (by simp;omega)).trans hz4)
                     have hM5:=esM_is hc5 s.size
                     have HM5:=Lib.hid hM5
                     have hsz5:w.heap.size < (w4.setCell ⟨R,1,none⟩ (.int .i64 ((i:Int)+1))).heap.size:=blk_lt Z5.out
                     clear hx hs4 hc4 hz4 ht4 hop4 hc5 ht5 hM5 c0 c1 c2 c3 c4 c5 c6 hown4 hgrow4 hwhere key HNW HBA HOWA HBAL HOWN9 HSV HCv HTv Zv HOPv HIS HTW
                     go_wp2
                     generalize w4.setCell ⟨R,1,none⟩ (.int .i64 ((i:Int)+1))=W5 at *
                     exact ⟨⟨ps ++ [(Tr.leaf 4,.slice none 0 0)],ovr,false,false,rfl,rfl,by rw [List.length_append];simp;omega,HT5,hrel1,HOP5,Z5,hsz5,.inl ⟨q2,i+1,g,(fun h=>by cases h),(fun _ _=>hq2),by omega,by omega,by rw [List.length_append];simp;omega,Lib.hid (by rw [List.map_append];exact HB2.out),HC5,HS5⟩⟩,by rw [HM5.out,HM.out];simp;omega⟩
                 · have hE2:Bp.isEnd (bt s) s.size i=false:=by simpa using hE
                   rw [hE2]
                   have HE:=Lib.hid hE2
                   clear hE hE2
                   go_upto_region 18 with (fail)
                   go_cut [114] (fun u wx=>u=.bool (bt s i == 42 && !fr && !bg)∧V=wx)
                   case first =>
                     go_wp2_with fail
                     refine (HIS.out 42 (by omega)).mono ?_;rintro e w' ⟨rfl,rfl⟩
                     cases h42:(bt s i == 42) with
                     | false =>
                       go_wp2_with fail
                       go_meet
                       exact ⟨by rw [h42];rfl,rfl⟩
                     | true =>
                       cases fr with
                       | true =>
                         go_wp2_with fail
                         go_meet
                         exact ⟨by rw [h42];rfl,rfl⟩
                       | false =>
                         go_wp2_with fail
                         go_meet
                         exact ⟨by rw [h42];rfl,rfl⟩
                   case rest =>
                     obtain ⟨rfl,rfl⟩:=hcut
                     go_upto_if 114 with (fail)
                     go_cut [114] (fun u wx=>u=.bool ((bt s i == 42 && !fr && !bg) || Bp.two (bt s) 92 123 i)∧V=wx)
                     case first =>
                       cases h42:(bt s i == 42 && !fr && !bg) with
                       | true =>
                         go_wp2_with fail
                         go_meet
                         exact ⟨by rw [h42];rfl,rfl⟩
                       | false =>
                         go_wp2_with fail
                         refine (HTW.out i 123 (by omega) (by omega)).mono ?_;rintro e w' ⟨rfl,rfl⟩
                         go_wp2_with fail
                         go_meet
                         exact ⟨by rw [h42];rfl,rfl⟩
                     case rest =>
                       obtain ⟨rfl,rfl⟩:=hcut
                       by_cases h9:((bt s i == 42 && !fr && !bg) || Bp.two (bt s) 92 123 i)=true
                       · rw [h9]
                         have hoe:=bsrem_err (f:=bt s) (n:=s.size) (ic:=icB fl) (nl:=nlB fl) (H:=H) (q:=q) (l:=ps.map (·.1)) (i:=i) (g:=g) fr bg (fun h=>⟨(HFR.out h).1,by rw [(HFR.out h).2];rfl⟩) (fun h1 h2=>by have:=HQ.out h1 h2;omega) (fun h=>by
                           rcases h with h | h
                           · omega
                           · have h1:=Bp.two_iff.1 h
                             simp only [Bool.or_eq_true,Bool.and_eq_true,beq_iff_eq] at h9
                             rcases h9 with h9 | h9
                             · omega
                             · have h2:=Bp.two_iff.1 h9;omega) HB94.out (bspiece_nine HE.out h9)
                         rw [HBR.out] at hoe
                         have HOE:Hid (bsb k (bt s) O=.err 9 i):=Lib.hid (by rw [hoe];rfl)
                         clear hoe h9 HB94 HE HBR
                         as_aux_lemma =>
                           go_wp2_with fail
                           refine (esfault_any V R s i fl g ovr 0 HCv.out 9 (i:Int)).mono ?_
                           rintro e w6 ⟨rfl,hR6,ht6⟩
                           have hM6:=esM_is hR6 s.size
                           have HM6:=Lib.hid hM6;have HC6:=Lib.hid hR6
                           have HT6:=Lib.hid (HTv.out.trans (ht6.obs (ov:=ov)));have HOP6:=Lib.hid (HOPv.out.touch ht6)
                           have Z6:=Lib.hid ((ht6.block w.heap.size (blk_lt Zv.out) (by simp;omega)).trans Zv.out)
                           have HOW6:=Lib.hid (own_touch HSV.out.own (ht6.obs (ov:=ovr)) (show R < w.heap.size+1 by omega) HSV.out.apart);have HSL6:=Lib.hid HSV.out.slc;have HAP6:=Lib.hid HSV.out.apart
                           have hsz6:w.heap.size < w6.heap.size:=blk_lt Z6.out
                           clear c0 c1 c2 c3 c4 c5 c6 ht6 hR6 hM6 HTv Zv HOPv HCv HSV HIS HTW
                           go_wp2
                           exact ⟨⟨ps,ovr,false,false,rfl,rfl,by omega,HT6,hrel1,HOP6,Z6,hsz6,.inr ⟨9,i,i,g,by decide,HOE,by omega,by omega,HC6,HOW6,HSL6,HAP6.out⟩⟩,by rw [HM6.out,HM.out];simp;omega⟩
                       · have h9f:((bt s i == 42 && !fr && !bg) || Bp.two (bt s) 92 123 i)=false:=by simpa using h9
                         rw [h9f]
                         have H9:=Lib.hid h9f
                         clear h9 h9f
                         go_wp2_with fail
                         refine (HTW.out i 125 (by omega) (by omega)).mono ?_;rintro e w' ⟨rfl,rfl⟩
                         by_cases h125:Bp.two (bt s) 92 125 i=true
                         · rw [h125]
                           have hoe:=bsrem_err (f:=bt s) (n:=s.size) (ic:=icB fl) (nl:=nlB fl) (H:=H) (q:=q) (l:=ps.map (·.1)) (i:=i) (g:=g) fr bg (fun h=>⟨(HFR.out h).1,by rw [(HFR.out h).2];rfl⟩) (fun h1 h2=>by have:=HQ.out h1 h2;omega) (fun h=>by
                             rcases h with h | h
                             · omega
                             · have h1:=Bp.two_iff.1 h
                               have h2:=Bp.two_iff.1 h125;omega) HB94.out (bspiece_three HE.out H9.out h125)
                           rw [HBR.out] at hoe
                           have HOE:Hid (bsb k (bt s) O=.err 3 i):=Lib.hid (by rw [hoe];rfl)
                           clear hoe h125 HB94 HE HBR H9
                           as_aux_lemma =>
                             go_wp2_with fail
                             refine (esfault_any V R s i fl g ovr 0 HCv.out 3 (i:Int)).mono ?_
                             rintro e w6 ⟨rfl,hR6,ht6⟩
                             have hM6:=esM_is hR6 s.size
                             have HM6:=Lib.hid hM6;have HC6:=Lib.hid hR6
                             have HT6:=Lib.hid (HTv.out.trans (ht6.obs (ov:=ov)));have HOP6:=Lib.hid (HOPv.out.touch ht6)
                             have Z6:=Lib.hid ((ht6.block w.heap.size (blk_lt Zv.out) (by simp;omega)).trans Zv.out)
                             have HOW6:=Lib.hid (own_touch HSV.out.own (ht6.obs (ov:=ovr)) (show R < w.heap.size+1 by omega) HSV.out.apart);have HSL6:=Lib.hid HSV.out.slc;have HAP6:=Lib.hid HSV.out.apart
                             have hsz6:w.heap.size < w6.heap.size:=blk_lt Z6.out
                             clear c0 c1 c2 c3 c4 c5 c6 ht6 hR6 hM6 HTv Zv HOPv HCv HSV HIS HTW
                             go_wp2
                             exact ⟨⟨ps,ovr,false,false,rfl,rfl,by omega,HT6,hrel1,HOP6,Z6,hsz6,.inr ⟨3,i,i,g,by decide,HOE,by omega,by omega,HC6,HOW6,HSL6,HAP6.out⟩⟩,by rw [HM6.out,HM.out];simp;omega⟩
                         · have h125f:Bp.two (bt s) 92 125 i=false:=by simpa using h125
                           rw [h125f]
                           have H125:=Lib.hid h125f
                           clear h125 h125f
                           go_wp2_with fail
                           refine (HTW.out i 41 (by omega) (by omega)).mono ?_;rintro e w' ⟨rfl,rfl⟩
                           by_cases h41:Bp.two (bt s) 92 41 i=true
                           · rw [h41]
                             have hk0:k=0:=by
                               rcases HNT.out with h | h
                               · exact h
                               · rw [h41] at h;cases h
                             have hoe:=bsrem_end (f:=bt s) (n:=s.size) (ic:=icB fl) (nl:=nlB fl) (H:=H) (q:=q) (l:=ps.map (·.1)) (i:=i) (g:=g) (bt_txt s) fr bg (fun h=>by rw [(HFR.out h).2];rfl) (fun h1 h2=>by have:=HQ.out h1 h2;omega) (.inr h41)
                             rw [HBR.out] at hoe
                             have HOE:Hid (bsb k (bt s) O=.err 2 i):=Lib.hid (by rw [hoe];exact if_pos ⟨hk0,h41⟩)
                             clear hoe h41 HB94 HE HBR H9 hk0
                             as_aux_lemma =>
                               go_wp2_with fail
                               refine (esfault_any V R s i fl g ovr 0 HCv.out 2 (i:Int)).mono ?_
                               rintro e w6 ⟨rfl,hR6,ht6⟩
                               have hM6:=esM_is hR6 s.size
                               have HM6:=Lib.hid hM6;have HC6:=Lib.hid hR6
                               have HT6:=Lib.hid (HTv.out.trans (ht6.obs (ov:=ov)));have HOP6:=Lib.hid (HOPv.out.touch ht6)
                               have Z6:=Lib.hid ((ht6.block w.heap.size (blk_lt Zv.out) (by simp;omega)).trans Zv.out)
                               have HOW6:=Lib.hid (own_touch HSV.out.own (ht6.obs (ov:=ovr)) (show R < w.heap.size+1 by omega) HSV.out.apart);have HSL6:=Lib.hid HSV.out.slc;have HAP6:=Lib.hid HSV.out.apart
                               have hsz6:w.heap.size < w6.heap.size:=blk_lt Z6.out
                               clear c0 c1 c2 c3 c4 c5 c6 ht6 hR6 hM6 HTv Zv HOPv HCv HSV HIS HTW
                               go_wp2
                               exact ⟨⟨ps,ovr,false,false,rfl,rfl,by omega,HT6,hrel1,HOP6,Z6,hsz6,.inr ⟨2,i,i,g,by decide,HOE,by omega,by omega,HC6,HOW6,HSL6,HAP6.out⟩⟩,by rw [HM6.out,HM.out];simp;omega⟩
                           · have h41f:Bp.two (bt s) 92 41 i=false:=by simpa using h41
                             rw [h41f]
                             have hn41:¬ (s.size ≤ i ∨ Bp.two (bt s) 92 41 i=true):=fun h=>by
                               rcases h with h | h
                               · omega
                               · exact h41 h
                             have HN41:=Lib.hid hn41
                             clear h41 h41f hn41
                             as_aux_lemma =>
                               have hgs:g ≤ s.size:=by omega
                               have hat:=bsatom_any V R s hs i fl g ovr k HCv.out HOPv.out hlt2 hk hgs H125.out H (fun h40=>HGG.out i g ovr V hlt2 hgl h40 HCv.out HOPv.out)
                               have hpc:=bspiece_mid (ic:=icB fl) (nl:=nlB fl) (H:=H) (g:=g) HE.out H9.out
                               cases ha:Bp.atom (bt s) s.size (icB fl) (nlB fl) H i g with
                               | err c q3 =>
                                 rw [ha] at hpc hat
                                 have hoe:=bsrem_err (f:=bt s) (n:=s.size) (ic:=icB fl) (nl:=nlB fl) (H:=H) (q:=q) (l:=ps.map (·.1)) (i:=i) (g:=g) fr bg (fun h=>⟨(HFR.out h).1,by rw [(HFR.out h).2];rfl⟩) (fun h1 h2=>by have:=HQ.out h1 h2;omega) HN41.out HB94.out hpc
                                 rw [HBR.out] at hoe
                                 have HOE:Hid (bsb k (bt s) O=.err c q3):=Lib.hid (by rw [hoe];rfl)
                                 have HAT:=Lib.hid hat
                                 clear hat hpc ha hoe HBR c0 c1 c2 c3 c4 c5 c6 HIS HTW
                                 go_wp2_with fail
                                 refine HAT.out.mono ?_
                                 intro e w5 he
                                 obtain ⟨ov5,x,px,lx,cx,i5,g5,rfl,hc5,hcn,hi5,hg5,hr5,ho5,ht5⟩:=he.err rfl
                                 have HOV5:=Lib.hid (own_touch HSV.out.own ht5 (show R < w.heap.size+1 by omega) HSV.out.apart)
                                 have Z5:=Lib.hid (he.keepsBlk Zv.out (by omega) hovw)
                                 have hap5:∀ b,u5.ownBlock=some b→ov5.ownBlock ≠ some b:=fun b hb=>by
                                   have h1:=(HSV.out.own.lt b hb).2
                                   rcases hr5 with e1 | ⟨b',e1,e2⟩
                                   · rw [e1];exact HSV.out.apart b hb
                                   · rw [e1];intro h;have:=Option.some.inj h;omega
                                 have hrl5:ov5.ownBlock=ov.ownBlock ∨ ∃ b,ov5.ownBlock=some b∧w.heap.size+1 ≤ b:=by
                                   rcases hr5 with e1 | ⟨b',e1,e2⟩
                                   · rw [e1];exact hrel1
                                   · exact .inr ⟨b',e1,by omega⟩
                                 have HT5:=Lib.hid (touch_obs HTv.out hrel1 ht5);have HC5:=Lib.hid hc5;have HO5:=Lib.hid ho5;have HSL:=Lib.hid HSV.out.slc
                                 have hcz:((c:Int) == 0)=false:=by rw [beq_eq_false_iff_ne];omega
                                 have hcz':(c == 0)=false:=by rw [beq_eq_false_iff_ne];exact hcn
                                 have hs5:w.heap.size < w5.heap.size:=blk_lt Z5.out
                                 clear he hc5 ho5 ht5 hr5 HAT HSV HCv HTv Zv HOPv
                                 have hb6:Below w5.heap.size w5 (w5.alloc (.cells (x.cells (.slice px lx cx)) 28)):=(Below.refl _ _).alloc (Nat.le_refl _) _
                                 have HC6:=Lib.hid (keep_blk hb6 HC5.out);have Z6:=Lib.hid (keep_blk hb6 Z5.out);have LDX:=Lib.hid (heap_alloc_new w5 (.cells (x.cells (.slice px lx cx)) 28))
                                 have HOWN9:=Lib.hid (HOV5.out.alloc (.cells (x.cells (.slice px lx cx)) 28));have HT6:=Lib.hid (HT5.out.later hb6);have HO6:=Lib.hid (HO5.out.later hb6)
                                 have hsz6:w.heap.size < (w5.alloc (.cells (x.cells (.slice px lx cx)) 28)).heap.size:=blk_lt Z6.out
                                 obtain ⟨c0,c1,c2,c3,c4,c5,c6⟩:=st7 HC6.out
                                 clear hb6 HC5 Z5 HOV5 HT5 HO5
                                 unfold Tr.cells at LDX HC6 Z6 HOWN9 HT6 HO6 hsz6 c0 c1 c2 c3 c4 c5 c6 ⊢
                                 go_upto_region 7 with (fail)
                                 generalize World.alloc w5 _=W6 at *
                                 have HOWA:=Lib.hid (HOWN9.out.alloc (.cells (x.cells (.slice px lx cx)) 28))
                                 have HNW:Hid (∀ (jz:Nat) (zv:Value),(x.cells (.slice px lx cx)).toList[jz]? = some zv→(W6.alloc (.cells (x.cells (.slice px lx cx)) 28)).cell? ((⟨W6.heap.size,0,none⟩:Addr).add jz)=some zv):=Lib.hid (fun jz zv hu=>by
                                   have ea:(⟨W6.heap.size,0,none⟩:Addr).add jz=⟨W6.heap.size,jz,none⟩:=by unfold Addr.add;split <;> simp_all
                                   rw [ea,cell_new];simpa using hu)
                                 have HBA:Hid (w.heap.size+1 ≤ (W6.alloc (.cells (x.cells (.slice px lx cx)) 28)).heap.size):=Lib.hid (by simp;omega)
                                 have hml:ps.length+1 ≤ maxLen:=by unfold maxLen;omega
                                 have hbyt:(ps.length+1) * 96 ≤ 140737488355328:=by omega
                                 have hbal:Below W6.heap.size W6 (W6.alloc (.cells (x.cells (.slice px lx cx)) 28)):=(Below.refl _ _).alloc (Nat.le_refl _) _
                                 have HBAL:=Lib.hid hbal
                                 clear hbal
                                 go_wp2_with (first
                                   | (refine wpList_load_row rfl 28 (.tmp 9) rfl w5.heap.size rfl 28 _ (0,0) _ LDX.out Tryz.underlying28 rfl (by kernel_rfl) ?_)
                                   | (refine wpList_node1 rfl (.tmp 59) x px lx cx rfl rfl ?_)
                                   | (refine wpList_append_fresh _ rfl (.tmp 58) (.tmp 60) 26 rfl (w.heap.size+1) 28 ie _ 10 96 Tryz.underlying26 HI.out HZ0.out HZ1.out HZ2.out rfl (by decide) _ _ _ rfl HOWA.out ⟨W6.heap.size,0,none⟩ 1 1 (x.cells (.slice px lx cx)).toList rfl rfl HNW.out (nodeC_one _ _ _ _) (by decide) hml hbyt HBA.out ?_;intro v' w4 hown4 hgrow4 hwhere)
                                   | fail)
                                 have hsvR:u5.ownBlock ≠ some R:=fun e=>by have:=(HOWN9.out.lt R e).1;omega
                                 have hsvw:u5.ownBlock ≠ some w.heap.size:=fun e=>by have:=(HOWN9.out.lt _ e).1;omega
                                 have key:∀ b x,W6.heap[b]? = some x→u5.ownBlock ≠ some b→w4.heap[b]? = some x:=fun b x hx hne=>(hgrow4.block b (Nat.lt_of_lt_of_le (blk_lt hx) HBAL.out.size) (fun e=>hne e.symm)).trans (keep_blk HBAL.out hx)
                                 have hc4:=key R _ HC6.out hsvR
                                 have HM4:=Lib.hid (esM_is hc4 s.size)
                                 have ht4:=(HT6.out.later HBAL.out).grown hgrow4 (fun b e=>by have:=(HOWN9.out.lt b e).1;omega)
                                 have hz4:=key w.heap.size _ Z6.out hsvw
                                 exact ⟨⟨ps ++ [(x,.slice px lx cx)],ov5,false,false,rfl,rfl,by rw [List.length_append];simp;omega,Lib.hid ht4,hrl5,Lib.hid ((HO6.out.later HBAL.out).grownx hgrow4 hap5),Lib.hid hz4,blk_lt hz4,.inr ⟨c,q3,i5,g5,hcn,HOE,hi5,hg5,Lib.hid hc4,Lib.hid (by rw [rowOf_snoc,List.length_append];exact hown4),Lib.hid HSL.out.snoc,apart_new hap5 HO6.out HBAL.out.size hwhere⟩⟩,by rw [HM4.out,HM.out,if_neg hcn];simp;omega⟩
                               | ok t j g2 =>
                                 rw [ha] at hpc hat
                                 have hnx:=Bp.atom_next (bt_txt s) HAA.out hlt2 ha
                                 have hfm:=Bp.atom_form (bt_txt s) HAA.out HHH.out hlt2 hgl ha
                                 have HFM:=Lib.hid hfm.1
                                 have hg2:=hfm.2
                                 have HPC:=Lib.hid hpc
                                 have HAT:=Lib.hid hat
                                 clear hat hpc ha hfm c0 c1 c2 c3 c4 c5 c6 HIS HTW
                                 go_wp2_with fail
                                 refine HAT.out.mono ?_
                                 intro e w5 he
                                 obtain ⟨ov5,v5,rfl,htr,hc5,hr5,ho5,ht5⟩:=he.ok rfl
                                 obtain ⟨px,cx,rfl,-⟩:=htr.slice
                                 have Z5:=Lib.hid (he.keepsBlk Zv.out (by omega) hovw)
                                 have hs5:w.heap.size < w5.heap.size:=blk_lt Z5.out
                                 have hVs:V.heap.size ≤ w5.heap.size:=ht5.size
                                 have hRlt:R < V.heap.size:=st_lt HCv.out
                                 have hb6:Below w5.heap.size w5 (w5.alloc (.cells (t.cells (.slice px t.subs.length cx)) 28)):=(Below.refl _ _).alloc (Nat.le_refl _) _
                                 have hs6:(w5.alloc (.cells (t.cells (.slice px t.subs.length cx)) 28)).heap.size=w5.heap.size+1:=by simp
                                 have htr6:TreesAt (w5.alloc (.cells (t.cells (.slice px t.subs.length cx)) 28)) (fun b=>(V.heap.size ≤ b∧b < w5.heap.size)∧ov5.ownBlock ≠ some b) (.slice px t.subs.length cx) t.subs :=
                                   (htr.mono fun b hb hP=>⟨⟨hP.1.elim (fun h=>h.elim) id,hb⟩,hP.2⟩).later hb6
                                 have hrp:=bsrepeat_any _ R s hs j fl g2 ov5 0 (keep_blk hb6 hc5) (ho5.later hb6) t HFM.out _ (fun b=>V.heap.size ≤ b∧b < w5.heap.size) htr6 hnx.2 (by omega) (by omega) (fun q hq=>by omega)
                                 have HRP:=Lib.hid hrp
                                 have HC6:=Lib.hid (keep_blk hb6 hc5);have Z6:=Lib.hid (keep_blk hb6 Z5.out);have LDX:=Lib.hid (heap_alloc_new w5 (.cells (t.cells (.slice px t.subs.length cx)) 28))
                                 have HT6v:=Lib.hid (ht5.later hb6)
                                 have hr5':ov5.ownBlock=ovr.ownBlock ∨ ∃ b,ov5.ownBlock=some b∧V.heap.size ≤ b:=hr5
                                 have hov5:ov5.ownBlock ≠ some w5.heap.size:=fun e=>by have:=(ho5.lt e).2;omega
                                 have hov5w:ov5.ownBlock ≠ some w.heap.size:=by
                                   rcases hr5 with e1 | ⟨b',e1,e2⟩
                                   · rw [e1];exact hovw
                                   · rw [e1];intro h;have:=Option.some.inj h;omega
                                 obtain ⟨c0,c1,c2,c3,c4,c5,c6⟩:=st7 HC6.out
                                 clear he hc5 ho5 ht5 hr5 HAT hb6 htr htr6 hrp HCv HOPv Z5
                                 unfold Tr.cells at LDX HC6 Z6 HT6v hs6 HRP c0 c1 c2 c3 c4 c5 c6 ⊢
                                 go_upto_region 8 with (fail)
                                 generalize World.alloc w5 _=W6 at *
                                 go_wp2_with (first
                                   | (refine wpList_load_row rfl 28 (.tmp 9) rfl w5.heap.size rfl 28 _ (0,0) _ LDX.out Tryz.underlying28 rfl (by kernel_rfl) ?_)
                                   | fail)
                                 refine HRP.out.mono ?_
                                 intro e w7 he7
                                 have LDX7:=Lib.hid (he7.keepsBlk LDX.out (by omega) hov5)
                                 have Z7:=Lib.hid (he7.keepsBlk Z6.out (by omega) hov5w)
                                 cases hrr:Bp.rep (bt s) s.size t j g2 with
                                 | err c q3 =>
                                   obtain ⟨ov7,x,p7,l7,c7,i7,g7,rfl,hc7,hcn,hi7,hg7,hr7,ho7,ht7⟩:=he7.err hrr
                                   have hpc:=HPC.out
                                   simp only [hrr] at hpc
                                   have hoe:=bsrem_err (f:=bt s) (n:=s.size) (ic:=icB fl) (nl:=nlB fl) (H:=H) (q:=q) (l:=ps.map (·.1)) (i:=i) (g:=g) fr bg (fun h=>⟨(HFR.out h).1,by rw [(HFR.out h).2];rfl⟩) (fun h1 h2=>by have:=HQ.out h1 h2;omega) HN41.out HB94.out hpc
                                   rw [HBR.out] at hoe
                                   have HOE:Hid (bsb k (bt s) O=.err c q3):=Lib.hid (by rw [hoe];rfl)
                                   have HSL:=Lib.hid HSV.out.slc
                                   clear hpc hoe HPC HBR
                                   have hVs6:V.heap.size ≤ W6.heap.size:=HT6v.out.size
                                   have hr8:ov7.ownBlock=ovr.ownBlock ∨ ∃ b,ov7.ownBlock=some b∧V.heap.size ≤ b:=by
                                     rcases hr7 with e1 | ⟨b',e1,e2⟩
                                     · rw [e1];exact hr5'
                                     · exact .inr ⟨b',e1,by omega⟩
                                   have hov7:ov7.ownBlock ≠ some w5.heap.size:=by
                                     rcases hr7 with e1 | ⟨b',e1,e2⟩
                                     · rw [e1];exact hov5
                                     · rw [e1];intro h;have:=Option.some.inj h;omega
                                   have hrl8:ov7.ownBlock=ov.ownBlock ∨ ∃ b,ov7.ownBlock=some b∧w.heap.size+1 ≤ b:=by
                                     rcases hr8 with e1 | ⟨b',e1,e2⟩
                                     · rw [e1];exact hrel1
                                     · exact .inr ⟨b',e1,by omega⟩
                                   have hap8:∀ b,u5.ownBlock=some b→ov7.ownBlock ≠ some b:=fun b hb=>by
                                     have h1:=(HSV.out.own.lt b hb).2
                                     rcases hr8 with e1 | ⟨b',e1,e2⟩
                                     · rw [e1];exact HSV.out.apart b hb
                                     · rw [e1];intro h;have:=Option.some.inj h;omega
                                   have ht8:Touch (obs R ovr) V (w7.setRow w5.heap.size (#[.int .i64 x.kind,.int .u64 (Oc.U x.w0),.int .u64 (Oc.U x.w1),.int .u64 (Oc.U x.w2),.int .u64 (Oc.U x.w3),.slice p7 l7 c7,.int .i64 x.num,.int .i64 x.least,.int .i64 x.most,.bool x.bare])):=(touch_obs2 HT6v.out hr5' ht7).setRow_new hVs _
                                   have HT8:=Lib.hid (touch_obs HTv.out hrel1 ht8)
                                   have HO8:=Lib.hid (ho7.setRow hov7 (#[.int .i64 x.kind,.int .u64 (Oc.U x.w0),.int .u64 (Oc.U x.w1),.int .u64 (Oc.U x.w2),.int .u64 (Oc.U x.w3),.slice p7 l7 c7,.int .i64 x.num,.int .i64 x.least,.int .i64 x.most,.bool x.bare]))
                                   have Z8:=Lib.hid ((heap_setRow_other w7 w5.heap.size (#[.int .i64 x.kind,.int .u64 (Oc.U x.w0),.int .u64 (Oc.U x.w1),.int .u64 (Oc.U x.w2),.int .u64 (Oc.U x.w3),.slice p7 l7 c7,.int .i64 x.num,.int .i64 x.least,.int .i64 x.most,.bool x.bare]) (show w.heap.size ≠ w5.heap.size by omega)).trans Z7.out)
                                   have HC8:=Lib.hid ((heap_setRow_other w7 w5.heap.size (#[.int .i64 x.kind,.int .u64 (Oc.U x.w0),.int .u64 (Oc.U x.w1),.int .u64 (Oc.U x.w2),.int .u64 (Oc.U x.w3),.slice p7 l7 c7,.int .i64 x.num,.int .i64 x.least,.int .i64 x.most,.bool x.bare]) (show R ≠ w5.heap.size by omega)).trans hc7)
                                   have LDY:=Lib.hid (heap_setRow (cs:=(#[.int .i64 x.kind,.int .u64 (Oc.U x.w0),.int .u64 (Oc.U x.w1),.int .u64 (Oc.U x.w2),.int .u64 (Oc.U x.w3),.slice p7 l7 c7,.int .i64 x.num,.int .i64 x.least,.int .i64 x.most,.bool x.bare])) LDX7.out)
                                   have HOWN9:=Lib.hid (own_touch HSV.out.own ht8 (show R < w.heap.size+1 by omega) HSV.out.apart)
                                   have hs8:w5.heap.size < (w7.setRow w5.heap.size (#[.int .i64 x.kind,.int .u64 (Oc.U x.w0),.int .u64 (Oc.U x.w1),.int .u64 (Oc.U x.w2),.int .u64 (Oc.U x.w3),.slice p7 l7 c7,.int .i64 x.num,.int .i64 x.least,.int .i64 x.most,.bool x.bare])).heap.size:=blk_lt LDY.out

                                   clear he7 hr7 ho7 ht7 hc7 ht8 c0 c1 c2 c3 c4 c5 c6 HT6v HRP HC6 Z6 LDX HTv HSV Zv
                                   unfold Tr.cells
                                   go_upto_region 9 with (first
                                     | (refine wpList_store_row rfl 28 (.tmp 9) (.tmp 57) rfl w5.heap.size (#[.int .i64 x.kind,.int .u64 (Oc.U x.w0),.int .u64 (Oc.U x.w1),.int .u64 (Oc.U x.w2),.int .u64 (Oc.U x.w3),.slice p7 l7 c7,.int .i64 x.num,.int .i64 x.least,.int .i64 x.most,.bool x.bare]) rfl rfl 28 _ LDX7.out (by kernel_rfl) rfl (by simp [Value.oneCell']) ?_)
                                     | fail)
                                   generalize World.setRow w7 _ _=W8 at *
                                   have HOWA:=Lib.hid (HOWN9.out.alloc (.cells (x.cells (.slice p7 l7 c7)) 28))
                                   have HNW:Hid (∀ (jz:Nat) (zv:Value),(x.cells (.slice p7 l7 c7)).toList[jz]? = some zv→(W8.alloc (.cells (x.cells (.slice p7 l7 c7)) 28)).cell? ((⟨W8.heap.size,0,none⟩:Addr).add jz)=some zv):=Lib.hid (fun jz zv hu=>by
                                     have ea:(⟨W8.heap.size,0,none⟩:Addr).add jz=⟨W8.heap.size,jz,none⟩:=by unfold Addr.add;split <;> simp_all
                                     rw [ea,cell_new];simpa using hu)
                                   have HBA:Hid (w.heap.size+1 ≤ (W8.alloc (.cells (x.cells (.slice p7 l7 c7)) 28)).heap.size):=Lib.hid (by simp;omega)
                                   have hml:ps.length+1 ≤ maxLen:=by unfold maxLen;omega
                                   have hbyt:(ps.length+1) * 96 ≤ 140737488355328:=by omega
                                   have hbal:Below W8.heap.size W8 (W8.alloc (.cells (x.cells (.slice p7 l7 c7)) 28)):=(Below.refl _ _).alloc (Nat.le_refl _) _
                                   have HBAL:=Lib.hid hbal
                                   clear hbal
                                   go_wp2_with (first
                                     | (refine wpList_load_row rfl 28 (.tmp 9) rfl w5.heap.size rfl 28 _ (0,0) _ LDY.out Tryz.underlying28 rfl (by kernel_rfl) ?_)
                                     | (refine wpList_node1 rfl (.tmp 59) x p7 l7 c7 rfl rfl ?_)
                                     | (refine wpList_append_fresh _ rfl (.tmp 58) (.tmp 60) 26 rfl (w.heap.size+1) 28 ie _ 10 96 Tryz.underlying26 HI.out HZ0.out HZ1.out HZ2.out rfl (by decide) _ _ _ rfl HOWA.out ⟨W8.heap.size,0,none⟩ 1 1 (x.cells (.slice p7 l7 c7)).toList rfl rfl HNW.out (nodeC_one _ _ _ _) (by decide) hml hbyt HBA.out ?_;intro v' w4 hown4 hgrow4 hwhere)
                                     | fail)
                                   have hsvR:u5.ownBlock ≠ some R:=fun e=>by have:=(HOWN9.out.lt R e).1;omega
                                   have hsvw:u5.ownBlock ≠ some w.heap.size:=fun e=>by have:=(HOWN9.out.lt _ e).1;omega
                                   have key:∀ b x,W8.heap[b]? = some x→u5.ownBlock ≠ some b→w4.heap[b]? = some x:=fun b x hx hne=>(hgrow4.block b (Nat.lt_of_lt_of_le (blk_lt hx) HBAL.out.size) (fun e=>hne e.symm)).trans (keep_blk HBAL.out hx)
                                   have hc4:=key R _ HC8.out hsvR
                                   have HM4:=Lib.hid (esM_is hc4 s.size)
                                   have ht4:=(HT8.out.later HBAL.out).grown hgrow4 (fun b e=>by have:=(HOWN9.out.lt b e).1;omega)
                                   have hz4:=key w.heap.size _ Z8.out hsvw
                                   exact ⟨⟨ps ++ [(x,.slice p7 l7 c7)],ov7,false,false,rfl,rfl,by rw [List.length_append];simp;omega,Lib.hid ht4,hrl8,Lib.hid ((HO8.out.later HBAL.out).grownx hgrow4 hap8),Lib.hid hz4,blk_lt hz4,.inr ⟨c,q3,i7,g7,hcn,HOE,by omega,hg7,Lib.hid hc4,Lib.hid (by rw [rowOf_snoc,List.length_append];exact hown4),Lib.hid HSL.out.snoc,apart_new hap8 HO8.out HBAL.out.size hwhere⟩⟩,by rw [HM4.out,HM.out,if_neg hcn];simp;omega⟩
                                 | ok u j2 g3 =>
                                   obtain ⟨ov7,v7,rfl,htr7,hc7,hr7,ho7,ht7⟩:=he7.ok hrr
                                   obtain ⟨p7,c7,rfl,-⟩:=htr7.slice
                                   obtain ⟨hj1,hj2,hg3,-⟩:=Bp.rep_ok hrr (bt_txt s) hnx.2
                                   have hpc:=HPC.out
                                   simp only [hrr] at hpc
                                   obtain ⟨q2,hq2,hb2⟩:=bsrem_ok (f:=bt s) (n:=s.size) (ic:=icB fl) (nl:=nlB fl) (H:=H) (q:=q) (l:=ps.map (·.1)) (i:=i) (g:=g) fr bg (fun h=>⟨(HFR.out h).1,by rw [(HFR.out h).2];rfl⟩) HQ.out HN41.out HB94.out (by omega) hpc
                                   have hbr:=HBR.out
                                   rw [hb2] at hbr
                                   have HBR3:=Lib.hid hbr
                                   clear hbr hpc hb2 HPC HBR
                                   have hVs6:V.heap.size ≤ W6.heap.size:=HT6v.out.size
                                   have hr8:ov7.ownBlock=ovr.ownBlock ∨ ∃ b,ov7.ownBlock=some b∧V.heap.size ≤ b:=by
                                     rcases hr7 with e1 | ⟨b',e1,e2⟩
                                     · rw [e1];exact hr5'
                                     · exact .inr ⟨b',e1,by omega⟩
                                   have hov7:ov7.ownBlock ≠ some w5.heap.size:=by
                                     rcases hr7 with e1 | ⟨b',e1,e2⟩
                                     · rw [e1];exact hov5
                                     · rw [e1];intro h;have:=Option.some.inj h;omega
                                   have hrl8:ov7.ownBlock=ov.ownBlock ∨ ∃ b,ov7.ownBlock=some b∧w.heap.size+1 ≤ b:=by
                                     rcases hr8 with e1 | ⟨b',e1,e2⟩
                                     · rw [e1];exact hrel1
                                     · exact .inr ⟨b',e1,by omega⟩
                                   have hap8:∀ b,u5.ownBlock=some b→ov7.ownBlock ≠ some b:=fun b hb=>by
                                     have h1:=(HSV.out.own.lt b hb).2
                                     rcases hr8 with e1 | ⟨b',e1,e2⟩
                                     · rw [e1];exact HSV.out.apart b hb
                                     · rw [e1];intro h;have:=Option.some.inj h;omega
                                   have ht8:Touch (obs R ovr) V (w7.setRow w5.heap.size (#[.int .i64 u.kind,.int .u64 (Oc.U u.w0),.int .u64 (Oc.U u.w1),.int .u64 (Oc.U u.w2),.int .u64 (Oc.U u.w3),.slice p7 u.subs.length c7,.int .i64 u.num,.int .i64 u.least,.int .i64 u.most,.bool u.bare])):=(touch_obs2 HT6v.out hr5' ht7).setRow_new hVs _
                                   have HT8:=Lib.hid (touch_obs HTv.out hrel1 ht8)
                                   have HO8:=Lib.hid (ho7.setRow hov7 (#[.int .i64 u.kind,.int .u64 (Oc.U u.w0),.int .u64 (Oc.U u.w1),.int .u64 (Oc.U u.w2),.int .u64 (Oc.U u.w3),.slice p7 u.subs.length c7,.int .i64 u.num,.int .i64 u.least,.int .i64 u.most,.bool u.bare]))
                                   have Z8:=Lib.hid ((heap_setRow_other w7 w5.heap.size (#[.int .i64 u.kind,.int .u64 (Oc.U u.w0),.int .u64 (Oc.U u.w1),.int .u64 (Oc.U u.w2),.int .u64 (Oc.U u.w3),.slice p7 u.subs.length c7,.int .i64 u.num,.int .i64 u.least,.int .i64 u.most,.bool u.bare]) (show w.heap.size ≠ w5.heap.size by omega)).trans Z7.out)
                                   have HC8:=Lib.hid ((heap_setRow_other w7 w5.heap.size (#[.int .i64 u.kind,.int .u64 (Oc.U u.w0),.int .u64 (Oc.U u.w1),.int .u64 (Oc.U u.w2),.int .u64 (Oc.U u.w3),.slice p7 u.subs.length c7,.int .i64 u.num,.int .i64 u.least,.int .i64 u.most,.bool u.bare]) (show R ≠ w5.heap.size by omega)).trans hc7)
                                   have LDY:=Lib.hid (heap_setRow (cs:=(#[.int .i64 u.kind,.int .u64 (Oc.U u.w0),.int .u64 (Oc.U u.w1),.int .u64 (Oc.U u.w2),.int .u64 (Oc.U u.w3),.slice p7 u.subs.length c7,.int .i64 u.num,.int .i64 u.least,.int .i64 u.most,.bool u.bare])) LDX7.out)
                                   have HOWN9:=Lib.hid (own_touch HSV.out.own ht8 (show R < w.heap.size+1 by omega) HSV.out.apart)
                                   have hs8:w5.heap.size < (w7.setRow w5.heap.size (#[.int .i64 u.kind,.int .u64 (Oc.U u.w0),.int .u64 (Oc.U u.w1),.int .u64 (Oc.U u.w2),.int .u64 (Oc.U u.w3),.slice p7 u.subs.length c7,.int .i64 u.num,.int .i64 u.least,.int .i64 u.most,.bool u.bare])).heap.size:=blk_lt LDY.out
                                   have HSR8:=Lib.hid (HSV.out.touch ht8 (by omega) hr8)
                                   have hu5:∀ b,u5.ownBlock=some b→b < V.heap.size:=fun b hb=>(HSV.out.own.lt b hb).2
                                   have HTU:=Lib.hid ((htr7.keep (w':=w7.setRow w5.heap.size (#[.int .i64 u.kind,.int .u64 (Oc.U u.w0),.int .u64 (Oc.U u.w1),.int .u64 (Oc.U u.w2),.int .u64 (Oc.U u.w3),.slice p7 u.subs.length c7,.int .i64 u.num,.int .i64 u.least,.int .i64 u.most,.bool u.bare])) fun b _ hP=>heap_setRow_other _ _ _ (fun e=>by rcases hP.1 with h | h <;> omega)).mono (B':=fun b=>(w.heap.size+1 ≤ b∧u5.ownBlock ≠ some b)∧ov7.ownBlock ≠ some b) fun b _ hP=>⟨⟨by rcases hP.1 with h | h <;> omega,fun e=>by have:=hu5 b e;rcases hP.1 with h | h <;> omega⟩,hP.2⟩)
                                   clear he7 hr7 ho7 ht7 hc7 ht8 c0 c1 c2 c3 c4 c5 c6 HT6v HRP HC6 Z6 LDX HTv HSV Zv
                                   unfold Tr.cells
                                   go_upto_region 9 with (first
                                     | (refine wpList_store_row rfl 28 (.tmp 9) (.tmp 57) rfl w5.heap.size (#[.int .i64 u.kind,.int .u64 (Oc.U u.w0),.int .u64 (Oc.U u.w1),.int .u64 (Oc.U u.w2),.int .u64 (Oc.U u.w3),.slice p7 u.subs.length c7,.int .i64 u.num,.int .i64 u.least,.int .i64 u.most,.bool u.bare]) rfl rfl 28 _ LDX7.out (by kernel_rfl) rfl (by simp [Value.oneCell']) ?_)
                                     | fail)
                                   generalize World.setRow w7 _ _=W8 at *
                                   have HOWA:=Lib.hid (HOWN9.out.alloc (.cells (u.cells (.slice p7 u.subs.length c7)) 28))
                                   have HNW:Hid (∀ (jz:Nat) (zv:Value),(u.cells (.slice p7 u.subs.length c7)).toList[jz]? = some zv→(W8.alloc (.cells (u.cells (.slice p7 u.subs.length c7)) 28)).cell? ((⟨W8.heap.size,0,none⟩:Addr).add jz)=some zv):=Lib.hid (fun jz zv hu=>by
                                     have ea:(⟨W8.heap.size,0,none⟩:Addr).add jz=⟨W8.heap.size,jz,none⟩:=by unfold Addr.add;split <;> simp_all
                                     rw [ea,cell_new];simpa using hu)
                                   have HBA:Hid (w.heap.size+1 ≤ (W8.alloc (.cells (u.cells (.slice p7 u.subs.length c7)) 28)).heap.size):=Lib.hid (by simp;omega)
                                   have hml:ps.length+1 ≤ maxLen:=by unfold maxLen;omega
                                   have hbyt:(ps.length+1) * 96 ≤ 140737488355328:=by omega
                                   have hbal:Below W8.heap.size W8 (W8.alloc (.cells (u.cells (.slice p7 u.subs.length c7)) 28)):=(Below.refl _ _).alloc (Nat.le_refl _) _
                                   have HBAL:=Lib.hid hbal
                                   clear hbal
                                   go_wp2_with (first
                                     | (refine wpList_load_row rfl 28 (.tmp 9) rfl w5.heap.size rfl 28 _ (0,0) _ LDY.out Tryz.underlying28 rfl (by kernel_rfl) ?_)
                                     | (refine wpList_node1 rfl (.tmp 59) u p7 u.subs.length c7 rfl rfl ?_)
                                     | (refine wpList_append_fresh _ rfl (.tmp 58) (.tmp 60) 26 rfl (w.heap.size+1) 28 ie _ 10 96 Tryz.underlying26 HI.out HZ0.out HZ1.out HZ2.out rfl (by decide) _ _ _ rfl HOWA.out ⟨W8.heap.size,0,none⟩ 1 1 (u.cells (.slice p7 u.subs.length c7)).toList rfl rfl HNW.out (nodeC_one _ _ _ _) (by decide) hml hbyt HBA.out ?_;intro v' w4 hown4 hgrow4 hwhere)
                                     | fail)
                                   have hsvR:u5.ownBlock ≠ some R:=fun e=>by have:=(HOWN9.out.lt R e).1;omega
                                   have hsvw:u5.ownBlock ≠ some w.heap.size:=fun e=>by have:=(HOWN9.out.lt _ e).1;omega
                                   have key:∀ b x,W8.heap[b]? = some x→u5.ownBlock ≠ some b→w4.heap[b]? = some x:=fun b x hx hne=>(hgrow4.block b (Nat.lt_of_lt_of_le (blk_lt hx) HBAL.out.size) (fun e=>hne e.symm)).trans (keep_blk HBAL.out hx)
                                   have hc4:=key R _ HC8.out hsvR
                                   have HM4:=Lib.hid (esM_is hc4 s.size)
                                   have ht4:=(HT8.out.later HBAL.out).grown hgrow4 (fun b e=>by have:=(HOWN9.out.lt b e).1;omega)
                                   have hz4:=key w.heap.size _ Z8.out hsvw
                                   have hs4:=(HSR8.out.later (R:=R) HBAL.out (by omega)).snoc (HTU.out.later HBAL.out) hown4 hgrow4 hwhere (fun b hb=>Nat.lt_of_lt_of_le (HO8.out.lt hb).2 HBAL.out.size)
                                   exact ⟨⟨ps ++ [(u,.slice p7 u.subs.length c7)],ov7,false,false,rfl,rfl,by rw [List.length_append];simp;omega,Lib.hid ht4,hrl8,Lib.hid ((HO8.out.later HBAL.out).grownx hgrow4 hap8),Lib.hid hz4,blk_lt hz4,.inl ⟨q2,j2,g3,(fun h=>by cases h),(fun _ _=>hq2),hj2,by omega,by rw [List.length_append];simp;omega,Lib.hid (by rw [List.map_append];exact HBR3.out),Lib.hid hc4,Lib.hid hs4⟩⟩,by rw [HM4.out,HM.out];simp;omega⟩
     · rw [bsrem_end (bt_txt s) fr bg (fun h=>by rw [(hfr h).2];rfl) (fun h1 h2=>by have:=hq h1 h2;omega) (.inl (by omega))] at hbr
       subst hbr
       have hd1:decide ((i:Int) < s.size)=false:=by simp;omega
       have hd1':decide (i < s.size)=false:=by simpa using hlt2
       have hesb:bsb k (bt s) (.ok (.several 5 (ps.map (·.1))) i g)=.ok (.several 5 (ps.map (·.1))) i g:=by
         unfold bsb;exact if_neg (fun h=>by have:=Bp.two_lt (bt_txt s) h.2 (by omega) (by omega);omega)
       clear hq hfr
       as_aux_lemma =>
         go_wp2
         go_quiet (fail)
         have HTw:=Lib.hid (HT.out.later (drewN_below (Below.refl _ _) nq));have Zw:=Lib.hid (keep_blk (drewN_below (Below.refl _ _) nq) Z.out);have HOPw:=Lib.hid (HOP.out.later (drewN_below (Below.refl _ _) nq));have HCw:=Lib.hid (keep_blk (drewN_below (Below.refl _ _) nq) HC.out)
         have HSR:=Lib.hid (HSROW.out.later (R:=R) (drewN_below (Below.refl _ _) nq) (by omega))
         have HOWN:=Lib.hid HSR.out.own;have HSLC:=Lib.hid HSR.out.slc
         clear c0 c1 c2 c3 c4 c5 c6
         generalize World.drewN _ _=W at *
         go_wp2_with fail
         have hsev:=sev_slice HOWN.out HSLC.out
         obtain ⟨px,lx,cx,hsv⟩:=hsev
         have hcall:=esseveral_any 5 ps u5 (w.heap.size+1) W HOWN.out (fun t s h=>HSLC.out 0 t s h) (by have:=hpl;omega)
         rw [hsv] at hcall
         have HTRX:=Lib.hid (by have:=HSR.out.sev 5 (by have:=hpl;omega);rw [hsv] at this;exact this)
         obtain ⟨T,hTE⟩:∃ T,Tr.several 5 (ps.map (·.1))=T:=⟨_,rfl⟩
         rw [hTE] at hcall HTRX
         have HESB:=Lib.hid (hesb.trans (by rw [hTE]))
         clear hesb
         refine hcall.mono ?_
         rintro e w3 ⟨rfl,hb3⟩
         have Z3:=Lib.hid (keep_blk hb3 Zw.out);have HC3:=Lib.hid (keep_blk hb3 HCw.out);have HT3:=Lib.hid (HTw.out.later hb3);have HOP3:=Lib.hid (HOPw.out.later hb3)
         have HTR3:=Lib.hid (HTRX.out.later hb3)
         clear hcall hsv hb3 hTE
         unfold Tr.cells
         go_wp2_with (first
           | (refine wpList_store_row rfl 28 (.tmp 4) (.tmp 156) rfl w.heap.size #[.int .i64 T.kind,.int .u64 (Oc.U T.w0),.int .u64 (Oc.U T.w1),.int .u64 (Oc.U T.w2),.int .u64 (Oc.U T.w3),.slice px lx cx,.int .i64 T.num,.int .i64 T.least,.int .i64 T.most,.bool T.bare] rfl rfl 28 _ Z3.out (by kernel_rfl) rfl (by simp [Value.oneCell']) ?_)
           | fail)
         have hT:=HT3.out.setRow_new (Nat.le_refl w.heap.size) #[.int .i64 T.kind,.int .u64 (Oc.U T.w0),.int .u64 (Oc.U T.w1),.int .u64 (Oc.U T.w2),.int .u64 (Oc.U T.w3),.slice px lx cx,.int .i64 T.num,.int .i64 T.least,.int .i64 T.most,.bool T.bare]
         exact bodyPost_ret (results_cell_row rfl _ _ w.heap.size 28 #[.int .i64 T.kind,.int .u64 (Oc.U T.w0),.int .u64 (Oc.U T.w1),.int .u64 (Oc.U T.w2),.int .u64 (Oc.U T.w3),.slice px lx cx,.int .i64 T.num,.int .i64 T.least,.int .i64 T.most,.bool T.bare] (0,0) _ rfl (heap_setRow Z3.out) Tryz.underlying28 rfl (by kernel_rfl)) rfl (by rw [HESB.out];exact ⟨ovr,hrel0,HOP3.out.setRow hovw _,hT,.slice px lx cx,rfl,(HTR3.out.keep fun b _ hP=>heap_setRow_other _ _ _ (by omega)).mono fun b _ hP=>⟨.inr (by omega),hP.2⟩,(heap_setRow_other _ _ _ (by omega)).trans HC3.out⟩)
   · have hoe:=HOE.out
     have hcz:((c:Int) == 0)=false:=by rw [beq_eq_false_iff_ne];omega
     have hcz':(c == 0)=false:=by rw [beq_eq_false_iff_ne];exact hc0
     obtain ⟨c0,c1,c2,c3,c4,c5,c6⟩:=st7 HC.out
     as_aux_lemma =>
       go_wp2
       go_quiet (fail)
       have HTw:=Lib.hid (HT.out.later (drewN_below (Below.refl _ _) nq));have Zw:=Lib.hid (keep_blk (drewN_below (Below.refl _ _) nq) Z.out);have HOPw:=Lib.hid (HOP.out.later (drewN_below (Below.refl _ _) nq));have HCw:=Lib.hid (keep_blk (drewN_below (Below.refl _ _) nq) HC.out)
       have HOWN:=Lib.hid (own_touch HOWNB.out (Touch.of_below (obs R ovr) (drewN_below (Below.refl _ _) nq)) (show R < w.heap.size+1 by omega) hapB);have HSLC:=HSLCB
       clear c0 c1 c2 c3 c4 c5 c6
       generalize World.drewN _ _=W at *
       go_wp2_with fail
       have hsev:=sev_slice HOWN.out HSLC.out
       obtain ⟨px,lx,cx,hsv⟩:=hsev
       have hcall:=esseveral_any 5 ps u5 (w.heap.size+1) W HOWN.out (fun t s h=>HSLC.out 0 t s h) (by have:=hpl;omega)
       rw [hsv] at hcall
       obtain ⟨T,hTE⟩:∃ T,Tr.several 5 (ps.map (·.1))=T:=⟨_,rfl⟩
       rw [hTE] at hcall
       refine hcall.mono ?_
       rintro e w3 ⟨rfl,hb3⟩
       have Z3:=Lib.hid (keep_blk hb3 Zw.out);have HC3:=Lib.hid (keep_blk hb3 HCw.out);have HT3:=Lib.hid (HTw.out.later hb3);have HOP3:=Lib.hid (HOPw.out.later hb3)
       clear hcall hsv hb3 hTE
       unfold Tr.cells
       go_wp2_with (first
         | (refine wpList_store_row rfl 28 (.tmp 4) (.tmp 156) rfl w.heap.size #[.int .i64 T.kind,.int .u64 (Oc.U T.w0),.int .u64 (Oc.U T.w1),.int .u64 (Oc.U T.w2),.int .u64 (Oc.U T.w3),.slice px lx cx,.int .i64 T.num,.int .i64 T.least,.int .i64 T.most,.bool T.bare] rfl rfl 28 _ Z3.out (by kernel_rfl) rfl (by simp [Value.oneCell']) ?_)
         | fail)
       have hT:=HT3.out.setRow_new (Nat.le_refl w.heap.size) #[.int .i64 T.kind,.int .u64 (Oc.U T.w0),.int .u64 (Oc.U T.w1),.int .u64 (Oc.U T.w2),.int .u64 (Oc.U T.w3),.slice px lx cx,.int .i64 T.num,.int .i64 T.least,.int .i64 T.most,.bool T.bare]
       exact bodyPost_ret (results_cell_row rfl _ _ w.heap.size 28 #[.int .i64 T.kind,.int .u64 (Oc.U T.w0),.int .u64 (Oc.U T.w1),.int .u64 (Oc.U T.w2),.int .u64 (Oc.U T.w3),.slice px lx cx,.int .i64 T.num,.int .i64 T.least,.int .i64 T.most,.bool T.bare] (0,0) _ rfl (heap_setRow Z3.out) Tryz.underlying28 rfl (by kernel_rfl)) rfl (by rw [HOE.out];exact ⟨ovr,hrel0,HOP3.out.setRow hovw _,hT,hc0,T,px,lx,cx,_,_,rfl,(heap_setRow_other _ _ _ (by omega)).trans HC3.out,hid,hgn⟩)
end Go.Proofs.YtfcilopifjddpaaGreatDoor
namespace Go.Proofs.YtfcilopifjddpaaGreatDoor
open Go.RowKit
theorem bsb_in {k:Nat} {f:Nat→Nat} {O:Ep.Out} : bsb (k+1) f O=O:=by
 cases O with
 | err c p=>rfl
 | ok t j g=>unfold bsb;exact if_neg (by omega)
theorem bsgroup_any (R:Nat) (s:ByteArray) (hs:s.size ≤ 1024) (fl:Int):∀ (r k:Nat),r+k=32→∀ (i g:Nat) (ov:Value) (w:World),i < s.size→2 * g ≤ i→Bp.two (bt s) 92 40 i=true→w.heap[R]? = some (.cells (stC s i fl g ov 0 0) 58)→Opn w R 0 ov →
   Calls Tryz.prog 61 #[.pointer (some ⟨R,0,none⟩),.int .i64 (k:Int)] w (BsEnd (fun _=>False) R s fl (2 * k) ov (Bp.group (bt s) s.size (icB fl) (nlB fl) r i g) w):=by
 intro r
 induction r with
 | zero =>
   intro k hk i g ov w hi hg ht hR hop
   exact bsgroup_deep w R s hs i fl g ov k hR hop hi ht (by omega) (by omega)
 | succ r ih =>
   intro k hk i g ov w hi hg ht hR hop
   have hi2:=Bp.two_lt (bt_txt s) ht (by omega) (by omega)
   rw [bsgroup_grp]
   refine bsgroup_in w R s hs i fl g ov k hR hop hi ht (by omega) (by omega) _ (fun w' ov' h1 h2=>?_) (fun t j g' h=>?_)
   · have:=bspieces_any w' R s hs (i+2) fl (g+1) ov' (k+1) h1 h2 (by omega) (by omega) (by omega) _ (Bp.group_next (bt_txt s) r) (Bp.group_right (bt_txt s) hs r) (fun i' g' ov2 w2 a b c h3 h4=>ih (k+1) (by omega) i' g' ov2 w2 a b c h3 h4) _ rfl
     rw [bsb_in] at this
     exact this
   · have h1:=Bp.seq_next (bt_txt s) (Bp.group_next (bt_txt s) r) (by omega) h
     have h2:=(Bp.seq_form (bt_txt s) (Bp.group_next (bt_txt s) r) (Bp.group_right (bt_txt s) hs r) (by omega) (by omega) h).2
     exact ⟨h1.2,by omega,by rcases bsseq_stop h with h | h;exact .inl (by omega);exact .inr h⟩
theorem bspat_any (w:World) (R:Nat) (s:ByteArray) (hs:s.size ≤ 1024) (fl:Int) (ov:Value) (hR:w.heap[R]? = some (.cells (stC s 0 fl 0 ov 0 0) 58)) (hop:Opn w R 0 ov) :
   Calls Tryz.prog 29 #[.pointer (some ⟨R,0,none⟩),.int .i64 0] w (BsEnd (fun _=>False) R s fl 0 ov (bsb 0 (bt s) (Bp.pat (bt s) s.size (icB fl) (nlB fl) 32 0 0)) w) :=
 bspieces_any w R s hs 0 fl 0 ov 0 hR hop (by omega) (by omega) (by omega) _ (Bp.group_next (bt_txt s) 32) (Bp.group_right (bt_txt s) hs 32) (fun i g ov2 w2 a b c h3 h4=>bsgroup_any R s hs fl 32 0 (by omega) i g ov2 w2 a b c h3 h4) _ rfl
end Go.Proofs.YtfcilopifjddpaaGreatDoor
namespace Go.Proofs.YtfcilopifjddpaaGreatDoor
open Go.RowKit
def ansErr (c:Nat) (q:Int):Value:=.agg #[.int .i64 0,.int .u64 0,.int .u64 0,.int .u64 0,.int .u64 0,.slice none 0 0,.int .i64 0,.int .i64 0,.int .i64 0,.bool false,.int .i64 0,.int .i64 (c:Int),.int .i64 q]
def ansOk (x:Tr) (p:Option Addr) (l k g:Nat):Value:=.agg #[.int .i64 x.kind,.int .u64 (Oc.U x.w0),.int .u64 (Oc.U x.w1),.int .u64 (Oc.U x.w2),.int .u64 (Oc.U x.w3),.slice p l k,.int .i64 x.num,.int .i64 x.least,.int .i64 x.most,.bool x.bare,.int .i64 (g:Int),.int .i64 0,.int .i64 0]
theorem esdone_err (w:World) (R:Nat) (s:ByteArray) (i:Nat) (fl:Int) (g:Nat) (ov:Value) (c:Nat) (q:Int) (hR:w.heap[R]? = some (.cells (stC s i fl g ov c q) 58)) (hc:c ≠ 0) (x:Tr) (p:Option Addr) (l k:Nat) :
   Calls Tryz.prog 30 #[.pointer (some ⟨R,0,none⟩),.agg (x.cells (.slice p l k))] w fun e w'=>e=.returned (ansErr c q)∧Touch [R] w w':=by
 have hlt:=st_lt hR
 have hb2:Below w.heap.size w ((w.alloc (.cells #[.int .i64 x.kind,.int .u64 (Oc.U x.w0),.int .u64 (Oc.U x.w1),.int .u64 (Oc.U x.w2),.int .u64 (Oc.U x.w3),.slice p l k,.int .i64 x.num,.int .i64 x.least,.int .i64 x.most,.bool x.bare] 28)).alloc (.cells #[.int .i64 0,.int .u64 0,.int .u64 0,.int .u64 0,.int .u64 0,.slice none 0 0,.int .i64 0,.int .i64 0,.int .i64 0,.bool false,.int .i64 0,.int .i64 0,.int .i64 0] 34)):=((Below.refl w.heap.size w).alloc (Nat.le_refl _) _).alloc (by simp) _
 have Z2:=Lib.hid (two_new w (.cells #[.int .i64 x.kind,.int .u64 (Oc.U x.w0),.int .u64 (Oc.U x.w1),.int .u64 (Oc.U x.w2),.int .u64 (Oc.U x.w3),.slice p l k,.int .i64 x.num,.int .i64 x.least,.int .i64 x.most,.bool x.bare] 28) (.cells #[.int .i64 0,.int .u64 0,.int .u64 0,.int .u64 0,.int .u64 0,.slice none 0 0,.int .i64 0,.int .i64 0,.int .i64 0,.bool false,.int .i64 0,.int .i64 0,.int .i64 0] 34)).2
 have B2:=Lib.hid (two_new w (.cells #[.int .i64 x.kind,.int .u64 (Oc.U x.w0),.int .u64 (Oc.U x.w1),.int .u64 (Oc.U x.w2),.int .u64 (Oc.U x.w3),.slice p l k,.int .i64 x.num,.int .i64 x.least,.int .i64 x.most,.bool x.bare] 28) (.cells #[.int .i64 0,.int .u64 0,.int .u64 0,.int .u64 0,.int .u64 0,.slice none 0 0,.int .i64 0,.int .i64 0,.int .i64 0,.bool false,.int .i64 0,.int .i64 0,.int .i64 0] 34)).1
 have HC2:=Lib.hid (keep_blk hb2 hR);have HB2:=Lib.hid hb2
 have hcut:(cutW w R).heap.size ≤ w.heap.size+1:=by rw [cutW_size hlt];omega
 have hcz:((c:Int) == 0)=false:=by rw [beq_eq_false_iff_ne];omega
 have hcz':(c == 0)=false:=by rw [beq_eq_false_iff_ne];omega
 have HBC:=Lib.hid (cutW_below hlt (Touch.of_below [R] hb2));have HT5:=Lib.hid (Touch.of_below [R] hb2)
 obtain ⟨c0,c1,c2,c3,c4,c5,c6⟩:=st7 HC2.out
 clear hR hb2
 unfold Tr.cells ansErr
 go_enter Tryz.func30,Tryz.ntmps30
 go_upto_region 4 with (fail)
 clear c0 c1 c2 c3 c4 c5 c6
 generalize World.alloc (World.alloc w _) _=W5 at *
 have Z5:=Z2;have HC5:=HC2
 have hsW:w.heap.size+1 < W5.heap.size:=blk_lt Z5.out
 refine Ri.wp_region_frame (by kernel_rfl) (by kernel_rfl) (by kernel_rfl) (by kernel_rfl)
   (fun L v w'=>Below (cutW w R).heap.size (cutW w R) w'∧W5.heap.size ≤ w'.heap.size∧(L 9=true→w'.heap[(w.heap.size+1)]? = some (.cells #[.int .i64 0,.int .u64 0,.int .u64 0,.int .u64 0,.int .u64 0,.slice none 0 0,.int .i64 0,.int .i64 0,.int .i64 0,.bool false,.int .i64 0,.int .i64 (c:Int),.int .i64 q] 34))∧(L 9=false→w'.heap[(w.heap.size+1)]? = some (.cells #[.int .i64 0,.int .u64 0,.int .u64 0,.int .u64 0,.int .u64 0,.slice none 0 0,.int .i64 0,.int .i64 0,.int .i64 0,.bool false,.int .i64 0,.int .i64 0,.int .i64 0] 34))∧w'.heap[R]? = some (.cells (stC s i fl g ov c q) 58)∧(∀ k,k < W5.heap.size→k ≠ (w.heap.size+1)→w'.heap[k]? = W5.heap[k]?)∧(L 0=true→v 0=.pointer (some ⟨R,0,none⟩))∧(L 1=true→v 1=.pointer (some ⟨R,0,none⟩))∧(L 2=true→v 2=.pointer (some ⟨R,5,none⟩))∧(L 3=true→v 3=.int .i64 (c:Int))∧(L 4=true→v 4=.pointer (some ⟨R,0,none⟩))∧(L 5=true→v 5=.pointer (some ⟨R,0,none⟩))∧(L 6=true→v 6=.pointer (some ⟨R,6,none⟩))∧(L 7=true→v 7=.int .i64 q)∧(L 8=true→v 8=.agg #[.int .i64 0,.int .u64 0,.int .u64 0,.int .u64 0,.int .u64 0,.slice none 0 0,.int .i64 0,.int .i64 0,.int .i64 0,.bool false,.int .i64 0,.int .i64 (c:Int),.int .i64 q]))
   ?_ ?_ ?_
 · exact ⟨HBC.out.drew,Nat.le_refl _,(by simp),(fun _=>Z5.out),HC5.out,fun _ _ _=>rfl,by simp,by simp,by simp,by simp,by simp,by simp,by simp,by simp,by simp⟩
 · intro i hi9 L v w9 xa hI hL hd hv ho
   have hi':i=0 ∨ i=1 ∨ i=2 ∨ i=3 ∨ i=4 ∨ i=5 ∨ i=6 ∨ i=7 ∨ i=8 ∨ i=9:=by simp at hi9;omega
   obtain ⟨hb,hz,qn,qo,k0,kf,q0,q1,q2,q3,q4,q5,q6,q7,q8⟩:=hI
   rcases hi' with rfl | rfl | rfl | rfl | rfl | rfl | rfl | rfl | rfl | rfl
   · have e0:xa.tmps.getD 0 undef=.pointer (some ⟨R,0,none⟩):=ho 0 (by kernel_rfl)
     refine Ri.step_plain rfl rfl (fun K' hK=>?_)
     go_simp
     exact hK _ _ ⟨_,_,rfl,rfl,hb,hz,qn,qo,k0,kf,fun _=>rfl,q1,q2,q3,q4,q5,q6,q7,q8⟩
   · have l0:L 0=true:=by have:=hd _ rfl;simp [Region.binds] at this;simp [this]
     have f0:=(hv 0 27 rfl l0).trans (q0 l0)
     refine Ri.step_plain rfl rfl (fun K' hK=>?_)
     go_simp
     exact hK _ _ ⟨_,_,rfl,rfl,hb,hz,qn,qo,k0,kf,q0,fun _=>rfl,q2,q3,q4,q5,q6,q7,q8⟩
   · have l0:L 1=true:=by have:=hd _ rfl;simp [Region.binds] at this;simp [this]
     have f1:=(hv 1 28 rfl l0).trans (q1 l0)
     refine Ri.step_plain rfl rfl (fun K' hK=>?_)
     go_simp
     exact hK _ _ ⟨_,_,rfl,rfl,hb,hz,qn,qo,k0,kf,q0,q1,fun _=>rfl,q3,q4,q5,q6,q7,q8⟩
   · have l0:L 2=true:=by have:=hd _ rfl;simp [Region.binds] at this;simp [this]
     have f2:=(hv 2 29 rfl l0).trans (q2 l0)
     refine Ri.step_plain rfl rfl (fun K' hK=>?_)
     obtain ⟨_,_,_,_,_,k5',_⟩:=st7 k0
     go_simp
     exact hK _ _ ⟨_,_,rfl,rfl,hb,hz,qn,qo,k0,kf,q0,q1,q2,fun _=>rfl,q4,q5,q6,q7,q8⟩
   · have e0:xa.tmps.getD 0 undef=.pointer (some ⟨R,0,none⟩):=ho 0 (by kernel_rfl)
     refine Ri.step_plain rfl rfl (fun K' hK=>?_)
     go_simp
     exact hK _ _ ⟨_,_,rfl,rfl,hb,hz,qn,qo,k0,kf,q0,q1,q2,q3,fun _=>rfl,q5,q6,q7,q8⟩
   · have l0:L 4=true:=by have:=hd _ rfl;simp [Region.binds] at this;simp [this]
     have f4:=(hv 4 31 rfl l0).trans (q4 l0)
     refine Ri.step_plain rfl rfl (fun K' hK=>?_)
     go_simp
     exact hK _ _ ⟨_,_,rfl,rfl,hb,hz,qn,qo,k0,kf,q0,q1,q2,q3,q4,fun _=>rfl,q6,q7,q8⟩
   · have l0:L 5=true:=by have:=hd _ rfl;simp [Region.binds] at this;simp [this]
     have f5:=(hv 5 32 rfl l0).trans (q5 l0)
     refine Ri.step_plain rfl rfl (fun K' hK=>?_)
     go_simp
     exact hK _ _ ⟨_,_,rfl,rfl,hb,hz,qn,qo,k0,kf,q0,q1,q2,q3,q4,q5,fun _=>rfl,q7,q8⟩
   · have l0:L 6=true:=by have:=hd _ rfl;simp [Region.binds] at this;simp [this]
     have f6:=(hv 6 33 rfl l0).trans (q6 l0)
     refine Ri.step_plain rfl rfl (fun K' hK=>?_)
     obtain ⟨_,_,_,_,_,_,k6'⟩:=st7 k0
     go_simp
     exact hK _ _ ⟨_,_,rfl,rfl,hb,hz,qn,qo,k0,kf,q0,q1,q2,q3,q4,q5,q6,fun _=>rfl,q8⟩
   · have l0:L 3=true∧L 7=true:=by have:=hd _ rfl;simp [Region.binds] at this;simp [this]
     have f3:=(hv 3 30 rfl l0.1).trans (q3 l0.1)
     have f7:=(hv 7 34 rfl l0.2).trans (q7 l0.2)
     refine Ri.step_plain rfl rfl (fun K' hK=>?_)
     have g30:=(Array.getD_eq_getD_getElem? (xs:=xa.tmps) (i:=30) (d:=undef)).symm.trans f3
     have g34:=(Array.getD_eq_getD_getElem? (xs:=xa.tmps) (i:=34) (d:=undef)).symm.trans f7
     go_simp
     exact hK _ _ ⟨_,_,rfl,rfl,hb,hz,qn,qo,k0,kf,q0,q1,q2,q3,q4,q5,q6,q7,fun _=>rfl⟩
   · have l0:L 8=true:=by have:=hd _ rfl;simp [Region.binds] at this;simp [this]
     have f8:=(hv 8 35 rfl l0).trans (q8 l0)
     have e4:xa.tmps.getD 4 undef=.pointer (some ⟨w.heap.size+1,0,none⟩):=ho 4 (by kernel_rfl)
     refine Ri.step_plain rfl rfl (fun K' hK=>?_)
     refine wp_store_row _ _ _ rfl (w.heap.size+1) #[.int .i64 0,.int .u64 0,.int .u64 0,.int .u64 0,.int .u64 0,.slice none 0 0,.int .i64 0,.int .i64 0,.int .i64 0,.bool false,.int .i64 0,.int .i64 (c:Int),.int .i64 q] e4 f8 34 _ (qo hL) (by kernel_rfl) (by kernel_rfl) (by simp [Value.oneCell']) ?_
     exact hK _ _ ⟨_,undef,rfl,rfl,below_setRow hb hcut _,by simpa using hz,(fun _=>heap_setRow (qo hL)),(fun h=>by cases h),(heap_setRow_other _ _ _ (by omega)).trans k0,(fun k hk hn=>(heap_setRow_other _ _ _ hn).trans (kf k hk hn)),q0,q1,q2,q3,q4,q5,q6,q7,q8⟩
 · rintro v w9 ⟨hb,hz,qn,-,k0,kf,-,-,-,-,-,-,-,-,-⟩
   have zN:=qn rfl;clear qn
   simp only [Ri.frame,List.zipIdx,List.foldl_cons,List.foldl_nil,if_true,List.setIfInBounds_toArray,List.set_cons_zero,List.set_cons_succ,Nat.reduceAdd]
   generalize v 0=y0;generalize v 1=y1;generalize v 2=y2;generalize v 3=y3;generalize v 4=y4;generalize v 5=y5;generalize v 6=y6;generalize v 7=y7;generalize v 8=y8
   have HTx:Touch [R] w w9:=⟨hb.os,hb.tape,hb.output,Nat.le_trans HT5.out.size hz,fun k hk hn=>(kf k (Nat.lt_of_lt_of_le hk HT5.out.size) (by omega)).trans (HT5.out.block k hk hn)⟩
   go_wp2_with fail
   exact bodyPost_ret (results_cell_row rfl _ _ (w.heap.size+1) 34 #[.int .i64 0,.int .u64 0,.int .u64 0,.int .u64 0,.int .u64 0,.slice none 0 0,.int .i64 0,.int .i64 0,.int .i64 0,.bool false,.int .i64 0,.int .i64 (c:Int),.int .i64 q] (0,0) _ rfl zN Tryz.underlying34 rfl (by kernel_rfl)) rfl ⟨rfl,HTx⟩
theorem esdone_big (w:World) (R:Nat) (s:ByteArray) (i:Nat) (fl:Int) (g:Nat) (ov:Value) (hR:w.heap[R]? = some (.cells (stC s i fl g ov 0 0) 58)) (x:Tr) (p:Option Addr) (l k:Nat) (P:Nat→Prop) (ht:TreesAt w P (.slice p l k) x.subs) (hf:x.InForm) (hsz:2000 < x.szT) :
   Calls Tryz.prog 30 #[.pointer (some ⟨R,0,none⟩),.agg (x.cells (.slice p l k))] w fun e w'=>e=.returned (ansErr 10 (s.size:Int))∧Touch [R] w w':=by
 have hlt:=st_lt hR
 have hb2:Below w.heap.size w ((w.alloc (.cells #[.int .i64 x.kind,.int .u64 (Oc.U x.w0),.int .u64 (Oc.U x.w1),.int .u64 (Oc.U x.w2),.int .u64 (Oc.U x.w3),.slice p l k,.int .i64 x.num,.int .i64 x.least,.int .i64 x.most,.bool x.bare] 28)).alloc (.cells #[.int .i64 0,.int .u64 0,.int .u64 0,.int .u64 0,.int .u64 0,.slice none 0 0,.int .i64 0,.int .i64 0,.int .i64 0,.bool false,.int .i64 0,.int .i64 0,.int .i64 0] 34)):=((Below.refl w.heap.size w).alloc (Nat.le_refl _) _).alloc (by simp) _
 have Z2:=Lib.hid (two_new w (.cells #[.int .i64 x.kind,.int .u64 (Oc.U x.w0),.int .u64 (Oc.U x.w1),.int .u64 (Oc.U x.w2),.int .u64 (Oc.U x.w3),.slice p l k,.int .i64 x.num,.int .i64 x.least,.int .i64 x.most,.bool x.bare] 28) (.cells #[.int .i64 0,.int .u64 0,.int .u64 0,.int .u64 0,.int .u64 0,.slice none 0 0,.int .i64 0,.int .i64 0,.int .i64 0,.bool false,.int .i64 0,.int .i64 0,.int .i64 0] 34)).2
 have B2:=Lib.hid (two_new w (.cells #[.int .i64 x.kind,.int .u64 (Oc.U x.w0),.int .u64 (Oc.U x.w1),.int .u64 (Oc.U x.w2),.int .u64 (Oc.U x.w3),.slice p l k,.int .i64 x.num,.int .i64 x.least,.int .i64 x.most,.bool x.bare] 28) (.cells #[.int .i64 0,.int .u64 0,.int .u64 0,.int .u64 0,.int .u64 0,.slice none 0 0,.int .i64 0,.int .i64 0,.int .i64 0,.bool false,.int .i64 0,.int .i64 0,.int .i64 0] 34)).1
 have HC2:=Lib.hid (keep_blk hb2 hR);have HB2:=Lib.hid hb2
 have hcut:(cutW w R).heap.size ≤ w.heap.size+1:=by rw [cutW_size hlt];omega
 have hge:decide ((2000:Int) < (x.szT:Int))=true:=by simp;omega
 have hge':decide (2000 < x.szT)=true:=by simp;omega
 have HSZ:=Lib.hid (fun w' (hb:Below w.heap.size w w')=>refSize_any x hf w' P _ ⟨_,rfl,ht.later hb⟩)
 have hsz2:=HSZ.out _ hb2
 have HS2:=Lib.hid hsz2
 obtain ⟨c0,c1,c2,c3,c4,c5,c6⟩:=st7 HC2.out
 obtain ⟨d0,d1,d2,d3,d4,d5,d6,d7,d8,d9⟩:=allTen B2.out
 clear hR hb2 hf ht HSZ hsz2
 unfold Tr.cells ansErr at *
 go_enter Tryz.func30,Tryz.ntmps30
 go_wp2_with fail
 refine HS2.out.mono ?_
 rintro e w3 ⟨rfl,hb3⟩
 have HB3:=Lib.hid (HB2.out.trans (hb3.mono HB2.out.size));have Z3:=Lib.hid (keep_blk hb3 Z2.out);have HC3:=Lib.hid (keep_blk hb3 HC2.out)
 clear hb3 c0 c1 c2 c3 c4 c5 c6 d0 d1 d2 d3 d4 d5 d6 d7 d8 d9 HC2 Z2
 obtain ⟨c0,c1,c2,c3,c4,c5,c6⟩:=st7 HC3.out
 go_wp2_with fail
 refine (esfault_any w3 R s i fl g ov 0 HC3.out 10 (s.size:Int)).mono ?_
 rintro e W5 ⟨rfl,hR5,ht5⟩
 have HC5:=Lib.hid hR5;have Z5:=Lib.hid ((ht5.block (w.heap.size+1) (blk_lt Z3.out) (by simp;omega)).trans Z3.out)
 have HT5:=Lib.hid ((Touch.of_below [R] HB3.out).trans ht5)
 have HBC:=Lib.hid (cutW_below hlt HT5.out)
 clear hR5 ht5 c0 c1 c2 c3 c4 c5 c6
 obtain ⟨c0,c1,c2,c3,c4,c5,c6⟩:=st7 HC5.out
 go_upto_region 4 with (fail)
 clear c0 c1 c2 c3 c4 c5 c6
 have hsW:w.heap.size+1 < W5.heap.size:=blk_lt Z5.out
 refine Ri.wp_region_frame (by kernel_rfl) (by kernel_rfl) (by kernel_rfl) (by kernel_rfl)
   (fun L v w'=>Below (cutW w R).heap.size (cutW w R) w'∧W5.heap.size ≤ w'.heap.size∧(L 9=true→w'.heap[(w.heap.size+1)]? = some (.cells #[.int .i64 0,.int .u64 0,.int .u64 0,.int .u64 0,.int .u64 0,.slice none 0 0,.int .i64 0,.int .i64 0,.int .i64 0,.bool false,.int .i64 0,.int .i64 (10:Int),.int .i64 (s.size:Int)] 34))∧(L 9=false→w'.heap[(w.heap.size+1)]? = some (.cells #[.int .i64 0,.int .u64 0,.int .u64 0,.int .u64 0,.int .u64 0,.slice none 0 0,.int .i64 0,.int .i64 0,.int .i64 0,.bool false,.int .i64 0,.int .i64 0,.int .i64 0] 34))∧w'.heap[R]? = some (.cells (stC s i fl g ov 10 (s.size:Int)) 58)∧(∀ k,k < W5.heap.size→k ≠ (w.heap.size+1)→w'.heap[k]? = W5.heap[k]?)∧(L 0=true→v 0=.pointer (some ⟨R,0,none⟩))∧(L 1=true→v 1=.pointer (some ⟨R,0,none⟩))∧(L 2=true→v 2=.pointer (some ⟨R,5,none⟩))∧(L 3=true→v 3=.int .i64 (10:Int))∧(L 4=true→v 4=.pointer (some ⟨R,0,none⟩))∧(L 5=true→v 5=.pointer (some ⟨R,0,none⟩))∧(L 6=true→v 6=.pointer (some ⟨R,6,none⟩))∧(L 7=true→v 7=.int .i64 (s.size:Int))∧(L 8=true→v 8=.agg #[.int .i64 0,.int .u64 0,.int .u64 0,.int .u64 0,.int .u64 0,.slice none 0 0,.int .i64 0,.int .i64 0,.int .i64 0,.bool false,.int .i64 0,.int .i64 (10:Int),.int .i64 (s.size:Int)]))
   ?_ ?_ ?_
 · exact ⟨HBC.out.drew,Nat.le_refl _,(by simp),(fun _=>Z5.out),HC5.out,fun _ _ _=>rfl,by simp,by simp,by simp,by simp,by simp,by simp,by simp,by simp,by simp⟩
 · intro i hi9 L v w9 xa hI hL hd hv ho
   have hi':i=0 ∨ i=1 ∨ i=2 ∨ i=3 ∨ i=4 ∨ i=5 ∨ i=6 ∨ i=7 ∨ i=8 ∨ i=9:=by simp at hi9;omega
   obtain ⟨hb,hz,qn,qo,k0,kf,q0,q1,q2,q3,q4,q5,q6,q7,q8⟩:=hI
   rcases hi' with rfl | rfl | rfl | rfl | rfl | rfl | rfl | rfl | rfl | rfl
   · have e0:xa.tmps.getD 0 undef=.pointer (some ⟨R,0,none⟩):=ho 0 (by kernel_rfl)
     refine Ri.step_plain rfl rfl (fun K' hK=>?_)
     go_simp
     exact hK _ _ ⟨_,_,rfl,rfl,hb,hz,qn,qo,k0,kf,fun _=>rfl,q1,q2,q3,q4,q5,q6,q7,q8⟩
   · have l0:L 0=true:=by have:=hd _ rfl;simp [Region.binds] at this;simp [this]
     have f0:=(hv 0 27 rfl l0).trans (q0 l0)
     refine Ri.step_plain rfl rfl (fun K' hK=>?_)
     go_simp
     exact hK _ _ ⟨_,_,rfl,rfl,hb,hz,qn,qo,k0,kf,q0,fun _=>rfl,q2,q3,q4,q5,q6,q7,q8⟩
   · have l0:L 1=true:=by have:=hd _ rfl;simp [Region.binds] at this;simp [this]
     have f1:=(hv 1 28 rfl l0).trans (q1 l0)
     refine Ri.step_plain rfl rfl (fun K' hK=>?_)
     go_simp
     exact hK _ _ ⟨_,_,rfl,rfl,hb,hz,qn,qo,k0,kf,q0,q1,fun _=>rfl,q3,q4,q5,q6,q7,q8⟩
   · have l0:L 2=true:=by have:=hd _ rfl;simp [Region.binds] at this;simp [this]
     have f2:=(hv 2 29 rfl l0).trans (q2 l0)
     refine Ri.step_plain rfl rfl (fun K' hK=>?_)
     obtain ⟨_,_,_,_,_,k5',_⟩:=st7 k0
     go_simp
     exact hK _ _ ⟨_,_,rfl,rfl,hb,hz,qn,qo,k0,kf,q0,q1,q2,fun _=>rfl,q4,q5,q6,q7,q8⟩
   · have e0:xa.tmps.getD 0 undef=.pointer (some ⟨R,0,none⟩):=ho 0 (by kernel_rfl)
     refine Ri.step_plain rfl rfl (fun K' hK=>?_)
     go_simp
     exact hK _ _ ⟨_,_,rfl,rfl,hb,hz,qn,qo,k0,kf,q0,q1,q2,q3,fun _=>rfl,q5,q6,q7,q8⟩
   · have l0:L 4=true:=by have:=hd _ rfl;simp [Region.binds] at this;simp [this]
     have f4:=(hv 4 31 rfl l0).trans (q4 l0)
     refine Ri.step_plain rfl rfl (fun K' hK=>?_)
     go_simp
     exact hK _ _ ⟨_,_,rfl,rfl,hb,hz,qn,qo,k0,kf,q0,q1,q2,q3,q4,fun _=>rfl,q6,q7,q8⟩
   · have l0:L 5=true:=by have:=hd _ rfl;simp [Region.binds] at this;simp [this]
     have f5:=(hv 5 32 rfl l0).trans (q5 l0)
     refine Ri.step_plain rfl rfl (fun K' hK=>?_)
     go_simp
     exact hK _ _ ⟨_,_,rfl,rfl,hb,hz,qn,qo,k0,kf,q0,q1,q2,q3,q4,q5,fun _=>rfl,q7,q8⟩
   · have l0:L 6=true:=by have:=hd _ rfl;simp [Region.binds] at this;simp [this]
     have f6:=(hv 6 33 rfl l0).trans (q6 l0)
     refine Ri.step_plain rfl rfl (fun K' hK=>?_)
     obtain ⟨_,_,_,_,_,_,k6'⟩:=st7 k0
     go_simp
     exact hK _ _ ⟨_,_,rfl,rfl,hb,hz,qn,qo,k0,kf,q0,q1,q2,q3,q4,q5,q6,fun _=>rfl,q8⟩
   · have l0:L 3=true∧L 7=true:=by have:=hd _ rfl;simp [Region.binds] at this;simp [this]
     have f3:=(hv 3 30 rfl l0.1).trans (q3 l0.1)
     have f7:=(hv 7 34 rfl l0.2).trans (q7 l0.2)
     refine Ri.step_plain rfl rfl (fun K' hK=>?_)
     have g30:=(Array.getD_eq_getD_getElem? (xs:=xa.tmps) (i:=30) (d:=undef)).symm.trans f3
     have g34:=(Array.getD_eq_getD_getElem? (xs:=xa.tmps) (i:=34) (d:=undef)).symm.trans f7
     go_simp
     exact hK _ _ ⟨_,_,rfl,rfl,hb,hz,qn,qo,k0,kf,q0,q1,q2,q3,q4,q5,q6,q7,fun _=>rfl⟩
   · have l0:L 8=true:=by have:=hd _ rfl;simp [Region.binds] at this;simp [this]
     have f8:=(hv 8 35 rfl l0).trans (q8 l0)
     have e4:xa.tmps.getD 4 undef=.pointer (some ⟨w.heap.size+1,0,none⟩):=ho 4 (by kernel_rfl)
     refine Ri.step_plain rfl rfl (fun K' hK=>?_)
     refine wp_store_row _ _ _ rfl (w.heap.size+1) #[.int .i64 0,.int .u64 0,.int .u64 0,.int .u64 0,.int .u64 0,.slice none 0 0,.int .i64 0,.int .i64 0,.int .i64 0,.bool false,.int .i64 0,.int .i64 (10:Int),.int .i64 (s.size:Int)] e4 f8 34 _ (qo hL) (by kernel_rfl) (by kernel_rfl) (by simp [Value.oneCell']) ?_
     exact hK _ _ ⟨_,undef,rfl,rfl,below_setRow hb hcut _,by simpa using hz,(fun _=>heap_setRow (qo hL)),(fun h=>by cases h),(heap_setRow_other _ _ _ (by omega)).trans k0,(fun k hk hn=>(heap_setRow_other _ _ _ hn).trans (kf k hk hn)),q0,q1,q2,q3,q4,q5,q6,q7,q8⟩
 · rintro v w9 ⟨hb,hz,qn,-,k0,kf,-,-,-,-,-,-,-,-,-⟩
   have zN:=qn rfl;clear qn
   simp only [Ri.frame,List.zipIdx,List.foldl_cons,List.foldl_nil,if_true,List.setIfInBounds_toArray,List.set_cons_zero,List.set_cons_succ,Nat.reduceAdd]
   generalize v 0=y0;generalize v 1=y1;generalize v 2=y2;generalize v 3=y3;generalize v 4=y4;generalize v 5=y5;generalize v 6=y6;generalize v 7=y7;generalize v 8=y8
   have HTx:Touch [R] w w9:=⟨hb.os,hb.tape,hb.output,Nat.le_trans HT5.out.size hz,fun k hk hn=>(kf k (Nat.lt_of_lt_of_le hk HT5.out.size) (by omega)).trans (HT5.out.block k hk hn)⟩
   go_wp2_with fail
   exact bodyPost_ret (results_cell_row rfl _ _ (w.heap.size+1) 34 #[.int .i64 0,.int .u64 0,.int .u64 0,.int .u64 0,.int .u64 0,.slice none 0 0,.int .i64 0,.int .i64 0,.int .i64 0,.bool false,.int .i64 0,.int .i64 (10:Int),.int .i64 (s.size:Int)] (0,0) _ rfl zN Tryz.underlying34 rfl (by kernel_rfl)) rfl ⟨rfl,HTx⟩
theorem esdone_ok (w:World) (R:Nat) (s:ByteArray) (i:Nat) (fl:Int) (g:Nat) (ov:Value) (hR:w.heap[R]? = some (.cells (stC s i fl g ov 0 0) 58)) (x:Tr) (p:Option Addr) (l k:Nat) (P:Nat→Prop) (ht:TreesAt w P (.slice p l k) x.subs) (hf:x.InForm) (hsz:x.szT ≤ 2000) :
   Calls Tryz.prog 30 #[.pointer (some ⟨R,0,none⟩),.agg (x.cells (.slice p l k))] w fun e w'=>e=.returned (ansOk x p l k g)∧Touch [R] w w':=by
 have hlt:=st_lt hR
 have hb2:Below w.heap.size w ((w.alloc (.cells #[.int .i64 x.kind,.int .u64 (Oc.U x.w0),.int .u64 (Oc.U x.w1),.int .u64 (Oc.U x.w2),.int .u64 (Oc.U x.w3),.slice p l k,.int .i64 x.num,.int .i64 x.least,.int .i64 x.most,.bool x.bare] 28)).alloc (.cells #[.int .i64 0,.int .u64 0,.int .u64 0,.int .u64 0,.int .u64 0,.slice none 0 0,.int .i64 0,.int .i64 0,.int .i64 0,.bool false,.int .i64 0,.int .i64 0,.int .i64 0] 34)):=((Below.refl w.heap.size w).alloc (Nat.le_refl _) _).alloc (by simp) _
 have Z2:=Lib.hid (two_new w (.cells #[.int .i64 x.kind,.int .u64 (Oc.U x.w0),.int .u64 (Oc.U x.w1),.int .u64 (Oc.U x.w2),.int .u64 (Oc.U x.w3),.slice p l k,.int .i64 x.num,.int .i64 x.least,.int .i64 x.most,.bool x.bare] 28) (.cells #[.int .i64 0,.int .u64 0,.int .u64 0,.int .u64 0,.int .u64 0,.slice none 0 0,.int .i64 0,.int .i64 0,.int .i64 0,.bool false,.int .i64 0,.int .i64 0,.int .i64 0] 34)).2
 have B2:=Lib.hid (two_new w (.cells #[.int .i64 x.kind,.int .u64 (Oc.U x.w0),.int .u64 (Oc.U x.w1),.int .u64 (Oc.U x.w2),.int .u64 (Oc.U x.w3),.slice p l k,.int .i64 x.num,.int .i64 x.least,.int .i64 x.most,.bool x.bare] 28) (.cells #[.int .i64 0,.int .u64 0,.int .u64 0,.int .u64 0,.int .u64 0,.slice none 0 0,.int .i64 0,.int .i64 0,.int .i64 0,.bool false,.int .i64 0,.int .i64 0,.int .i64 0] 34)).1
 have HC2:=Lib.hid (keep_blk hb2 hR);have HB2:=Lib.hid hb2
 have hcut:(cutW w R).heap.size ≤ w.heap.size+1:=by rw [cutW_size hlt];omega
 have hge:decide ((2000:Int) < (x.szT:Int))=false:=by simp;omega
 have hge':decide (2000 < x.szT)=false:=by simp;omega
 have HSZ:=Lib.hid (fun w' (hb:Below w.heap.size w w')=>refSize_any x hf w' P _ ⟨_,rfl,ht.later hb⟩)
 have hsz2:=HSZ.out _ hb2
 have HS2:=Lib.hid hsz2
 obtain ⟨c0,c1,c2,c3,c4,c5,c6⟩:=st7 HC2.out
 obtain ⟨d0,d1,d2,d3,d4,d5,d6,d7,d8,d9⟩:=allTen B2.out
 clear hR hb2 hf ht HSZ hsz2
 unfold Tr.cells ansOk at *
 go_enter Tryz.func30,Tryz.ntmps30
 go_wp2_with fail
 refine HS2.out.mono ?_
 rintro e W5 ⟨rfl,hb3⟩
 have HB3:=Lib.hid (HB2.out.trans (hb3.mono HB2.out.size));have Z5:=Lib.hid (keep_blk hb3 Z2.out);have B5:=Lib.hid (keep_blk hb3 B2.out);have HC5:=Lib.hid (keep_blk hb3 HC2.out)
 have HT5:=Lib.hid (Touch.of_below [R] HB3.out)
 have HBC:=Lib.hid (cutW_below hlt HT5.out)
 clear hb3 c0 c1 c2 c3 c4 c5 c6 d0 d1 d2 d3 d4 d5 d6 d7 d8 d9 HC2 Z2 B2
 obtain ⟨c0,c1,c2,c3,c4,c5,c6⟩:=st7 HC5.out
 go_upto_region 5 with (fail)
 clear c0 c1 c2 c3 c4 c5 c6
 have hsW:w.heap.size+1 < W5.heap.size:=blk_lt Z5.out
 refine Ri.wp_region_frame (by kernel_rfl) (by kernel_rfl) (by kernel_rfl) (by kernel_rfl)
   (fun L v w'=>Below (cutW w R).heap.size (cutW w R) w'∧W5.heap.size ≤ w'.heap.size∧(L 6=true→w'.heap[(w.heap.size+1)]? = some (.cells #[.int .i64 x.kind,.int .u64 (Oc.U x.w0),.int .u64 (Oc.U x.w1),.int .u64 (Oc.U x.w2),.int .u64 (Oc.U x.w3),.slice p l k,.int .i64 x.num,.int .i64 x.least,.int .i64 x.most,.bool x.bare,.int .i64 (g:Int),.int .i64 0,.int .i64 0] 34))∧(L 6=false→w'.heap[(w.heap.size+1)]? = some (.cells #[.int .i64 0,.int .u64 0,.int .u64 0,.int .u64 0,.int .u64 0,.slice none 0 0,.int .i64 0,.int .i64 0,.int .i64 0,.bool false,.int .i64 0,.int .i64 0,.int .i64 0] 34))∧w'.heap[R]? = some (.cells (stC s i fl g ov 0 0) 58)∧w'.heap[w.heap.size]? = some (.cells #[.int .i64 x.kind,.int .u64 (Oc.U x.w0),.int .u64 (Oc.U x.w1),.int .u64 (Oc.U x.w2),.int .u64 (Oc.U x.w3),.slice p l k,.int .i64 x.num,.int .i64 x.least,.int .i64 x.most,.bool x.bare] 28)∧(∀ k,k < W5.heap.size→k ≠ (w.heap.size+1)→w'.heap[k]? = W5.heap[k]?)∧(L 0=true→v 0=.agg #[.int .i64 x.kind,.int .u64 (Oc.U x.w0),.int .u64 (Oc.U x.w1),.int .u64 (Oc.U x.w2),.int .u64 (Oc.U x.w3),.slice p l k,.int .i64 x.num,.int .i64 x.least,.int .i64 x.most,.bool x.bare])∧(L 1=true→v 1=.pointer (some ⟨R,0,none⟩))∧(L 2=true→v 2=.pointer (some ⟨R,0,none⟩))∧(L 3=true→v 3=.pointer (some ⟨R,3,none⟩))∧(L 4=true→v 4=.int .i64 (g:Int))∧(L 5=true→v 5=.agg #[.int .i64 x.kind,.int .u64 (Oc.U x.w0),.int .u64 (Oc.U x.w1),.int .u64 (Oc.U x.w2),.int .u64 (Oc.U x.w3),.slice p l k,.int .i64 x.num,.int .i64 x.least,.int .i64 x.most,.bool x.bare,.int .i64 (g:Int),.int .i64 0,.int .i64 0]))
   ?_ ?_ ?_
 · exact ⟨HBC.out.drew,Nat.le_refl _,(by simp),(fun _=>Z5.out),HC5.out,B5.out,fun _ _ _=>rfl,by simp,by simp,by simp,by simp,by simp,by simp⟩
 · intro i hi9 L v w9 xa hI hL hd hv ho
   have hi':i=0 ∨ i=1 ∨ i=2 ∨ i=3 ∨ i=4 ∨ i=5 ∨ i=6:=by simp at hi9;omega
   obtain ⟨hb,hz,qn,qo,k0,k1,kf,q0,q1,q2,q3,q4,q5⟩:=hI
   rcases hi' with rfl | rfl | rfl | rfl | rfl | rfl | rfl
   · have e3:xa.tmps.getD 3 undef=.pointer (some ⟨w.heap.size,0,none⟩):=ho 3 (by kernel_rfl)
     refine Ri.step_plain rfl rfl (fun K' hK=>?_)
     refine wp_load_row _ _ rfl _ e3 _ _ _ _ k1 Tryz.underlying28 rfl (by kernel_rfl) ?_
     exact hK _ _ ⟨_,_,rfl,rfl,hb,hz,qn,qo,k0,k1,kf,fun _=>rfl,q1,q2,q3,q4,q5⟩
   · have e0:xa.tmps.getD 0 undef=.pointer (some ⟨R,0,none⟩):=ho 0 (by kernel_rfl)
     refine Ri.step_plain rfl rfl (fun K' hK=>?_)
     go_simp
     exact hK _ _ ⟨_,_,rfl,rfl,hb,hz,qn,qo,k0,k1,kf,q0,fun _=>rfl,q2,q3,q4,q5⟩
   · have l0:L 1=true:=by have:=hd _ rfl;simp [Region.binds] at this;simp [this]
     have f1:=(hv 1 37 rfl l0).trans (q1 l0)
     refine Ri.step_plain rfl rfl (fun K' hK=>?_)
     go_simp
     exact hK _ _ ⟨_,_,rfl,rfl,hb,hz,qn,qo,k0,k1,kf,q0,q1,fun _=>rfl,q3,q4,q5⟩
   · have l0:L 2=true:=by have:=hd _ rfl;simp [Region.binds] at this;simp [this]
     have f2:=(hv 2 38 rfl l0).trans (q2 l0)
     refine Ri.step_plain rfl rfl (fun K' hK=>?_)
     go_simp
     exact hK _ _ ⟨_,_,rfl,rfl,hb,hz,qn,qo,k0,k1,kf,q0,q1,q2,fun _=>rfl,q4,q5⟩
   · have l0:L 3=true:=by have:=hd _ rfl;simp [Region.binds] at this;simp [this]
     have f3:=(hv 3 39 rfl l0).trans (q3 l0)
     refine Ri.step_plain rfl rfl (fun K' hK=>?_)
     obtain ⟨_,_,_,k3',_⟩:=st7 k0
     go_simp
     exact hK _ _ ⟨_,_,rfl,rfl,hb,hz,qn,qo,k0,k1,kf,q0,q1,q2,q3,fun _=>rfl,q5⟩
   · have l0:L 0=true∧L 4=true:=by have:=hd _ rfl;simp [Region.binds] at this;simp [this]
     have f0:=(hv 0 36 rfl l0.1).trans (q0 l0.1)
     have f4:=(hv 4 40 rfl l0.2).trans (q4 l0.2)
     refine Ri.step_plain rfl rfl (fun K' hK=>?_)
     have g36:=(Array.getD_eq_getD_getElem? (xs:=xa.tmps) (i:=36) (d:=undef)).symm.trans f0
     have g40:=(Array.getD_eq_getD_getElem? (xs:=xa.tmps) (i:=40) (d:=undef)).symm.trans f4
     go_simp
     exact hK _ _ ⟨_,_,rfl,rfl,hb,hz,qn,qo,k0,k1,kf,q0,q1,q2,q3,q4,fun _=>rfl⟩
   · have l0:L 5=true:=by have:=hd _ rfl;simp [Region.binds] at this;simp [this]
     have f5:=(hv 5 41 rfl l0).trans (q5 l0)
     have e4:xa.tmps.getD 4 undef=.pointer (some ⟨w.heap.size+1,0,none⟩):=ho 4 (by kernel_rfl)
     refine Ri.step_plain rfl rfl (fun K' hK=>?_)
     refine wp_store_row _ _ _ rfl (w.heap.size+1) #[.int .i64 x.kind,.int .u64 (Oc.U x.w0),.int .u64 (Oc.U x.w1),.int .u64 (Oc.U x.w2),.int .u64 (Oc.U x.w3),.slice p l k,.int .i64 x.num,.int .i64 x.least,.int .i64 x.most,.bool x.bare,.int .i64 (g:Int),.int .i64 0,.int .i64 0] e4 f5 34 _ (qo hL) (by kernel_rfl) (by kernel_rfl) (by simp [Value.oneCell']) ?_
     exact hK _ _ ⟨_,undef,rfl,rfl,below_setRow hb hcut _,by simpa using hz,(fun _=>heap_setRow (qo hL)),(fun h=>by cases h),(heap_setRow_other _ _ _ (by omega)).trans k0,(heap_setRow_other _ _ _ (by omega)).trans k1,(fun k hk hn=>(heap_setRow_other _ _ _ hn).trans (kf k hk hn)),q0,q1,q2,q3,q4,q5⟩
 · rintro v w9 ⟨hb,hz,qn,-,k0,k1,kf,-,-,-,-,-,-⟩
   have zN:=qn rfl;clear qn
   simp only [Ri.frame,List.zipIdx,List.foldl_cons,List.foldl_nil,if_true,List.setIfInBounds_toArray,List.set_cons_zero,List.set_cons_succ,Nat.reduceAdd]
   generalize v 0=y0;generalize v 1=y1;generalize v 2=y2;generalize v 3=y3;generalize v 4=y4;generalize v 5=y5
   have HTx:Touch [R] w w9:=⟨hb.os,hb.tape,hb.output,Nat.le_trans HT5.out.size hz,fun k hk hn=>(kf k (Nat.lt_of_lt_of_le hk HT5.out.size) (by omega)).trans (HT5.out.block k hk hn)⟩
   go_wp2_with fail
   exact bodyPost_ret (results_cell_row rfl _ _ (w.heap.size+1) 34 #[.int .i64 x.kind,.int .u64 (Oc.U x.w0),.int .u64 (Oc.U x.w1),.int .u64 (Oc.U x.w2),.int .u64 (Oc.U x.w3),.slice p l k,.int .i64 x.num,.int .i64 x.least,.int .i64 x.most,.bool x.bare,.int .i64 (g:Int),.int .i64 0,.int .i64 0] (0,0) _ rfl zN Tryz.underlying34 rfl (by kernel_rfl)) rfl ⟨rfl,HTx⟩
end Go.Proofs.YtfcilopifjddpaaGreatDoor
namespace Go.Proofs.YtfcilopifjddpaaGreatDoor
open Go.RowKit
def AnsIs (O:Ep.Out) (w w':World) (v:Value):Prop:=match O with
 | .ok x _ g=>∃ p l k,v=ansOk x p l k g∧TreesAt w' (fun b=>w.heap.size ≤ b) (.slice p l k) x.subs
 | .err c q=>v=ansErr c q∧c ≠ 0
def EsAns (O:Ep.Out) (w:World) (e:Ending) (w':World):Prop:=∃ v,e=.returned v∧AnsIs O w w' v∧Below w.heap.size w w'
end Go.Proofs.YtfcilopifjddpaaGreatDoor
namespace Go.Proofs.YtfcilopifjddpaaGreatDoor
open Go.RowKit
theorem bswhole_of {f:Nat→Nat} {n:Nat} {ic nl:Bool} (hf:Br.Txt f n) (hn:n ≤ 1024):match bsb 0 f (Bp.pat f n ic nl 32 0 0) with
   | .err c q=>Bp.whole f n ic nl=.err c q
   | .ok t _ g=>t.InForm∧(2000 < t.szT→Bp.whole f n ic nl=.err 10 n)∧(t.szT ≤ 2000→∃ j,Bp.whole f n ic nl=.ok t j g):=by
 unfold Bp.whole
 cases hp:Bp.pat f n ic nl 32 0 0 with
 | err c q=>rfl
 | ok t j g =>
   have h1:=Bp.seq_next hf (Bp.group_next hf 32) (by omega) hp
   have h2:=(Bp.seq_form hf (Bp.group_next hf 32) (Bp.group_right hf hn 32) (by omega) (by omega) hp).1
   have h3:=bsseq_stop hp
   by_cases hc:Bp.two f 92 41 j=true
   · have hj:=Bp.two_lt hf hc (by omega) (by omega)
     have e:bsb 0 f (.ok t j g)=.err 2 j:=if_pos ⟨rfl,hc⟩
     rw [e]
     simp only
     rw [if_pos (by omega)]
   · have hj:n ≤ j:=by rcases h3 with h | h;exact h;exact absurd h hc
     have e:bsb 0 f (.ok t j g)=.ok t j g:=if_neg (fun h=>hc h.2)
     rw [e]
     simp only
     rw [if_neg (by omega)]
     exact ⟨h2,fun h=>if_pos h,fun h=>⟨j,if_neg (by omega)⟩⟩
theorem bsparse_long (w:World) (s:ByteArray) (fl:Int) (hs:1024 < s.size):Calls Tryz.prog 9 #[.string s,.int .i64 fl] w (EsAns (.err 12 1024) w):=by
 have hd:decide ((1024:Int) < s.size)=true:=by simp;omega
 have hd':decide (1024 < s.size)=true:=by simpa using hs
 have Z0:=Lib.hid (heap_alloc_new w (.cells #[.int .i64 0,.int .u64 0,.int .u64 0,.int .u64 0,.int .u64 0,.slice none 0 0,.int .i64 0,.int .i64 0,.int .i64 0,.bool false,.int .i64 0,.int .i64 0,.int .i64 0] 34))
 have HB0:=Lib.hid ((Below.refl w.heap.size w).alloc (Nat.le_refl _) (.cells #[.int .i64 0,.int .u64 0,.int .u64 0,.int .u64 0,.int .u64 0,.slice none 0 0,.int .i64 0,.int .i64 0,.int .i64 0,.bool false,.int .i64 0,.int .i64 0,.int .i64 0] 34))
 clear hs
 go_enter Tryz.func9,Tryz.ntmps9
 go_wp2_with (first
   | (refine wpList_store_row rfl 34 (.tmp 4) (.tmp 10) rfl w.heap.size #[.int .i64 0,.int .u64 0,.int .u64 0,.int .u64 0,.int .u64 0,.slice none 0 0,.int .i64 0,.int .i64 0,.int .i64 0,.bool false,.int .i64 0,.int .i64 12,.int .i64 1024] rfl rfl 34 _ Z0.out (by kernel_rfl) rfl (by simp [Value.oneCell']) ?_)
   | fail)
 exact bodyPost_ret (results_cell_row rfl _ _ w.heap.size 34 #[.int .i64 0,.int .u64 0,.int .u64 0,.int .u64 0,.int .u64 0,.slice none 0 0,.int .i64 0,.int .i64 0,.int .i64 0,.bool false,.int .i64 0,.int .i64 12,.int .i64 1024] (0,0) _ rfl (heap_setRow Z0.out) Tryz.underlying34 rfl (by kernel_rfl)) rfl ⟨_,rfl,⟨rfl,by decide⟩,below_setRow HB0.out (Nat.le_refl _) _⟩
theorem bsparse_short (w:World) (s:ByteArray) (fl:Int) (hs:s.size ≤ 1024):Calls Tryz.prog 9 #[.string s,.int .i64 fl] w (EsAns (Bp.whole (bt s) s.size (icB fl) (nlB fl)) w):=by
 have hd:decide ((1024:Int) < s.size)=false:=by simp;omega
 have hd':decide (1024 < s.size)=false:=by simp;omega
 have hb2:Below w.heap.size w ((w.alloc (.cells #[.int .i64 0,.int .u64 0,.int .u64 0,.int .u64 0,.int .u64 0,.slice none 0 0,.int .i64 0,.int .i64 0,.int .i64 0,.bool false,.int .i64 0,.int .i64 0,.int .i64 0] 34)).alloc (.cells (stC s 0 fl 0 (.slice none 0 0) 0 0) 58)):=((Below.refl w.heap.size w).alloc (Nat.le_refl _) _).alloc (by simp) _
 have HB2:=Lib.hid hb2
 have hs2:((w.alloc (.cells #[.int .i64 0,.int .u64 0,.int .u64 0,.int .u64 0,.int .u64 0,.slice none 0 0,.int .i64 0,.int .i64 0,.int .i64 0,.bool false,.int .i64 0,.int .i64 0,.int .i64 0] 34)).alloc (.cells (stC s 0 fl 0 (.slice none 0 0) 0 0) 58)).heap.size=w.heap.size+2:=by simp
 have Z2:=Lib.hid (two_new w (.cells #[.int .i64 0,.int .u64 0,.int .u64 0,.int .u64 0,.int .u64 0,.slice none 0 0,.int .i64 0,.int .i64 0,.int .i64 0,.bool false,.int .i64 0,.int .i64 0,.int .i64 0] 34) (.cells (stC s 0 fl 0 (.slice none 0 0) 0 0) 58)).1
 have HC2:=Lib.hid (two_new w (.cells #[.int .i64 0,.int .u64 0,.int .u64 0,.int .u64 0,.int .u64 0,.slice none 0 0,.int .i64 0,.int .i64 0,.int .i64 0,.bool false,.int .i64 0,.int .i64 0,.int .i64 0] 34) (.cells (stC s 0 fl 0 (.slice none 0 0) 0 0) 58)).2
 have hw0:=bswhole_of (ic:=icB fl) (nl:=nlB fl) (bt_txt s) hs
 generalize Bp.whole (bt s) s.size (icB fl) (nlB fl)=O at *
 have HW:=Lib.hid hw0
 clear hw0
 have hop:Opn ((w.alloc (.cells #[.int .i64 0,.int .u64 0,.int .u64 0,.int .u64 0,.int .u64 0,.slice none 0 0,.int .i64 0,.int .i64 0,.int .i64 0,.bool false,.int .i64 0,.int .i64 0,.int .i64 0] 34)).alloc (.cells (stC s 0 fl 0 (.slice none 0 0) 0 0) 58)) (w.heap.size+1) 0 (.slice none 0 0):=⟨[],World.ownsRow_nil _ _ _ _⟩
 have HPC:=Lib.hid (bspat_any _ (w.heap.size+1) s hs fl _ HC2.out hop)
 clear hb2 hs hop
 go_enter Tryz.func9,Tryz.ntmps9
 go_upto_region 4 with (fail)
 go_wp2_with fail
 refine HPC.out.mono ?_
 intro e w3 he
 clear HPC
 obtain ⟨ov3,x,p,l,k,rfl,-,-,ht3,hAB⟩:=he.cases
 generalize (w.alloc _).alloc _=W2 at *
 have ht3':Touch [w.heap.size+1] W2 w3:=ht3.mono (fun k hk=>by rcases mem_obs.1 hk with h | h;exact List.mem_singleton.2 h;cases h)
 have Z3:=Lib.hid ((ht3'.block w.heap.size (blk_lt Z2.out) (by simp)).trans Z2.out)
 have HT3:=Lib.hid ((Touch.of_below [w.heap.size+1] HB2.out).trans ht3')
 have HAB:=Lib.hid hAB
 clear he ht3 ht3' hAB Z2 HB2 HC2
 unfold Tr.cells
 go_upto_region 5 with (fail)
 have hbx:Below w3.heap.size w3 (w3.alloc (.cells #[.int .i64 x.kind,.int .u64 (Oc.U x.w0),.int .u64 (Oc.U x.w1),.int .u64 (Oc.U x.w2),.int .u64 (Oc.U x.w3),.slice p l k,.int .i64 x.num,.int .i64 x.least,.int .i64 x.most,.bool x.bare] 28)):=(Below.refl _ _).alloc (Nat.le_refl _) _
 have HBX:=Lib.hid hbx
 have HTX:=Lib.hid (HT3.out.later hbx);have ZX:=Lib.hid (keep_blk hbx Z3.out);have YX:=Lib.hid (heap_alloc_new w3 (.cells #[.int .i64 x.kind,.int .u64 (Oc.U x.w0),.int .u64 (Oc.U x.w1),.int .u64 (Oc.U x.w2),.int .u64 (Oc.U x.w3),.slice p l k,.int .i64 x.num,.int .i64 x.least,.int .i64 x.most,.bool x.bare] 28))
 obtain ⟨d0,d1,d2,d3,d4,d5,d6,d7,d8,d9⟩:=allTen YX.out
 clear hbx Z3 HT3 YX
 generalize w3.alloc (.cells #[.int .i64 x.kind,.int .u64 (Oc.U x.w0),.int .u64 (Oc.U x.w1),.int .u64 (Oc.U x.w2),.int .u64 (Oc.U x.w3),.slice p l k,.int .i64 x.num,.int .i64 x.least,.int .i64 x.most,.bool x.bare] 28)=WX at *
 rcases HAB.out with ⟨j,g,hO,htr,hc⟩ | ⟨c,q,j,g,hO,hcn,hc,-,-⟩
 · have hw:=HW.out
   rw [hO] at hw
   obtain ⟨hf,hbig,hok⟩:=hw
   have htX:=htr.later HBX.out
   have hcX:=keep_blk HBX.out hc
   by_cases hsz:2000 < x.szT
   · have HOW:=Lib.hid (hbig hsz)
     have hd5:=esdone_big WX _ s j fl g _ hcX x p l k _ htX hf hsz
     unfold Tr.cells ansErr at hd5
     have HD5:=Lib.hid hd5
     clear hd5 hbig hok htX hcX htr hc HAB HW hf hsz hO
     go_wp2_with fail
     refine HD5.out.mono ?_
     rintro e w5 ⟨rfl,ht5⟩
     have HT5:=Lib.hid (HTX.out.trans ht5)
     have Z5:=Lib.hid ((ht5.block w.heap.size (blk_lt ZX.out) (by simp)).trans ZX.out)
     clear ht5
     go_wp2_with (first
       | (refine wpList_store_row rfl 34 (.tmp 4) (.tmp 19) rfl w.heap.size #[.int .i64 0,.int .u64 0,.int .u64 0,.int .u64 0,.int .u64 0,.slice none 0 0,.int .i64 0,.int .i64 0,.int .i64 0,.bool false,.int .i64 0,.int .i64 10,.int .i64 (s.size:Int)] rfl rfl 34 _ Z5.out (by kernel_rfl) rfl (by simp [Value.oneCell']) ?_)
       | fail)
     exact bodyPost_ret (results_cell_row rfl _ _ w.heap.size 34 #[.int .i64 0,.int .u64 0,.int .u64 0,.int .u64 0,.int .u64 0,.slice none 0 0,.int .i64 0,.int .i64 0,.int .i64 0,.bool false,.int .i64 0,.int .i64 10,.int .i64 (s.size:Int)] (0,0) _ rfl (heap_setRow Z5.out) Tryz.underlying34 rfl (by kernel_rfl)) rfl ⟨_,rfl,(by rw [HOW.out];exact ⟨rfl,by decide⟩),below_setRow (HT5.out.below (fun k hk=>by have:=List.mem_singleton.1 hk;omega) (Nat.le_refl _)) (Nat.le_refl _) _⟩
   · obtain ⟨j',hok2⟩:=hok (by omega)
     have HOW:=Lib.hid hok2
     have hd5:=esdone_ok WX _ s j fl g _ hcX x p l k _ htX hf (by omega)
     unfold Tr.cells ansOk at hd5
     have HD5:=Lib.hid hd5;have HTR:=Lib.hid htX
     clear hd5 hbig hok hok2 htX hcX htr hc HAB HW hf hsz hO
     go_wp2_with fail
     refine HD5.out.mono ?_
     rintro e w5 ⟨rfl,ht5⟩
     have HT5:=Lib.hid (HTX.out.trans ht5)
     have Z5:=Lib.hid ((ht5.block w.heap.size (blk_lt ZX.out) (by simp)).trans ZX.out)
     have HTR5:=Lib.hid (HTR.out.keep fun b hb hP=>ht5.block b hb (by simp;rcases hP.1 with h | h;exact h.elim;omega))
     clear ht5
     go_wp2_with (first
       | (refine wpList_store_row rfl 34 (.tmp 4) (.tmp 19) rfl w.heap.size #[.int .i64 x.kind,.int .u64 (Oc.U x.w0),.int .u64 (Oc.U x.w1),.int .u64 (Oc.U x.w2),.int .u64 (Oc.U x.w3),.slice p l k,.int .i64 x.num,.int .i64 x.least,.int .i64 x.most,.bool x.bare,.int .i64 (g:Int),.int .i64 0,.int .i64 0] rfl rfl 34 _ Z5.out (by kernel_rfl) rfl (by simp [Value.oneCell']) ?_)
       | fail)
     exact bodyPost_ret (results_cell_row rfl _ _ w.heap.size 34 #[.int .i64 x.kind,.int .u64 (Oc.U x.w0),.int .u64 (Oc.U x.w1),.int .u64 (Oc.U x.w2),.int .u64 (Oc.U x.w3),.slice p l k,.int .i64 x.num,.int .i64 x.least,.int .i64 x.most,.bool x.bare,.int .i64 (g:Int),.int .i64 0,.int .i64 0] (0,0) _ rfl (heap_setRow Z5.out) Tryz.underlying34 rfl (by kernel_rfl)) rfl ⟨_,rfl,(by rw [HOW.out];exact ⟨p,l,k,rfl,(HTR5.out.keep fun b _ hP=>heap_setRow_other _ _ _ (fun e=>by rcases hP.1 with h | h;exact h.elim;omega)).mono fun b _ hP=>by rcases hP.1 with h | h;exact h.elim;omega⟩),below_setRow (HT5.out.below (fun k hk=>by have:=List.mem_singleton.1 hk;omega) (Nat.le_refl _)) (Nat.le_refl _) _⟩
 · have hw:=HW.out
   rw [hO] at hw
   have HOW:Hid (O=.err c q):=Lib.hid hw
   have hd5:=esdone_err WX _ s j fl g _ c q (keep_blk HBX.out hc) hcn x p l k
   unfold Tr.cells ansErr at hd5
   have HD5:=Lib.hid hd5
   clear hd5 hw hc HAB HW hO
   go_wp2_with fail
   refine HD5.out.mono ?_
   rintro e w5 ⟨rfl,ht5⟩
   have HT5:=Lib.hid (HTX.out.trans ht5)
   have Z5:=Lib.hid ((ht5.block w.heap.size (blk_lt ZX.out) (by simp)).trans ZX.out)
   clear ht5
   go_wp2_with (first
     | (refine wpList_store_row rfl 34 (.tmp 4) (.tmp 19) rfl w.heap.size #[.int .i64 0,.int .u64 0,.int .u64 0,.int .u64 0,.int .u64 0,.slice none 0 0,.int .i64 0,.int .i64 0,.int .i64 0,.bool false,.int .i64 0,.int .i64 (c:Int),.int .i64 q] rfl rfl 34 _ Z5.out (by kernel_rfl) rfl (by simp [Value.oneCell']) ?_)
     | fail)
   exact bodyPost_ret (results_cell_row rfl _ _ w.heap.size 34 #[.int .i64 0,.int .u64 0,.int .u64 0,.int .u64 0,.int .u64 0,.slice none 0 0,.int .i64 0,.int .i64 0,.int .i64 0,.bool false,.int .i64 0,.int .i64 (c:Int),.int .i64 q] (0,0) _ rfl (heap_setRow Z5.out) Tryz.underlying34 rfl (by kernel_rfl)) rfl ⟨_,rfl,(by rw [HOW.out];exact ⟨rfl,hcn⟩),below_setRow (HT5.out.below (fun k hk=>by have:=List.mem_singleton.1 hk;omega) (Nat.le_refl _)) (Nat.le_refl _) _⟩
theorem bsparse_any (w:World) (s:ByteArray) (fl:Int):Calls Tryz.prog 9 #[.string s,.int .i64 fl] w (EsAns (Bp.parse (bt s) s.size (icB fl) (nlB fl)) w):=by
 unfold Bp.parse
 by_cases h:1024 < s.size
 · rw [if_pos h];exact bsparse_long w s fl h
 · rw [if_neg h];exact bsparse_short w s fl (by omega)
end Go.Proofs.YtfcilopifjddpaaGreatDoor
namespace Go.Proofs.YtfcilopifjddpaaGreatDoor
open Go.RowKit
theorem thirteen {w:World} {b:Nat} {x0 x1 x2 x3 x4 x5 x6 x7 x8 x9 x10 x11 x12:Value} {t:TypeId} (h:w.heap[b]? = some (.cells #[x0,x1,x2,x3,x4,x5,x6,x7,x8,x9,x10,x11,x12] t)) :
   w.cell? ⟨b,0,none⟩=some x0∧w.cell? ⟨b,1,none⟩=some x1∧w.cell? ⟨b,2,none⟩=some x2∧w.cell? ⟨b,3,none⟩=some x3∧w.cell? ⟨b,4,none⟩=some x4∧w.cell? ⟨b,5,none⟩=some x5∧w.cell? ⟨b,6,none⟩=some x6∧w.cell? ⟨b,7,none⟩=some x7∧w.cell? ⟨b,8,none⟩=some x8∧w.cell? ⟨b,9,none⟩=some x9∧w.cell? ⟨b,10,none⟩=some x10∧w.cell? ⟨b,11,none⟩=some x11∧w.cell? ⟨b,12,none⟩=some x12:=by
 simp [World.cell?,h]
theorem breparses_ok (A:Nat→Addr) (x:ByteArray) (fl:Int) (w:World) (hE:BrEnv w A) (hT:ErrType w) (T:Tr) (j g:Nat) (hO:Bp.parse (bt x) x.size (icB fl) (nlB fl)=.ok T j g) :
   Calls Tryz.prog 3 #[.string x,.int .i64 fl] w fun e w'=>e=.returned (.bool true)∧Below w.heap.size w w':=by
 have hf:=fun w=>bsparse_any w x fl
 rw [hO] at hf
 have HL:=Lib.hid (bqlives_any A w hE hT)
 have HE:=Lib.hid hE;have HT:=Lib.hid hT
 have HD:=Lib.hid bqparse_does;have HF:=Lib.hid hf
 have HOO:=Lib.hid hO
 clear hE hT hO hf
 go_enter Tryz.func3,Tryz.ntmps3
 go_wp2_with fail
 refine HL.out.mono ?_;rintro e w1 ⟨rfl,hb1⟩
 have HB1S:=Lib.hid hb1.size;have HB1:=Lib.hid hb1;have HE1:=Lib.hid (HE.out.below hb1)
 clear hb1 HL
 go_wp2_with fail
 refine (HD.out A _ x fl HE1.out).mono ?_
 intro e w2 he
 obtain ⟨v2,F2,rfl,ho2,hF2,hb2⟩:=he.ok HOO.out
 obtain ⟨p2,c2,rfl,-⟩:=ho2.slice
 have HL2:=Lib.hid ho2.lt;have HF2:=Lib.hid hF2
 have hk2:=hb2.alloc hb2.size (.cells #[.int .i64 T.kind,.int .u64 (Oc.U T.w0),.int .u64 (Oc.U T.w1),.int .u64 (Oc.U T.w2),.int .u64 (Oc.U T.w3),.slice p2 T.subs.length c2,.int .i64 T.num,.int .i64 T.least,.int .i64 T.most,.bool T.bare] 28)
 have hb2n:Below w2.heap.size w2 (w2.alloc (.cells #[.int .i64 T.kind,.int .u64 (Oc.U T.w0),.int .u64 (Oc.U T.w1),.int .u64 (Oc.U T.w2),.int .u64 (Oc.U T.w3),.slice p2 T.subs.length c2,.int .i64 T.num,.int .i64 T.least,.int .i64 T.most,.bool T.bare] 28)):=(Below.refl _ _).alloc (Nat.le_refl _) _
 have HB2:=Lib.hid (HB1.out.trans (hk2.mono HB1.out.size))
 have HE2:=Lib.hid (HE.out.below HB2.out)
 have Z2:=Lib.hid (heap_alloc_new w2 (.cells #[.int .i64 T.kind,.int .u64 (Oc.U T.w0),.int .u64 (Oc.U T.w1),.int .u64 (Oc.U T.w2),.int .u64 (Oc.U T.w3),.slice p2 T.subs.length c2,.int .i64 T.num,.int .i64 T.least,.int .i64 T.most,.bool T.bare] 28))
 have HX2:=Lib.hid (ho2.later hb2n)
 have hs12:=hb2.size
 clear he hk2 hb2n hb2 ho2 hF2
 unfold Tr.cells at *
 go_wp2_with fail
 refine (HD.out A _ x fl HE2.out).mono ?_
 intro e w3 he
 obtain ⟨v3,F3,rfl,ho3,hF3,hb3⟩:=he.ok HOO.out
 obtain ⟨p3,c3,rfl,-⟩:=ho3.slice
 have hk3:=hb3.alloc hb3.size (.cells #[.int .i64 T.kind,.int .u64 (Oc.U T.w0),.int .u64 (Oc.U T.w1),.int .u64 (Oc.U T.w2),.int .u64 (Oc.U T.w3),.slice p3 T.subs.length c3,.int .i64 T.num,.int .i64 T.least,.int .i64 T.most,.bool T.bare] 28)
 have hb3n:Below w3.heap.size w3 (w3.alloc (.cells #[.int .i64 T.kind,.int .u64 (Oc.U T.w0),.int .u64 (Oc.U T.w1),.int .u64 (Oc.U T.w2),.int .u64 (Oc.U T.w3),.slice p3 T.subs.length c3,.int .i64 T.num,.int .i64 T.least,.int .i64 T.most,.bool T.bare] 28)):=(Below.refl _ _).alloc (Nat.le_refl _) _
 have HB3:=Lib.hid (HB2.out.trans (hk3.mono HB2.out.size))
 have Z3:=Lib.hid (heap_alloc_new w3 (.cells #[.int .i64 T.kind,.int .u64 (Oc.U T.w0),.int .u64 (Oc.U T.w1),.int .u64 (Oc.U T.w2),.int .u64 (Oc.U T.w3),.slice p3 T.subs.length c3,.int .i64 T.num,.int .i64 T.least,.int .i64 T.most,.bool T.bare] 28))
 have HX3:=Lib.hid ((ho3.trees.mono (fun b _ hb=>hF3 b hb)).later hb3n)
 have HY2:=Lib.hid (HX2.out.later hk3)
 have Y2:=Lib.hid (keep_blk hk3 Z2.out)
 have hs23:w2.heap.size+1 ≤ w3.heap.size:=by have:=hb3.size;simpa using this
 clear he hk3 hb3n hb3 HX2 Z2 ho3 hF3
 unfold Tr.cells at *
 go_wp2_with fail
 refine (HF.out _).mono ?_
 rintro e w4 ⟨v4,rfl,ha4,hb4⟩
 obtain ⟨p4,l4,c4,rfl,ht4⟩:=ha4
 have hk4:=hb4.alloc hb4.size (.cells #[.int .i64 T.kind,.int .u64 (Oc.U T.w0),.int .u64 (Oc.U T.w1),.int .u64 (Oc.U T.w2),.int .u64 (Oc.U T.w3),.slice p4 l4 c4,.int .i64 T.num,.int .i64 T.least,.int .i64 T.most,.bool T.bare,.int .i64 (g:Int),.int .i64 0,.int .i64 0] 34)
 have hb4n:Below w4.heap.size w4 (w4.alloc (.cells #[.int .i64 T.kind,.int .u64 (Oc.U T.w0),.int .u64 (Oc.U T.w1),.int .u64 (Oc.U T.w2),.int .u64 (Oc.U T.w3),.slice p4 l4 c4,.int .i64 T.num,.int .i64 T.least,.int .i64 T.most,.bool T.bare,.int .i64 (g:Int),.int .i64 0,.int .i64 0] 34)):=(Below.refl _ _).alloc (Nat.le_refl _) _
 have HB4:=Lib.hid (HB3.out.trans (hk4.mono HB3.out.size))
 have Z4:=Lib.hid (heap_alloc_new w4 (.cells #[.int .i64 T.kind,.int .u64 (Oc.U T.w0),.int .u64 (Oc.U T.w1),.int .u64 (Oc.U T.w2),.int .u64 (Oc.U T.w3),.slice p4 l4 c4,.int .i64 T.num,.int .i64 T.least,.int .i64 T.most,.bool T.bare,.int .i64 (g:Int),.int .i64 0,.int .i64 0] 34))
 have X3:=Lib.hid (keep_blk hk4 Z3.out);have X2:=Lib.hid (keep_blk hk4 Y2.out)
 have HV3:=Lib.hid (HX3.out.later hk4);have HV2:=Lib.hid (HY2.out.later hk4)
 have HV4:=Lib.hid (ht4.later hb4n)
 have HEW:=Lib.hid (HE.out.below HB4.out);have HTW:=Lib.hid (HT.out.later HB4.out)
 have hs34:w3.heap.size+1 ≤ w4.heap.size:=by have:=hb4.size;simpa using this
 clear hk4 hb4n hb4 HX3 HY2 Z3 Y2 HB1 HB2 HB3 HE1 HE2 HD HF HOO HE HT ht4
 unfold ansOk
 go_wp2_with fail
 generalize World.alloc w4 _=W at *
 have HSN:=Lib.hid (fun w' (hb:Below W.heap.size W w')=>(samenodes_any T T w' _ _ _ _ ⟨_,rfl,HV2.out.trees.later hb⟩ ⟨_,rfl,HV4.out.later hb⟩).mono (fun _ _ h=>h.yes rfl))
 unfold Tr.cells at HSN
 refine Ri.wp_region_frame (by kernel_rfl) (by kernel_rfl) (by kernel_rfl) (by kernel_rfl)
   (fun L v w'=>Below W.heap.size W w'∧(L 0=true→v 0=.nilIface)∧(L 1=true→v 1=.int .i64 0)∧(L 2=true→v 2=.pointer (some ⟨w4.heap.size,11,none⟩))∧(L 3=true→v 3=.int .i64 0)∧(L 4=true→v 4=.bool false)∧(L 5=true→v 5=.bool false)∧(L 6=true→v 6=.nilIface)∧(L 7=true→v 7=.int .i64 0)∧(L 8=true→v 8=.pointer (some ⟨w4.heap.size,11,none⟩))∧(L 9=true→v 9=.int .i64 0)∧(L 10=true→v 10=.bool false)∧(L 11=true→v 11=.bool false)∧(L 12=true→v 12=.bool false)∧(L 13=true→v 13=.int .i64 (g:Int))∧(L 14=true→v 14=.pointer (some ⟨w4.heap.size,10,none⟩))∧(L 15=true→v 15=.int .i64 (g:Int))∧(L 16=true→v 16=.bool false)∧(L 17=true→v 17=.bool false)∧(L 18=true→v 18=.bool false)∧(L 19=true→v 19=.int .i64 (g:Int))∧(L 20=true→v 20=.int .i64 (g:Int))∧(L 21=true→v 21=.bool false)∧(L 22=true→v 22=.bool false)∧(L 23=true→v 23=.bool false)∧(L 24=true→v 24=.agg #[.int .i64 T.kind,.int .u64 (Oc.U T.w0),.int .u64 (Oc.U T.w1),.int .u64 (Oc.U T.w2),.int .u64 (Oc.U T.w3),.slice p2 T.subs.length c2,.int .i64 T.num,.int .i64 T.least,.int .i64 T.most,.bool T.bare])∧(L 25=true→v 25=.pointer (some ⟨w4.heap.size,0,none⟩))∧(L 26=true→v 26=.agg #[.int .i64 T.kind,.int .u64 (Oc.U T.w0),.int .u64 (Oc.U T.w1),.int .u64 (Oc.U T.w2),.int .u64 (Oc.U T.w3),.slice p4 l4 c4,.int .i64 T.num,.int .i64 T.least,.int .i64 T.most,.bool T.bare])∧(L 27=true→v 27=.bool true)∧(L 28=true→v 28=.bool false)∧(L 29=true→v 29=.bool false))
   ?_ ?_ ?_
 · exact ⟨(Below.refl _ _).drew,by simp,by simp,by simp,by simp,by simp,by simp,by simp,by simp,by simp,by simp,by simp,by simp,by simp,by simp,by simp,by simp,by simp,by simp,by simp,by simp,by simp,by simp,by simp,by simp,by simp,by simp,by simp,by simp,by simp,by simp⟩
 · intro i hi9 L v w9 xa hI hL hd hv ho
   have hi':i=0 ∨ i=1 ∨ i=2 ∨ i=3 ∨ i=4 ∨ i=5 ∨ i=6 ∨ i=7 ∨ i=8 ∨ i=9 ∨ i=10 ∨ i=11 ∨ i=12 ∨ i=13 ∨ i=14 ∨ i=15 ∨ i=16 ∨ i=17 ∨ i=18 ∨ i=19 ∨ i=20 ∨ i=21 ∨ i=22 ∨ i=23 ∨ i=24 ∨ i=25 ∨ i=26 ∨ i=27 ∨ i=28 ∨ i=29:=by simp at hi9;omega
   obtain ⟨hb,q0,q1,q2,q3,q4,q5,q6,q7,q8,q9,q10,q11,q12,q13,q14,q15,q16,q17,q18,q19,q20,q21,q22,q23,q24,q25,q26,q27,q28,q29⟩:=hI
   rcases hi' with rfl | rfl | rfl | rfl | rfl | rfl | rfl | rfl | rfl | rfl | rfl | rfl | rfl | rfl | rfl | rfl | rfl | rfl | rfl | rfl | rfl | rfl | rfl | rfl | rfl | rfl | rfl | rfl | rfl | rfl
   · have e7:xa.tmps.getD 7 undef=.nilIface:=ho 7 (by kernel_rfl)
     refine Ri.step_plain rfl rfl (fun K' hK=>?_)
     go_simp
     exact hK _ _ ⟨_,_,rfl,rfl,hb,fun _=>rfl,q1,q2,q3,q4,q5,q6,q7,q8,q9,q10,q11,q12,q13,q14,q15,q16,q17,q18,q19,q20,q21,q22,q23,q24,q25,q26,q27,q28,q29⟩
   · have l0:L 0=true:=by have:=hd _ rfl;simp [Region.binds] at this;simp [this]
     have f0:=(hv 0 31 rfl l0).trans (q0 l0)
     refine Ri.step_plain rfl rfl (fun K' hK=>?_)
     go_simp
     refine (num_nil _).mono ?_
     rintro e w8 ⟨rfl,rfl⟩
     exact hK _ _ ⟨_,_,rfl,rfl,hb,q0,fun _=>rfl,q2,q3,q4,q5,q6,q7,q8,q9,q10,q11,q12,q13,q14,q15,q16,q17,q18,q19,q20,q21,q22,q23,q24,q25,q26,q27,q28,q29⟩
   · have e11:xa.tmps.getD 11 undef=.pointer (some ⟨w4.heap.size,0,none⟩):=ho 11 (by kernel_rfl)
     refine Ri.step_plain rfl rfl (fun K' hK=>?_)
     go_simp
     exact hK _ _ ⟨_,_,rfl,rfl,hb,q0,q1,fun _=>rfl,q3,q4,q5,q6,q7,q8,q9,q10,q11,q12,q13,q14,q15,q16,q17,q18,q19,q20,q21,q22,q23,q24,q25,q26,q27,q28,q29⟩
   · have l0:L 2=true:=by have:=hd _ rfl;simp [Region.binds] at this;simp [this]
     have f2:=(hv 2 33 rfl l0).trans (q2 l0)
     refine Ri.step_plain rfl rfl (fun K' hK=>?_)
     obtain ⟨e0,e1,e2,e3,e4,e5,e6,e7,e8,e9,e10,e11,e12⟩:=thirteen (keep_blk hb Z4.out)
     go_simp
     exact hK _ _ ⟨_,_,rfl,rfl,hb,q0,q1,q2,fun _=>rfl,q4,q5,q6,q7,q8,q9,q10,q11,q12,q13,q14,q15,q16,q17,q18,q19,q20,q21,q22,q23,q24,q25,q26,q27,q28,q29⟩
   · have l0:L 1=true∧L 3=true:=by have:=hd _ rfl;simp [Region.binds] at this;simp [this]
     have f1:=(hv 1 32 rfl l0.1).trans (q1 l0.1)
     have f3:=(hv 3 34 rfl l0.2).trans (q3 l0.2)
     refine Ri.step_plain rfl rfl (fun K' hK=>?_)
     go_simp
     exact hK _ _ ⟨_,_,rfl,rfl,hb,q0,q1,q2,q3,fun _=>rfl,q5,q6,q7,q8,q9,q10,q11,q12,q13,q14,q15,q16,q17,q18,q19,q20,q21,q22,q23,q24,q25,q26,q27,q28,q29⟩
   · have l0:L 4=true:=by have:=hd _ rfl;simp [Region.binds] at this;simp [this]
     have f4:=(hv 4 35 rfl l0).trans (q4 l0)
     refine Ri.step_plain rfl rfl (fun K' hK=>?_)
     go_simp
     exact hK _ _ ⟨_,_,rfl,rfl,hb,q0,q1,q2,q3,q4,fun _=>rfl,q6,q7,q8,q9,q10,q11,q12,q13,q14,q15,q16,q17,q18,q19,q20,q21,q22,q23,q24,q25,q26,q27,q28,q29⟩
   · have l0:L 5=true:=by have:=hd _ rfl;simp [Region.binds] at this;simp [this]
     have f5:=(hv 5 36 rfl l0).trans (q5 l0)
     have e10:xa.tmps.getD 10 undef=.nilIface:=ho 10 (by kernel_rfl)
     refine Ri.step_wanted (b:=false) rfl rfl rfl f5 (fun K' hK=>?_)
     go_simp
     exact hK _ _ ⟨_,_,rfl,rfl,hb,q0,q1,q2,q3,q4,q5,fun _=>rfl,q7,q8,q9,q10,q11,q12,q13,q14,q15,q16,q17,q18,q19,q20,q21,q22,q23,q24,q25,q26,q27,q28,q29⟩
   · have l0:L 5=true∧L 6=true:=by have:=hd _ rfl;simp [Region.binds] at this;simp [this]
     have f5:=(hv 5 36 rfl l0.1).trans (q5 l0.1)
     have f6:=(hv 6 37 rfl l0.2).trans (q6 l0.2)
     refine Ri.step_wanted (b:=false) rfl rfl rfl f5 (fun K' hK=>?_)
     go_simp
     refine (num_nil _).mono ?_
     rintro e w8 ⟨rfl,rfl⟩
     exact hK _ _ ⟨_,_,rfl,rfl,hb,q0,q1,q2,q3,q4,q5,q6,fun _=>rfl,q8,q9,q10,q11,q12,q13,q14,q15,q16,q17,q18,q19,q20,q21,q22,q23,q24,q25,q26,q27,q28,q29⟩
   · have l0:L 5=true:=by have:=hd _ rfl;simp [Region.binds] at this;simp [this]
     have f5:=(hv 5 36 rfl l0).trans (q5 l0)
     have e11:xa.tmps.getD 11 undef=.pointer (some ⟨w4.heap.size,0,none⟩):=ho 11 (by kernel_rfl)
     refine Ri.step_wanted (b:=false) rfl rfl rfl f5 (fun K' hK=>?_)
     go_simp
     exact hK _ _ ⟨_,_,rfl,rfl,hb,q0,q1,q2,q3,q4,q5,q6,q7,fun _=>rfl,q9,q10,q11,q12,q13,q14,q15,q16,q17,q18,q19,q20,q21,q22,q23,q24,q25,q26,q27,q28,q29⟩
   · have l0:L 5=true∧L 8=true:=by have:=hd _ rfl;simp [Region.binds] at this;simp [this]
     have f5:=(hv 5 36 rfl l0.1).trans (q5 l0.1)
     have f8:=(hv 8 39 rfl l0.2).trans (q8 l0.2)
     refine Ri.step_wanted (b:=false) rfl rfl rfl f5 (fun K' hK=>?_)
     obtain ⟨e0,e1,e2,e3,e4,e5,e6,e7,e8,e9,e10,e11,e12⟩:=thirteen (keep_blk hb Z4.out)
     go_simp
     exact hK _ _ ⟨_,_,rfl,rfl,hb,q0,q1,q2,q3,q4,q5,q6,q7,q8,fun _=>rfl,q10,q11,q12,q13,q14,q15,q16,q17,q18,q19,q20,q21,q22,q23,q24,q25,q26,q27,q28,q29⟩
   · have l0:L 5=true∧L 7=true∧L 9=true:=by have:=hd _ rfl;simp [Region.binds] at this;simp [this]
     have f5:=(hv 5 36 rfl l0.1).trans (q5 l0.1)
     have f7:=(hv 7 38 rfl l0.2.1).trans (q7 l0.2.1)
     have f9:=(hv 9 40 rfl l0.2.2).trans (q9 l0.2.2)
     refine Ri.step_wanted (b:=false) rfl rfl rfl f5 (fun K' hK=>?_)
     go_simp
     exact hK _ _ ⟨_,_,rfl,rfl,hb,q0,q1,q2,q3,q4,q5,q6,q7,q8,q9,fun _=>rfl,q11,q12,q13,q14,q15,q16,q17,q18,q19,q20,q21,q22,q23,q24,q25,q26,q27,q28,q29⟩
   · have l0:L 5=true∧L 10=true:=by have:=hd _ rfl;simp [Region.binds] at this;simp [this]
     have f5:=(hv 5 36 rfl l0.1).trans (q5 l0.1)
     have f10:=(hv 10 41 rfl l0.2).trans (q10 l0.2)
     refine Ri.step_plain rfl rfl (fun K' hK=>?_)
     go_simp
     exact hK _ _ ⟨_,_,rfl,rfl,hb,q0,q1,q2,q3,q4,q5,q6,q7,q8,q9,q10,fun _=>rfl,q12,q13,q14,q15,q16,q17,q18,q19,q20,q21,q22,q23,q24,q25,q26,q27,q28,q29⟩
   · have l0:L 11=true:=by have:=hd _ rfl;simp [Region.binds] at this;simp [this]
     have f11:=(hv 11 42 rfl l0).trans (q11 l0)
     refine Ri.step_plain rfl rfl (fun K' hK=>?_)
     go_simp
     exact hK _ _ ⟨_,_,rfl,rfl,hb,q0,q1,q2,q3,q4,q5,q6,q7,q8,q9,q10,q11,fun _=>rfl,q13,q14,q15,q16,q17,q18,q19,q20,q21,q22,q23,q24,q25,q26,q27,q28,q29⟩
   · have l0:L 12=true:=by have:=hd _ rfl;simp [Region.binds] at this;simp [this]
     have f12:=(hv 12 43 rfl l0).trans (q12 l0)
     have e6:xa.tmps.getD 6 undef=.int .i64 (g:Int):=ho 6 (by kernel_rfl)
     refine Ri.step_wanted (b:=false) rfl rfl rfl f12 (fun K' hK=>?_)
     go_simp
     exact hK _ _ ⟨_,_,rfl,rfl,hb,q0,q1,q2,q3,q4,q5,q6,q7,q8,q9,q10,q11,q12,fun _=>rfl,q14,q15,q16,q17,q18,q19,q20,q21,q22,q23,q24,q25,q26,q27,q28,q29⟩
   · have l0:L 12=true:=by have:=hd _ rfl;simp [Region.binds] at this;simp [this]
     have f12:=(hv 12 43 rfl l0).trans (q12 l0)
     have e11:xa.tmps.getD 11 undef=.pointer (some ⟨w4.heap.size,0,none⟩):=ho 11 (by kernel_rfl)
     refine Ri.step_wanted (b:=false) rfl rfl rfl f12 (fun K' hK=>?_)
     go_simp
     exact hK _ _ ⟨_,_,rfl,rfl,hb,q0,q1,q2,q3,q4,q5,q6,q7,q8,q9,q10,q11,q12,q13,fun _=>rfl,q15,q16,q17,q18,q19,q20,q21,q22,q23,q24,q25,q26,q27,q28,q29⟩
   · have l0:L 12=true∧L 14=true:=by have:=hd _ rfl;simp [Region.binds] at this;simp [this]
     have f12:=(hv 12 43 rfl l0.1).trans (q12 l0.1)
     have f14:=(hv 14 45 rfl l0.2).trans (q14 l0.2)
     refine Ri.step_wanted (b:=false) rfl rfl rfl f12 (fun K' hK=>?_)
     obtain ⟨e0,e1,e2,e3,e4,e5,e6,e7,e8,e9,e10,e11,e12⟩:=thirteen (keep_blk hb Z4.out)
     go_simp
     exact hK _ _ ⟨_,_,rfl,rfl,hb,q0,q1,q2,q3,q4,q5,q6,q7,q8,q9,q10,q11,q12,q13,q14,fun _=>rfl,q16,q17,q18,q19,q20,q21,q22,q23,q24,q25,q26,q27,q28,q29⟩
   · have l0:L 12=true∧L 13=true∧L 15=true:=by have:=hd _ rfl;simp [Region.binds] at this;simp [this]
     have f12:=(hv 12 43 rfl l0.1).trans (q12 l0.1)
     have f13:=(hv 13 44 rfl l0.2.1).trans (q13 l0.2.1)
     have f15:=(hv 15 46 rfl l0.2.2).trans (q15 l0.2.2)
     refine Ri.step_wanted (b:=false) rfl rfl rfl f12 (fun K' hK=>?_)
     go_simp
     exact hK _ _ ⟨_,_,rfl,rfl,hb,q0,q1,q2,q3,q4,q5,q6,q7,q8,q9,q10,q11,q12,q13,q14,q15,fun _=>rfl,q17,q18,q19,q20,q21,q22,q23,q24,q25,q26,q27,q28,q29⟩
   · have l0:L 12=true∧L 16=true:=by have:=hd _ rfl;simp [Region.binds] at this;simp [this]
     have f12:=(hv 12 43 rfl l0.1).trans (q12 l0.1)
     have f16:=(hv 16 47 rfl l0.2).trans (q16 l0.2)
     refine Ri.step_plain rfl rfl (fun K' hK=>?_)
     go_simp
     exact hK _ _ ⟨_,_,rfl,rfl,hb,q0,q1,q2,q3,q4,q5,q6,q7,q8,q9,q10,q11,q12,q13,q14,q15,q16,fun _=>rfl,q18,q19,q20,q21,q22,q23,q24,q25,q26,q27,q28,q29⟩
   · have l0:L 17=true:=by have:=hd _ rfl;simp [Region.binds] at this;simp [this]
     have f17:=(hv 17 48 rfl l0).trans (q17 l0)
     refine Ri.step_plain rfl rfl (fun K' hK=>?_)
     go_simp
     exact hK _ _ ⟨_,_,rfl,rfl,hb,q0,q1,q2,q3,q4,q5,q6,q7,q8,q9,q10,q11,q12,q13,q14,q15,q16,q17,fun _=>rfl,q19,q20,q21,q22,q23,q24,q25,q26,q27,q28,q29⟩
   · have l0:L 18=true:=by have:=hd _ rfl;simp [Region.binds] at this;simp [this]
     have f18:=(hv 18 49 rfl l0).trans (q18 l0)
     have e9:xa.tmps.getD 9 undef=.int .i64 (g:Int):=ho 9 (by kernel_rfl)
     refine Ri.step_wanted (b:=false) rfl rfl rfl f18 (fun K' hK=>?_)
     go_simp
     exact hK _ _ ⟨_,_,rfl,rfl,hb,q0,q1,q2,q3,q4,q5,q6,q7,q8,q9,q10,q11,q12,q13,q14,q15,q16,q17,q18,fun _=>rfl,q20,q21,q22,q23,q24,q25,q26,q27,q28,q29⟩
   · have l0:L 18=true:=by have:=hd _ rfl;simp [Region.binds] at this;simp [this]
     have f18:=(hv 18 49 rfl l0).trans (q18 l0)
     have e6:xa.tmps.getD 6 undef=.int .i64 (g:Int):=ho 6 (by kernel_rfl)
     refine Ri.step_wanted (b:=false) rfl rfl rfl f18 (fun K' hK=>?_)
     go_simp
     exact hK _ _ ⟨_,_,rfl,rfl,hb,q0,q1,q2,q3,q4,q5,q6,q7,q8,q9,q10,q11,q12,q13,q14,q15,q16,q17,q18,q19,fun _=>rfl,q21,q22,q23,q24,q25,q26,q27,q28,q29⟩
   · have l0:L 18=true∧L 19=true∧L 20=true:=by have:=hd _ rfl;simp [Region.binds] at this;simp [this]
     have f18:=(hv 18 49 rfl l0.1).trans (q18 l0.1)
     have f19:=(hv 19 50 rfl l0.2.1).trans (q19 l0.2.1)
     have f20:=(hv 20 51 rfl l0.2.2).trans (q20 l0.2.2)
     refine Ri.step_wanted (b:=false) rfl rfl rfl f18 (fun K' hK=>?_)
     go_simp
     exact hK _ _ ⟨_,_,rfl,rfl,hb,q0,q1,q2,q3,q4,q5,q6,q7,q8,q9,q10,q11,q12,q13,q14,q15,q16,q17,q18,q19,q20,fun _=>rfl,q22,q23,q24,q25,q26,q27,q28,q29⟩
   · have l0:L 18=true∧L 21=true:=by have:=hd _ rfl;simp [Region.binds] at this;simp [this]
     have f18:=(hv 18 49 rfl l0.1).trans (q18 l0.1)
     have f21:=(hv 21 52 rfl l0.2).trans (q21 l0.2)
     refine Ri.step_plain rfl rfl (fun K' hK=>?_)
     go_simp
     exact hK _ _ ⟨_,_,rfl,rfl,hb,q0,q1,q2,q3,q4,q5,q6,q7,q8,q9,q10,q11,q12,q13,q14,q15,q16,q17,q18,q19,q20,q21,fun _=>rfl,q23,q24,q25,q26,q27,q28,q29⟩
   · have l0:L 22=true:=by have:=hd _ rfl;simp [Region.binds] at this;simp [this]
     have f22:=(hv 22 53 rfl l0).trans (q22 l0)
     refine Ri.step_plain rfl rfl (fun K' hK=>?_)
     go_simp
     exact hK _ _ ⟨_,_,rfl,rfl,hb,q0,q1,q2,q3,q4,q5,q6,q7,q8,q9,q10,q11,q12,q13,q14,q15,q16,q17,q18,q19,q20,q21,q22,fun _=>rfl,q24,q25,q26,q27,q28,q29⟩
   · have l0:L 23=true:=by have:=hd _ rfl;simp [Region.binds] at this;simp [this]
     have f23:=(hv 23 54 rfl l0).trans (q23 l0)
     have e5:xa.tmps.getD 5 undef=.pointer (some ⟨w2.heap.size,0,none⟩):=ho 5 (by kernel_rfl)
     refine Ri.step_wanted (b:=false) rfl rfl rfl f23 (fun K' hK=>?_)
     refine wp_load_row _ _ rfl _ e5 _ _ _ _ (keep_blk hb X2.out) Tryz.underlying28 rfl (by kernel_rfl) ?_
     exact hK _ _ ⟨_,_,rfl,rfl,hb,q0,q1,q2,q3,q4,q5,q6,q7,q8,q9,q10,q11,q12,q13,q14,q15,q16,q17,q18,q19,q20,q21,q22,q23,fun _=>rfl,q25,q26,q27,q28,q29⟩
   · have l0:L 23=true:=by have:=hd _ rfl;simp [Region.binds] at this;simp [this]
     have f23:=(hv 23 54 rfl l0).trans (q23 l0)
     have e11:xa.tmps.getD 11 undef=.pointer (some ⟨w4.heap.size,0,none⟩):=ho 11 (by kernel_rfl)
     refine Ri.step_wanted (b:=false) rfl rfl rfl f23 (fun K' hK=>?_)
     go_simp
     exact hK _ _ ⟨_,_,rfl,rfl,hb,q0,q1,q2,q3,q4,q5,q6,q7,q8,q9,q10,q11,q12,q13,q14,q15,q16,q17,q18,q19,q20,q21,q22,q23,q24,fun _=>rfl,q26,q27,q28,q29⟩
   · have l0:L 23=true∧L 25=true:=by have:=hd _ rfl;simp [Region.binds] at this;simp [this]
     have f23:=(hv 23 54 rfl l0.1).trans (q23 l0.1)
     have f25:=(hv 25 56 rfl l0.2).trans (q25 l0.2)
     refine Ri.step_wanted (b:=false) rfl rfl rfl f23 (fun K' hK=>?_)
     obtain ⟨e0,e1,e2,e3,e4,e5,e6,e7,e8,e9,e10,e11,e12⟩:=thirteen (keep_blk hb Z4.out)
     go_simp
     exact hK _ _ ⟨_,_,rfl,rfl,hb,q0,q1,q2,q3,q4,q5,q6,q7,q8,q9,q10,q11,q12,q13,q14,q15,q16,q17,q18,q19,q20,q21,q22,q23,q24,q25,fun _=>rfl,q27,q28,q29⟩
   · have l0:L 23=true∧L 24=true∧L 26=true:=by have:=hd _ rfl;simp [Region.binds] at this;simp [this]
     have f23:=(hv 23 54 rfl l0.1).trans (q23 l0.1)
     have f24:=(hv 24 55 rfl l0.2.1).trans (q24 l0.2.1)
     have f26:=(hv 26 57 rfl l0.2.2).trans (q26 l0.2.2)
     refine Ri.step_wanted (b:=false) rfl rfl rfl f23 (fun K' hK=>?_)
     go_simp
     refine (HSN.out _ hb).mono ?_
     rintro e w8 ⟨rfl,hb8⟩
     exact hK _ _ ⟨_,_,rfl,rfl,hb.trans (hb8.mono hb.size),q0,q1,q2,q3,q4,q5,q6,q7,q8,q9,q10,q11,q12,q13,q14,q15,q16,q17,q18,q19,q20,q21,q22,q23,q24,q25,q26,fun _=>rfl,q28,q29⟩
   · have l0:L 23=true∧L 27=true:=by have:=hd _ rfl;simp [Region.binds] at this;simp [this]
     have f23:=(hv 23 54 rfl l0.1).trans (q23 l0.1)
     have f27:=(hv 27 58 rfl l0.2).trans (q27 l0.2)
     refine Ri.step_wanted (b:=false) rfl rfl rfl f23 (fun K' hK=>?_)
     go_simp
     exact hK _ _ ⟨_,_,rfl,rfl,hb,q0,q1,q2,q3,q4,q5,q6,q7,q8,q9,q10,q11,q12,q13,q14,q15,q16,q17,q18,q19,q20,q21,q22,q23,q24,q25,q26,q27,fun _=>rfl,q29⟩
   · have l0:L 23=true∧L 28=true:=by have:=hd _ rfl;simp [Region.binds] at this;simp [this]
     have f23:=(hv 23 54 rfl l0.1).trans (q23 l0.1)
     have f28:=(hv 28 59 rfl l0.2).trans (q28 l0.2)
     refine Ri.step_plain rfl rfl (fun K' hK=>?_)
     go_simp
     exact hK _ _ ⟨_,_,rfl,rfl,hb,q0,q1,q2,q3,q4,q5,q6,q7,q8,q9,q10,q11,q12,q13,q14,q15,q16,q17,q18,q19,q20,q21,q22,q23,q24,q25,q26,q27,q28,fun _=>rfl⟩
 · rintro v w9 ⟨hb,-,-,-,-,-,-,-,-,-,-,-,-,-,-,-,-,-,-,-,-,-,-,-,-,-,-,-,-,-,q29⟩
   have q29':v 29=.bool false:=q29 rfl
   simp only [Ri.frame,List.zipIdx,List.foldl_cons,List.foldl_nil,if_true,List.setIfInBounds_toArray,List.set_cons_zero,List.set_cons_succ,Nat.reduceAdd,q29']
   clear q29 q29'
   generalize v 0=y0;generalize v 1=y1;generalize v 2=y2;generalize v 3=y3;generalize v 4=y4;generalize v 5=y5;generalize v 6=y6;generalize v 7=y7;generalize v 8=y8;generalize v 9=y9;generalize v 10=y10;generalize v 11=y11;generalize v 12=y12;generalize v 13=y13;generalize v 14=y14;generalize v 15=y15;generalize v 16=y16;generalize v 17=y17;generalize v 18=y18;generalize v 19=y19;generalize v 20=y20;generalize v 21=y21;generalize v 22=y22;generalize v 23=y23;generalize v 24=y24;generalize v 25=y25;generalize v 26=y26;generalize v 27=y27;generalize v 28=y28
   have HB5:=Lib.hid (HB4.out.trans (hb.mono HB4.out.size));have Z5:=Lib.hid (keep_blk hb Z4.out)
   have U2:=Lib.hid (keep_blk hb X2.out);have U3:=Lib.hid (keep_blk hb X3.out)
   have HO5:=Lib.hid (HV2.out.later hb);have HT3:=Lib.hid (HV3.out.later hb);have HT4:=Lib.hid (HV4.out.later hb)
   have hsW:w4.heap.size < w9.heap.size:=blk_lt Z5.out
   clear hb HSN HV2 HV3 HV4 X2 X3 Z4 HB4 HEW HTW
   obtain ⟨d0,d1,d2,d3,d4,d5,d6,d7,d8,d9⟩:=allTen U2.out
   go_wp2_with fail
   refine (spoil_any T w9 _ F2 HO5.out).mono ?_
   rintro e w10 ⟨rfl,ht⟩
   have hnF:∀ b,w2.heap.size ≤ b→b ∉ F2:=fun b hb hm=>by have:=HL2.out b hm;omega
   have U3':=Lib.hid ((ht.block w3.heap.size (by omega) (hnF _ (by omega))).trans U3.out)
   have Z5':=Lib.hid ((ht.block w4.heap.size hsW (hnF _ (by omega))).trans Z5.out)
   have hk3:∀ b,w2.heap.size+1 ≤ b→b < w9.heap.size→w10.heap[b]? = w9.heap[b]?:=fun b h1 hb=>ht.block b hb (hnF b (by omega))
   have hsa:Calls Tryz.prog 11 #[.agg (T.cells (.slice p3 T.subs.length c3)),.agg (T.cells (.slice p4 l4 c4))] w10 (SameEnd T T w10):=samenodes_any T T w10 _ _ _ _ ⟨_,rfl,HT3.out.keep fun b hb hP=>hk3 b (by simpa using hP) hb⟩ ⟨_,rfl,HT4.out.keep fun b hb hP=>hk3 b (Nat.le_trans (by omega) (show w3.heap.size+1 ≤ b by simpa using hP)) hb⟩
   have HSA:=Lib.hid (hsa.mono (fun _ _ h=>h.yes rfl))
   have HB6:=Lib.hid (HB5.out.trans ((ht.below (fun k hk=>HF2.out k hk) (by omega)).mono HB1S.out))
   clear hsa ht hk3 d0 d1 d2 d3 d4 d5 d6 d7 d8 d9
   unfold Tr.cells at HSA
   obtain ⟨d0,d1,d2,d3,d4,d5,d6,d7,d8,d9⟩:=allTen U3'.out
   obtain ⟨e0,e1,e2,e3,e4,e5,e6,e7,e8,e9,e10,e11,e12⟩:=thirteen Z5'.out
   go_wp2_with fail
   refine HSA.out.mono ?_
   rintro e w11 ⟨rfl,hb11⟩
   have HB7:=Lib.hid (HB6.out.trans (hb11.mono HB6.out.size))
   clear hb11 d0 d1 d2 d3 d4 d5 d6 d7 d8 d9 e0 e1 e2 e3 e4 e5 e6 e7 e8 e9 e10 e11 e12
   go_wp2
   go_ret
   exact ⟨rfl,HB7.out⟩
theorem breparses_err (A:Nat→Addr) (x:ByteArray) (fl:Int) (w:World) (hE:BrEnv w A) (hT:ErrType w) (c:Nat) (q:Int) (hO:Bp.parse (bt x) x.size (icB fl) (nlB fl)=.err c q) :
   Calls Tryz.prog 3 #[.string x,.int .i64 fl] w fun e w'=>e=.returned (.bool true)∧Below w.heap.size w w':=by
 have hf:=fun w=>bsparse_any w x fl
 rw [hO] at hf
 have HL:=Lib.hid (bqlives_any A w hE hT)
 have HE:=Lib.hid hE;have HT:=Lib.hid hT
 have HD:=Lib.hid bqparse_does;have HF:=Lib.hid hf
 have HOO:=Lib.hid hO
 clear hE hT hO hf
 go_enter Tryz.func3,Tryz.ntmps3
 go_wp2_with fail
 refine HL.out.mono ?_;rintro e w1 ⟨rfl,hb1⟩
 have HB1:=Lib.hid hb1;have HE1:=Lib.hid (HE.out.below hb1)
 clear hb1 HL
 go_wp2_with fail
 refine (HD.out A _ x fl HE1.out).mono ?_
 intro e w2 he
 obtain ⟨v2,rfl,he2,hb2⟩:=he.err HOO.out
 obtain ⟨i2,rfl⟩:=he2.iface
 have hk2:=hb2.alloc hb2.size (.cells #[.int .i64 0,.int .u64 0,.int .u64 0,.int .u64 0,.int .u64 0,.slice none 0 0,.int .i64 0,.int .i64 0,.int .i64 0,.bool false] 28)
 have hb2n:Below w2.heap.size w2 (w2.alloc (.cells #[.int .i64 0,.int .u64 0,.int .u64 0,.int .u64 0,.int .u64 0,.slice none 0 0,.int .i64 0,.int .i64 0,.int .i64 0,.bool false] 28)):=(Below.refl _ _).alloc (Nat.le_refl _) _
 have HB2:=Lib.hid (HB1.out.trans (hk2.mono HB1.out.size))
 have HE2:=Lib.hid (HE.out.below HB2.out)
 have Z2:=Lib.hid (heap_alloc_new w2 (.cells #[.int .i64 0,.int .u64 0,.int .u64 0,.int .u64 0,.int .u64 0,.slice none 0 0,.int .i64 0,.int .i64 0,.int .i64 0,.bool false] 28))
 have HX2:=Lib.hid (he2.at.later hb2n)
 have hs12:=hb2.size
 clear he hk2 hb2n hb2 he2
 go_wp2_with fail
 refine (HD.out A _ x fl HE2.out).mono ?_
 intro e w3 he
 obtain ⟨v3,rfl,he3,hb3⟩:=he.err HOO.out
 obtain ⟨i3,rfl⟩:=he3.iface
 have hk3:=hb3.alloc hb3.size (.cells #[.int .i64 0,.int .u64 0,.int .u64 0,.int .u64 0,.int .u64 0,.slice none 0 0,.int .i64 0,.int .i64 0,.int .i64 0,.bool false] 28)
 have hb3n:Below w3.heap.size w3 (w3.alloc (.cells #[.int .i64 0,.int .u64 0,.int .u64 0,.int .u64 0,.int .u64 0,.slice none 0 0,.int .i64 0,.int .i64 0,.int .i64 0,.bool false] 28)):=(Below.refl _ _).alloc (Nat.le_refl _) _
 have HB3:=Lib.hid (HB2.out.trans (hk3.mono HB2.out.size))
 have Z3:=Lib.hid (heap_alloc_new w3 (.cells #[.int .i64 0,.int .u64 0,.int .u64 0,.int .u64 0,.int .u64 0,.slice none 0 0,.int .i64 0,.int .i64 0,.int .i64 0,.bool false] 28))
 have HX3:=Lib.hid (he3.at.later hb3n)
 have HY2:=Lib.hid (HX2.out.later hk3)
 have Y2:=Lib.hid (keep_blk hk3 Z2.out)
 have hs23:w2.heap.size+1 ≤ w3.heap.size:=by have:=hb3.size;simpa using this
 clear he hk3 hb3n hb3 HX2 Z2 he3
 go_wp2_with fail
 refine (HF.out _).mono ?_
 rintro e w4 ⟨v4,rfl,ha4,hb4⟩
 obtain ⟨rfl,-⟩:=ha4
 have hk4:=hb4.alloc hb4.size (.cells #[.int .i64 0,.int .u64 0,.int .u64 0,.int .u64 0,.int .u64 0,.slice none 0 0,.int .i64 0,.int .i64 0,.int .i64 0,.bool false,.int .i64 0,.int .i64 (c:Int),.int .i64 q] 34)
 have hb4n:Below w4.heap.size w4 (w4.alloc (.cells #[.int .i64 0,.int .u64 0,.int .u64 0,.int .u64 0,.int .u64 0,.slice none 0 0,.int .i64 0,.int .i64 0,.int .i64 0,.bool false,.int .i64 0,.int .i64 (c:Int),.int .i64 q] 34)):=(Below.refl _ _).alloc (Nat.le_refl _) _
 have HB4:=Lib.hid (HB3.out.trans (hk4.mono HB3.out.size))
 have Z4:=Lib.hid (heap_alloc_new w4 (.cells #[.int .i64 0,.int .u64 0,.int .u64 0,.int .u64 0,.int .u64 0,.slice none 0 0,.int .i64 0,.int .i64 0,.int .i64 0,.bool false,.int .i64 0,.int .i64 (c:Int),.int .i64 q] 34))
 have X3:=Lib.hid (keep_blk hk4 Z3.out);have X2:=Lib.hid (keep_blk hk4 Y2.out)
 have HV3:=Lib.hid (HX3.out.later hk4);have HV2:=Lib.hid (HY2.out.later hk4)
 have HEW:=Lib.hid (HE.out.below HB4.out);have HTW:=Lib.hid (HT.out.later HB4.out)
 have hs34:w3.heap.size+1 ≤ w4.heap.size:=by have:=hb4.size;simpa using this
 clear hk4 hb4n hb4 HX3 HY2 Z3 Y2 HB1 HB2 HB3 HE1 HE2 HD HF HOO HE HT 
 unfold ansErr
 go_wp2_with fail
 generalize World.alloc w4 _=W at *
 have HSN:=Lib.hid (fun w' (_:Below W.heap.size W w')=>(samenodes_any (Tr.leaf 0) (Tr.leaf 0) w' (fun _=>True) (fun _=>True) _ _ ⟨.slice none 0 0,rfl,TreesAt.nil⟩ ⟨.slice none 0 0,rfl,TreesAt.nil⟩).mono (fun _ _ h=>h.yes rfl))
 refine Ri.wp_region_frame (by kernel_rfl) (by kernel_rfl) (by kernel_rfl) (by kernel_rfl)
   (fun L v w'=>Below W.heap.size W w'∧(L 0=true→v 0=.iface 63 i2)∧(L 1=true→v 1=.int .i64 (c:Int))∧(L 2=true→v 2=.pointer (some ⟨w4.heap.size,11,none⟩))∧(L 3=true→v 3=.int .i64 (c:Int))∧(L 4=true→v 4=.bool false)∧(L 5=true→v 5=.bool false)∧(L 6=true→v 6=.iface 63 i3)∧(L 7=true→v 7=.int .i64 (c:Int))∧(L 8=true→v 8=.pointer (some ⟨w4.heap.size,11,none⟩))∧(L 9=true→v 9=.int .i64 (c:Int))∧(L 10=true→v 10=.bool false)∧(L 11=true→v 11=.bool false)∧(L 12=true→v 12=.bool false)∧(L 13=true→v 13=.int .i64 0)∧(L 14=true→v 14=.pointer (some ⟨w4.heap.size,10,none⟩))∧(L 15=true→v 15=.int .i64 0)∧(L 16=true→v 16=.bool false)∧(L 17=true→v 17=.bool false)∧(L 18=true→v 18=.bool false)∧(L 19=true→v 19=.int .i64 0)∧(L 20=true→v 20=.int .i64 0)∧(L 21=true→v 21=.bool false)∧(L 22=true→v 22=.bool false)∧(L 23=true→v 23=.bool false)∧(L 24=true→v 24=.agg #[.int .i64 0,.int .u64 0,.int .u64 0,.int .u64 0,.int .u64 0,.slice none 0 0,.int .i64 0,.int .i64 0,.int .i64 0,.bool false])∧(L 25=true→v 25=.pointer (some ⟨w4.heap.size,0,none⟩))∧(L 26=true→v 26=.agg #[.int .i64 0,.int .u64 0,.int .u64 0,.int .u64 0,.int .u64 0,.slice none 0 0,.int .i64 0,.int .i64 0,.int .i64 0,.bool false])∧(L 27=true→v 27=.bool true)∧(L 28=true→v 28=.bool false)∧(L 29=true→v 29=.bool false))
   ?_ ?_ ?_
 · exact ⟨(Below.refl _ _).drew,by simp,by simp,by simp,by simp,by simp,by simp,by simp,by simp,by simp,by simp,by simp,by simp,by simp,by simp,by simp,by simp,by simp,by simp,by simp,by simp,by simp,by simp,by simp,by simp,by simp,by simp,by simp,by simp,by simp,by simp⟩
 · intro i hi9 L v w9 xa hI hL hd hv ho
   have hi':i=0 ∨ i=1 ∨ i=2 ∨ i=3 ∨ i=4 ∨ i=5 ∨ i=6 ∨ i=7 ∨ i=8 ∨ i=9 ∨ i=10 ∨ i=11 ∨ i=12 ∨ i=13 ∨ i=14 ∨ i=15 ∨ i=16 ∨ i=17 ∨ i=18 ∨ i=19 ∨ i=20 ∨ i=21 ∨ i=22 ∨ i=23 ∨ i=24 ∨ i=25 ∨ i=26 ∨ i=27 ∨ i=28 ∨ i=29:=by simp at hi9;omega
   obtain ⟨hb,q0,q1,q2,q3,q4,q5,q6,q7,q8,q9,q10,q11,q12,q13,q14,q15,q16,q17,q18,q19,q20,q21,q22,q23,q24,q25,q26,q27,q28,q29⟩:=hI
   rcases hi' with rfl | rfl | rfl | rfl | rfl | rfl | rfl | rfl | rfl | rfl | rfl | rfl | rfl | rfl | rfl | rfl | rfl | rfl | rfl | rfl | rfl | rfl | rfl | rfl | rfl | rfl | rfl | rfl | rfl | rfl
   · have e7:xa.tmps.getD 7 undef=.iface 63 i2:=ho 7 (by kernel_rfl)
     refine Ri.step_plain rfl rfl (fun K' hK=>?_)
     go_simp
     exact hK _ _ ⟨_,_,rfl,rfl,hb,fun _=>rfl,q1,q2,q3,q4,q5,q6,q7,q8,q9,q10,q11,q12,q13,q14,q15,q16,q17,q18,q19,q20,q21,q22,q23,q24,q25,q26,q27,q28,q29⟩
   · have l0:L 0=true:=by have:=hd _ rfl;simp [Region.binds] at this;simp [this]
     have f0:=(hv 0 31 rfl l0).trans (q0 l0)
     refine Ri.step_plain rfl rfl (fun K' hK=>?_)
     go_simp
     refine (HV2.out.later hb |>.num (HEW.out.below hb)).mono ?_
     rintro e w8 ⟨rfl,hb8⟩
     exact hK _ _ ⟨_,_,rfl,rfl,hb.trans (hb8.mono hb.size),q0,fun _=>rfl,q2,q3,q4,q5,q6,q7,q8,q9,q10,q11,q12,q13,q14,q15,q16,q17,q18,q19,q20,q21,q22,q23,q24,q25,q26,q27,q28,q29⟩
   · have e11:xa.tmps.getD 11 undef=.pointer (some ⟨w4.heap.size,0,none⟩):=ho 11 (by kernel_rfl)
     refine Ri.step_plain rfl rfl (fun K' hK=>?_)
     go_simp
     exact hK _ _ ⟨_,_,rfl,rfl,hb,q0,q1,fun _=>rfl,q3,q4,q5,q6,q7,q8,q9,q10,q11,q12,q13,q14,q15,q16,q17,q18,q19,q20,q21,q22,q23,q24,q25,q26,q27,q28,q29⟩
   · have l0:L 2=true:=by have:=hd _ rfl;simp [Region.binds] at this;simp [this]
     have f2:=(hv 2 33 rfl l0).trans (q2 l0)
     refine Ri.step_plain rfl rfl (fun K' hK=>?_)
     obtain ⟨e0,e1,e2,e3,e4,e5,e6,e7,e8,e9,e10,e11,e12⟩:=thirteen (keep_blk hb Z4.out)
     go_simp
     exact hK _ _ ⟨_,_,rfl,rfl,hb,q0,q1,q2,fun _=>rfl,q4,q5,q6,q7,q8,q9,q10,q11,q12,q13,q14,q15,q16,q17,q18,q19,q20,q21,q22,q23,q24,q25,q26,q27,q28,q29⟩
   · have l0:L 1=true∧L 3=true:=by have:=hd _ rfl;simp [Region.binds] at this;simp [this]
     have f1:=(hv 1 32 rfl l0.1).trans (q1 l0.1)
     have f3:=(hv 3 34 rfl l0.2).trans (q3 l0.2)
     refine Ri.step_plain rfl rfl (fun K' hK=>?_)
     go_simp
     exact hK _ _ ⟨_,_,rfl,rfl,hb,q0,q1,q2,q3,fun _=>rfl,q5,q6,q7,q8,q9,q10,q11,q12,q13,q14,q15,q16,q17,q18,q19,q20,q21,q22,q23,q24,q25,q26,q27,q28,q29⟩
   · have l0:L 4=true:=by have:=hd _ rfl;simp [Region.binds] at this;simp [this]
     have f4:=(hv 4 35 rfl l0).trans (q4 l0)
     refine Ri.step_plain rfl rfl (fun K' hK=>?_)
     go_simp
     exact hK _ _ ⟨_,_,rfl,rfl,hb,q0,q1,q2,q3,q4,fun _=>rfl,q6,q7,q8,q9,q10,q11,q12,q13,q14,q15,q16,q17,q18,q19,q20,q21,q22,q23,q24,q25,q26,q27,q28,q29⟩
   · have l0:L 5=true:=by have:=hd _ rfl;simp [Region.binds] at this;simp [this]
     have f5:=(hv 5 36 rfl l0).trans (q5 l0)
     have e10:xa.tmps.getD 10 undef=.iface 63 i3:=ho 10 (by kernel_rfl)
     refine Ri.step_wanted (b:=false) rfl rfl rfl f5 (fun K' hK=>?_)
     go_simp
     exact hK _ _ ⟨_,_,rfl,rfl,hb,q0,q1,q2,q3,q4,q5,fun _=>rfl,q7,q8,q9,q10,q11,q12,q13,q14,q15,q16,q17,q18,q19,q20,q21,q22,q23,q24,q25,q26,q27,q28,q29⟩
   · have l0:L 5=true∧L 6=true:=by have:=hd _ rfl;simp [Region.binds] at this;simp [this]
     have f5:=(hv 5 36 rfl l0.1).trans (q5 l0.1)
     have f6:=(hv 6 37 rfl l0.2).trans (q6 l0.2)
     refine Ri.step_wanted (b:=false) rfl rfl rfl f5 (fun K' hK=>?_)
     go_simp
     refine (HV3.out.later hb |>.num (HEW.out.below hb)).mono ?_
     rintro e w8 ⟨rfl,hb8⟩
     exact hK _ _ ⟨_,_,rfl,rfl,hb.trans (hb8.mono hb.size),q0,q1,q2,q3,q4,q5,q6,fun _=>rfl,q8,q9,q10,q11,q12,q13,q14,q15,q16,q17,q18,q19,q20,q21,q22,q23,q24,q25,q26,q27,q28,q29⟩
   · have l0:L 5=true:=by have:=hd _ rfl;simp [Region.binds] at this;simp [this]
     have f5:=(hv 5 36 rfl l0).trans (q5 l0)
     have e11:xa.tmps.getD 11 undef=.pointer (some ⟨w4.heap.size,0,none⟩):=ho 11 (by kernel_rfl)
     refine Ri.step_wanted (b:=false) rfl rfl rfl f5 (fun K' hK=>?_)
     go_simp
     exact hK _ _ ⟨_,_,rfl,rfl,hb,q0,q1,q2,q3,q4,q5,q6,q7,fun _=>rfl,q9,q10,q11,q12,q13,q14,q15,q16,q17,q18,q19,q20,q21,q22,q23,q24,q25,q26,q27,q28,q29⟩
   · have l0:L 5=true∧L 8=true:=by have:=hd _ rfl;simp [Region.binds] at this;simp [this]
     have f5:=(hv 5 36 rfl l0.1).trans (q5 l0.1)
     have f8:=(hv 8 39 rfl l0.2).trans (q8 l0.2)
     refine Ri.step_wanted (b:=false) rfl rfl rfl f5 (fun K' hK=>?_)
     obtain ⟨e0,e1,e2,e3,e4,e5,e6,e7,e8,e9,e10,e11,e12⟩:=thirteen (keep_blk hb Z4.out)
     go_simp
     exact hK _ _ ⟨_,_,rfl,rfl,hb,q0,q1,q2,q3,q4,q5,q6,q7,q8,fun _=>rfl,q10,q11,q12,q13,q14,q15,q16,q17,q18,q19,q20,q21,q22,q23,q24,q25,q26,q27,q28,q29⟩
   · have l0:L 5=true∧L 7=true∧L 9=true:=by have:=hd _ rfl;simp [Region.binds] at this;simp [this]
     have f5:=(hv 5 36 rfl l0.1).trans (q5 l0.1)
     have f7:=(hv 7 38 rfl l0.2.1).trans (q7 l0.2.1)
     have f9:=(hv 9 40 rfl l0.2.2).trans (q9 l0.2.2)
     refine Ri.step_wanted (b:=false) rfl rfl rfl f5 (fun K' hK=>?_)
     go_simp
     exact hK _ _ ⟨_,_,rfl,rfl,hb,q0,q1,q2,q3,q4,q5,q6,q7,q8,q9,fun _=>rfl,q11,q12,q13,q14,q15,q16,q17,q18,q19,q20,q21,q22,q23,q24,q25,q26,q27,q28,q29⟩
   · have l0:L 5=true∧L 10=true:=by have:=hd _ rfl;simp [Region.binds] at this;simp [this]
     have f5:=(hv 5 36 rfl l0.1).trans (q5 l0.1)
     have f10:=(hv 10 41 rfl l0.2).trans (q10 l0.2)
     refine Ri.step_plain rfl rfl (fun K' hK=>?_)
     go_simp
     exact hK _ _ ⟨_,_,rfl,rfl,hb,q0,q1,q2,q3,q4,q5,q6,q7,q8,q9,q10,fun _=>rfl,q12,q13,q14,q15,q16,q17,q18,q19,q20,q21,q22,q23,q24,q25,q26,q27,q28,q29⟩
   · have l0:L 11=true:=by have:=hd _ rfl;simp [Region.binds] at this;simp [this]
     have f11:=(hv 11 42 rfl l0).trans (q11 l0)
     refine Ri.step_plain rfl rfl (fun K' hK=>?_)
     go_simp
     exact hK _ _ ⟨_,_,rfl,rfl,hb,q0,q1,q2,q3,q4,q5,q6,q7,q8,q9,q10,q11,fun _=>rfl,q13,q14,q15,q16,q17,q18,q19,q20,q21,q22,q23,q24,q25,q26,q27,q28,q29⟩
   · have l0:L 12=true:=by have:=hd _ rfl;simp [Region.binds] at this;simp [this]
     have f12:=(hv 12 43 rfl l0).trans (q12 l0)
     have e6:xa.tmps.getD 6 undef=.int .i64 0:=ho 6 (by kernel_rfl)
     refine Ri.step_wanted (b:=false) rfl rfl rfl f12 (fun K' hK=>?_)
     go_simp
     exact hK _ _ ⟨_,_,rfl,rfl,hb,q0,q1,q2,q3,q4,q5,q6,q7,q8,q9,q10,q11,q12,fun _=>rfl,q14,q15,q16,q17,q18,q19,q20,q21,q22,q23,q24,q25,q26,q27,q28,q29⟩
   · have l0:L 12=true:=by have:=hd _ rfl;simp [Region.binds] at this;simp [this]
     have f12:=(hv 12 43 rfl l0).trans (q12 l0)
     have e11:xa.tmps.getD 11 undef=.pointer (some ⟨w4.heap.size,0,none⟩):=ho 11 (by kernel_rfl)
     refine Ri.step_wanted (b:=false) rfl rfl rfl f12 (fun K' hK=>?_)
     go_simp
     exact hK _ _ ⟨_,_,rfl,rfl,hb,q0,q1,q2,q3,q4,q5,q6,q7,q8,q9,q10,q11,q12,q13,fun _=>rfl,q15,q16,q17,q18,q19,q20,q21,q22,q23,q24,q25,q26,q27,q28,q29⟩
   · have l0:L 12=true∧L 14=true:=by have:=hd _ rfl;simp [Region.binds] at this;simp [this]
     have f12:=(hv 12 43 rfl l0.1).trans (q12 l0.1)
     have f14:=(hv 14 45 rfl l0.2).trans (q14 l0.2)
     refine Ri.step_wanted (b:=false) rfl rfl rfl f12 (fun K' hK=>?_)
     obtain ⟨e0,e1,e2,e3,e4,e5,e6,e7,e8,e9,e10,e11,e12⟩:=thirteen (keep_blk hb Z4.out)
     go_simp
     exact hK _ _ ⟨_,_,rfl,rfl,hb,q0,q1,q2,q3,q4,q5,q6,q7,q8,q9,q10,q11,q12,q13,q14,fun _=>rfl,q16,q17,q18,q19,q20,q21,q22,q23,q24,q25,q26,q27,q28,q29⟩
   · have l0:L 12=true∧L 13=true∧L 15=true:=by have:=hd _ rfl;simp [Region.binds] at this;simp [this]
     have f12:=(hv 12 43 rfl l0.1).trans (q12 l0.1)
     have f13:=(hv 13 44 rfl l0.2.1).trans (q13 l0.2.1)
     have f15:=(hv 15 46 rfl l0.2.2).trans (q15 l0.2.2)
     refine Ri.step_wanted (b:=false) rfl rfl rfl f12 (fun K' hK=>?_)
     go_simp
     exact hK _ _ ⟨_,_,rfl,rfl,hb,q0,q1,q2,q3,q4,q5,q6,q7,q8,q9,q10,q11,q12,q13,q14,q15,fun _=>rfl,q17,q18,q19,q20,q21,q22,q23,q24,q25,q26,q27,q28,q29⟩
   · have l0:L 12=true∧L 16=true:=by have:=hd _ rfl;simp [Region.binds] at this;simp [this]
     have f12:=(hv 12 43 rfl l0.1).trans (q12 l0.1)
     have f16:=(hv 16 47 rfl l0.2).trans (q16 l0.2)
     refine Ri.step_plain rfl rfl (fun K' hK=>?_)
     go_simp
     exact hK _ _ ⟨_,_,rfl,rfl,hb,q0,q1,q2,q3,q4,q5,q6,q7,q8,q9,q10,q11,q12,q13,q14,q15,q16,fun _=>rfl,q18,q19,q20,q21,q22,q23,q24,q25,q26,q27,q28,q29⟩
   · have l0:L 17=true:=by have:=hd _ rfl;simp [Region.binds] at this;simp [this]
     have f17:=(hv 17 48 rfl l0).trans (q17 l0)
     refine Ri.step_plain rfl rfl (fun K' hK=>?_)
     go_simp
     exact hK _ _ ⟨_,_,rfl,rfl,hb,q0,q1,q2,q3,q4,q5,q6,q7,q8,q9,q10,q11,q12,q13,q14,q15,q16,q17,fun _=>rfl,q19,q20,q21,q22,q23,q24,q25,q26,q27,q28,q29⟩
   · have l0:L 18=true:=by have:=hd _ rfl;simp [Region.binds] at this;simp [this]
     have f18:=(hv 18 49 rfl l0).trans (q18 l0)
     have e9:xa.tmps.getD 9 undef=.int .i64 0:=ho 9 (by kernel_rfl)
     refine Ri.step_wanted (b:=false) rfl rfl rfl f18 (fun K' hK=>?_)
     go_simp
     exact hK _ _ ⟨_,_,rfl,rfl,hb,q0,q1,q2,q3,q4,q5,q6,q7,q8,q9,q10,q11,q12,q13,q14,q15,q16,q17,q18,fun _=>rfl,q20,q21,q22,q23,q24,q25,q26,q27,q28,q29⟩
   · have l0:L 18=true:=by have:=hd _ rfl;simp [Region.binds] at this;simp [this]
     have f18:=(hv 18 49 rfl l0).trans (q18 l0)
     have e6:xa.tmps.getD 6 undef=.int .i64 0:=ho 6 (by kernel_rfl)
     refine Ri.step_wanted (b:=false) rfl rfl rfl f18 (fun K' hK=>?_)
     go_simp
     exact hK _ _ ⟨_,_,rfl,rfl,hb,q0,q1,q2,q3,q4,q5,q6,q7,q8,q9,q10,q11,q12,q13,q14,q15,q16,q17,q18,q19,fun _=>rfl,q21,q22,q23,q24,q25,q26,q27,q28,q29⟩
   · have l0:L 18=true∧L 19=true∧L 20=true:=by have:=hd _ rfl;simp [Region.binds] at this;simp [this]
     have f18:=(hv 18 49 rfl l0.1).trans (q18 l0.1)
     have f19:=(hv 19 50 rfl l0.2.1).trans (q19 l0.2.1)
     have f20:=(hv 20 51 rfl l0.2.2).trans (q20 l0.2.2)
     refine Ri.step_wanted (b:=false) rfl rfl rfl f18 (fun K' hK=>?_)
     go_simp
     exact hK _ _ ⟨_,_,rfl,rfl,hb,q0,q1,q2,q3,q4,q5,q6,q7,q8,q9,q10,q11,q12,q13,q14,q15,q16,q17,q18,q19,q20,fun _=>rfl,q22,q23,q24,q25,q26,q27,q28,q29⟩
   · have l0:L 18=true∧L 21=true:=by have:=hd _ rfl;simp [Region.binds] at this;simp [this]
     have f18:=(hv 18 49 rfl l0.1).trans (q18 l0.1)
     have f21:=(hv 21 52 rfl l0.2).trans (q21 l0.2)
     refine Ri.step_plain rfl rfl (fun K' hK=>?_)
     go_simp
     exact hK _ _ ⟨_,_,rfl,rfl,hb,q0,q1,q2,q3,q4,q5,q6,q7,q8,q9,q10,q11,q12,q13,q14,q15,q16,q17,q18,q19,q20,q21,fun _=>rfl,q23,q24,q25,q26,q27,q28,q29⟩
   · have l0:L 22=true:=by have:=hd _ rfl;simp [Region.binds] at this;simp [this]
     have f22:=(hv 22 53 rfl l0).trans (q22 l0)
     refine Ri.step_plain rfl rfl (fun K' hK=>?_)
     go_simp
     exact hK _ _ ⟨_,_,rfl,rfl,hb,q0,q1,q2,q3,q4,q5,q6,q7,q8,q9,q10,q11,q12,q13,q14,q15,q16,q17,q18,q19,q20,q21,q22,fun _=>rfl,q24,q25,q26,q27,q28,q29⟩
   · have l0:L 23=true:=by have:=hd _ rfl;simp [Region.binds] at this;simp [this]
     have f23:=(hv 23 54 rfl l0).trans (q23 l0)
     have e5:xa.tmps.getD 5 undef=.pointer (some ⟨w2.heap.size,0,none⟩):=ho 5 (by kernel_rfl)
     refine Ri.step_wanted (b:=false) rfl rfl rfl f23 (fun K' hK=>?_)
     refine wp_load_row _ _ rfl _ e5 _ _ _ _ (keep_blk hb X2.out) Tryz.underlying28 rfl (by kernel_rfl) ?_
     exact hK _ _ ⟨_,_,rfl,rfl,hb,q0,q1,q2,q3,q4,q5,q6,q7,q8,q9,q10,q11,q12,q13,q14,q15,q16,q17,q18,q19,q20,q21,q22,q23,fun _=>rfl,q25,q26,q27,q28,q29⟩
   · have l0:L 23=true:=by have:=hd _ rfl;simp [Region.binds] at this;simp [this]
     have f23:=(hv 23 54 rfl l0).trans (q23 l0)
     have e11:xa.tmps.getD 11 undef=.pointer (some ⟨w4.heap.size,0,none⟩):=ho 11 (by kernel_rfl)
     refine Ri.step_wanted (b:=false) rfl rfl rfl f23 (fun K' hK=>?_)
     go_simp
     exact hK _ _ ⟨_,_,rfl,rfl,hb,q0,q1,q2,q3,q4,q5,q6,q7,q8,q9,q10,q11,q12,q13,q14,q15,q16,q17,q18,q19,q20,q21,q22,q23,q24,fun _=>rfl,q26,q27,q28,q29⟩
   · have l0:L 23=true∧L 25=true:=by have:=hd _ rfl;simp [Region.binds] at this;simp [this]
     have f23:=(hv 23 54 rfl l0.1).trans (q23 l0.1)
     have f25:=(hv 25 56 rfl l0.2).trans (q25 l0.2)
     refine Ri.step_wanted (b:=false) rfl rfl rfl f23 (fun K' hK=>?_)
     obtain ⟨e0,e1,e2,e3,e4,e5,e6,e7,e8,e9,e10,e11,e12⟩:=thirteen (keep_blk hb Z4.out)
     go_simp
     exact hK _ _ ⟨_,_,rfl,rfl,hb,q0,q1,q2,q3,q4,q5,q6,q7,q8,q9,q10,q11,q12,q13,q14,q15,q16,q17,q18,q19,q20,q21,q22,q23,q24,q25,fun _=>rfl,q27,q28,q29⟩
   · have l0:L 23=true∧L 24=true∧L 26=true:=by have:=hd _ rfl;simp [Region.binds] at this;simp [this]
     have f23:=(hv 23 54 rfl l0.1).trans (q23 l0.1)
     have f24:=(hv 24 55 rfl l0.2.1).trans (q24 l0.2.1)
     have f26:=(hv 26 57 rfl l0.2.2).trans (q26 l0.2.2)
     refine Ri.step_wanted (b:=false) rfl rfl rfl f23 (fun K' hK=>?_)
     go_simp
     refine (HSN.out _ hb).mono ?_
     rintro e w8 ⟨rfl,hb8⟩
     exact hK _ _ ⟨_,_,rfl,rfl,hb.trans (hb8.mono hb.size),q0,q1,q2,q3,q4,q5,q6,q7,q8,q9,q10,q11,q12,q13,q14,q15,q16,q17,q18,q19,q20,q21,q22,q23,q24,q25,q26,fun _=>rfl,q28,q29⟩
   · have l0:L 23=true∧L 27=true:=by have:=hd _ rfl;simp [Region.binds] at this;simp [this]
     have f23:=(hv 23 54 rfl l0.1).trans (q23 l0.1)
     have f27:=(hv 27 58 rfl l0.2).trans (q27 l0.2)
     refine Ri.step_wanted (b:=false) rfl rfl rfl f23 (fun K' hK=>?_)
     go_simp
     exact hK _ _ ⟨_,_,rfl,rfl,hb,q0,q1,q2,q3,q4,q5,q6,q7,q8,q9,q10,q11,q12,q13,q14,q15,q16,q17,q18,q19,q20,q21,q22,q23,q24,q25,q26,q27,fun _=>rfl,q29⟩
   · have l0:L 23=true∧L 28=true:=by have:=hd _ rfl;simp [Region.binds] at this;simp [this]
     have f23:=(hv 23 54 rfl l0.1).trans (q23 l0.1)
     have f28:=(hv 28 59 rfl l0.2).trans (q28 l0.2)
     refine Ri.step_plain rfl rfl (fun K' hK=>?_)
     go_simp
     exact hK _ _ ⟨_,_,rfl,rfl,hb,q0,q1,q2,q3,q4,q5,q6,q7,q8,q9,q10,q11,q12,q13,q14,q15,q16,q17,q18,q19,q20,q21,q22,q23,q24,q25,q26,q27,q28,fun _=>rfl⟩
 · rintro v w9 ⟨hb,-,-,-,-,-,-,-,-,-,-,-,-,-,-,-,-,-,-,-,-,-,-,-,-,-,-,-,-,-,q29⟩
   have q29':v 29=.bool false:=q29 rfl
   simp only [Ri.frame,List.zipIdx,List.foldl_cons,List.foldl_nil,if_true,List.setIfInBounds_toArray,List.set_cons_zero,List.set_cons_succ,Nat.reduceAdd,q29']
   clear q29 q29'
   generalize v 0=y0;generalize v 1=y1;generalize v 2=y2;generalize v 3=y3;generalize v 4=y4;generalize v 5=y5;generalize v 6=y6;generalize v 7=y7;generalize v 8=y8;generalize v 9=y9;generalize v 10=y10;generalize v 11=y11;generalize v 12=y12;generalize v 13=y13;generalize v 14=y14;generalize v 15=y15;generalize v 16=y16;generalize v 17=y17;generalize v 18=y18;generalize v 19=y19;generalize v 20=y20;generalize v 21=y21;generalize v 22=y22;generalize v 23=y23;generalize v 24=y24;generalize v 25=y25;generalize v 26=y26;generalize v 27=y27;generalize v 28=y28
   have HB5:=Lib.hid (HB4.out.trans (hb.mono HB4.out.size));have Z5:=Lib.hid (keep_blk hb Z4.out)
   have HV5:=Lib.hid (HV2.out.later hb);have HV6:=Lib.hid (HV3.out.later hb);have HT5:=Lib.hid (HTW.out.later hb)
   clear hb HSN HV2 HV3 X2 X3 Z4 HB4 HEW HTW
   go_wp2_with fail
   refine Ri.wp_region_frame (by kernel_rfl) (by kernel_rfl) (by kernel_rfl) (by kernel_rfl)
     (fun L v w'=>Below w9.heap.size w9 w'∧(L 0=true→v 0=.iface 63 i2)∧(L 1=true→v 1=.int .i64 q)∧(L 2=true→v 2=.pointer (some ⟨w4.heap.size,12,none⟩))∧(L 3=true→v 3=.int .i64 q)∧(L 4=true→v 4=.bool true)∧(L 5=true→v 5=.bool true)∧(L 6=true→v 6=.iface 63 i3)∧(L 7=true→v 7=.int .i64 q)∧(L 8=true→v 8=.pointer (some ⟨w4.heap.size,12,none⟩))∧(L 9=true→v 9=.int .i64 q)∧(L 10=true→v 10=.bool true)∧(L 11=true→v 11=.bool true)∧(L 12=true→v 12=.bool true))
     ?_ ?_ ?_
   · exact ⟨(Below.refl _ _).drew,by simp,by simp,by simp,by simp,by simp,by simp,by simp,by simp,by simp,by simp,by simp,by simp,by simp⟩
   · intro i hi9 L v w10 xa hI hL hd hv ho
     have hi':i=0 ∨ i=1 ∨ i=2 ∨ i=3 ∨ i=4 ∨ i=5 ∨ i=6 ∨ i=7 ∨ i=8 ∨ i=9 ∨ i=10 ∨ i=11 ∨ i=12:=by simp at hi9;omega
     obtain ⟨hb,q0,q1,q2,q3,q4,q5,q6,q7,q8,q9,q10,q11,q12⟩:=hI
     rcases hi' with rfl | rfl | rfl | rfl | rfl | rfl | rfl | rfl | rfl | rfl | rfl | rfl | rfl
     · have e7:xa.tmps.getD 7 undef=.iface 63 i2:=ho 7 (by kernel_rfl)
       refine Ri.step_plain rfl rfl (fun K' hK=>?_)
       go_simp
       exact hK _ _ ⟨_,_,rfl,rfl,hb,fun _=>rfl,q1,q2,q3,q4,q5,q6,q7,q8,q9,q10,q11,q12⟩
     · have l0:L 0=true:=by have:=hd _ rfl;simp [Region.binds] at this;simp [this]
       have f0:=(hv 0 63 rfl l0).trans (q0 l0)
       refine Ri.step_plain rfl rfl (fun K' hK=>?_)
       go_simp
       refine (HV5.out.later hb |>.place (HT5.out.later hb)).mono ?_
       rintro e w8 ⟨rfl,hb8⟩
       exact hK _ _ ⟨_,_,rfl,rfl,hb.trans (hb8.mono hb.size),q0,fun _=>rfl,q2,q3,q4,q5,q6,q7,q8,q9,q10,q11,q12⟩
     · have e11:xa.tmps.getD 11 undef=.pointer (some ⟨w4.heap.size,0,none⟩):=ho 11 (by kernel_rfl)
       refine Ri.step_plain rfl rfl (fun K' hK=>?_)
       go_simp
       exact hK _ _ ⟨_,_,rfl,rfl,hb,q0,q1,fun _=>rfl,q3,q4,q5,q6,q7,q8,q9,q10,q11,q12⟩
     · have l0:L 2=true:=by have:=hd _ rfl;simp [Region.binds] at this;simp [this]
       have f2:=(hv 2 65 rfl l0).trans (q2 l0)
       refine Ri.step_plain rfl rfl (fun K' hK=>?_)
       obtain ⟨e0,e1,e2,e3,e4,e5,e6,e7,e8,e9,e10,e11,e12⟩:=thirteen (keep_blk hb Z5.out)
       go_simp
       exact hK _ _ ⟨_,_,rfl,rfl,hb,q0,q1,q2,fun _=>rfl,q4,q5,q6,q7,q8,q9,q10,q11,q12⟩
     · have l0:L 1=true∧L 3=true:=by have:=hd _ rfl;simp [Region.binds] at this;simp [this]
       have f1:=(hv 1 64 rfl l0.1).trans (q1 l0.1)
       have f3:=(hv 3 66 rfl l0.2).trans (q3 l0.2)
       refine Ri.step_plain rfl rfl (fun K' hK=>?_)
       go_simp
       exact hK _ _ ⟨_,_,rfl,rfl,hb,q0,q1,q2,q3,fun _=>rfl,q5,q6,q7,q8,q9,q10,q11,q12⟩
     · have l0:L 4=true:=by have:=hd _ rfl;simp [Region.binds] at this;simp [this]
       have f4:=(hv 4 67 rfl l0).trans (q4 l0)
       refine Ri.step_plain rfl rfl (fun K' hK=>?_)
       go_simp
       exact hK _ _ ⟨_,_,rfl,rfl,hb,q0,q1,q2,q3,q4,fun _=>rfl,q6,q7,q8,q9,q10,q11,q12⟩
     · have l0:L 5=true:=by have:=hd _ rfl;simp [Region.binds] at this;simp [this]
       have f5:=(hv 5 68 rfl l0).trans (q5 l0)
       have e10:xa.tmps.getD 10 undef=.iface 63 i3:=ho 10 (by kernel_rfl)
       refine Ri.step_wanted (b:=true) rfl rfl rfl f5 (fun K' hK=>?_)
       go_simp
       exact hK _ _ ⟨_,_,rfl,rfl,hb,q0,q1,q2,q3,q4,q5,fun _=>rfl,q7,q8,q9,q10,q11,q12⟩
     · have l0:L 5=true∧L 6=true:=by have:=hd _ rfl;simp [Region.binds] at this;simp [this]
       have f5:=(hv 5 68 rfl l0.1).trans (q5 l0.1)
       have f6:=(hv 6 69 rfl l0.2).trans (q6 l0.2)
       refine Ri.step_wanted (b:=true) rfl rfl rfl f5 (fun K' hK=>?_)
       go_simp
       refine (HV6.out.later hb |>.place (HT5.out.later hb)).mono ?_
       rintro e w8 ⟨rfl,hb8⟩
       exact hK _ _ ⟨_,_,rfl,rfl,hb.trans (hb8.mono hb.size),q0,q1,q2,q3,q4,q5,q6,fun _=>rfl,q8,q9,q10,q11,q12⟩
     · have l0:L 5=true:=by have:=hd _ rfl;simp [Region.binds] at this;simp [this]
       have f5:=(hv 5 68 rfl l0).trans (q5 l0)
       have e11:xa.tmps.getD 11 undef=.pointer (some ⟨w4.heap.size,0,none⟩):=ho 11 (by kernel_rfl)
       refine Ri.step_wanted (b:=true) rfl rfl rfl f5 (fun K' hK=>?_)
       go_simp
       exact hK _ _ ⟨_,_,rfl,rfl,hb,q0,q1,q2,q3,q4,q5,q6,q7,fun _=>rfl,q9,q10,q11,q12⟩
     · have l0:L 5=true∧L 8=true:=by have:=hd _ rfl;simp [Region.binds] at this;simp [this]
       have f5:=(hv 5 68 rfl l0.1).trans (q5 l0.1)
       have f8:=(hv 8 71 rfl l0.2).trans (q8 l0.2)
       refine Ri.step_wanted (b:=true) rfl rfl rfl f5 (fun K' hK=>?_)
       obtain ⟨e0,e1,e2,e3,e4,e5,e6,e7,e8,e9,e10,e11,e12⟩:=thirteen (keep_blk hb Z5.out)
       go_simp
       exact hK _ _ ⟨_,_,rfl,rfl,hb,q0,q1,q2,q3,q4,q5,q6,q7,q8,fun _=>rfl,q10,q11,q12⟩
     · have l0:L 5=true∧L 7=true∧L 9=true:=by have:=hd _ rfl;simp [Region.binds] at this;simp [this]
       have f5:=(hv 5 68 rfl l0.1).trans (q5 l0.1)
       have f7:=(hv 7 70 rfl l0.2.1).trans (q7 l0.2.1)
       have f9:=(hv 9 72 rfl l0.2.2).trans (q9 l0.2.2)
       refine Ri.step_wanted (b:=true) rfl rfl rfl f5 (fun K' hK=>?_)
       go_simp
       exact hK _ _ ⟨_,_,rfl,rfl,hb,q0,q1,q2,q3,q4,q5,q6,q7,q8,q9,fun _=>rfl,q11,q12⟩
     · have l0:L 5=true∧L 10=true:=by have:=hd _ rfl;simp [Region.binds] at this;simp [this]
       have f5:=(hv 5 68 rfl l0.1).trans (q5 l0.1)
       have f10:=(hv 10 73 rfl l0.2).trans (q10 l0.2)
       refine Ri.step_plain rfl rfl (fun K' hK=>?_)
       go_simp
       exact hK _ _ ⟨_,_,rfl,rfl,hb,q0,q1,q2,q3,q4,q5,q6,q7,q8,q9,q10,fun _=>rfl,q12⟩
     · have l0:L 11=true:=by have:=hd _ rfl;simp [Region.binds] at this;simp [this]
       have f11:=(hv 11 74 rfl l0).trans (q11 l0)
       refine Ri.step_plain rfl rfl (fun K' hK=>?_)
       go_simp
       exact hK _ _ ⟨_,_,rfl,rfl,hb,q0,q1,q2,q3,q4,q5,q6,q7,q8,q9,q10,q11,fun _=>rfl⟩
   · rintro v w10 ⟨hb,-,-,-,-,-,-,-,-,-,-,-,-,q12⟩
     have q12':v 12=.bool true:=q12 rfl
     simp only [Ri.frame,List.zipIdx,List.foldl_cons,List.foldl_nil,if_true,List.setIfInBounds_toArray,List.set_cons_zero,List.set_cons_succ,Nat.reduceAdd,q12']
     clear q12 q12'
     generalize v 0=y0;generalize v 1=y1;generalize v 2=y2;generalize v 3=y3;generalize v 4=y4;generalize v 5=y5;generalize v 6=y6;generalize v 7=y7;generalize v 8=y8;generalize v 9=y9;generalize v 10=y10;generalize v 11=y11
     have HB6:=Lib.hid (HB5.out.trans (hb.mono HB5.out.size))
     clear hb
     go_wp2
     go_ret
     exact ⟨rfl,HB6.out⟩
theorem breparses_any (A:Nat→Addr) (x:ByteArray) (fl:Int) (w:World) (hE:BrEnv w A) (hT:ErrType w) :
   Calls Tryz.prog 3 #[.string x,.int .i64 fl] w fun e w'=>e=.returned (.bool true)∧Below w.heap.size w w':=by
 cases hO:Bp.parse (bt x) x.size (icB fl) (nlB fl) with
 | ok T j g=>exact breparses_ok A x fl w hE hT T j g hO
 | err c q=>exact breparses_err A x fl w hE hT c q hO
end Go.Proofs.YtfcilopifjddpaaGreatDoor
namespace Go.Proofs.YtfcilopifjddpaaGreatDoor
open Go.ChangeShapes Go.WideShapes Go.ChangeAt Go.RowKit
theorem Tryz.own:ownKnob Tryz.prog.godebug=none:=by kernel_rfl
theorem Tryz.laidOut:laidOutB Tryz.prog=true:=by kernel_rfl
end Go.Proofs.YtfcilopifjddpaaGreatDoor
namespace Go.Proofs.YtfcilopifjddpaaGreatDoor
open Go.ChangeShapes Go.WideShapes Go.ChangeAt Go.RowKit
theorem laid_split {P:Program} {l:List (String × DataW Unit)} {W:World} (h:laidMetH P l W):laidMet P (l.filter fun x=>x.2.handleName?.isNone) W∧handlesMet P (l.filter fun x=>x.2.handleName?.isSome) W:=by
 unfold laidMetH at h
 generalize hfl:(l.filter fun x=>x.2.handleName?.isSome)=fl at h
 cases fl with
 | nil =>
   have e:(l.filter fun x=>x.2.handleName?.isNone)=l:=by
     rw [List.filter_eq_self]
     intro x hx
     have:=List.filter_eq_nil_iff.1 hfl x hx
     cases hh:x.2.handleName? with
     | none=>rfl
     | some y=>rw [hh] at this;simp at this
   rw [e]
   exact ⟨h,fun x hx=>by cases hx⟩
 | cons x r=>exact h
theorem Tryz.errorTypeG : Tryz.prog.globalNamed "errors.errorType" = some 21 := by kernel_rfl
theorem Tryz.rtypeT : (Tryz.prog.cutTypes.find? (·.1 == "internal/reflectlite.rtype")).map (·.2) = some 137 := by kernel_rfl
theorem Tryz.errorRow:((List.range Tryz.prog.types.size).filter fun t=>Tryz.prog.rowNamed t [101,114,114,111,114])=[30]:=by kernel_rfl
theorem Tryz.errorHandle:typeHandle Tryz.prog 30=.pointer (some ⟨Tryz.prog.globals.size,30,none⟩):=by kernel_rfl
theorem errtype_of {l : List (String × DataW Unit)} {W : World} (h : handlesMet Tryz.prog l W) (hl : ("errors.errorType", Rows.laid_errors_errorType) ∈ l) : ErrType W := by
 obtain ⟨name,u,ty,e1,e2,e3,e4,e5⟩:=h _ hl
 have en:name=[101,114,114,111,114]:=(Option.some.inj e1).symm
 subst en
 obtain rfl:=Option.some.inj (Tryz.rtypeT.symm.trans e2)
 have hm:ty ∈ (List.range Tryz.prog.types.size).filter fun t=>Tryz.prog.rowNamed t [101,114,114,111,114]:=List.mem_filter.2 ⟨List.mem_range.2 e3,e4⟩
 rw [Tryz.errorRow] at hm
 obtain rfl:=List.mem_singleton.1 hm
 rw [Tryz.errorHandle] at e5
 unfold ErrType
 simpa using World.var?_cell Tryz.errorTypeG e5 0
theorem errList_plain:∀ x,x ∈ errList→x.2.handleName?.isNone=true:=by
 have h:(errList.all fun x=>x.2.handleName?.isNone)=true:=by kernel_rfl
 intro x hx
 exact List.all_eq_true.1 h x hx
theorem errs_handle_of {l : List (String × DataW Unit)} {W : World} (h : laidMetH Tryz.prog l W) (hl : ∀ x, x ∈ errList → x ∈ l) (hh : ("errors.errorType", Rows.laid_errors_errorType) ∈ l) : (∃ A, Errs W A) ∧ ErrType W := by
 obtain ⟨h1,h2⟩:=laid_split h
 exact ⟨errs_of h1 fun x hx=>List.mem_filter.2 ⟨hl x hx,errList_plain x hx⟩,errtype_of h2 (List.mem_filter.2 ⟨hh,rfl⟩)⟩
end Go.Proofs.YtfcilopifjddpaaGreatDoor
