/- Part 1 of what these proofs need. -/
import Derived.Laws.Tables
import Derived.Laws.Rows
import Derived.Laws.EntriesVeiled
import Derived.Lib.Tables
import Derived.ChangeSame
import Derived.ChangeMaps5
import Derived.Deep.Strs
import Derived.ChangeArms
import Derived.Test.YtknlkgegbcbcfaaDoorOc3
set_option maxRecDepth 100000
set_option maxHeartbeats 16000000
namespace Go.Proofs.YtknlkgegbcbcfaaDoor
open Go.RowKit
namespace Tr
end Tr
theorem TreesAt.mono {w:World} {B B':Nat→Prop} {s:Value} {ts:List Tr} (h:TreesAt w B s ts) (hB:∀ b,b < w.heap.size→B b→B' b):TreesAt w B' s ts:=by
 induction h with
 | mk p cap ts S hlen hc hs ih =>
   refine .mk p cap ts S hlen (fun i t hi=>?_) (fun i t hi=>ih i t hi)
   obtain ⟨b,o,hp,hb,h10⟩:=hc i t hi
   exact ⟨b,o,hp,hB b h10.lt hb,h10⟩
end Go.Proofs.YtknlkgegbcbcfaaDoor
namespace Go.Proofs.YtknlkgegbcbcfaaDoor
open Go.RowKit
namespace Tr
mutual
def leftT:Tr→Int→Int
 | .node _ _ _ _ _ s _ _ _ _,m=>leftS s (m - 1)
def leftS:List Tr→Int→Int
 | [],m=>m
 | t :: l,m=>if 0 ≤ m then leftS l (leftT t m) else m
end
theorem leftT_eq (t:Tr) (m:Int):t.leftT m=leftS t.subs (m - 1):=by cases t;rw [leftT];rfl
theorem leftS_neg (l:List Tr) {m:Int} (h:m < 0):leftS l m=m:=by
 cases l with
 | nil=>rfl
 | cons t l=>rw [leftS,if_neg (by omega)]
theorem leftS_spec:∀ (l:List Tr),(∀ t,t ∈ l→∀ m,0 ≤ m→t.leftT m ≤ m∧-1 ≤ t.leftT m∧(0 ≤ t.leftT m→t.leftT m=m - t.ndT)∧((t.ndT:Int) ≤ m→0 ≤ t.leftT m))→∀ m,-1 ≤ m→leftS l m ≤ m∧-1 ≤ leftS l m∧(0 ≤ leftS l m→leftS l m=m - ndS l)∧(0 ≤ m→(ndS l:Int) ≤ m→0 ≤ leftS l m)
 | [],_,m,hm=>by rw [leftS,ndS];exact ⟨Int.le_refl _,hm,fun _=>by omega,fun h _=>h⟩
 | t :: l,ih,m,hm=>by
   rw [leftS,ndS]
   split
   · rename_i h0
     obtain ⟨h1,h2,h3,h4⟩:=ih t List.mem_cons_self m h0
     obtain ⟨k1,k2,k3,k4⟩:=leftS_spec l (fun u hu=>ih u (List.mem_cons_of_mem _ hu)) (t.leftT m) h2
     refine ⟨by omega,k2,fun h=>?_,fun _ h=>?_⟩
     · have:=h3 (by omega)
       have:=k3 h
       omega
     · have a:=h4 (by omega)
       have b:=h3 a
       exact k4 a (by omega)
   · rename_i h0
     exact ⟨Int.le_refl _,hm,fun h=>absurd h h0,fun h=>absurd h h0⟩
theorem leftT_spec:∀ (t:Tr) (m:Int),0 ≤ m→t.leftT m ≤ m∧-1 ≤ t.leftT m∧(0 ≤ t.leftT m→t.leftT m=m - t.ndT)∧((t.ndT:Int) ≤ m→0 ≤ t.leftT m):=by
 intro t
 induction t using Tr.rec_subs with
 | h t ih =>
   intro m hm
   rw [leftT_eq,ndT_eq]
   obtain ⟨k1,k2,k3,k4⟩:=leftS_spec t.subs (fun u hu=>ih u hu) (m - 1) (by omega)
   exact ⟨by omega,k2,fun h=>by have:=k3 h;omega,fun h=>k4 (by omega) (by omega)⟩
end Tr
theorem numleft_any:∀ t:Tr,∀ m0:Nat,m0 ≤ 1000000→∀ (w:World) (B:Nat→Prop) (v:Value),NodeV w B v t→Calls Tryd.prog 57 #[v,.int .i64 m0] w fun e w'=>e=.returned (.int .i64 (t.leftT m0))∧Below w.heap.size w w':=by
 intro t
 induction t using Tr.rec_subs with
 | h t ih =>
   intro m0 hm0 w B v hv
   obtain ⟨s,rfl,hs⟩:=hv
   obtain ⟨p,cap,rfl,hlen⟩:=hs.slice
   have hsp:=Tr.leftS_spec t.subs (fun u _=>Tr.leftT_spec u)
   rw [Tr.leftT_eq]
   generalize hts:t.subs=ts at *
   have IH:=Lib.hid ih;have HS:=Lib.hid hs;have HSP:=Lib.hid hsp
   clear ih hs hts hsp
   unfold Tr.cells at *
   obtain ⟨R,hR⟩:∃ R,Tr.leftS ts ((m0:Int) - 1)=R:=⟨_,rfl⟩
   rw [hR]
   have HR:=Lib.hid hR
   clear hR
   have w0:IntKind.i64.wrap ((m0:Int) - 1)=(m0:Int) - 1:=IntWalk.i64_in _ (by omega)
   have Z0:=Lib.hid (heap_alloc_new w (.cells #[.int .i64 t.kind,.int .u64 (Oc.U t.w0),.int .u64 (Oc.U t.w1),.int .u64 (Oc.U t.w2),.int .u64 (Oc.U t.w3),.slice p ts.length cap,.int .i64 t.num,.int .i64 t.least,.int .i64 t.most,.bool t.bare] 37))
   have HW:=Lib.hid (show Below w.heap.size w (w.alloc (.cells #[.int .i64 t.kind,.int .u64 (Oc.U t.w0),.int .u64 (Oc.U t.w1),.int .u64 (Oc.U t.w2),.int .u64 (Oc.U t.w3),.slice p ts.length cap,.int .i64 t.num,.int .i64 t.least,.int .i64 t.most,.bool t.bare] 37)) from (Below.refl _ _).alloc (Nat.le_refl _) _)
   go_enter Tryd.func57,Tryd.ntmps57
   go_wp2
   generalize w.alloc (.cells #[.int .i64 t.kind,.int .u64 (Oc.U t.w0),.int .u64 (Oc.U t.w1),.int .u64 (Oc.U t.w2),.int .u64 (Oc.U t.w3),.slice p ts.length cap,.int .i64 t.num,.int .i64 t.least,.int .i64 t.most,.bool t.bare] 37)=W0 at *
   go_loopw [1,5] (fun mv iv wr=>∃ (i:Nat) (m:Int),iv=.int .i64 i∧mv=.int .i64 m∧i ≤ ts.length∧-1 ≤ m∧m ≤ 1000000∧Hid (Tr.leftS (ts.drop i) m=R)∧Hid (Below W0.heap.size W0 wr)) (fun _ iv _=>ts.length - (intOf iv).toNat)
   case atStart=>exact ⟨0,(m0:Int) - 1,rfl,rfl,Nat.zero_le _,by omega,by omega,by rw [List.drop_zero];exact HR,Lib.hid (Below.refl _ _)⟩
   case round =>
     obtain ⟨i,m,rfl,rfl,hi,hm1,hm2,HL,HB⟩:=hrel
     have wi:IntKind.i64.wrap ((i:Int)+1)=(i:Int)+1:=IntWalk.i64_in _ (by omega)
     have HBW:=Lib.hid (HW.out.trans (HB.out.mono HW.out.size))
     have Z1:=Lib.hid (keep_blk (HB.out.mono (Nat.le_refl _)) Z0.out)
     obtain ⟨d0,d1,d2,d3,d4,d5,d6,d7,d8,d9⟩:=allTen Z1.out
     by_cases hlt:i < ts.length
     · by_cases hmz:0 ≤ m
       · obtain ⟨mn,rfl⟩:∃ mn:Nat,m=mn:=⟨m.toNat,by omega⟩
         have gm:decide ((0:Int) ≤ (mn:Int))=true:=by simp
         obtain ⟨x,hx⟩:∃ x,ts[i]? = some x:=⟨_,List.getElem?_eq_getElem hlt⟩
         obtain ⟨b1,o1,s1,rfl,-,t1,sub1⟩:=HS.out.get hx
         obtain ⟨e0,e1,e2,e3,e4,e5,e6,e7,e8,e9⟩:=t1.keep (HBW.out.block _ t1.lt)
         have hmem:=List.mem_of_getElem? hx
         obtain ⟨p1,c1,rfl,hl1⟩:=sub1.slice
         have HC:=Lib.hid (IH.out x hmem mn (by omega) wr B (.agg (x.cells (.slice p1 x.subs.length c1))) ⟨_,rfl,sub1.later HBW.out⟩)
         have hdr:ts.drop i=x :: ts.drop (i+1):=by
           rw [List.drop_eq_getElem_cons hlt,(List.getElem?_eq_some_iff.1 hx).2]
         have hl:=HL.out
         rw [hdr,Tr.leftS,if_pos (by omega)] at hl
         have HL2:=Lib.hid hl
         obtain ⟨k1,k2,-,-⟩:=Tr.leftT_spec x mn (by omega)
         clear t1 sub1 hmem hx hdr hl HL
         unfold Tr.cells at HC
         go_wp2_with fail
         refine HC.out.mono ?_
         rintro e w2 ⟨rfl,hb2⟩
         have HB2:=Lib.hid (HB.out.trans (hb2.mono HB.out.size))
         generalize x.leftT mn=mm at *
         clear e0 e1 e2 e3 e4 e5 e6 e7 e8 e9 hb2 HC d0 d1 d2 d3 d4 d5 d6 d7 d8 d9
         go_wp2
         exact ⟨⟨i+1,mm,by go_num,rfl,by omega,k2,by omega,HL2,HB2⟩,by simp [intOf];omega⟩
       · have gm:decide ((0:Int) ≤ m)=false:=by simp;omega
         have hl:=HL.out
         rw [Tr.leftS_neg _ (by omega)] at hl
         have HL2:=Lib.hid hl
         clear hl HL hmz
         go_wp2
         go_ret
         exact ⟨ret_int HL2.out,HBW.out⟩
     · obtain rfl:i=ts.length:=by omega
       have hl:=HL.out
       rw [List.drop_length,Tr.leftS] at hl
       have HL2:=Lib.hid hl
       clear hl HL
       go_wp2
       go_ret
       exact ⟨ret_int HL2.out,HBW.out⟩
theorem few_any (t:Tr) (m:Nat) (hm:m ≤ 1000000) (w:World) (B:Nat→Prop) (v:Value) (hv:NodeV w B v t) :
   Calls Tryd.prog 30 #[v,.int .i64 m] w fun e w'=>e=.returned (.bool (decide (t.ndT ≤ m)))∧Below w.heap.size w w':=by
 obtain ⟨s,rfl,hs⟩:=hv
 have H1:=Lib.hid (fun w' (hb:Below w.heap.size w w')=>numleft_any t m hm w' B (.agg (t.cells s)) ⟨s,rfl,TreesAt.later (w':=w') hs hb⟩)
 obtain ⟨p,cap,rfl,hlen⟩:=hs.slice
 have hsp:=Tr.leftT_spec t m (by omega)
 have hdec:decide ((0:Int) ≤ t.leftT m)=decide (t.ndT ≤ m):=by
   by_cases h:t.ndT ≤ m
   · rw [decide_eq_true h,decide_eq_true (hsp.2.2.2 (by omega))]
   · rw [decide_eq_false h,decide_eq_false (fun h2=>h (by have:=hsp.2.2.1 h2;omega))]
 have HD:=Lib.hid hdec
 have Z0:=Lib.hid (heap_alloc_new w (.cells (t.cells (.slice p t.subs.length cap)) 37))
 have HW:=Lib.hid (show Below w.heap.size w (w.alloc (.cells (t.cells (.slice p t.subs.length cap)) 37)) from (Below.refl _ _).alloc (Nat.le_refl _) _)
 clear hs hsp hdec
 unfold Tr.cells at *
 go_enter Tryd.func30,Tryd.ntmps30
 go_wp2_with (first
   | (refine wpList_load_row rfl 37 (.tmp 2) rfl w.heap.size rfl 37 _ (0,0) _ Z0.out Tryd.underlying37 rfl (by kernel_rfl) ?_)
   | fail)
 refine (H1.out _ HW.out).mono ?_
 rintro e w1 ⟨rfl,hb1⟩
 have HB1:=Lib.hid (HW.out.trans (hb1.mono HW.out.size))
 clear hb1
 generalize t.leftT m=mm at *
 go_wp2
 go_ret
 exact ⟨ret_bool HD.out,HB1.out⟩
end Go.Proofs.YtknlkgegbcbcfaaDoor
namespace Go.Proofs.YtknlkgegbcbcfaaDoor
namespace Rk
theorem at_mem {ts:List Tr} {i:Int} {u:Tr} (h:at? ts i=some u):u ∈ ts:=by
 unfold at? at h;split at h
 · exact List.mem_of_getElem? h
 · cases h
theorem okT_le {x:Sc} {p:Pa} {t:Tr} (h:okT x p t=true):0 ≤ p.lo∧p.lo ≤ p.hi∧p.hi ≤ (x.t.size:Int):=by
 rw [okT_eq,Bool.and_eq_true] at h
 have h1:=h.1
 unfold fits inSc at h1
 simp only [Bool.and_eq_true,decide_eq_true_eq] at h1
 exact ⟨h1.1.1,h1.1.2.1,h1.1.2.2⟩
theorem okS_le {x:Sc} : ∀ {l:List Pa} {t:Tr} {pk:Int} {i:Nat},okS x l t pk i=true→∀ q,q ∈ l→q.lo ≤ q.hi
 | [],_,_,_,_,q,hq=>by cases hq
 | r :: l,t,pk,i,h,q,hq=>by
   rw [okS,Bool.and_eq_true] at h
   rcases List.mem_cons.1 hq with rfl | hq
   · have h1:=h.1
     split at h1
     · exact (okT_le h1).2.1
     · cases h1
   · exact okS_le h.2 q hq
end Rk
end Go.Proofs.YtknlkgegbcbcfaaDoor
namespace Go.Proofs.YtknlkgegbcbcfaaDoor
open Go.RowKit
namespace Rk
def asks (x:Sc) (t:Tr) (q:Pa) (g:Int):Bool:=decide (0 ≤ g) && (decide (g ≤ 999) && chk x t q)
end Rk
def SpNo (w:World) (e:Ending) (w':World):Prop:=e=.returned (.tuple #[.slice none 0 0,.bool false])∧Below w.heap.size w w'
theorem rkspans_no (A:Nat→Addr) (x:Sc) (b:Nat) (hsz:x.t.size ≤ 4611686018427387904) (t:Tr) (hd:t.dpT ≤ 1000000) (q:Pa) (g:Int) (hno:Rk.asks x t q g=false) (w:World) (hE:ErrsC w A) (hx:ScAt w b x) (B C:Nat→Prop) (v vq:Value) (hv:NodeV w B v t) (hq:PaV w C vq q) :
   Calls Tryd.prog 34 #[v,.pointer (some ⟨b,0,none⟩),vq,.int .i64 g] w (SpNo w):=by
 have HC:=Lib.hid (fun w9 (h:Below w.heap.size w w9)=>rkcheck_any A x b hsz t hd q w9 (hE.below h) (hx.below h) B C v vq (hv.later h) (hq.later h))
 obtain ⟨sv,rfl,hs⟩:=hv
 obtain ⟨p,cap,rfl,hlt⟩:=hs.slice
 obtain ⟨z,rfl,hz⟩:=hq
 obtain ⟨pp,pc,rfl,hlq⟩:=hz.slice
 clear hs hz hx hE hd
 unfold Rk.asks at hno
 unfold Tr.cells Pa.cells at *
 have HA:=Lib.hid (show Below w.heap.size w ((w.alloc (.cells #[.int .i64 t.kind,.int .u64 (Oc.U t.w0),.int .u64 (Oc.U t.w1),.int .u64 (Oc.U t.w2),.int .u64 (Oc.U t.w3),.slice p t.subs.length cap,.int .i64 t.num,.int .i64 t.least,.int .i64 t.most,.bool t.bare] 37)).alloc (.cells #[.int .i64 q.lo,.int .i64 q.hi,.int .i64 q.pick,.slice pp q.subs.length pc] 57)) from by go_grown)
 have W2x:=Lib.hid (two_new w (.cells #[.int .i64 t.kind,.int .u64 (Oc.U t.w0),.int .u64 (Oc.U t.w1),.int .u64 (Oc.U t.w2),.int .u64 (Oc.U t.w3),.slice p t.subs.length cap,.int .i64 t.num,.int .i64 t.least,.int .i64 t.most,.bool t.bare] 37) (.cells #[.int .i64 q.lo,.int .i64 q.hi,.int .i64 q.pick,.slice pp q.subs.length pc] 57))
 by_cases h0:0 ≤ g
 · have d0:decide (g < 0)=false:=decide_eq_false (by omega)
   by_cases h9:g ≤ 999
   · have d1:decide (999 < g)=false:=decide_eq_false (by omega)
     rw [decide_eq_true h0,decide_eq_true h9,Bool.true_and,Bool.true_and] at hno
     rw [hno] at HC
     clear hno h0 h9
     obtain ⟨n0,n1,n2,n3,n4,n5,n6,n7,n8,n9⟩:=allTen W2x.out.1
     go_enter Tryd.func34,Tryd.ntmps34
     go_wp2_with fail
     refine (HC.out _ HA.out).mono ?_
     rintro e w1 ⟨rfl,hb1⟩
     have HB1:=Lib.hid (HA.out.trans (hb1.mono HA.out.size))
     clear hb1 W2x HA HC n0 n1 n2 n3 n4 n5 n6 n7 n8 n9
     go_wp2
     go_ret2
     exact ⟨rfl,HB1.out⟩
   · have d1:decide (999 < g)=true:=decide_eq_true (by omega)
     clear hno h0 h9 HC W2x
     go_enter Tryd.func34,Tryd.ntmps34
     go_wp2
     go_ret2
     exact ⟨rfl,HA.out⟩
 · have d0:decide (g < 0)=true:=decide_eq_true (by omega)
   clear hno h0 HC W2x
   go_enter Tryd.func34,Tryd.ntmps34
   go_wp2
   go_ret2
   exact ⟨rfl,HA.out⟩
end Go.Proofs.YtknlkgegbcbcfaaDoor
namespace Go.Proofs.YtknlkgegbcbcfaaDoor
namespace Rk
def Inn (lo hi:Int) (s:Int × Int):Prop:=s=(-1,-1) ∨ (lo ≤ s.1∧s.1 ≤ s.2∧s.2 ≤ hi)
theorem ord_in:∀ (l:List Pa) (a b:Int),(∀ q,q ∈ l→q.lo ≤ q.hi)→inOrd l a b=true→a ≤ b∧∀ q,q ∈ l→a ≤ q.lo∧q.hi ≤ b
 | [],a,b,_,h=>⟨by rw [inOrd,beq_iff_eq] at h;omega,fun q hq=>by cases hq⟩
 | r :: l,a,b,hl,h=>by
   rw [inOrd,Bool.and_eq_true,beq_iff_eq] at h
   obtain ⟨h1,h2⟩:=ord_in l r.hi b (fun q hq=>hl q (List.mem_cons_of_mem _ hq)) h.2
   have:=hl r List.mem_cons_self
   refine ⟨by omega,fun q hq=>?_⟩
   rcases List.mem_cons.1 hq with rfl | hq
   · exact ⟨by omega,by omega⟩
   · have:=h2 q hq;exact ⟨by omega,this.2⟩
theorem fits_ord {x:Sc} {t:Tr} {q:Pa} (h:fits x t q=true):q.subs=[] ∨ inOrd q.subs q.lo q.hi=true:=by
 unfold fits at h
 simp only [Bool.and_eq_true] at h
 obtain ⟨-,-,h⟩:=h
 by_cases he:q.subs=[]
 · exact .inl he
 · refine .inr ?_
   unfold fitK at h
   simp only [he] at h
   split at h
   · simp at h
   split at h
   · simp at h
   split at h
   · simp at h
   split at h
   · simp at h
   split at h
   · simp only [Bool.and_eq_true] at h;exact h.2
   split at h
   · simp only [Bool.and_eq_true] at h;exact h.2.2.2
   split at h
   · simp only [Bool.and_eq_true] at h;exact h.2
   split at h
   · simp only [Bool.and_eq_true] at h;exact h.1
   · cases h
theorem sub_in {x:Sc} {t:Tr} {q:Pa} (h:okT x q t=true):∀ y,y ∈ q.subs→q.lo ≤ y.lo∧y.hi ≤ q.hi:=by
 rw [okT_eq,Bool.and_eq_true] at h
 rcases fits_ord h.1 with e | e
 · intro y hy;rw [e] at hy;cases hy
 · exact (ord_in q.subs q.lo q.hi (okS_le h.2) e).2
theorem tellAll_get {σ:Told} {ns:List Int} {n:Int} {s:Int × Int} (h:tellAll σ ns n=some s):s=(-1,-1) ∨ σ n=some s:=by
 unfold tellAll at h
 by_cases c:n ∈ ns∧(σ n).isNone
 · rw [if_pos c] at h;exact .inl (Option.some.inj h).symm
 · rw [if_neg c] at h;exact .inr h
theorem tell_get {σ:Told} {m n:Int} {v s:Int × Int} (h:tell σ m v n=some s):s=v ∨ σ n=some s:=by
 unfold tell at h
 by_cases c:n=m∧(σ n).isNone
 · rw [if_pos c] at h;exact .inl (Option.some.inj h).symm
 · rw [if_neg c] at h;exact .inr h
theorem bkS_inn (x:Sc) (lo hi:Int):∀ (l:List Pa),(∀ q,q ∈ l→lo ≤ q.lo∧q.hi ≤ hi∧∀ (u:Tr) (σ:Told),okT x q u=true→(∀ n s,σ n=some s→Inn lo hi s)→∀ n s,bk q u σ n=some s→Inn lo hi s) →
   ∀ (t:Tr) (pk:Int) (i:Nat) (σ:Told),okS x l t pk i=true→(∀ n s,σ n=some s→Inn lo hi s)→∀ n s,bkS l t pk i σ n=some s→Inn lo hi s
 | [],_,t,pk,i,σ,_,hσ=>by rw [bkS_nil];exact hσ
 | q :: l,h,t,pk,i,σ,hok,hσ=>by
   rw [okS,Bool.and_eq_true] at hok
   have ih:=bkS_inn x lo hi l (fun r hr=>h r (List.mem_cons_of_mem _ hr)) t pk (i+1) σ hok.2 hσ
   rw [bkS]
   have h1:=hok.1
   cases hu:at? t.subs (taker t.kind pk i) with
   | none=>rw [hu] at h1;simp at h1
   | some u=>rw [hu] at h1;exact (h q List.mem_cons_self).2.2 u _ h1 ih
theorem bk_inn (x:Sc) (q:Pa):∀ (lo hi:Int),lo ≤ q.lo→q.hi ≤ hi→∀ (t:Tr) (σ:Told),okT x q t=true→(∀ n s,σ n=some s→Inn lo hi s)→∀ n s,bk q t σ n=some s→Inn lo hi s:=by
 induction q using Pa.rec_subs with
 | h q ih =>
   intro lo hi hlo hhi t σ hok hσ
   have hle:=okT_le hok
   have hin:=sub_in hok
   have hok2:=hok
   rw [okT_eq,Bool.and_eq_true] at hok2
   have hs:=bkS_inn x lo hi q.subs (fun y hy=>⟨by have:=hin y hy;omega,by have:=hin y hy;omega,fun u σ'=>ih y hy lo hi (by have:=hin y hy;omega) (by have:=hin y hy;omega) u σ'⟩) t q.pick 0 σ hok2.2 hσ
   rw [bk_eq]
   split
   · intro n s h
     rcases tellAll_get h with e | h
     · exact .inl e
     · rcases tell_get h with e | h
       · subst e;exact .inr ⟨hlo,hle.2.1,hhi⟩
       · exact hs n s h
   · exact hs
theorem bkS_out:∀ (l:List Pa),(∀ q,q ∈ l→∀ (u:Tr) (σ:Told) (n:Int),n ∉ nums u→bk q u σ n=σ n)→∀ (t:Tr) (pk:Int) (i:Nat) (σ:Told) (n:Int),(∀ j u,at? t.subs (taker t.kind pk j)=some u→n ∉ nums u)→bkS l t pk i σ n=σ n
 | [],_,t,pk,i,σ,n,_=>by rw [bkS_nil]
 | q :: l,h,t,pk,i,σ,n,hn=>by
   have ih:=bkS_out l (fun r hr=>h r (List.mem_cons_of_mem _ hr)) t pk (i+1) σ n hn
   rw [bkS]
   cases hu:at? t.subs (taker t.kind pk i) with
   | none=>exact ih
   | some u=>exact (h q List.mem_cons_self u _ n (hn i u hu)).trans ih
theorem bk_out (q:Pa):∀ (t:Tr) (σ:Told) (n:Int),n ∉ nums t→bk q t σ n=σ n:=by
 induction q using Pa.rec_subs with
 | h q ih =>
   intro t σ n hn
   have hs:=bkS_out q.subs ih t q.pick 0 σ n (fun j u hu h=>hn (nums_sub (numsS_mem (at_mem hu) h)))
   rw [nums_eq] at hn
   rw [bk_eq]
   split
   · rename_i hk
     rw [if_pos hk] at hn
     unfold tellAll tell
     rw [if_neg (by rintro ⟨h,-⟩;exact hn (List.mem_cons_of_mem _ h)),if_neg (by rintro ⟨h,-⟩;exact hn (h ▸ List.mem_cons_self)),hs]
   · exact hs
theorem bkS_loc0:∀ (l:List Pa),(∀ q,q ∈ l→∀ (u:Tr) (σ τ:Told) (n:Int),σ n=τ n→bk q u σ n=bk q u τ n)→∀ (t:Tr) (pk:Int) (i:Nat) (σ τ:Told) (n:Int),σ n=τ n→bkS l t pk i σ n=bkS l t pk i τ n
 | [],_,t,pk,i,σ,τ,n,h=>by rw [bkS_nil,bkS_nil];exact h
 | q :: l,hq,t,pk,i,σ,τ,n,h=>by
   have ih:=bkS_loc0 l (fun r hr=>hq r (List.mem_cons_of_mem _ hr)) t pk (i+1) σ τ n h
   rw [bkS,bkS]
   cases hu:at? t.subs (taker t.kind pk i) with
   | none=>exact ih
   | some u=>exact hq q List.mem_cons_self u _ _ n ih
theorem bk_loc (q:Pa):∀ (t:Tr) (σ τ:Told) (n:Int),σ n=τ n→bk q t σ n=bk q t τ n:=by
 induction q using Pa.rec_subs with
 | h q ih =>
   intro t σ τ n h
   have hs:=bkS_loc0 q.subs ih t q.pick 0 σ τ n h
   rw [bk_eq,bk_eq]
   split
   · unfold tellAll tell
     rw [hs]
   · exact hs
theorem bkS_loc (l:List Pa) (t:Tr) (pk:Int) (i:Nat) (σ τ:Told) (n:Int) (h:σ n=τ n):bkS l t pk i σ n=bkS l t pk i τ n:=bkS_loc0 l (fun q _=>bk_loc q) t pk i σ τ n h
inductive Bel (a b:Int):Tr→Prop
 | here (t:Tr) (hk:t.kind=7) (hn:t.num=a) (hb:b ∈ numsS t.subs):Bel a b t
 | sub (t u:Tr) (hu:u ∈ t.subs) (h:Bel a b u):Bel a b t
theorem Bel.mem {a b:Int} {t:Tr} (h:Bel a b t):a ∈ nums t∧b ∈ nums t:=by
 induction h with
 | here t hk hn hb=>rw [nums_eq,if_pos hk];exact ⟨by rw [hn];exact List.mem_cons_self,List.mem_cons_of_mem _ hb⟩
 | sub t u hu _ ih=>exact ⟨nums_sub (numsS_mem hu ih.1),nums_sub (numsS_mem hu ih.2)⟩
def Nst (a b:Int) (σ:Told):Prop:=(σ a=none∧σ b=none) ∨ ∃ s r,σ a=some s∧σ b=some r∧(r=(-1,-1) ∨ (s.1 ≤ r.1∧r.2 ≤ s.2∧0 ≤ s.1))
theorem Nst.same {a b:Int} {σ τ:Told} (h:Nst a b σ) (ha:τ a=σ a) (hb:τ b=σ b):Nst a b τ:=by
 unfold Nst at *;rw [ha,hb];exact h
theorem Nst.le {a b:Int} {σ τ:Told} (h:Nst a b σ) (hs:(σ a).isSome) (hl:Le σ τ):Nst a b τ:=by
 rcases h with ⟨h1,-⟩ | ⟨s,r,h1,h2,h3⟩
 · rw [h1] at hs;cases hs
 · exact .inr ⟨s,r,(hl a hs).trans h1,(hl b (by rw [h2];rfl)).trans h2,h3⟩
theorem nodup_sub {l:List Tr} (h:(numsS l).Nodup):∀ u,u ∈ l→(nums u).Nodup:=by
 induction l with
 | nil=>intro u hu;cases hu
 | cons t l ih =>
   intro u hu
   rw [numsS] at h
   have h1:=List.nodup_append.1 h
   rcases List.mem_cons.1 hu with rfl | hu
   · exact h1.1
   · exact ih h1.2.1 u hu
theorem nodup_apart:∀ {l:List Tr},(numsS l).Nodup→∀ {i j:Nat} {u v:Tr},l[i]? = some u→l[j]? = some v→i ≠ j→∀ n,n ∈ nums u→n ∉ nums v
 | [],_,i,j,u,v,hi,_,_,_,_=>by simp at hi
 | t :: l,h,i,j,u,v,hi,hj,hne,n,hn=>by
   rw [numsS] at h
   have h1:=List.nodup_append.1 h
   match i,j with
   | 0,0=>exact absurd rfl hne
   | 0,j+1 =>
     simp only [List.getElem?_cons_zero,Option.some.injEq] at hi
     subst hi
     intro hv
     exact h1.2.2 n hn n (numsS_mem (List.mem_of_getElem? (by simpa using hj)) hv) rfl
   | i+1,0 =>
     simp only [List.getElem?_cons_zero,Option.some.injEq] at hj
     subst hj
     intro hv
     exact h1.2.2 n hv n (numsS_mem (List.mem_of_getElem? (by simpa using hi)) hn) rfl
   | i+1,j+1=>exact nodup_apart h1.2.1 (i:=i) (j:=j) (by simpa using hi) (by simpa using hj) (by omega) n hn
theorem bkS_nst (x:Sc) (a b:Int) (t:Tr) (k:Nat) (u:Tr) (hk:t.subs[k]? = some u) (hnd:(numsS t.subs).Nodup) (hm:a ∈ nums u∧b ∈ nums u):∀ (l:List Pa),(∀ q,q ∈ l→∀ (σ:Told),okT x q u=true→Nst a b σ→Nst a b (bk q u σ)) →
   ∀ (pk:Int) (i:Nat) (σ:Told),okS x l t pk i=true→Nst a b σ→Nst a b (bkS l t pk i σ)
 | [],_,pk,i,σ,_,hσ=>by rw [bkS_nil];exact hσ
 | q :: l,h,pk,i,σ,hok,hσ=>by
   rw [okS,Bool.and_eq_true] at hok
   have ih:=bkS_nst x a b t k u hk hnd hm l (fun r hr=>h r (List.mem_cons_of_mem _ hr)) pk (i+1) σ hok.2 hσ
   rw [bkS]
   have h1:=hok.1
   cases hv:at? t.subs (taker t.kind pk i) with
   | none=>rw [hv] at h1;simp at h1
   | some v =>
     rw [hv] at h1
     have hv2:=hv
     unfold at? at hv2
     split at hv2
     · by_cases e:(taker t.kind pk i).toNat=k
       · rw [e,hk] at hv2
         obtain rfl:=Option.some.inj hv2
         exact h q List.mem_cons_self _ h1 ih
       · have h2:=nodup_apart hnd hk hv2 (Ne.symm e)
         exact ih.same (bk_out q v _ a (h2 a hm.1)) (bk_out q v _ b (h2 b hm.2))
     · cases hv2
theorem bk_nst (x:Sc) (a b:Int) (hab:a ≠ b) {t:Tr} (ht:Bel a b t):∀ (q:Pa) (σ:Told),(nums t).Nodup→t.InForm→okT x q t=true→Nst a b σ→Nst a b (bk q t σ):=by
 induction ht with
 | here t hk hn hb =>
   intro q σ hnd hf hok hσ
   by_cases hs:(σ a).isSome
   · exact hσ.le hs (bk_le q t σ)
   · have hna:σ a=none:=by cases h:σ a <;> simp [h] at hs ⊢
     have hnb:σ b=none:=by
       rcases hσ with ⟨-,h⟩ | ⟨s,r,h1,-⟩
       · exact h
       · rw [hna] at h1;cases h1
     have hok2:=hok
     rw [okT_eq,Bool.and_eq_true] at hok2
     have hle:=okT_le hok
     rw [nums_eq,if_pos hk] at hnd
     have hnot:a ∉ numsS t.subs:=by rw [← hn];exact (List.nodup_cons.1 hnd).1
     have h1:bkS q.subs t q.pick 0 σ a=none:=by
       rw [bkS_out q.subs (fun y _=>bk_out y) t q.pick 0 σ a (fun j u hu h=>hnot (numsS_mem (at_mem hu) h)),hna]
     -- what b is told by the Subs lies within the piece
     have h2:∀ r,bkS q.subs t q.pick 0 σ b=some r→Inn q.lo q.hi r:=by
       intro r hr
       have hin:=sub_in hok
       have hz:=bkS_inn x q.lo q.hi q.subs (fun y hy=>⟨(hin y hy).1,(hin y hy).2,fun u σ'=>bk_inn x y q.lo q.hi (hin y hy).1 (hin y hy).2 u σ'⟩) t q.pick 0 (fun n=>if n=b then none else none) hok2.2 (fun n s h=>by split at h <;> cases h)
       have hloc:=bkS_loc q.subs t q.pick 0 σ (fun n=>if n=b then none else none) b (by simp [hnb])
       exact hz b r (by rw [← hloc];exact hr)
     rw [bk_eq,if_pos hk]
     refine .inr ⟨(q.lo,q.hi),(tellAll (tell (bkS q.subs t q.pick 0 σ) t.num (q.lo,q.hi)) (numsS t.subs) b).getD (-1,-1), ?_, ?_, ?_⟩
     · unfold tellAll;rw [if_neg (by rintro ⟨h,-⟩;exact hnot h)]
       unfold tell;rw [if_pos ⟨hn.symm,by rw [h1];rfl⟩]
     · have:=tellAll_told (tell (bkS q.subs t q.pick 0 σ) t.num (q.lo,q.hi)) hb
       cases h:tellAll (tell (bkS q.subs t q.pick 0 σ) t.num (q.lo,q.hi)) (numsS t.subs) b with
       | none=>rw [h] at this;cases this
       | some r=>rfl
     · have hbn:b ≠ t.num:=by rw [hn];exact fun e=>hab e.symm
       unfold tellAll
       split
       · exact .inl rfl
       · rename_i hc
         unfold tell
         rw [if_neg (by rintro ⟨h,-⟩;exact hbn h)]
         cases h:bkS q.subs t q.pick 0 σ b with
         | none=>exact absurd ⟨hb,by unfold tell;rw [if_neg (by rintro ⟨h,-⟩;exact hbn h),h];rfl⟩ hc
         | some r =>
           rcases h2 r h with e | ⟨e1,e2,e3⟩
           · exact .inl e
           · exact .inr ⟨e1,e3,hle.1⟩
 | sub t u hu hbel ih =>
   intro q σ hnd hf hok hσ
   have hok2:=hok
   rw [okT_eq,Bool.and_eq_true] at hok2
   obtain ⟨k,hkl,hku⟩:=List.getElem_of_mem hu
   have hku2:t.subs[k]? = some u:=by rw [List.getElem?_eq_getElem hkl,hku]
   have hnds:(numsS t.subs).Nodup:=by
     rw [nums_eq] at hnd
     split at hnd
     · exact (List.nodup_cons.1 hnd).2
     · exact hnd
   have hm:=hbel.mem
   have h1:=bkS_nst x a b t k u hku2 hnds hm q.subs (fun y _ σ' hy hσ'=>ih y σ' (nodup_sub hnds u hu) (hf.sub hu) hy hσ') q.pick 0 σ hok2.2 hσ
   rw [bk_eq]
   split
   · rename_i hk
     rw [nums_eq,if_pos hk] at hnd
     have hne:=(List.nodup_cons.1 hnd).1
     have ma:=numsS_mem hu hm.1;have mb:=numsS_mem hu hm.2
     have ta:tell (bkS q.subs t q.pick 0 σ) t.num (q.lo,q.hi) a=bkS q.subs t q.pick 0 σ a:=by unfold tell;rw [if_neg (by rintro ⟨e,-⟩;exact hne (e ▸ ma))]
     have tb:tell (bkS q.subs t q.pick 0 σ) t.num (q.lo,q.hi) b=bkS q.subs t q.pick 0 σ b:=by unfold tell;rw [if_neg (by rintro ⟨e,-⟩;exact hne (e ▸ mb))]
     have h2:=h1.same ta tb
     by_cases hs:(tell (bkS q.subs t q.pick 0 σ) t.num (q.lo,q.hi) a).isSome
     · exact h2.le hs (le_tellAll _ _)
     · have hna:tell (bkS q.subs t q.pick 0 σ) t.num (q.lo,q.hi) a=none:=by cases h:tell (bkS q.subs t q.pick 0 σ) t.num (q.lo,q.hi) a <;> simp [h] at hs ⊢
       rcases h2 with ⟨-,hnb⟩ | ⟨s,r,h3,-⟩
       · exact .inr ⟨(-1,-1),(-1,-1),by unfold tellAll;rw [if_pos ⟨ma,by rw [hna];rfl⟩],by unfold tellAll;rw [if_pos ⟨mb,by rw [hnb];rfl⟩],.inl rfl⟩
       · rw [hna] at h3;cases h3
   · exact h1
end Rk
end Go.Proofs.YtknlkgegbcbcfaaDoor
namespace Go.Proofs.YtknlkgegbcbcfaaDoor
namespace Rk
def mk1 (F:Nat→Bool) (n:Nat):Nat→Bool:=fun k=>if k=n then true else F k
theorem mk1_self (F:Nat→Bool) (n:Nat):mk1 F n n=true:=by unfold mk1;rw [if_pos rfl]
theorem mk1_other (F:Nat→Bool) {n k:Nat} (h:k ≠ n):mk1 F n k=F k:=by unfold mk1;rw [if_neg h]
theorem mk1_up {F:Nat→Bool} {n k:Nat} (h:F k=true):mk1 F n k=true:=by unfold mk1;split;rfl;exact h
abbrev WiR:=Option ((Nat→Bool) × List (Int × Int))
mutual
def wi:Tr→Int→(Nat→Bool)→List (Int × Int)→WiR
 | .node k _ _ _ _ s n _ _ _,ab,F,ps =>
   if k=7 then (if F n.toNat=true then none else wiS s n (mk1 F n.toNat) (if 0 < ab then ps ++ [(ab,n)] else ps))
   else wiS s ab F ps
def wiS:List Tr→Int→(Nat→Bool)→List (Int × Int)→WiR
 | [],_,F,ps=>some (F,ps)
 | t :: l,ab,F,ps=>match wi t ab F ps with
   | none=>none
   | some r=>wiS l ab r.1 r.2
end
theorem wi_eq (t:Tr) (ab:Int) (F:Nat→Bool) (ps:List (Int × Int)):wi t ab F ps =
   if t.kind=7 then (if F t.num.toNat=true then none else wiS t.subs t.num (mk1 F t.num.toNat) (if 0 < ab then ps ++ [(ab,t.num)] else ps)) else wiS t.subs ab F ps:=by cases t;rw [wi];rfl
theorem wiS_nil (ab:Int) (F:Nat→Bool) (ps:List (Int × Int)):wiS [] ab F ps=some (F,ps):=by rw [wiS]
theorem wiS_cons (t:Tr) (l:List Tr) (ab:Int) (F:Nat→Bool) (ps:List (Int × Int)):wiS (t :: l) ab F ps=match wi t ab F ps with
   | none=>none
   | some r=>wiS l ab r.1 r.2:=by rw [wiS]
theorem wiS_none {t:Tr} {l:List Tr} {ab:Int} {F:Nat→Bool} {ps:List (Int × Int)} (h:wi t ab F ps=none):wiS (t :: l) ab F ps=none:=by rw [wiS_cons,h]
theorem wiS_some {t:Tr} {l:List Tr} {ab:Int} {F:Nat→Bool} {ps:List (Int × Int)} {r:(Nat→Bool) × List (Int × Int)} (h:wi t ab F ps=some r):wiS (t :: l) ab F ps=wiS l ab r.1 r.2:=by rw [wiS_cons,h]
structure WiFine (ns:List Int) (P:Int × Int→Prop) (F:Nat→Bool) (ps:List (Int × Int)) (r:(Nat→Bool) × List (Int × Int)):Prop where
 up:∀ k,F k=true→r.1 k=true
 new:∀ n,n ∈ ns→r.1 n.toNat=true∧F n.toNat=false
 once:ns.Nodup
 pairs:∀ p,p ∈ r.2→p ∈ ps ∨ P p
def WiP (ab:Int) (ns:List Int) (B:Int × Int→Prop) (p:Int × Int):Prop:=(p.1=ab∧0 < ab∧p.2 ∈ ns) ∨ B p
theorem wiS_fine:∀ (l:List Tr),(∀ t,t ∈ l→∀ (ab:Int) (F:Nat→Bool) (ps:List (Int × Int)) r,wi t ab F ps=some r→WiFine (nums t) (WiP ab (nums t) fun p=>Bel p.1 p.2 t) F ps r) →
   ∀ (ab:Int) (F:Nat→Bool) (ps:List (Int × Int)) r,wiS l ab F ps=some r→WiFine (numsS l) (WiP ab (numsS l) fun p=>∃ u,u ∈ l∧Bel p.1 p.2 u) F ps r
 | [],_,ab,F,ps,r,h=>by
   rw [wiS_nil] at h
   obtain rfl:=Option.some.inj h
   exact ⟨fun k hk=>hk,fun n hn=>(by rw [numsS] at hn;cases hn),(by rw [numsS];exact List.nodup_nil),fun p hp=>.inl hp⟩
 | t :: l,ih,ab,F,ps,r,h=>by
   cases h1:wi t ab F ps with
   | none=>rw [wiS_none h1] at h;cases h
   | some r1 =>
     rw [wiS_some h1] at h
     have a:=ih t List.mem_cons_self ab F ps r1 h1
     have b:=wiS_fine l (fun u hu=>ih u (List.mem_cons_of_mem _ hu)) ab r1.1 r1.2 r h
     refine ⟨fun k hk=>b.up k (a.up k hk),fun n hn=>?_, ?_,fun p hp=>?_⟩
     · rw [numsS] at hn
       rcases List.mem_append.1 hn with hn | hn
       · exact ⟨b.up _ (a.new n hn).1,(a.new n hn).2⟩
       · refine ⟨(b.new n hn).1, ?_⟩
         cases e:F n.toNat with
         | false=>rfl
         | true=>have:=a.up _ e;rw [(b.new n hn).2] at this;cases this
     · rw [numsS]
       refine List.nodup_append.2 ⟨a.once,b.once,fun n hn m hm e=>?_⟩
       subst e
       have h2:=(a.new n hn).1
       rw [(b.new n hm).2] at h2;cases h2
     · rcases b.pairs p hp with hp | hp | ⟨u,hu,hp⟩
       · rcases a.pairs p hp with hp | hp | hp
         · exact .inl hp
         · exact .inr (.inl ⟨hp.1,hp.2.1,by rw [numsS];exact List.mem_append_left _ hp.2.2⟩)
         · exact .inr (.inr ⟨t,List.mem_cons_self,hp⟩)
       · exact .inr (.inl ⟨hp.1,hp.2.1,by rw [numsS];exact List.mem_append_right _ hp.2.2⟩)
       · exact .inr (.inr ⟨u,List.mem_cons_of_mem _ hu,hp⟩)
theorem wi_fine (t:Tr):∀ (ab:Int) (F:Nat→Bool) (ps:List (Int × Int)) r,wi t ab F ps=some r→WiFine (nums t) (WiP ab (nums t) fun p=>Bel p.1 p.2 t) F ps r:=by
 induction t using Tr.rec_subs with
 | h t ih =>
   intro ab F ps r h
   rw [wi_eq] at h
   rw [nums_eq]
   by_cases hk:t.kind=7
   · rw [if_pos hk] at h ⊢
     by_cases hF:F t.num.toNat=true
     · rw [if_pos hF] at h;cases h
     · rw [if_neg hF] at h
       have a:=wiS_fine t.subs ih _ _ _ r h
       have hno:t.num ∉ numsS t.subs:=fun hm=>by have:=(a.new _ hm).2;rw [mk1_self] at this;cases this
       refine ⟨fun k hk=>a.up k (mk1_up hk),fun n hn=>?_,List.nodup_cons.2 ⟨hno,a.once⟩,fun p hp=>?_⟩
       · rcases List.mem_cons.1 hn with rfl | hn
         · exact ⟨a.up _ (mk1_self F _),by cases e:F t.num.toNat;rfl;exact absurd e hF⟩
         · refine ⟨(a.new n hn).1, ?_⟩
           cases e:F n.toNat with
           | false=>rfl
           | true=>have:=(a.new n hn).2;rw [mk1_up e] at this;cases this
       · rcases a.pairs p hp with hp | hp | ⟨u,hu,hp⟩
         · split at hp
           · rename_i h0
             rcases List.mem_append.1 hp with hp | hp
             · exact .inl hp
             · obtain rfl:=List.mem_singleton.1 hp
               exact .inr (.inl ⟨rfl,h0,List.mem_cons_self⟩)
           · exact .inl hp
         · exact .inr (.inr (.here t hk hp.1.symm hp.2.2))
         · exact .inr (.inr (.sub t u hu hp))
   · rw [if_neg hk] at h ⊢
     have a:=wiS_fine t.subs ih _ _ _ r h
     refine ⟨a.up,a.new,a.once,fun p hp=>?_⟩
     rcases a.pairs p hp with hp | hp | ⟨u,hu,hp⟩
     · exact .inl hp
     · exact .inr (.inl hp)
     · exact .inr (.inr (.sub t u hu hp))
theorem wi_top {t:Tr} {r:(Nat→Bool) × List (Int × Int)} (h:wi t 0 (fun _=>false) []=some r):(nums t).Nodup∧∀ p,p ∈ r.2→Bel p.1 p.2 t:=by
 have a:=wi_fine t _ _ _ r h
 refine ⟨a.once,fun p hp=>?_⟩
 rcases a.pairs p hp with hp | hp | hp
 · cases hp
 · exact absurd hp.2.1 (by omega)
 · exact hp
theorem Bel.ne {a b:Int} {t:Tr} (h:Bel a b t):(nums t).Nodup→a ≠ b:=by
 induction h with
 | here t hk hn hb =>
   intro hd e
   rw [nums_eq,if_pos hk] at hd
   exact (List.nodup_cons.1 hd).1 (by rw [hn,e];exact hb)
 | sub t u hu _ ih =>
   intro hd
   refine ih (nodup_sub (l:=t.subs) ?_ u hu)
   rw [nums_eq] at hd
   split at hd
   · exact (List.nodup_cons.1 hd).2
   · exact hd
theorem wiS_len:∀ (l:List Tr),(∀ t,t ∈ l→∀ (ab:Int) (F:Nat→Bool) (ps:List (Int × Int)) r,wi t ab F ps=some r→r.2.length ≤ ps.length+(nums t).length) →
   ∀ (ab:Int) (F:Nat→Bool) (ps:List (Int × Int)) r,wiS l ab F ps=some r→r.2.length ≤ ps.length+(numsS l).length
 | [],_,ab,F,ps,r,h=>by
   rw [wiS_nil] at h
   obtain rfl:=Option.some.inj h
   exact Nat.le_add_right _ _
 | t :: l,ih,ab,F,ps,r,h=>by
   cases h1:wi t ab F ps with
   | none=>rw [wiS_none h1] at h;cases h
   | some r1 =>
     rw [wiS_some h1] at h
     have a:=ih t List.mem_cons_self ab F ps r1 h1
     have b:=wiS_len l (fun u hu=>ih u (List.mem_cons_of_mem _ hu)) ab r1.1 r1.2 r h
     rw [numsS,List.length_append]
     omega
theorem wi_len (t:Tr):∀ (ab:Int) (F:Nat→Bool) (ps:List (Int × Int)) r,wi t ab F ps=some r→r.2.length ≤ ps.length+(nums t).length:=by
 induction t using Tr.rec_subs with
 | h t ih =>
   intro ab F ps r h
   rw [wi_eq] at h
   rw [nums_eq]
   by_cases hk:t.kind=7
   · rw [if_pos hk] at h ⊢
     by_cases hF:F t.num.toNat=true
     · rw [if_pos hF] at h;cases h
     · rw [if_neg hF] at h
       have a:=wiS_len t.subs ih _ _ _ r h
       have:(if 0 < ab then ps ++ [(ab,t.num)] else ps).length ≤ ps.length+1:=by split <;> simp
       rw [List.length_cons]
       omega
   · rw [if_neg hk] at h ⊢
     exact wiS_len t.subs ih _ _ _ r h
end Rk
end Go.Proofs.YtknlkgegbcbcfaaDoor
namespace Go.Proofs.YtknlkgegbcbcfaaDoor
open Go.RowKit
theorem Tryd.infoPair:(Tryd.prog.info? 80).map (fun i=>(i.zero,i.size,i.bytes))=some (some (.agg #[.int .i64 0,.int .i64 0]),2,16):=by kernel_rfl
theorem wp_append_fresh {P:Program} (w:World) {Q:Exit→Act→World→Prop} {K:Act→World→Prop} {o:Oper} {a:Act} (s x:Operand) (t:TypeId)
   (ho:o.op=.call { callee:=.builtin .append,args:=#[s,x],argTypes:=#[t,t] })
   (base:Nat) (e:TypeId) (i:TypeInfo) (z:Value) (size bytes:Nat) (ht:P.underlying t=some (.slice e)) (hi:P.info? e=some i) (hz:i.zero=some z)
   (hsize:i.size=size) (hby:i.bytes=bytes) (hzs:z.cells.size=size) (hsz:0 < size)
   (v:Value) (n:Nat) (xs:List Value) (hs:a.eval s=v) (hown:w.ownsRow base e size v n xs)
   (ad:Addr) (m c:Nat) (news:List Value) (hx:a.eval x=.slice (some ad) m c) (hl:news.length=m * size) (hnews:∀ j u,news[j]? = some u→w.cell? (ad.add j)=some u) (h1:∀ u ∈ news,u.oneCell'=true) (hm:0 < m)
   (h63:n+m ≤ maxLen) (hbytes:(n+m) * bytes ≤ 140737488355328) (hbase:base ≤ w.heap.size)
   (h:∀ v' w',w'.ownsRow base e size v' (n+m) (xs ++ news)→w.grownBy w' v.ownBlock→(v'.ownBlock=v.ownBlock ∨ v'.ownBlock=some w.heap.size)→K (a.put o.dst v') w'):Oper.wp P o a w K Q:=by
 obtain ⟨v',w',hr,h2,h3,-⟩:=run_append_own (P:=P) w base t o.type e i z size bytes ht hi hz hsize hby hzs hsz v n xs hown ad m c news hl hnews h1 h63 hbytes hbase
 have h4:=append_block base t o.type e i z size bytes ht hi hz hsize hby v v' n xs hown ad m c news hl hnews h1 hm h63 hbytes hr
 unfold Oper.wp execOp
 simp only [ho,resolve,invoke,builtin,Sem.run_bind,Sem.run_pure,Result.andThen_ok,List.map_toArray,List.map_cons,List.map_nil,hs,hx,hr]
 exact h v' w' h2 h3 h4
theorem one_cellf {w:World} {b:Nat} {x:Value} {t:TypeId} (h:w.heap[b]? = some (.cells #[x] t)):w.cell? ⟨b,0,none⟩=some x∧w.frozen? ⟨b,0,none⟩=false:=by
 constructor
 · unfold World.cell?;rw [h];rfl
 · unfold World.frozen?;rw [h];simp
def rowI (ps:List (Int × Int)):List Value:=ps.flatMap fun p=>[.int .i64 p.1,.int .i64 p.2]
theorem rowI_snoc (ps:List (Int × Int)) (a b:Int):rowI (ps ++ [(a,b)])=rowI ps ++ [.int .i64 a,.int .i64 b]:=by unfold rowI;simp
structure WiAt (w:World) (base pb sb:Nat) (F:Nat→Bool) (ps:List (Int × Int)) (v:Value):Prop where
 hp:pb < base
 hs:sb < base
 hb:base ≤ w.heap.size
 box:w.heap[pb]? = some (.cells #[v] 75)
 seen:w.heap[sb]? = some (.cells (bl 1000 F) 76)
 row:w.ownsRow base 80 2 v ps.length (rowI ps)
theorem WiAt.ne {w:World} {base pb sb:Nat} {F:Nat→Bool} {ps:List (Int × Int)} {v:Value} (h:WiAt w base pb sb F ps v):pb ≠ sb:=fun e=>by
 have h1:=h.box;rw [e,h.seen] at h1;simp at h1
structure WiTo (pb sb:Nat) (v:Value) (w w':World) (v':Value):Prop where
 os:w'.os=w.os
 tape:w'.tape=w.tape
 output:w'.output=w.output
 size:w.heap.size ≤ w'.heap.size
 block:∀ k,k < w.heap.size→k ≠ pb→k ≠ sb→v.ownBlock ≠ some k→w'.heap[k]? = w.heap[k]?
 own:v'.ownBlock=v.ownBlock ∨ ∀ g,v'.ownBlock=some g→w.heap.size ≤ g
theorem WiTo.of_below {pb sb:Nat} {v:Value} {w w':World} (h:Below w.heap.size w w'):WiTo pb sb v w w' v:=⟨h.os,h.tape,h.output,h.size,fun k hk _ _ _=>h.block k hk,.inl rfl⟩
theorem WiTo.of_touch {pb sb:Nat} {v:Value} {w w':World} (h:Touch [sb] w w'):WiTo pb sb v w w' v:=⟨h.os,h.tape,h.output,h.size,fun k hk _ h2 _=>h.block k hk (by simpa using h2),.inl rfl⟩
theorem WiTo.trans {pb sb:Nat} {v v1 v2:Value} {w w1 w2:World} (h:WiTo pb sb v w w1 v1) (k:WiTo pb sb v1 w1 w2 v2):WiTo pb sb v w w2 v2:=by
 refine ⟨k.os.trans h.os,k.tape.trans h.tape,k.output.trans h.output,Nat.le_trans h.size k.size,fun i hi h1 h2 h3=>?_, ?_⟩
 · refine (k.block i (Nat.lt_of_lt_of_le hi h.size) h1 h2 fun e=>?_).trans (h.block i hi h1 h2 h3)
   rcases h.own with ho | ho
   · exact h3 (ho ▸ e)
   · have:=ho i e;omega
 · rcases k.own with ho | ho
   · rw [ho];exact h.own
   · exact .inr fun g hg=>Nat.le_trans h.size (ho g hg)
theorem WiTo.below {base pb sb:Nat} {v v':Value} {w w':World} {F:Nat→Bool} {ps:List (Int × Int)} (h:WiTo pb sb v w w' v') (ha:WiAt w base pb sb F ps v) {n:Nat} (hn:n ≤ w.heap.size) (h1:n ≤ pb) (h2:n ≤ sb) (h3:n ≤ base):Below n w w' :=
 ⟨h.os,h.tape,h.output,h.size,fun k hk=>h.block k (by omega) (by omega) (by omega) fun e=>by have:=(ha.row.lt k e).1;omega⟩
theorem WiAt.later {base pb sb:Nat} {v:Value} {w w':World} {F:Nat→Bool} {ps:List (Int × Int)} (h:WiAt w base pb sb F ps v) (hb:Below w.heap.size w w'):WiAt w' base pb sb F ps v:=by
 have h0:=h.hb;have h1:=h.hp;have h2:=h.hs
 refine ⟨h.hp,h.hs,Nat.le_trans h.hb hb.size,(hb.block _ (by omega)).trans h.box,(hb.block _ (by omega)).trans h.seen,h.row.kept (row:=none) ⟨hb.os,hb.tape,hb.output,hb.size,fun k hk _=>hb.block k hk⟩ ?_⟩
 cases h:Value.ownBlock v with
 | none=>exact .inl rfl
 | some g=>exact .inr (by simp)
theorem WiAt.mark {base pb sb:Nat} {v:Value} {w w':World} {F G:Nat→Bool} {ps:List (Int × Int)} (h:WiAt w base pb sb F ps v) (ht:Touch [sb] w w') (hs:w'.heap[sb]? = some (.cells (bl 1000 G) 76)):WiAt w' base pb sb G ps v:=by
 have h0:=h.hb;have h1:=h.hp;have h2:=h.hs
 refine ⟨h.hp,h.hs,Nat.le_trans h.hb ht.size,(ht.block _ (by omega) (by simpa using h.ne)).trans h.box,hs,h.row.kept (row:=some sb) ⟨ht.os,ht.tape,ht.output,ht.size,fun k hk hne=>ht.block k hk (by simp only [List.mem_singleton];exact fun e=>hne (by rw [e]))⟩ (.inr fun e=>?_)⟩
 have:=(h.row.lt sb e).1
 omega
theorem WiAt.push {base pb sb:Nat} {v v4:Value} {w w4:World} {F:Nat→Bool} {ps:List (Int × Int)} {a b:Int} (h:WiAt w base pb sb F ps v) (o:Obj) (ho:w4.ownsRow base 80 2 v4 (ps.length+1) (rowI ps ++ [.int .i64 a,.int .i64 b])) (hg:(w.drew.alloc o).grownBy w4 v.ownBlock) (hw:v4.ownBlock=v.ownBlock ∨ v4.ownBlock=some (w.drew.alloc o).heap.size) :
   w4.heap[pb]? = some (.cells #[v] 75)∧WiAt (w4.setCell ⟨pb,0,none⟩ v4) base pb sb F (ps ++ [(a,b)]) v4∧WiTo pb sb v w (w4.setCell ⟨pb,0,none⟩ v4) v4:=by
 have h0:=h.hb;have h1:=h.hp;have h2:=h.hs
 have hb:Below w.heap.size w (w.drew.alloc o):=(Below.refl _ _).drew.alloc (Nat.le_refl _) o
 have hsz:=hb.size
 have key:∀ k,k < w.heap.size→v.ownBlock ≠ some k→w4.heap[k]? = w.heap[k]?:=fun k hk hne=>(hg.block k (by omega) (fun e=>hne e.symm)).trans (hb.block k hk)
 have hp4:w4.heap[pb]? = some (.cells #[v] 75):=(key pb (by omega) (fun e=>by have:=(h.row.lt pb e).1;omega)).trans h.box
 have hs4:w4.heap[sb]? = some (.cells (bl 1000 F) 76):=(key sb (by omega) (fun e=>by have:=(h.row.lt sb e).1;omega)).trans h.seen
 have hz:(w4.setCell ⟨pb,0,none⟩ v4).heap.size=w4.heap.size:=by simp [World.setCell]
 have hg4:=hg.size
 have ho4:∀ k,k ≠ pb→(w4.setCell ⟨pb,0,none⟩ v4).heap[k]? = w4.heap[k]?:=fun k hk=>Below.heap_setCell _ _ _ _ hk
 refine ⟨hp4,⟨h1,h2,by omega,by simp [World.setCell,Array.getElem?_modify,hp4],(ho4 sb (Ne.symm h.ne)).trans hs4, ?_⟩,⟨hg.os.trans hb.os,hg.tape.trans hb.tape,hg.output.trans hb.output,by omega,fun k hk e1 e2 e3=>(ho4 k e1).trans (key k hk e3), ?_⟩⟩
 · rw [rowI_snoc,List.length_append]
   exact ownsRow_setCell_below ho (by show pb < base;omega) _
 · rcases hw with e | e
   · exact .inl e
   · refine .inr fun g hgg=>?_
     rw [e] at hgg
     have:=Option.some.inj hgg
     omega
def WiEnd (base pb sb:Nat) (r:Rk.WiR) (v:Value) (w:World) (e:Ending) (w':World):Prop:=match r with
 | none=>e=.returned (.bool false)∧∃ v',WiTo pb sb v w w' v'
 | some r=>e=.returned (.bool true)∧∃ v',WiAt w' base pb sb r.1 r.2 v'∧WiTo pb sb v w w' v'
theorem within_any (base pb sb:Nat):∀ t:Tr,t.InForm→∀ (ab:Int) (F:Nat→Bool) (ps:List (Int × Int)) (w:World) (sv nv:Value),WiAt w base pb sb F ps sv→ps.length+(Rk.nums t).length ≤ 1000000→NodeV w (fun b=>b < base∧b ≠ pb∧b ≠ sb) nv t →
   Calls Tryd.prog 40 #[nv,.int .i64 ab,.pointer (some ⟨pb,0,none⟩),.pointer (some ⟨sb,0,none⟩)] w (WiEnd base pb sb (Rk.wi t ab F ps) sv w):=by
 intro t
 induction t using Tr.rec_subs with
 | h t ih =>
   intro hform ab F ps w sv nv ha hlenb hv
   obtain ⟨s,rfl,hs⟩:=hv
   obtain ⟨p,cap,rfl,hlen⟩:=hs.slice
   have hnum:t.kind=7→1 ≤ t.num∧t.num ≤ 999:=fun h7=>Rk.nums_pos t hform t.num (by rw [Rk.nums_eq,if_pos h7];exact List.mem_cons_self)
   have IH:=Lib.hid (fun u (hu:u ∈ t.subs)=>ih u hu (hform.sub hu))
   have hwi:=Rk.wi_eq t ab F ps
   rw [Rk.nums_eq] at hlenb
   have hrl:=ha.row.lt
   have hbase:=ha.hb;have hpb:=ha.hp;have hsb:=ha.hs
   obtain ⟨RR,hRR⟩:∃ RR,Rk.wi t ab F ps=RR:=⟨_,rfl⟩
   rw [hRR] at hwi ⊢
   unfold Tr.cells
   generalize hts:t.subs=ts at *
   have YB:=Lib.hid (heap_alloc_new w (.cells #[.int .i64 t.kind,.int .u64 (Oc.U t.w0),.int .u64 (Oc.U t.w1),.int .u64 (Oc.U t.w2),.int .u64 (Oc.U t.w3),.slice p ts.length cap,.int .i64 t.num,.int .i64 t.least,.int .i64 t.most,.bool t.bare] 37))
   have hbw:Below w.heap.size w (w.alloc (.cells #[.int .i64 t.kind,.int .u64 (Oc.U t.w0),.int .u64 (Oc.U t.w1),.int .u64 (Oc.U t.w2),.int .u64 (Oc.U t.w3),.slice p ts.length cap,.int .i64 t.num,.int .i64 t.least,.int .i64 t.most,.bool t.bare] 37)):=(Below.refl _ _).alloc (Nat.le_refl _) _
   have hsz0:(w.alloc (.cells #[.int .i64 t.kind,.int .u64 (Oc.U t.w0),.int .u64 (Oc.U t.w1),.int .u64 (Oc.U t.w2),.int .u64 (Oc.U t.w3),.slice p ts.length cap,.int .i64 t.num,.int .i64 t.least,.int .i64 t.most,.bool t.bare] 37)).heap.size=w.heap.size+1:=by simp
   have HBOX:=Lib.hid (show ∀ wx v1,WiTo pb sb sv (w.alloc (.cells #[.int .i64 t.kind,.int .u64 (Oc.U t.w0),.int .u64 (Oc.U t.w1),.int .u64 (Oc.U t.w2),.int .u64 (Oc.U t.w3),.slice p ts.length cap,.int .i64 t.num,.int .i64 t.least,.int .i64 t.most,.bool t.bare] 37)) wx v1→wx.heap[w.heap.size]? = some (.cells #[.int .i64 t.kind,.int .u64 (Oc.U t.w0),.int .u64 (Oc.U t.w1),.int .u64 (Oc.U t.w2),.int .u64 (Oc.U t.w3),.slice p ts.length cap,.int .i64 t.num,.int .i64 t.least,.int .i64 t.most,.bool t.bare] 37) from fun wx v1 hx=>(hx.block w.heap.size (by omega) (by omega) (by omega) (fun e=>by have:=(hrl _ e).2;omega)).trans YB.out)
   have HTR:=Lib.hid (show ∀ wx v1,WiTo pb sb sv (w.alloc (.cells #[.int .i64 t.kind,.int .u64 (Oc.U t.w0),.int .u64 (Oc.U t.w1),.int .u64 (Oc.U t.w2),.int .u64 (Oc.U t.w3),.slice p ts.length cap,.int .i64 t.num,.int .i64 t.least,.int .i64 t.most,.bool t.bare] 37)) wx v1→TreesAt wx (fun b=>b < base∧b ≠ pb∧b ≠ sb) (.slice p ts.length cap) ts from fun wx v1 hx=>(hs.later hbw).keep fun b hb hB=>hx.block b hb hB.2.1 hB.2.2 (fun e=>by have:=(hrl _ e).1;omega))
   have HA0:=Lib.hid (ha.later hbw);have HW0:=Lib.hid (show ∀ wx v1,WiTo pb sb sv (w.alloc (.cells #[.int .i64 t.kind,.int .u64 (Oc.U t.w0),.int .u64 (Oc.U t.w1),.int .u64 (Oc.U t.w2),.int .u64 (Oc.U t.w3),.slice p ts.length cap,.int .i64 t.num,.int .i64 t.least,.int .i64 t.most,.bool t.bare] 37)) wx v1→WiTo pb sb sv w wx v1 from fun wx v1 hx=>(WiTo.of_below hbw).trans hx)
   have HWI:=Lib.hid hwi;have HNUM:=Lib.hid hnum;have HLB:=Lib.hid hlenb;have HPB:=Lib.hid (And.intro hbase (And.intro hpb hsb))
   clear ih hs hts hwi hnum hlenb ha hRR hform hrl hbw hbase hpb hsb
   have HS0:=Lib.hid hsz0
   clear hsz0
   go_enter Tryd.func40,Tryd.ntmps40
   obtain ⟨ie,hi0,hz0,hz1,hz2⟩:=info_parts Tryd.infoPair
   have HI:=Lib.hid hi0;have HZ0:=Lib.hid hz0;have HZ1:=Lib.hid hz1;have HZ2:=Lib.hid hz2
   clear hi0 hz0 hz1 hz2
   go_upto_region 1 with (fail)
   generalize w.alloc (.cells #[.int .i64 t.kind,.int .u64 (Oc.U t.w0),.int .u64 (Oc.U t.w1),.int .u64 (Oc.U t.w2),.int .u64 (Oc.U t.w3),.slice p ts.length cap,.int .i64 t.num,.int .i64 t.least,.int .i64 t.most,.bool t.bare] 37)=W0 at *
   obtain ⟨d0,d1,d2,d3,d4,d5,d6,d7,d8,d9⟩:=allTen YB.out
   go_upto_if 13 with (fail)
   clear d0 d1 d2 d3 d4 d5 d6 d7 d8 d9
   go_cut [1] (fun av wx=>∃ (ab':Int) (F1:Nat→Bool) (ps1:List (Int × Int)) (v1:Value),av=.int .i64 ab'∧Hid (WiAt wx base pb sb F1 ps1 v1)∧Hid (WiTo pb sb sv W0 wx v1)∧Hid (RR=Rk.wiS ts ab' F1 ps1)∧Hid (ps1.length+(Rk.numsS ts).length ≤ 1000000))
   case first =>
     by_cases h7:t.kind=7
     · have hw7:=HWI.out
       rw [if_pos h7] at hw7
       have hn7:=HNUM.out h7
       have hl7:=HLB.out
       rw [if_pos h7,List.length_cons] at hl7
       obtain ⟨kn,hkn⟩:∃ kn:Nat,t.num=kn:=⟨t.num.toNat,by omega⟩
       rw [hkn] at hw7 hn7
       rw [hkn] at YB HBOX
       have e7:(t.kind == 7)=true:=by simpa using h7
       rw [show ((kn:Int)).toNat=kn by omega] at hw7
       have hk1:kn < 1000:=by omega
       have hk2:(kn:Int) < 1000:=by omega
       have g1:decide ((kn:Int) < 1000)=true:=by simp;omega
       have g2:decide (kn < 1000)=true:=decide_eq_true hk1
       have YS:=Lib.hid HA0.out.seen
       obtain ⟨d0,d1,d2,d3,d4,d5,d6,d7,d8,d9⟩:=allTen YB.out
       obtain ⟨c0,cf⟩:=bl_cell hk1 YS.out
       have HN7:=Lib.hid hn7;have HL7:=Lib.hid hl7
       clear hn7 hl7 hkn h7 HWI HNUM HLB
       obtain ⟨fk,hfk⟩:∃ b,F kn=b:=⟨_,rfl⟩
       rw [hfk] at hw7 c0
       have HF:=Lib.hid hfk;have HW7:=Lib.hid hw7
       clear hfk hw7
       go_upto_region 2 with (fail)
       go_region
       have YB5:=Lib.hid (show W0.drew.heap[w.heap.size]? = _ from YB.out)
       have HA5:=Lib.hid (HA0.out.later (w':=W0.drew) (Below.refl _ _).drew)
       have HT5:=Lib.hid (show WiTo pb sb sv W0 W0.drew sv from WiTo.of_below (Below.refl _ _).drew)
       clear d0 d1 d2 d3 d4 d5 d6 d7 d8 d9 c0 cf YB HA0 YS
       generalize W0.drew=W5 at *
       cases fk with
       | true =>
         have hw7:=HW7.out
         rw [if_pos rfl] at hw7
         subst hw7
         go_wp2
         go_ret
         exact ⟨rfl,sv,HW0.out _ _ (HT5.out.trans (WiTo.of_below (by go_grown)))⟩
       | false =>
         have hw7:=HW7.out
         rw [if_neg Bool.noConfusion] at hw7
         have YS:=Lib.hid HA5.out.seen
         go_upto_region 4 with (fail)
         refine Ri.wp_region_frame (by kernel_rfl) (by kernel_rfl) (by kernel_rfl) (by kernel_rfl)
           (fun L v w'=>(L 5=false→Below W5.heap.size W5 w')∧(L 5=true→w'.heap[sb]? = some (.cells (bl 1000 (Rk.mk1 F kn)) 76)∧Touch [sb] W5 w')∧(L 5=true→L 0=true)∧(L 5=true→L 1=true)∧(L 5=true→L 2=true)∧(L 5=true→L 3=true)∧(L 5=true→L 4=true)∧(L 2=true→L 1=true)∧(L 3=true→L 0=true)∧(L 4=true→L 3=true)∧(L 4=true→L 2=true)∧(L 0=true→v 0=.pointer (some ⟨sb,0,none⟩))∧(L 1=true→v 1=.pointer (some ⟨w.heap.size,6,none⟩))∧(L 2=true→v 2=.int .i64 (kn:Int))∧(L 3=true→v 3=.pointer (some ⟨sb,0,none⟩))∧(L 4=true→v 4=.pointer (some ⟨sb,kn,none⟩)))
           ?_ ?_ ?_
         · exact ⟨fun _=>(Below.refl _ _).drew,by simp,by simp,by simp,by simp,by simp,by simp,by simp,by simp,by simp,by simp,by simp,by simp,by simp,by simp,by simp⟩
         · intro i hi9 L v W1 xa hI hL hd hv ho
           have hi':i=0 ∨ i=1 ∨ i=2 ∨ i=3 ∨ i=4 ∨ i=5:=by simp at hi9;omega
           obtain ⟨hbf,hfin,dd0,dd1,dd2,dd3,dd4,c2_1,c3_0,c4_3,c4_2,q0,q1,q2,q3,q4⟩:=hI
           rcases hi' with rfl | rfl | rfl | rfl | rfl | rfl
           · have e3:xa.tmps.getD 3 undef=.pointer (some ⟨sb,0,none⟩):=ho 3 (by kernel_rfl)
             have hl9:L 5=false:=by cases h:L 5 with | false=>rfl | true=>rw [dd0 h] at hL;cases hL
             have hb:=hbf hl9
             refine Ri.step_plain rfl rfl (fun K' hK=>?_)
             go_simp
             exact hK _ _ ⟨_,_,rfl,rfl,(fun _=>hb),(fun h=>Bool.noConfusion (hl9.symm.trans h)),(fun _=>rfl),dd1,dd2,dd3,dd4,c2_1,(fun _=>rfl),c4_3,c4_2,(fun _=>rfl),q1,q2,q3,q4⟩
           · have e4:xa.tmps.getD 4 undef=.pointer (some ⟨w.heap.size,0,none⟩):=ho 4 (by kernel_rfl)
             have hl9:L 5=false:=by cases h:L 5 with | false=>rfl | true=>rw [dd1 h] at hL;cases hL
             have hb:=hbf hl9
             refine Ri.step_plain rfl rfl (fun K' hK=>?_)
             go_simp
             exact hK _ _ ⟨_,_,rfl,rfl,(fun _=>hb),(fun h=>Bool.noConfusion (hl9.symm.trans h)),dd0,(fun _=>rfl),dd2,dd3,dd4,(fun _=>rfl),c3_0,c4_3,c4_2,q0,(fun _=>rfl),q2,q3,q4⟩
           · have l0:L 1=true:=by have:=hd _ rfl;simp [Region.binds] at this;simp [this]
             have f1:=(hv 1 21 rfl l0).trans (q1 l0)
             have hl9:L 5=false:=by cases h:L 5 with | false=>rfl | true=>rw [dd2 h] at hL;cases hL
             have hb:=hbf hl9
             refine Ri.step_plain rfl rfl (fun K' hK=>?_)
             obtain ⟨d0,d1,d2,d3,d4,d5,d6,d7,d8,d9⟩:=allTen (keep_blk hb YB5.out)
             go_simp
             exact hK _ _ ⟨_,_,rfl,rfl,(fun _=>hb),(fun h=>Bool.noConfusion (hl9.symm.trans h)),dd0,dd1,(fun _=>rfl),dd3,dd4,(fun _=>l0),c3_0,c4_3,(fun _=>rfl),q0,q1,(fun _=>rfl),q3,q4⟩
           · have l0:L 0=true:=by have:=hd _ rfl;simp [Region.binds] at this;simp [this]
             have f0:=(hv 0 20 rfl l0).trans (q0 l0)
             have hl9:L 5=false:=by cases h:L 5 with | false=>rfl | true=>rw [dd3 h] at hL;cases hL
             have hb:=hbf hl9
             refine Ri.step_plain rfl rfl (fun K' hK=>?_)
             go_simp
             exact hK _ _ ⟨_,_,rfl,rfl,(fun _=>hb),(fun h=>Bool.noConfusion (hl9.symm.trans h)),dd0,dd1,dd2,(fun _=>rfl),dd4,c2_1,(fun _=>l0),(fun _=>rfl),c4_2,q0,q1,q2,(fun _=>rfl),q4⟩
           · have l0:L 3=true∧L 2=true:=by have:=hd _ rfl;simp [Region.binds] at this;simp [this]
             have f3:=(hv 3 23 rfl l0.1).trans (q3 l0.1)
             have f2:=(hv 2 22 rfl l0.2).trans (q2 l0.2)
             have hl9:L 5=false:=by cases h:L 5 with | false=>rfl | true=>rw [dd4 h] at hL;cases hL
             have hb:=hbf hl9
             refine Ri.step_plain rfl rfl (fun K' hK=>?_)
             go_simp
             exact hK _ _ ⟨_,_,rfl,rfl,(fun _=>hb),(fun h=>Bool.noConfusion (hl9.symm.trans h)),dd0,dd1,dd2,dd3,(fun _=>rfl),c2_1,c3_0,(fun _=>l0.1),(fun _=>l0.2),q0,q1,q2,q3,(fun _=>rfl)⟩
           · have l0:L 4=true:=by have:=hd _ rfl;simp [Region.binds] at this;simp [this]
             have f4:=(hv 4 24 rfl l0).trans (q4 l0)
             have h4:L 4=true:=by first | (have:=hd _ rfl;simp [Region.binds] at this;simp [this];done)
             have h3:L 3=true:=by first | (have:=hd _ rfl;simp [Region.binds] at this;simp [this];done) | exact c4_3 h4
             have h2:L 2=true:=by first | (have:=hd _ rfl;simp [Region.binds] at this;simp [this];done) | exact c4_2 h4
             have h0:L 0=true:=by first | (have:=hd _ rfl;simp [Region.binds] at this;simp [this];done) | exact c3_0 h3
             have h1:L 1=true:=by first | (have:=hd _ rfl;simp [Region.binds] at this;simp [this];done) | exact c2_1 h2
             have hb:=hbf hL
             refine Ri.step_plain rfl rfl (fun K' hK=>?_)
             obtain ⟨c0,cf⟩:=bl_cell hk1 (keep_blk hb YS.out)
             go_simp
             exact hK _ _ ⟨_,undef,rfl,rfl,(fun h=>by cases h),(fun _=>⟨bl_put hk1 (keep_blk hb YS.out) (Rk.mk1_self F kn) (fun j hj=>Rk.mk1_other F hj),(Touch.of_below _ hb).setCells (b:=sb) (by simp) kn [.bool true]⟩),(fun _=>h0),(fun _=>h1),(fun _=>h2),(fun _=>h3),(fun _=>h4),c2_1,c3_0,c4_3,c4_2,q0,q1,q2,q3,q4⟩
         · rintro v W1 ⟨-,hfin,-,-,-,-,-,-,-,-,-,-,-,-,-,-⟩
           have HF9:=Lib.hid (hfin rfl)
           simp only [Ri.frame,List.zipIdx,List.foldl_cons,List.foldl_nil,if_true,List.setIfInBounds_toArray,List.set_cons_zero,List.set_cons_succ,Nat.reduceAdd]
           clear hfin
           generalize v 0=y0;generalize v 1=y1;generalize v 2=y2;generalize v 3=y3;generalize v 4=y4
           have HA1:=Lib.hid (HA5.out.mark HF9.out.2 HF9.out.1)
           have HT1:=Lib.hid (HT5.out.trans (WiTo.of_touch HF9.out.2))
           clear HF9 HA5 HT5 YS YB5 hk1 hk2 g1 g2
           have YB1:=Lib.hid (HBOX.out _ _ HT1.out)
           obtain ⟨d0,d1,d2,d3,d4,d5,d6,d7,d8,d9⟩:=allTen YB1.out
           by_cases h0:0 < ab
           · have g0:decide (ab > 0)=true:=decide_eq_true h0
             have g0':decide (0 < ab)=true:=decide_eq_true h0
             rw [if_pos h0] at hw7
             have HW8:=Lib.hid hw7
             clear hw7 HW7
             have YP:=Lib.hid HA1.out.box
             have HOWN:=Lib.hid (HA1.out.later (w':=(W1.drew.alloc (.cells #[.int .i64 ab,.int .i64 (kn:Int)] 80))) ((Below.refl _ _).drew.alloc (Nat.le_refl _) _)).row
             have HNW:Hid (∀ (j:Nat) (u:Value),([.int .i64 ab,.int .i64 (kn:Int)]:List Value)[j]? = some u→(W1.drew.alloc (.cells #[.int .i64 ab,.int .i64 (kn:Int)] 80)).cell? ((⟨W1.drew.heap.size,0,none⟩:Addr).add j)=some u):=Lib.hid (fun j u hu=>by
               have ea:(⟨W1.drew.heap.size,0,none⟩:Addr).add j=⟨W1.drew.heap.size,j,none⟩:=by unfold Addr.add;split <;> simp_all
               rw [ea,cell_new];simpa using hu)
             have hone:∀ u ∈ ([.int .i64 ab,.int .i64 (kn:Int)]:List Value),u.oneCell'=true:=by simp [Value.oneCell']
             have hml:ps.length+1 ≤ maxLen:=by have:=HL7.out;unfold maxLen;omega
             have hbyt:(ps.length+1) * 16 ≤ 140737488355328:=by have:=HL7.out;omega
             have HBA:=Lib.hid (HA1.out.later (w':=(W1.drew.alloc (.cells #[.int .i64 ab,.int .i64 (kn:Int)] 80))) ((Below.refl _ _).drew.alloc (Nat.le_refl _) _)).hb
             go_upto_region 6 with (fail)
             clear d0 d1 d2 d3 d4 d5 d6 d7 d8 d9
             refine Ri.wp_region_frame (by kernel_rfl) (by kernel_rfl) (by kernel_rfl) (by kernel_rfl)
               (fun L v w'=>(L 8=false→w'=W1.drew)∧(L 8=true→L 9=false→w'=(W1.drew.alloc (.cells #[.int .i64 ab,.int .i64 (kn:Int)] 80)))∧(L 9=true→L 11=false→(w'.ownsRow base 80 2 (v 9) (ps.length+1) (rowI ps ++ [.int .i64 ab,.int .i64 (kn:Int)])∧World.grownBy (W1.drew.alloc (.cells #[.int .i64 ab,.int .i64 (kn:Int)] 80)) w' sv.ownBlock∧(Value.ownBlock (v 9)=sv.ownBlock ∨ Value.ownBlock (v 9)=some (W1.drew.alloc (.cells #[.int .i64 ab,.int .i64 (kn:Int)] 80)).heap.size)))∧(L 11=true→∃ v4,WiAt w' base pb sb (Rk.mk1 F kn) (ps ++ [(ab,(kn:Int))]) v4∧WiTo pb sb sv W1 w' v4)∧(L 11=true→L 0=true)∧(L 11=true→L 1=true)∧(L 11=true→L 2=true)∧(L 11=true→L 3=true)∧(L 11=true→L 4=true)∧(L 11=true→L 5=true)∧(L 11=true→L 6=true)∧(L 11=true→L 7=true)∧(L 11=true→L 8=true)∧(L 11=true→L 9=true)∧(L 11=true→L 10=true)∧(L 2=true→L 1=true)∧(L 3=true→L 2=true)∧(L 6=true→L 5=true)∧(L 7=true→L 4=true)∧(L 7=true→L 6=true)∧(L 8=true→L 7=true)∧(L 9=true→L 3=true)∧(L 9=true→L 8=true)∧(L 10=true→L 0=true)∧(L 0=true→v 0=.pointer (some ⟨pb,0,none⟩))∧(L 1=true→v 1=.pointer (some ⟨pb,0,none⟩))∧(L 2=true→v 2=.pointer (some ⟨pb,0,none⟩))∧(L 3=true→v 3=sv)∧(L 4=true→v 4=.int .i64 ab)∧(L 5=true→v 5=.pointer (some ⟨w.heap.size,6,none⟩))∧(L 6=true→v 6=.int .i64 (kn:Int))∧(L 7=true→v 7=.agg #[.int .i64 ab,.int .i64 (kn:Int)])∧(L 8=true→v 8=.slice (some ⟨W1.drew.heap.size,0,none⟩) 1 1)∧(L 9=true→v 9=v 9)∧(L 10=true→v 10=.pointer (some ⟨pb,0,none⟩)))
               ?_ ?_ ?_
             · exact ⟨fun _=>rfl,by simp,by simp,by simp,by simp,by simp,by simp,by simp,by simp,by simp,by simp,by simp,by simp,by simp,by simp,by simp,by simp,by simp,by simp,by simp,by simp,by simp,by simp,by simp,by simp,by simp,by simp,by simp,by simp,by simp,by simp,by simp,by simp,by simp,by simp⟩
             · intro i hi9 L v w9 xa hI hL hd hv ho
               have hi':i=0 ∨ i=1 ∨ i=2 ∨ i=3 ∨ i=4 ∨ i=5 ∨ i=6 ∨ i=7 ∨ i=8 ∨ i=9 ∨ i=10 ∨ i=11:=by simp at hi9;omega
               obtain ⟨h1f,h2f,hmf,hfin,dd0,dd1,dd2,dd3,dd4,dd5,dd6,dd7,dd8,dd9,dd10,c2_1,c3_2,c6_5,c7_4,c7_6,c8_7,c9_3,c9_8,c10_0,q0,q1,q2,q3,q4,q5,q6,q7,q8,q9,q10⟩:=hI
               rcases hi' with rfl | rfl | rfl | rfl | rfl | rfl | rfl | rfl | rfl | rfl | rfl | rfl
               · have e2:xa.tmps.getD 2 undef=.pointer (some ⟨pb,0,none⟩):=ho 2 (by kernel_rfl)
                 have hl9:L 11=false:=by cases h:L 11 with | false=>rfl | true=>rw [dd0 h] at hL;cases hL
                 refine Ri.step_plain rfl rfl (fun K' hK=>?_)
                 go_simp
                 exact hK _ _ ⟨_,_,rfl,rfl,h1f,h2f,hmf,(fun h=>Bool.noConfusion (hl9.symm.trans h)),(fun _=>rfl),dd1,dd2,dd3,dd4,dd5,dd6,dd7,dd8,dd9,dd10,c2_1,c3_2,c6_5,c7_4,c7_6,c8_7,c9_3,c9_8,(fun _=>rfl),(fun _=>rfl),q1,q2,q3,q4,q5,q6,q7,q8,q9,q10⟩
               · have e2:xa.tmps.getD 2 undef=.pointer (some ⟨pb,0,none⟩):=ho 2 (by kernel_rfl)
                 have hl9:L 11=false:=by cases h:L 11 with | false=>rfl | true=>rw [dd1 h] at hL;cases hL
                 have hm9:L 9=false:=by cases h9:L 9 with | false=>rfl | true=>exact absurd ((c2_1 (c3_2 (c9_3 h9)))) (by rw [hL];exact Bool.noConfusion)
                 have hb:Below W1.heap.size W1 w9:=by cases hA:L 8 with | false=>rw [h1f hA];exact (Below.refl _ _).drew | true=>rw [h2f hA hm9];exact ((Below.refl _ _).drew.alloc (Nat.le_refl _) _)
                 refine Ri.step_plain rfl rfl (fun K' hK=>?_)
                 go_simp
                 exact hK _ _ ⟨_,_,rfl,rfl,h1f,h2f,hmf,(fun h=>Bool.noConfusion (hl9.symm.trans h)),dd0,(fun _=>rfl),dd2,dd3,dd4,dd5,dd6,dd7,dd8,dd9,dd10,(fun _=>rfl),c3_2,c6_5,c7_4,c7_6,c8_7,c9_3,c9_8,c10_0,q0,(fun _=>rfl),q2,q3,q4,q5,q6,q7,q8,q9,q10⟩
               · have l0:L 1=true:=by have:=hd _ rfl;simp [Region.binds] at this;simp [this]
                 have f1:=(hv 1 28 rfl l0).trans (q1 l0)
                 have hl9:L 11=false:=by cases h:L 11 with | false=>rfl | true=>rw [dd2 h] at hL;cases hL
                 have hm9:L 9=false:=by cases h9:L 9 with | false=>rfl | true=>exact absurd ((c3_2 (c9_3 h9))) (by rw [hL];exact Bool.noConfusion)
                 have hb:Below W1.heap.size W1 w9:=by cases hA:L 8 with | false=>rw [h1f hA];exact (Below.refl _ _).drew | true=>rw [h2f hA hm9];exact ((Below.refl _ _).drew.alloc (Nat.le_refl _) _)
                 refine Ri.step_plain rfl rfl (fun K' hK=>?_)
                 go_simp
                 exact hK _ _ ⟨_,_,rfl,rfl,h1f,h2f,hmf,(fun h=>Bool.noConfusion (hl9.symm.trans h)),dd0,dd1,(fun _=>rfl),dd3,dd4,dd5,dd6,dd7,dd8,dd9,dd10,(fun _=>l0),(fun _=>rfl),c6_5,c7_4,c7_6,c8_7,c9_3,c9_8,c10_0,q0,q1,(fun _=>rfl),q3,q4,q5,q6,q7,q8,q9,q10⟩
               · have l0:L 2=true:=by have:=hd _ rfl;simp [Region.binds] at this;simp [this]
                 have f2:=(hv 2 29 rfl l0).trans (q2 l0)
                 have hl9:L 11=false:=by cases h:L 11 with | false=>rfl | true=>rw [dd3 h] at hL;cases hL
                 have hm9:L 9=false:=by cases h9:L 9 with | false=>rfl | true=>exact absurd ((c9_3 h9)) (by rw [hL];exact Bool.noConfusion)
                 have hb:Below W1.heap.size W1 w9:=by cases hA:L 8 with | false=>rw [h1f hA];exact (Below.refl _ _).drew | true=>rw [h2f hA hm9];exact ((Below.refl _ _).drew.alloc (Nat.le_refl _) _)
                 refine Ri.step_plain rfl rfl (fun K' hK=>?_)
                 obtain ⟨k0,kf⟩:=one_cellf (keep_blk hb YP.out)
                 go_simp
                 exact hK _ _ ⟨_,_,rfl,rfl,h1f,h2f,hmf,(fun h=>Bool.noConfusion (hl9.symm.trans h)),dd0,dd1,dd2,(fun _=>rfl),dd4,dd5,dd6,dd7,dd8,dd9,dd10,c2_1,(fun _=>l0),c6_5,c7_4,c7_6,c8_7,(fun _=>rfl),c9_8,c10_0,q0,q1,q2,(fun _=>rfl),q4,q5,q6,q7,q8,q9,q10⟩
               · have e1:xa.tmps.getD 1 undef=.int .i64 ab:=ho 1 (by kernel_rfl)
                 have hl9:L 11=false:=by cases h:L 11 with | false=>rfl | true=>rw [dd4 h] at hL;cases hL
                 have hm9:L 9=false:=by cases h9:L 9 with | false=>rfl | true=>exact absurd ((c7_4 (c8_7 (c9_8 h9)))) (by rw [hL];exact Bool.noConfusion)
                 have hb:Below W1.heap.size W1 w9:=by cases hA:L 8 with | false=>rw [h1f hA];exact (Below.refl _ _).drew | true=>rw [h2f hA hm9];exact ((Below.refl _ _).drew.alloc (Nat.le_refl _) _)
                 refine Ri.step_plain rfl rfl (fun K' hK=>?_)
                 go_simp
                 exact hK _ _ ⟨_,_,rfl,rfl,h1f,h2f,hmf,(fun h=>Bool.noConfusion (hl9.symm.trans h)),dd0,dd1,dd2,dd3,(fun _=>rfl),dd5,dd6,dd7,dd8,dd9,dd10,c2_1,c3_2,c6_5,(fun _=>rfl),c7_6,c8_7,c9_3,c9_8,c10_0,q0,q1,q2,q3,(fun _=>rfl),q5,q6,q7,q8,q9,q10⟩
               · have e4:xa.tmps.getD 4 undef=.pointer (some ⟨w.heap.size,0,none⟩):=ho 4 (by kernel_rfl)
                 have hl9:L 11=false:=by cases h:L 11 with | false=>rfl | true=>rw [dd5 h] at hL;cases hL
                 have hm9:L 9=false:=by cases h9:L 9 with | false=>rfl | true=>exact absurd ((c6_5 (c7_6 (c8_7 (c9_8 h9))))) (by rw [hL];exact Bool.noConfusion)
                 have hb:Below W1.heap.size W1 w9:=by cases hA:L 8 with | false=>rw [h1f hA];exact (Below.refl _ _).drew | true=>rw [h2f hA hm9];exact ((Below.refl _ _).drew.alloc (Nat.le_refl _) _)
                 refine Ri.step_plain rfl rfl (fun K' hK=>?_)
                 go_simp
                 exact hK _ _ ⟨_,_,rfl,rfl,h1f,h2f,hmf,(fun h=>Bool.noConfusion (hl9.symm.trans h)),dd0,dd1,dd2,dd3,dd4,(fun _=>rfl),dd6,dd7,dd8,dd9,dd10,c2_1,c3_2,(fun _=>rfl),c7_4,c7_6,c8_7,c9_3,c9_8,c10_0,q0,q1,q2,q3,q4,(fun _=>rfl),q6,q7,q8,q9,q10⟩
               · have l0:L 5=true:=by have:=hd _ rfl;simp [Region.binds] at this;simp [this]
                 have f5:=(hv 5 32 rfl l0).trans (q5 l0)
                 have hl9:L 11=false:=by cases h:L 11 with | false=>rfl | true=>rw [dd6 h] at hL;cases hL
                 have hm9:L 9=false:=by cases h9:L 9 with | false=>rfl | true=>exact absurd ((c7_6 (c8_7 (c9_8 h9)))) (by rw [hL];exact Bool.noConfusion)
                 have hb:Below W1.heap.size W1 w9:=by cases hA:L 8 with | false=>rw [h1f hA];exact (Below.refl _ _).drew | true=>rw [h2f hA hm9];exact ((Below.refl _ _).drew.alloc (Nat.le_refl _) _)
                 refine Ri.step_plain rfl rfl (fun K' hK=>?_)
                 obtain ⟨d0,d1,d2,d3,d4,d5,d6,d7,d8,d9⟩:=allTen (keep_blk hb YB1.out)
                 go_simp
                 exact hK _ _ ⟨_,_,rfl,rfl,h1f,h2f,hmf,(fun h=>Bool.noConfusion (hl9.symm.trans h)),dd0,dd1,dd2,dd3,dd4,dd5,(fun _=>rfl),dd7,dd8,dd9,dd10,c2_1,c3_2,(fun _=>l0),c7_4,(fun _=>rfl),c8_7,c9_3,c9_8,c10_0,q0,q1,q2,q3,q4,q5,(fun _=>rfl),q7,q8,q9,q10⟩
               · have l0:L 4=true∧L 6=true:=by have:=hd _ rfl;simp [Region.binds] at this;simp [this]
                 have f4:=(hv 4 31 rfl l0.1).trans (q4 l0.1)
                 have f6:=(hv 6 33 rfl l0.2).trans (q6 l0.2)
                 have hl9:L 11=false:=by cases h:L 11 with | false=>rfl | true=>rw [dd7 h] at hL;cases hL
                 have hm9:L 9=false:=by cases h9:L 9 with | false=>rfl | true=>exact absurd ((c8_7 (c9_8 h9))) (by rw [hL];exact Bool.noConfusion)
                 have hb:Below W1.heap.size W1 w9:=by cases hA:L 8 with | false=>rw [h1f hA];exact (Below.refl _ _).drew | true=>rw [h2f hA hm9];exact ((Below.refl _ _).drew.alloc (Nat.le_refl _) _)
                 refine Ri.step_plain rfl rfl (fun K' hK=>?_)
                 have g31:=(Array.getD_eq_getD_getElem? (xs:=xa.tmps) (i:=31) (d:=undef)).symm.trans f4
                 have g33:=(Array.getD_eq_getD_getElem? (xs:=xa.tmps) (i:=33) (d:=undef)).symm.trans f6
                 go_simp
                 exact hK _ _ ⟨_,_,rfl,rfl,h1f,h2f,hmf,(fun h=>Bool.noConfusion (hl9.symm.trans h)),dd0,dd1,dd2,dd3,dd4,dd5,dd6,(fun _=>rfl),dd8,dd9,dd10,c2_1,c3_2,c6_5,(fun _=>l0.1),(fun _=>l0.2),(fun _=>rfl),c9_3,c9_8,c10_0,q0,q1,q2,q3,q4,q5,q6,(fun _=>rfl),q8,q9,q10⟩
               · have l0:L 7=true:=by have:=hd _ rfl;simp [Region.binds] at this;simp [this]
                 have f7:=(hv 7 34 rfl l0).trans (q7 l0)
                 have hl9:L 11=false:=by cases h:L 11 with | false=>rfl | true=>rw [dd8 h] at hL;cases hL
                 have hm9:L 9=false:=by cases h9:L 9 with | false=>rfl | true=>exact absurd ((c9_8 h9)) (by rw [hL];exact Bool.noConfusion)
                 refine Ri.step_plain rfl rfl (fun K' hK=>?_)
                 have g34:=(Array.getD_eq_getD_getElem? (xs:=xa.tmps) (i:=34) (d:=undef)).symm.trans f7
                 obtain rfl:=h1f hL
                 go_simp
                 exact hK _ _ ⟨_,_,rfl,rfl,(fun h=>by cases h),(fun _ _=>rfl),(fun h=>Bool.noConfusion (hm9.symm.trans h)),(fun h=>Bool.noConfusion (hl9.symm.trans h)),dd0,dd1,dd2,dd3,dd4,dd5,dd6,dd7,(fun _=>rfl),dd9,dd10,c2_1,c3_2,c6_5,c7_4,c7_6,(fun _=>l0),c9_3,(fun _=>rfl),c10_0,q0,q1,q2,q3,q4,q5,q6,q7,(fun _=>rfl),q9,q10⟩
               · have l0:L 3=true∧L 8=true:=by have:=hd _ rfl;simp [Region.binds] at this;simp [this]
                 have f3:=(hv 3 30 rfl l0.1).trans (q3 l0.1)
                 have f8:=(hv 8 35 rfl l0.2).trans (q8 l0.2)
                 have hl9:L 11=false:=by cases h:L 11 with | false=>rfl | true=>rw [dd9 h] at hL;cases hL
                 have hm9:L 9=false:=hL
                 refine Ri.step_plain rfl rfl (fun K' hK=>?_)
                 obtain rfl:=h2f (l0.2) hm9
                 refine wp_append_fresh _ (.tmp 30) (.tmp 35) 75 rfl base 80 ie _ 2 16 Tryd.underlying75 HI.out HZ0.out HZ1.out HZ2.out rfl (by decide) sv ps.length (rowI ps) f3 HOWN.out ⟨W1.drew.heap.size,0,none⟩ 1 1 [.int .i64 ab,.int .i64 (kn:Int)] f8 rfl HNW.out hone (by decide) hml hbyt HBA.out ?_
                 intro v4 w4 hown4 hgrow4 hwhere
                 exact hK _ _ ⟨_,_,rfl,rfl,(fun h=>Bool.noConfusion (h.symm.trans (l0.2))),(fun _ h=>by cases h),(fun _ _=>⟨hown4,hgrow4,hwhere⟩),(fun h=>Bool.noConfusion (hl9.symm.trans h)),dd0,dd1,dd2,dd3,dd4,dd5,dd6,dd7,dd8,(fun _=>rfl),dd10,c2_1,c3_2,c6_5,c7_4,c7_6,c8_7,(fun _=>l0.1),(fun _=>l0.2),c10_0,q0,q1,q2,q3,q4,q5,q6,q7,q8,(fun _=>rfl),q10⟩
               · have l0:L 0=true:=by have:=hd _ rfl;simp [Region.binds] at this;simp [this]
                 have f0:=(hv 0 27 rfl l0).trans (q0 l0)
                 have hl9:L 11=false:=by cases h:L 11 with | false=>rfl | true=>rw [dd10 h] at hL;cases hL
                 refine Ri.step_plain rfl rfl (fun K' hK=>?_)
                 go_simp
                 exact hK _ _ ⟨_,_,rfl,rfl,h1f,h2f,hmf,(fun h=>Bool.noConfusion (hl9.symm.trans h)),dd0,dd1,dd2,dd3,dd4,dd5,dd6,dd7,dd8,dd9,(fun _=>rfl),c2_1,c3_2,c6_5,c7_4,c7_6,c8_7,c9_3,c9_8,(fun _=>l0),q0,q1,q2,q3,q4,q5,q6,q7,q8,q9,(fun _=>rfl)⟩
               · have l0:L 10=true∧L 9=true:=by have:=hd _ rfl;simp [Region.binds] at this;simp [this]
                 have f10:=(hv 10 37 rfl l0.1).trans (q10 l0.1)
                 have f9:=(hv 9 36 rfl l0.2).trans (q9 l0.2)
                 have h10:L 10=true:=by first | (have:=hd _ rfl;simp [Region.binds] at this;simp [this];done)
                 have h9:L 9=true:=by first | (have:=hd _ rfl;simp [Region.binds] at this;simp [this];done)
                 have h0:L 0=true:=by first | (have:=hd _ rfl;simp [Region.binds] at this;simp [this];done) | exact c10_0 h10
                 have h3:L 3=true:=by first | (have:=hd _ rfl;simp [Region.binds] at this;simp [this];done) | exact c9_3 h9
                 have h8:L 8=true:=by first | (have:=hd _ rfl;simp [Region.binds] at this;simp [this];done) | exact c9_8 h9
                 have h2:L 2=true:=by first | (have:=hd _ rfl;simp [Region.binds] at this;simp [this];done) | exact c3_2 h3
                 have h7:L 7=true:=by first | (have:=hd _ rfl;simp [Region.binds] at this;simp [this];done) | exact c8_7 h8
                 have h1:L 1=true:=by first | (have:=hd _ rfl;simp [Region.binds] at this;simp [this];done) | exact c2_1 h2
                 have h4:L 4=true:=by first | (have:=hd _ rfl;simp [Region.binds] at this;simp [this];done) | exact c7_4 h7
                 have h6:L 6=true:=by first | (have:=hd _ rfl;simp [Region.binds] at this;simp [this];done) | exact c7_6 h7
                 have h5:L 5=true:=by first | (have:=hd _ rfl;simp [Region.binds] at this;simp [this];done) | exact c6_5 h6
                 obtain ⟨m1,m2,m3⟩:=hmf h9 hL
                 refine Ri.step_plain rfl rfl (fun K' hK=>?_)
                 have hpush:=WiAt.push HA1.out (.cells #[.int .i64 ab,.int .i64 (kn:Int)] 80) m1 m2 m3
                 obtain ⟨g4,cp4,e4⟩:=ownsRow_succP m1
                 obtain ⟨k0,kf⟩:=one_cellf hpush.1
                 rw [e4] at f9 hpush
                 go_simp
                 exact hK _ _ ⟨_,undef,rfl,rfl,(fun h=>Bool.noConfusion (h.symm.trans h8)),(fun _ h=>Bool.noConfusion (h.symm.trans h9)),(fun _ h=>by cases h),(fun _=>⟨_,hpush.2.1,hpush.2.2⟩),(fun _=>h0),(fun _=>h1),(fun _=>h2),(fun _=>h3),(fun _=>h4),(fun _=>h5),(fun _=>h6),(fun _=>h7),(fun _=>h8),(fun _=>h9),(fun _=>h10),c2_1,c3_2,c6_5,c7_4,c7_6,c8_7,c9_3,c9_8,c10_0,q0,q1,q2,q3,q4,q5,q6,q7,q8,q9,q10⟩
             · rintro v w9 ⟨-,-,-,hfin,-,-,-,-,-,-,-,-,-,-,-,-,-,-,-,-,-,-,-,-,-,-,-,-,-,-,-,-,-,-,-⟩
               have HF9:=Lib.hid (hfin rfl)
               simp only [Ri.frame,List.zipIdx,List.foldl_cons,List.foldl_nil,if_true,List.setIfInBounds_toArray,List.set_cons_zero,List.set_cons_succ,Nat.reduceAdd]
               clear hfin
               generalize v 0=y0;generalize v 1=y1;generalize v 2=y2;generalize v 3=y3;generalize v 4=y4;generalize v 5=y5;generalize v 6=y6;generalize v 7=y7;generalize v 8=y8;generalize v 9=y9;generalize v 10=y10
               obtain ⟨v4,ha4,ht4⟩:=HF9.out
               have HA2:=Lib.hid ha4;have HT2:=Lib.hid (HT1.out.trans ht4)
               clear ha4 ht4 HF9 HOWN HNW hone hml hbyt HBA YP YB1
               have YB2:=Lib.hid (HBOX.out _ _ HT2.out)
               obtain ⟨d0,d1,d2,d3,d4,d5,d6,d7,d8,d9⟩:=allTen YB2.out
               go_wp2
               go_meet
               exact ⟨kn,Rk.mk1 F kn,ps ++ [(ab,(kn:Int))],v4,rfl,HA2,HT2,HW8,Lib.hid (by have:=HL7.out;simp;omega)⟩
           · have g0:decide (ab > 0)=false:=decide_eq_false h0
             have g0':decide (0 < ab)=false:=decide_eq_false h0
             rw [if_neg h0] at hw7
             have HW8:=Lib.hid hw7
             clear hw7 HW7 h0
             go_wp2
             go_meet
             exact ⟨kn,Rk.mk1 F kn,ps,sv,rfl,HA1,HT1,HW8,Lib.hid (by have:=HL7.out;omega)⟩
     · have e7:(t.kind == 7)=false:=by simpa using h7
       have hw7:=HWI.out
       rw [if_neg h7] at hw7
       have hl7:=HLB.out
       rw [if_neg h7] at hl7
       have HW7:=Lib.hid hw7;have HL7:=Lib.hid hl7
       clear hw7 hl7 h7 HWI HNUM HLB
       go_wp2
       go_meet
       exact ⟨ab,F,ps,sv,rfl,HA0,Lib.hid (WiTo.of_below (by go_grown)),HW7,HL7⟩
   case rest =>
     obtain ⟨ab',F1,ps1,v1,rfl,HA,HT,HR,HL⟩:=hcut
     clear HWI HNUM HLB HA0 YB
     have hb0:=HBOX.out _ _ HT.out
     obtain ⟨d0,d1,d2,d3,d4,d5,d6,d7,d8,d9⟩:=allTen hb0
     clear hb0
     have gl:decide ((0:Int) < ts.length)=decide (0 < ts.length):=by simp
     clear gl
     go_wp2_with fail
     clear d0 d1 d2 d3 d4 d5 d6 d7 d8 d9
     go_loopw [43] (fun iv wr=>∃ (i:Nat) (F2:Nat→Bool) (ps2:List (Int × Int)) (v2:Value),iv=.int .i64 (i:Int)∧i ≤ ts.length∧Hid (WiAt wr base pb sb F2 ps2 v2)∧Hid (WiTo pb sb sv W0 wr v2)∧Hid (RR=Rk.wiS (ts.drop i) ab' F2 ps2)∧Hid (ps2.length+(Rk.numsS (ts.drop i)).length ≤ 1000000)) (fun iv _=>ts.length - (intOf iv).toNat)
     case atStart=>exact ⟨0,F1,ps1,v1,rfl,Nat.zero_le _,HA,HT,HR,HL⟩
     case round =>
       clear HA HT HR HL
       obtain ⟨i,F2,ps2,v2,rfl,hi,HA,HT,HR,HL⟩:=hrel
       have wi:IntKind.i64.wrap ((i:Int)+1)=(i:Int)+1:=IntWalk.i64_in _ (by omega)
       by_cases hlt:i < ts.length
       · obtain ⟨x,hx⟩:∃ x,ts[i]? = some x:=⟨_,List.getElem?_eq_getElem hlt⟩
         have hdrop:ts.drop i=x :: ts.drop (i+1):=by rw [List.drop_eq_getElem_cons hlt,(List.getElem?_eq_some_iff.1 hx).2]
         have hr:=HR.out;have hl:=HL.out
         rw [hdrop] at hr hl
         rw [Rk.numsS,List.length_append] at hl
         obtain ⟨b1,o1,s1,rfl,-,t1,sub1⟩:=(HTR.out _ _ HT.out).get hx
         obtain ⟨p1,c1,rfl,-⟩:=sub1.slice
         obtain ⟨c0,c1',c2,c3,c4,c5,c6,c7,c8,c9⟩:=t1
         have ZX:=Lib.hid (heap_alloc_new wr (.cells #[.int .i64 x.kind,.int .u64 (Oc.U x.w0),.int .u64 (Oc.U x.w1),.int .u64 (Oc.U x.w2),.int .u64 (Oc.U x.w3),.slice p1 x.subs.length c1,.int .i64 x.num,.int .i64 x.least,.int .i64 x.most,.bool x.bare] 37))
         have hbx:Below wr.heap.size wr (wr.alloc (.cells #[.int .i64 x.kind,.int .u64 (Oc.U x.w0),.int .u64 (Oc.U x.w1),.int .u64 (Oc.U x.w2),.int .u64 (Oc.U x.w3),.slice p1 x.subs.length c1,.int .i64 x.num,.int .i64 x.least,.int .i64 x.most,.bool x.bare] 37)):=(Below.refl _ _).alloc (Nat.le_refl _) _
         have HA1:=Lib.hid (HA.out.later hbx);have HT1:=Lib.hid (HT.out.trans (WiTo.of_below hbx))
         have HC:=Lib.hid (IH.out x (List.mem_of_getElem? hx) ab' F2 ps2 _ v2 (.agg (x.cells (.slice p1 x.subs.length c1))) HA1.out (by omega) ⟨_,rfl,sub1.later hbx⟩)
         unfold Tr.cells at HC
         have HR2:=Lib.hid hr;have HL2:=Lib.hid hl;have HD:=Lib.hid hdrop
         clear hr hl hdrop hx sub1 hbx HA HT HR HL
         go_upto_region 11 with (fail)
         generalize wr.alloc (.cells #[.int .i64 x.kind,.int .u64 (Oc.U x.w0),.int .u64 (Oc.U x.w1),.int .u64 (Oc.U x.w2),.int .u64 (Oc.U x.w3),.slice p1 x.subs.length c1,.int .i64 x.num,.int .i64 x.least,.int .i64 x.most,.bool x.bare] 37)=w1 at *
         clear c0 c1' c2 c3 c4 c5 c6 c7 c8 c9
         go_wp2_with (first
           | (refine wpList_load_row rfl 37 (.tmp 10) rfl wr.heap.size rfl 37 _ (0,0) _ ZX.out Tryd.underlying37 rfl (by kernel_rfl) ?_)
           | fail)
         refine HC.out.mono ?_
         intro e w2 he2
         have hr:=HR2.out
         cases hw:Rk.wi x ab' F2 ps2 with
         | none =>
           rw [hw] at he2
           obtain ⟨rfl,v3,ht3⟩:=he2
           rw [Rk.wiS_none hw] at hr
           have HT3:=Lib.hid (HT1.out.trans ht3)
           subst hr
           clear hw ht3 HC HT1 HA1 HR2 HL2 ZX
           go_wp2
           go_ret
           exact ⟨rfl,v3,HW0.out _ _ (HT3.out.trans (WiTo.of_below (by go_grown)))⟩
         | some r3 =>
           rw [hw] at he2
           obtain ⟨rfl,v3,ha3,ht3⟩:=he2
           rw [Rk.wiS_some hw] at hr
           have hln:=Rk.wi_len x ab' F2 ps2 r3 hw
           have HT3:=Lib.hid (HT1.out.trans ht3);have HA3:=Lib.hid ha3;have HR3:=Lib.hid hr
           have HL3:=Lib.hid (show r3.2.length+(Rk.numsS (ts.drop (i+1))).length ≤ 1000000 by have:=HL2.out;omega)
           clear hw ht3 ha3 hr hln HC HT1 HA1 HR2 HL2 ZX HD
           go_wp2
           exact ⟨⟨i+1,r3.1,r3.2,v3,by go_num,by omega,HA3,HT3,HR3,HL3⟩,by simp [intOf];omega⟩
       · have hr:=HR.out
         rw [List.drop_eq_nil_of_le (by omega),Rk.wiS_nil] at hr
         subst hr
         clear HR HL
         go_wp2
         go_ret
         exact ⟨rfl,v2,HA.out,HW0.out _ _ HT.out⟩
end Go.Proofs.YtknlkgegbcbcfaaDoor
namespace Go.Proofs.YtknlkgegbcbcfaaDoor
namespace Tr
theorem dpS_nd:∀ {l:List Tr},(∀ t,t ∈ l→t.dpT ≤ 2 * t.ndT)→dpS l ≤ 2 * ndS l
 | [],_=>by simp [dpS]
 | t :: l,h=>by
   have h1:=h t List.mem_cons_self
   have h2:=dpS_nd (l:=l) fun u hu=>h u (List.mem_cons_of_mem _ hu)
   rw [dpS,ndS];omega
theorem dp_nd (t:Tr):t.dpT ≤ 2 * t.ndT:=by
 induction t using Tr.rec_subs with
 | h t ih =>
   have h:=dpS_nd ih
   rw [dpT_eq,ndT_eq]
   split
   · omega
   · split <;> omega
end Tr
end Go.Proofs.YtknlkgegbcbcfaaDoor
namespace Go.Proofs.YtknlkgegbcbcfaaDoor
open Go.RowKit
namespace Rk
theorem numsS_nd:∀ (l:List Tr),(∀ t,t ∈ l→(nums t).length ≤ t.ndT)→(numsS l).length ≤ Tr.ndS l
 | [],_=>by rw [numsS];exact Nat.zero_le _
 | t :: l,h=>by
   have a:=h t List.mem_cons_self
   have b:=numsS_nd l (fun u hu=>h u (List.mem_cons_of_mem _ hu))
   rw [numsS,List.length_append,Tr.ndS]
   omega
theorem nums_nd (t:Tr):(nums t).length ≤ t.ndT:=by
 induction t using Tr.rec_subs with
 | h t ih =>
   have a:=numsS_nd t.subs ih
   rw [nums_eq,Tr.ndT_eq]
   split
   · rw [List.length_cons];omega
   · omega
theorem top_zero (q:Pa) (t:Tr):shown (of q t) 0=(q.lo,q.hi):=by
 unfold shown of
 have h:(tell (fun _=>none) 0 (q.lo,q.hi)) 0=some (q.lo,q.hi):=by unfold tell;simp
 have:=bk_le q t (tell (fun _=>none) 0 (q.lo,q.hi)) 0 (by rw [h];rfl)
 rw [show ((0:Nat):Int)=0 from rfl,this,h]
 rfl
theorem top_inn {x:Sc} {q:Pa} {t:Tr} (h:okT x q t=true) (k:Nat):Inn q.lo q.hi (shown (of q t) k):=by
 unfold shown of
 have hle:=okT_le h
 cases e:bk q t (tell (fun _=>none) 0 (q.lo,q.hi)) (k:Int) with
 | none=>exact .inl rfl
 | some s =>
   refine bk_inn x q q.lo q.hi (Int.le_refl _) (Int.le_refl _) t _ h (fun n r hr=>?_) k s e
   rcases tell_get hr with e | e
   · subst e;exact .inr ⟨Int.le_refl _,hle.2.1,Int.le_refl _⟩
   · cases e
theorem top_nst {x:Sc} {q:Pa} {t:Tr} (hf:t.InForm) (h:okT x q t=true) (hd:(nums t).Nodup) {a b:Nat} (hb:Bel a b t) :
   shown (of q t) b=(-1,-1) ∨ ((shown (of q t) a).1 ≤ (shown (of q t) b).1∧(shown (of q t) b).2 ≤ (shown (of q t) a).2∧0 ≤ (shown (of q t) a).1):=by
 have hm:=hb.mem
 have h1:=nums_pos t hf a hm.1;have h2:=nums_pos t hf b hm.2
 have hσ:∀ n:Int,1 ≤ n→(tell (fun _=>none) 0 (q.lo,q.hi)) n=none:=fun n hn=>by unfold tell;rw [if_neg (by rintro ⟨e,-⟩;omega)]
 have key:=bk_nst x a b (hb.ne hd) hb q (tell (fun _=>none) 0 (q.lo,q.hi)) hd hf h (.inl ⟨hσ _ h1.1,hσ _ h2.1⟩)
 unfold shown of
 rcases key with ⟨e1,e2⟩ | ⟨s,r,e1,e2,e3⟩
 · left;rw [e2];rfl
 · rw [e1,e2]
   rcases e3 with e3 | e3
   · left;rw [e3];rfl
   · exact .inr e3
end Rk
def ScVN (x:Sc) (w:World) (v:Value):Prop:=∃ g,v=.pointer (some ⟨g,0,none⟩)∧ScAt w g x
theorem ScVN.below {x:Sc} {w w':World} {v:Value} (h:ScVN x w v) (hb:Below w.heap.size w w'):ScVN x w' v:=by obtain ⟨g,e,hx⟩:=h;exact ⟨g,e,hx.below hb⟩
def SpTupN (C:Array Value) (w:World) (v:Value):Prop:=∃ g,v=.tuple #[.slice (some ⟨g,0,none⟩) 1000 1000,.bool true]∧w.heap[g]? = some (.cells C 70)
theorem SpTupN.below {C:Array Value} {w w':World} {v:Value} (h:SpTupN C w v) (hb:Below w.heap.size w w'):SpTupN C w' v:=by obtain ⟨g,e,hx⟩:=h;exact ⟨g,e,keep_blk hb hx⟩
def SpSlN (C:Array Value) (w:World) (v:Value):Prop:=∃ g,v=.slice (some ⟨g,0,none⟩) 1000 1000∧w.heap[g]? = some (.cells C 70)
theorem SpSlN.below {C:Array Value} {w w':World} {v:Value} (h:SpSlN C w v) (hb:Below w.heap.size w w'):SpSlN C w' v:=by obtain ⟨g,e,hx⟩:=h;exact ⟨g,e,keep_blk hb hx⟩
theorem three_cells {w:World} {b:Nat} {x0 x1 x2:Value} {t:TypeId} (h:w.heap[b]? = some (.cells #[x0,x1,x2] t)):w.cell? ⟨b,0,none⟩=some x0∧w.cell? ⟨b,1,none⟩=some x1∧w.cell? ⟨b,2,none⟩=some x2:=by
 refine ⟨?_, ?_, ?_⟩ <;> (unfold World.cell?;rw [h];rfl)
theorem new_one (w:World) (x y:Obj):((w.alloc x).alloc y).heap[w.heap.size+1]? = some y:=by
 have:=heap_alloc_new (w.alloc x) y
 rw [show (w.alloc x).heap.size=w.heap.size+1 by simp] at this
 exact this
theorem rowI_get:∀ (ps:List (Int × Int)) (i:Nat) (a b:Int),ps[i]? = some (a,b)→(rowI ps)[i * 2]? = some (.int .i64 a)∧(rowI ps)[i * 2+1]? = some (.int .i64 b)
 | [],i,a,b,h=>by simp at h
 | x :: l,0,a,b,h=>by
   simp only [List.getElem?_cons_zero,Option.some.injEq] at h
   subst h
   unfold rowI
   rw [List.flatMap_cons]
   exact ⟨rfl,rfl⟩
 | x :: l,i+1,a,b,h=>by
   have ih:=rowI_get l i a b (by simpa using h)
   unfold rowI at ih ⊢
   rw [List.flatMap_cons,show (i+1) * 2=i * 2+2 by omega,show i * 2+2+1=i * 2+1+2 by omega]
   exact ih
theorem row_pairs {w:World} {base:Nat} {v:Value} {ps:List (Int × Int)} (h:w.ownsRow base 80 2 v ps.length (rowI ps)):∃ p c,v=.slice p ps.length c∧∀ i a b,ps[i]? = some (a,b)→∃ g,p=some ⟨g,0,none⟩∧g < w.heap.size∧w.cell? ⟨g,i * 2,none⟩=some (.int .i64 a)∧w.cell? ⟨g,i * 2+1,none⟩=some (.int .i64 b):=by
 have hlt:=h.lt
 have hcells:=fun g hv=>World.ownsRow.cells h (g:=g) hv
 rcases h.2 with ⟨rfl,hn0⟩ | ⟨g,cap,cur,rfl,-,-,-⟩
 · rw [hn0]
   exact ⟨none,0,rfl,fun i a b hi=>by rw [List.length_eq_zero_iff.1 hn0] at hi;simp at hi⟩
 · refine ⟨_,cap,rfl,fun i a b hi=>⟨g,rfl,(hlt g rfl).2, ?_, ?_⟩⟩
   · have e:=hcells g rfl (i * 2) _ (rowI_get ps i a b hi).1
     have ea:(⟨g,0,none⟩:Addr).add (i * 2)=⟨g,i * 2,none⟩:=by unfold Addr.add;split <;> simp_all
     rw [ea] at e;exact e
   · have e:=hcells g rfl (i * 2+1) _ (rowI_get ps i a b hi).2
     have ea:(⟨g,0,none⟩:Addr).add (i * 2+1)=⟨g,i * 2+1,none⟩:=by unfold Addr.add;split <;> simp_all
     rw [ea] at e;exact e
theorem ranknests_any (A:Nat→Addr) (t:Tr) (s:ByteArray) (c e0:Int) (q:Pa) (w:World) (hE:ErrsC w A) (B0 B2:Nat→Prop) (v0 v2:Value) (hv:NodeV w B0 v0 t) (hq:PaV w B2 v2 q) :
   Calls Tryd.prog 8 #[v0,.agg #[.string s,.int .i64 c,.int .i64 e0],v2] w fun e w'=>e=.returned (.bool true)∧Below w.heap.size w w':=by
 have HLV:=Lib.hid (fun w9 (h:Below w.heap.size w w9)=>rklives_any A w9 (hE.below h))
 have HFT:=Lib.hid (fun w9 (h:Below w.heap.size w w9)=>few_any t 1000 (by omega) w9 B0 v0 (hv.later h))
 have HFQ:=Lib.hid (fun w9 (h:Below w.heap.size w w9)=>pafew_any q 3000 (by omega) w9 B2 v2 (hq.later h))
 have HVV:=Lib.hid (fun w9 (h:Below w.heap.size w w9)=>hv.later h)
 have HQQ:=Lib.hid (fun w9 (h:Below w.heap.size w w9)=>hq.later h)
 have HE:=Lib.hid hE
 obtain ⟨s0,rfl,k0⟩:=hv;obtain ⟨p,cap,rfl,-⟩:=k0.slice
 obtain ⟨s2,rfl,k2⟩:=hq;obtain ⟨p2,c2,rfl,-⟩:=k2.slice
 clear k0 k2 hE
 unfold Tr.cells Pa.cells at *
 have HT:=Lib.hid (three_new w (.cells #[.int .i64 t.kind,.int .u64 (Oc.U t.w0),.int .u64 (Oc.U t.w1),.int .u64 (Oc.U t.w2),.int .u64 (Oc.U t.w3),.slice p t.subs.length cap,.int .i64 t.num,.int .i64 t.least,.int .i64 t.most,.bool t.bare] 37) (.cells #[.string s,.int .i64 c,.int .i64 e0] 39) (.cells #[.int .i64 q.lo,.int .i64 q.hi,.int .i64 q.pick,.slice p2 q.subs.length c2] 57))
 have HW:=Lib.hid (show Below w.heap.size w (((w.alloc (.cells #[.int .i64 t.kind,.int .u64 (Oc.U t.w0),.int .u64 (Oc.U t.w1),.int .u64 (Oc.U t.w2),.int .u64 (Oc.U t.w3),.slice p t.subs.length cap,.int .i64 t.num,.int .i64 t.least,.int .i64 t.most,.bool t.bare] 37)).alloc (.cells #[.string s,.int .i64 c,.int .i64 e0] 39)).alloc (.cells #[.int .i64 q.lo,.int .i64 q.hi,.int .i64 q.pick,.slice p2 q.subs.length c2] 57)) from by go_grown)
 go_enter Tryd.func8,Tryd.ntmps8
 go_upto_region 1 with (fail)
 generalize ((w.alloc (.cells #[.int .i64 t.kind,.int .u64 (Oc.U t.w0),.int .u64 (Oc.U t.w1),.int .u64 (Oc.U t.w2),.int .u64 (Oc.U t.w3),.slice p t.subs.length cap,.int .i64 t.num,.int .i64 t.least,.int .i64 t.most,.bool t.bare] 37)).alloc (.cells #[.string s,.int .i64 c,.int .i64 e0] 39)).alloc (.cells #[.int .i64 q.lo,.int .i64 q.hi,.int .i64 q.pick,.slice p2 q.subs.length c2] 57)=w0 at *
 go_wp2_with fail
 refine (HLV.out w0 HW.out).mono ?_
 rintro e w1 ⟨rfl,hb1⟩
 have HB:=Lib.hid (HW.out.trans (hb1.mono HW.out.size))
 have X0:=Lib.hid (keep_blk hb1 HT.out.1);have X1:=Lib.hid (keep_blk hb1 HT.out.2.1);have X2:=Lib.hid (keep_blk hb1 HT.out.2.2)
 clear hb1 HT HW HLV
 obtain ⟨d0,d1,d2,d3,d4,d5,d6,d7,d8,d9⟩:=allTen X0.out
 go_wp2_with fail
 refine (HFT.out w1 HB.out).mono ?_
 rintro e w2 ⟨rfl,hb2⟩
 have HBn:=Lib.hid (HB.out.trans (hb2.mono HB.out.size))
 have Y0:=Lib.hid (keep_blk hb2 X0.out);have Y1:=Lib.hid (keep_blk hb2 X1.out);have Y2:=Lib.hid (keep_blk hb2 X2.out)
 clear hb2 HB X0 X1 X2 d0 d1 d2 d3 d4 d5 d6 d7 d8 d9
 have HB:=HBn;have X0:=Y0;have X1:=Y1;have X2:=Y2
 clear HBn Y0 Y1 Y2
 by_cases hf:t.ndT ≤ 1000
 · rw [decide_eq_true hf]
   have HND:=Lib.hid hf
   clear hf HFT
   obtain ⟨x0,x1,x2,x3,-,-,-,-⟩:=four X2.out
   go_wp2_with fail
   refine (HFQ.out w2 HB.out).mono ?_
   rintro e w3 ⟨rfl,hb3⟩
   have HBn:=Lib.hid (HB.out.trans (hb3.mono HB.out.size))
   have Y0:=Lib.hid (keep_blk hb3 X0.out);have Y1:=Lib.hid (keep_blk hb3 X1.out);have Y2:=Lib.hid (keep_blk hb3 X2.out)
   clear hb3 HB X0 X1 X2 x0 x1 x2 x3
   have HB:=HBn;have X0:=Y0;have X1:=Y1;have X2:=Y2
   clear HBn Y0 Y1 Y2
   by_cases hg:q.ndT ≤ 3000
   · rw [decide_eq_true hg]
     clear hg HFQ
     by_cases hs5:s.size ≤ 500
     · have g5:decide ((s.size:Int) > 500)=false:=decide_eq_false (by omega)
       have g5':decide (500 < (s.size:Int))=false:=decide_eq_false (by omega)
       obtain ⟨u0,u1,u2⟩:=three_cells X1.out
       have HS5:=Lib.hid hs5
       clear hs5
       go_upto_region 5 with (fail)
       clear u0 u1 u2 g5 g5'
       have HTS:=Lib.hid (show (Sc.new s c e0).t.size ≤ 4611686018427387904 by have:=HS5.out;show s.size ≤ _;omega)
       have HDP:=Lib.hid (show t.dpT ≤ 1000000 by have:=Tr.dp_nd t;have:=HND.out;omega)
       cases hyes:Rk.chk (Sc.new s c e0) t q with
       | true =>
         have HSP:=Lib.hid (fun w9 (hb:Below w3.heap.size w3 w9) g8 (hx8:ScAt w9 g8 (Sc.new s c e0))=>show Calls Tryd.prog 34 #[.agg #[.int .i64 t.kind,.int .u64 (Oc.U t.w0),.int .u64 (Oc.U t.w1),.int .u64 (Oc.U t.w2),.int .u64 (Oc.U t.w3),.slice p t.subs.length cap,.int .i64 t.num,.int .i64 t.least,.int .i64 t.most,.bool t.bare],.pointer (some ⟨g8,0,none⟩),.agg #[.int .i64 q.lo,.int .i64 q.hi,.int .i64 q.pick,.slice p2 q.subs.length c2],.int .i64 999] w9 (SpYes 1000 (Rk.shown (Rk.of q t)) w9) from rkspans_yes A _ g8 HTS.out t HDP.out q 999 (by decide) hyes w9 (HE.out.below (HB.out.trans (hb.mono HB.out.size))) hx8 B0 B2 _ _ (HVV.out w9 (HB.out.trans (hb.mono HB.out.size))) (HQQ.out w9 (HB.out.trans (hb.mono HB.out.size))))
         unfold Rk.chk at hyes
         rw [Bool.and_eq_true,decide_eq_true_eq] at hyes
         have HFM:=Lib.hid (Tr.checkC_zero.1 hyes.1).1;have HOK:=Lib.hid hyes.2
         have HG0:=Lib.hid (Rk.top_zero q t)
         have HIN:=Lib.hid (Rk.top_inn hyes.2)
         have HNS:=Lib.hid (fun hd a b hb=>Rk.top_nst (a:=a) (b:=b) (Tr.checkC_zero.1 hyes.1).1 hyes.2 hd hb)
         have HLE:=Lib.hid (Rk.okT_le hyes.2)
         obtain ⟨G,hG⟩:∃ G,Rk.shown (Rk.of q t)=G:=⟨_,rfl⟩
         rw [hG] at HSP HG0 HIN HNS
         clear hyes hG
         obtain ⟨C,hC⟩:∃ C,sp 1000 G=C:=⟨_,rfl⟩
         unfold SpYes at HSP
         rw [hC] at HSP
         have HC:=Lib.hid hC
         clear hC
         refine Ri.wp_region_frame (by kernel_rfl) (by kernel_rfl) (by kernel_rfl) (by kernel_rfl)
           (fun L v w'=>Below w3.heap.size w3 w'∧(L 0=true→v 0=.agg #[.int .i64 t.kind,.int .u64 (Oc.U t.w0),.int .u64 (Oc.U t.w1),.int .u64 (Oc.U t.w2),.int .u64 (Oc.U t.w3),.slice p t.subs.length cap,.int .i64 t.num,.int .i64 t.least,.int .i64 t.most,.bool t.bare])∧(L 1=true→v 1=.pointer (some ⟨w.heap.size+1,0,none⟩))∧(L 2=true→v 2=.string s)∧(L 3=true→v 3=.pointer (some ⟨w.heap.size+1,1,none⟩))∧(L 4=true→v 4=.int .i64 c)∧(L 5=true→v 5=.pointer (some ⟨w.heap.size+1,2,none⟩))∧(L 6=true→v 6=.int .i64 e0)∧(L 7=true→ScVN (Sc.new s c e0) w' (v 7))∧(L 8=true→v 8=.agg #[.int .i64 q.lo,.int .i64 q.hi,.int .i64 q.pick,.slice p2 q.subs.length c2])∧(L 9=true→SpTupN C w' (v 9))∧(L 10=true→SpTupN C w' (v 10))∧(L 11=true→SpSlN C w' (v 11))∧(L 12=true→v 12=.bool true)∧(L 13=true→SpSlN C w' (v 13))∧(L 14=true→v 14=.bool true))
           ?_ ?_ ?_
         · exact ⟨(Below.refl _ _).drew,by simp,by simp,by simp,by simp,by simp,by simp,by simp,by simp,by simp,by simp,by simp,by simp,by simp,by simp,by simp⟩
         · intro i hi9 L v w9 xa hI hL hd hv ho
           have hi':i=0 ∨ i=1 ∨ i=2 ∨ i=3 ∨ i=4 ∨ i=5 ∨ i=6 ∨ i=7 ∨ i=8 ∨ i=9 ∨ i=10 ∨ i=11 ∨ i=12 ∨ i=13 ∨ i=14:=by simp at hi9;omega
           obtain ⟨hb,q0,q1,q2,q3,q4,q5,q6,q7,q8,q9,q10,q11,q12,q13,q14⟩:=hI
           rcases hi' with rfl | rfl | rfl | rfl | rfl | rfl | rfl | rfl | rfl | rfl | rfl | rfl | rfl | rfl | rfl
           · have e3:xa.tmps.getD 3 undef=.pointer (some ⟨w.heap.size,0,none⟩):=ho 3 (by kernel_rfl)
             refine Ri.step_plain rfl rfl (fun K' hK=>?_)
             obtain ⟨d0,d1,d2,d3,d4,d5,d6,d7,d8,d9⟩:=allTen (keep_blk hb X0.out)
             go_simp
             exact hK _ _ ⟨_,_,rfl,rfl,hb,fun _=>rfl,q1,q2,q3,q4,q5,q6,q7,q8,q9,q10,q11,q12,q13,q14⟩
           · have e4:xa.tmps.getD 4 undef=.pointer (some ⟨w.heap.size+1,0,none⟩):=ho 4 (by kernel_rfl)
             refine Ri.step_plain rfl rfl (fun K' hK=>?_)
             go_simp
             exact hK _ _ ⟨_,_,rfl,rfl,hb,q0,fun _=>rfl,q2,q3,q4,q5,q6,q7,q8,q9,q10,q11,q12,q13,q14⟩
           · have l0:L 1=true:=by have:=hd _ rfl;simp [Region.binds] at this;simp [this]
             have f1:=(hv 1 35 rfl l0).trans (q1 l0)
             refine Ri.step_plain rfl rfl (fun K' hK=>?_)
             obtain ⟨u0,u1,u2⟩:=three_cells (keep_blk hb X1.out)
             go_simp
             exact hK _ _ ⟨_,_,rfl,rfl,hb,q0,q1,fun _=>rfl,q3,q4,q5,q6,q7,q8,q9,q10,q11,q12,q13,q14⟩
           · have e4:xa.tmps.getD 4 undef=.pointer (some ⟨w.heap.size+1,0,none⟩):=ho 4 (by kernel_rfl)
             refine Ri.step_plain rfl rfl (fun K' hK=>?_)
             go_simp
             exact hK _ _ ⟨_,_,rfl,rfl,hb,q0,q1,q2,fun _=>rfl,q4,q5,q6,q7,q8,q9,q10,q11,q12,q13,q14⟩
           · have l0:L 3=true:=by have:=hd _ rfl;simp [Region.binds] at this;simp [this]
             have f3:=(hv 3 37 rfl l0).trans (q3 l0)
             refine Ri.step_plain rfl rfl (fun K' hK=>?_)
             obtain ⟨u0,u1,u2⟩:=three_cells (keep_blk hb X1.out)
             go_simp
             exact hK _ _ ⟨_,_,rfl,rfl,hb,q0,q1,q2,q3,fun _=>rfl,q5,q6,q7,q8,q9,q10,q11,q12,q13,q14⟩
           · have e4:xa.tmps.getD 4 undef=.pointer (some ⟨w.heap.size+1,0,none⟩):=ho 4 (by kernel_rfl)
             refine Ri.step_plain rfl rfl (fun K' hK=>?_)
             go_simp
             exact hK _ _ ⟨_,_,rfl,rfl,hb,q0,q1,q2,q3,q4,fun _=>rfl,q6,q7,q8,q9,q10,q11,q12,q13,q14⟩
           · have l0:L 5=true:=by have:=hd _ rfl;simp [Region.binds] at this;simp [this]
             have f5:=(hv 5 39 rfl l0).trans (q5 l0)
             refine Ri.step_plain rfl rfl (fun K' hK=>?_)
             obtain ⟨u0,u1,u2⟩:=three_cells (keep_blk hb X1.out)
             go_simp
             exact hK _ _ ⟨_,_,rfl,rfl,hb,q0,q1,q2,q3,q4,q5,fun _=>rfl,q7,q8,q9,q10,q11,q12,q13,q14⟩
           · have l0:L 2=true∧L 4=true∧L 6=true:=by have:=hd _ rfl;simp [Region.binds] at this;simp [this]
             have f2:=(hv 2 36 rfl l0.1).trans (q2 l0.1)
             have f4:=(hv 4 38 rfl l0.2.1).trans (q4 l0.2.1)
             have f6:=(hv 6 40 rfl l0.2.2).trans (q6 l0.2.2)
             refine Ri.step_plain rfl rfl (fun K' hK=>?_)
             go_simp
             refine (scnew_any s c e0 _).mono ?_
             rintro e w8 ⟨rfl,hx8,hb8,-⟩
             exact hK _ _ ⟨_,_,rfl,rfl,hb.trans (hb8.mono hb.size),q0,q1,q2,q3,q4,q5,q6,fun _=>⟨_,rfl,hx8⟩,q8,fun l=>(q9 l).below hb8,fun l=>(q10 l).below hb8,fun l=>(q11 l).below hb8,q12,fun l=>(q13 l).below hb8,q14⟩
           · have e5:xa.tmps.getD 5 undef=.pointer (some ⟨w.heap.size+1+1,0,none⟩):=ho 5 (by kernel_rfl)
             refine Ri.step_plain rfl rfl (fun K' hK=>?_)
             obtain ⟨x0,x1,x2,x3,-,-,-,-⟩:=four (keep_blk hb X2.out)
             go_simp
             exact hK _ _ ⟨_,_,rfl,rfl,hb,q0,q1,q2,q3,q4,q5,q6,q7,fun _=>rfl,q9,q10,q11,q12,q13,q14⟩
           · have l0:L 0=true∧L 7=true∧L 8=true:=by have:=hd _ rfl;simp [Region.binds] at this;simp [this]
             have f0:=(hv 0 34 rfl l0.1).trans (q0 l0.1)
             have f7:=hv 7 41 rfl l0.2.1
             have f8:=(hv 8 42 rfl l0.2.2).trans (q8 l0.2.2)
             refine Ri.step_plain rfl rfl (fun K' hK=>?_)
             obtain ⟨g8,e8,hx8⟩:=(q7 l0.2.1)
             rw [e8] at f7
             clear e8
             go_simp
             refine (HSP.out _ hb g8 hx8).mono ?_
             rintro e w8 ⟨g9,rfl,hg9,hsp9,hb8⟩
             exact hK _ _ ⟨_,_,rfl,rfl,hb.trans (hb8.mono hb.size),q0,q1,q2,q3,q4,q5,q6,fun l=>(q7 l).below hb8,q8,fun _=>⟨g9,rfl,hsp9⟩,fun l=>(q10 l).below hb8,fun l=>(q11 l).below hb8,q12,fun l=>(q13 l).below hb8,q14⟩
           · have l0:L 9=true:=by have:=hd _ rfl;simp [Region.binds] at this;simp [this]
             have f9:=hv 9 43 rfl l0
             refine Ri.step_plain rfl rfl (fun K' hK=>?_)
             have hq9:=(q9 l0)
             go_simp
             exact hK _ _ ⟨_,_,rfl,rfl,hb,q0,q1,q2,q3,q4,q5,q6,q7,q8,q9,fun _=>hq9,q11,q12,q13,q14⟩
           · have l0:L 10=true:=by have:=hd _ rfl;simp [Region.binds] at this;simp [this]
             have f10:=hv 10 33 rfl l0
             refine Ri.step_plain rfl rfl (fun K' hK=>?_)
             obtain ⟨g8,e8,hh8⟩:=(q10 l0)
             have f33:=f10.trans e8
             go_simp
             exact hK _ _ ⟨_,_,rfl,rfl,hb,q0,q1,q2,q3,q4,q5,q6,q7,q8,q9,q10,fun _=>⟨g8,rfl,hh8⟩,q12,q13,q14⟩
           · have l0:L 10=true:=by have:=hd _ rfl;simp [Region.binds] at this;simp [this]
             have f10:=hv 10 33 rfl l0
             refine Ri.step_plain rfl rfl (fun K' hK=>?_)
             obtain ⟨g8,e8,hh8⟩:=(q10 l0)
             have f33:=f10.trans e8
             go_simp
             exact hK _ _ ⟨_,_,rfl,rfl,hb,q0,q1,q2,q3,q4,q5,q6,q7,q8,q9,q10,q11,fun _=>rfl,q13,q14⟩
           · have l0:L 11=true:=by have:=hd _ rfl;simp [Region.binds] at this;simp [this]
             have f11:=hv 11 44 rfl l0
             refine Ri.step_plain rfl rfl (fun K' hK=>?_)
             have hq9:=(q11 l0)
             go_simp
             exact hK _ _ ⟨_,_,rfl,rfl,hb,q0,q1,q2,q3,q4,q5,q6,q7,q8,q9,q10,q11,q12,fun _=>hq9,q14⟩
           · have l0:L 12=true:=by have:=hd _ rfl;simp [Region.binds] at this;simp [this]
             have f12:=(hv 12 45 rfl l0).trans (q12 l0)
             refine Ri.step_plain rfl rfl (fun K' hK=>?_)
             go_simp
             exact hK _ _ ⟨_,_,rfl,rfl,hb,q0,q1,q2,q3,q4,q5,q6,q7,q8,q9,q10,q11,q12,q13,fun _=>rfl⟩
         · rintro v w9 ⟨hb,-,-,-,-,-,-,-,-,-,-,-,-,-,q13,q14⟩
           have q14':v 14=.bool true:=q14 rfl
           have E13:=Lib.hid (q13 rfl)
           simp only [Ri.frame,List.zipIdx,List.foldl_cons,List.foldl_nil,if_true,List.setIfInBounds_toArray,List.set_cons_zero,List.set_cons_succ,Nat.reduceAdd,q14']
           clear q14 q14' q13
           generalize v 0=y0;generalize v 1=y1;generalize v 2=y2;generalize v 3=y3;generalize v 4=y4;generalize v 5=y5;generalize v 6=y6;generalize v 7=y7;generalize v 8=y8;generalize v 9=y9;generalize v 10=y10;generalize v 11=y11;generalize v 12=y12;generalize v 13=y13 at *
           obtain ⟨g,rfl,hg⟩:=E13.out
           have HS:=Lib.hid hg
           have HBn:=Lib.hid (HB.out.trans (hb.mono HB.out.size))
           have Y0:=Lib.hid (keep_blk hb X0.out);have Y2:=Lib.hid (keep_blk hb X2.out)
           clear hb hg HB X0 X1 X2 E13 HSP HTS HDP HQQ HE
           have HCL:=Lib.hid (show ∀ (wx:World) (k:Nat),k < 1000→wx.heap[g]? = some (.cells C 70)→wx.cell? ⟨g,k * 2,none⟩=some (.int .i64 (G k).1)∧wx.cell? ⟨g,k * 2+1,none⟩=some (.int .i64 (G k).2)∧wx.frozen? ⟨g,k * 2,none⟩=false∧wx.frozen? ⟨g,k * 2+1,none⟩=false from fun wx k hk hx=>by
             rw [← HC.out] at hx
             exact sp_cell hk hx)
           obtain ⟨g0,g1,-,-⟩:=HCL.out w9 0 (by decide) HS.out
           rw [HG0.out,Nat.zero_mul] at g0 g1
           rw [Nat.zero_add] at g1
           obtain ⟨x0,x1,x2,x3,-,-,-,-⟩:=four Y2.out
           have heqs:=rsp_eq2
           have hq1:(q.lo == q.lo && q.hi == q.hi)=true:=by simp
           go_upto_region 8 with (fail)
           go_quiet (fail)
           have HDN:=Lib.hid (show Below w9.heap.size w9 (w9.drewN nq) from ⟨rfl,rfl,rfl,Nat.le_refl _,fun _ _=>rfl⟩)
           generalize World.drewN w9 nq=w8 at *
           clear g0 g1 x0 x1 x2 x3 heqs hq1 HC HG0
           go_wp2_with fail
           go_loopw [64] (fun iv wr=>∃ k:Nat,iv=.int .i64 (k:Int)∧k ≤ 1000∧Hid (Below w9.heap.size w9 wr)) (fun iv _=>1000 - (intOf iv).toNat)
           case atStart=>exact ⟨0,rfl,Nat.zero_le _,HDN⟩
           case round =>
             obtain ⟨k,rfl,hk,HBR⟩:=hrel
             have wk:IntKind.i64.wrap ((k:Int)+1)=(k:Int)+1:=IntWalk.i64_in _ (by omega)
             by_cases hlt:k < 1000
             · have hin:=HIN.out k
               have hle:=HLE.out
               have hlt2:(k:Int) < 1000:=by omega
               have gk:decide ((k:Int) < 1000)=true:=decide_eq_true hlt2
               obtain ⟨c0,c1,-,-⟩:=HCL.out wr k hlt (keep_blk HBR.out HS.out)
               obtain ⟨x0,x1,x2,x3,-,-,-,-⟩:=four (keep_blk HBR.out Y2.out)
               have hbk:w.heap.size+1+1 < wr.heap.size:=(Array.getElem?_eq_some_iff.1 (keep_blk HBR.out Y2.out)).1
               obtain ⟨a,hga⟩:∃ a,(G k).1=a:=⟨_,rfl⟩
               obtain ⟨b,hgb⟩:∃ b,(G k).2=b:=⟨_,rfl⟩
               rw [hga] at c0
               rw [hgb] at c1
               rcases hin with e | ⟨h1,h2,h3⟩
               · rw [e] at hga hgb
                 obtain rfl:a = -1:=hga.symm
                 obtain rfl:b = -1:=hgb.symm
                 clear e hle hlt hga hgb
                 have E1:=Lib.hid hlt2
                 clear hlt2
                 go_wp2
                 exact ⟨⟨k+1,by go_num,by have:=E1.out;omega,Lib.hid (HBR.out.alloc HBR.out.size _)⟩,by have:=E1.out;simp [intOf];omega⟩
               · rw [hga] at h1 h2
                 rw [hgb] at h2 h3
                 have m1:(a == -1)=false:=by simp;omega
                 have m2:decide (a < q.lo)=false:=decide_eq_false (by omega)
                 have m3:decide (b > q.hi)=false:=decide_eq_false (by omega)
                 have m3':decide (q.hi < b)=false:=decide_eq_false (by omega)
                 have m4:decide (b < a)=false:=decide_eq_false (by omega)
                 have E1:=Lib.hid hlt2
                 clear hle hlt hga hgb h1 h2 h3 hlt2
                 go_wp2
                 exact ⟨⟨k+1,by go_num,by have:=E1.out;omega,Lib.hid (HBR.out.alloc HBR.out.size _)⟩,by have:=E1.out;simp [intOf];omega⟩
             · obtain rfl:k=1000:=by omega
               have hz:∀ w,(zeroValue 76).run Tryd.prog w=.ok (.agg (bl 1000 fun _=>false)) w:=fun _=>by kernel_rfl
               have hbr:=HBn.out.trans (HBR.out.mono HBn.out.size)
               have YN:=Lib.hid (heap_alloc_lt (o:=.cells (bl 1000 fun _=>false) 76) (heap_alloc_lt (o:=.cells #[.slice none 0 0] 75) (keep_blk HBR.out Y0.out)))
               have YS:=Lib.hid (keep_blk HBR.out HS.out)
               have HA:=Lib.hid (show WiAt ((wr.alloc (.cells #[.slice none 0 0] 75)).alloc (.cells (bl 1000 fun _=>false) 76)) (wr.heap.size+2) wr.heap.size (wr.heap.size+1) (fun _=>false) [] (.slice none 0 0) from ⟨by omega,by omega,by simp,heap_alloc_lt (heap_alloc_new _ _),new_one _ _ _,World.ownsRow_nil _ _ _ _⟩)
               have HNV:=Lib.hid (show NodeV ((wr.alloc (.cells #[.slice none 0 0] 75)).alloc (.cells (bl 1000 fun _=>false) 76)) (fun b=>b < wr.heap.size+2∧b ≠ wr.heap.size∧b ≠ wr.heap.size+1) (.agg #[.int .i64 t.kind,.int .u64 (Oc.U t.w0),.int .u64 (Oc.U t.w1),.int .u64 (Oc.U t.w2),.int .u64 (Oc.U t.w3),.slice p t.subs.length cap,.int .i64 t.num,.int .i64 t.least,.int .i64 t.most,.bool t.bare]) t from by
                 obtain ⟨s9,e9,h9⟩:=HVV.out wr hbr
                 exact ⟨s9,e9,(h9.mono fun b hb _=>⟨by omega,by omega,by omega⟩).later (((Below.refl _ _).alloc (Nat.le_refl _) _).alloc (by simp) _)⟩)
               have HWW:=Lib.hid (show Below wr.heap.size wr ((wr.alloc (.cells #[.slice none 0 0] 75)).alloc (.cells (bl 1000 fun _=>false) 76)) from ((Below.refl _ _).alloc (Nat.le_refl _) _).alloc (by simp) _)
               have HBR2:=Lib.hid hbr
               clear hbr HBn HBR Y0 Y2 HS HDN
               go_upto_region 19 with (fail)
               clear hz
               generalize ((wr.alloc (.cells #[.slice none 0 0] 75)).alloc (.cells (bl 1000 fun _=>false) 76))=W1 at *
               go_wp2_with (first
                 | (refine wpList_load_row rfl 37 (.tmp 3) rfl w.heap.size rfl 37 _ (0,0) _ YN.out Tryd.underlying37 rfl (by kernel_rfl) ?_)
                 | fail)
               refine (within_any (wr.heap.size+2) wr.heap.size (wr.heap.size+1) t HFM.out 0 (fun _=>false) [] W1 (.slice none 0 0) _ HA.out (by have:=Rk.nums_nd t;have:=HND.out;simp;omega) HNV.out).mono ?_
               intro e w5 he
               have hsz:=HWW.out.size
               cases hw:Rk.wi t 0 (fun _=>false) [] with
               | none =>
                 rw [hw] at he
                 obtain ⟨rfl,v5,ht5⟩:=he
                 have HB5:=Lib.hid (HBR2.out.trans ((HWW.out.trans (ht5.below HA.out (n:=wr.heap.size) hsz (Nat.le_refl _) (by omega) (by omega))).mono HBR2.out.size))
                 clear ht5 hw HA HNV HWW YN YS HBR2 hsz
                 go_wp2
                 go_ret
                 exact ⟨rfl,HB5.out⟩
               | some r =>
                 rw [hw] at he
                 obtain ⟨rfl,v5,ha5,ht5⟩:=he
                 have hb5:=HWW.out.trans (ht5.below HA.out (n:=wr.heap.size) hsz (Nat.le_refl _) (by omega) (by omega))
                 have HB5:=Lib.hid (HBR2.out.trans (hb5.mono HBR2.out.size))
                 have YS5:=Lib.hid (keep_blk hb5 YS.out)
                 obtain ⟨hnd,hbel⟩:=Rk.wi_top hw
                 have hln:=Rk.wi_len t _ _ _ r hw
                 have hlr:r.2.length ≤ 1000:=by have:=Rk.nums_nd t;have:=HND.out;simp at hln;omega
                 obtain ⟨p5,c5,e5,hrow⟩:=row_pairs ha5.row
                 have hbx:=ha5.box
                 rw [e5] at hbx
                 have HX5:=Lib.hid hbx
                 have HROW:=Lib.hid hrow
                 have HPR:=Lib.hid (show ∀ (i:Nat) (a b:Int),r.2[i]? = some (a,b)→∃ an bn:Nat,a=an∧b=bn∧an < 1000∧bn < 1000∧(G bn=(-1,-1) ∨ ((G an).1 ≤ (G bn).1∧(G bn).2 ≤ (G an).2∧0 ≤ (G an).1)) from fun i a b hi=>by
                   have hB:=hbel (a,b) (List.mem_of_getElem? hi)
                   have hm:=hB.mem
                   have h1:=Rk.nums_pos t HFM.out a hm.1;have h2:=Rk.nums_pos t HFM.out b hm.2
                   obtain ⟨an,rfl⟩:∃ an:Nat,a=an:=⟨a.toNat,by omega⟩
                   obtain ⟨bn,rfl⟩:∃ bn:Nat,b=bn:=⟨b.toNat,by omega⟩
                   exact ⟨an,bn,rfl,rfl,by omega,by omega,HNS.out hnd an bn hB⟩)
                 clear hbx hrow ha5 ht5 hb5 hw hln hnd hbel e5 HA HNV HWW YN YS HBR2 hsz HNS HIN HLE HFM HOK HND
                 obtain ⟨k0,kf⟩:=one_cellf HX5.out
                 go_wp2_with fail
                 clear k0 kf
                 go_loopw [101] (fun iv wx=>∃ i:Nat,iv=.int .i64 (i:Int)∧i ≤ r.2.length∧Hid (Below w5.heap.size w5 wx)) (fun iv _=>r.2.length - (intOf iv).toNat)
                 case atStart=>exact ⟨0,rfl,Nat.zero_le _,Lib.hid (Below.refl _ _)⟩
                 case round =>
                   obtain ⟨i,rfl,hi,HBX⟩:=hrel
                   have wi:IntKind.i64.wrap ((i:Int)+1)=(i:Int)+1:=IntWalk.i64_in _ (by omega)
                   by_cases hlt:i < r.2.length
                   · obtain ⟨⟨a,b⟩,hab⟩:∃ x,r.2[i]? = some x:=⟨_,List.getElem?_eq_getElem hlt⟩
                     obtain ⟨an,bn,rfl,rfl,hA1,hB1,hns⟩:=HPR.out i a b hab
                     obtain ⟨g5,rfl,hg5,k0,k1⟩:=HROW.out i _ _ hab
                     have k0':=(HBX.out.cell (p:=⟨g5,i * 2,none⟩) hg5).trans k0
                     have k1':=(HBX.out.cell (p:=⟨g5,i * 2+1,none⟩) hg5).trans k1
                     obtain ⟨a0,a1,-,-⟩:=HCL.out wr an hA1 (keep_blk HBX.out YS5.out)
                     obtain ⟨b0,b1,-,-⟩:=HCL.out wr bn hB1 (keep_blk HBX.out YS5.out)
                     have hgl:g < wr.heap.size:=(Array.getElem?_eq_some_iff.1 (keep_blk HBX.out YS5.out)).1
                     have hA2:(an:Int) < 1000:=by omega
                     have hB2:(bn:Int) < 1000:=by omega
                     obtain ⟨ob,hob⟩:∃ z,(G an).1=z:=⟨_,rfl⟩
                     obtain ⟨oe,hoe⟩:∃ z,(G an).2=z:=⟨_,rfl⟩
                     obtain ⟨ib,hib⟩:∃ z,(G bn).1=z:=⟨_,rfl⟩
                     obtain ⟨ie,hie⟩:∃ z,(G bn).2=z:=⟨_,rfl⟩
                     rw [hob] at a0
                     rw [hoe] at a1
                     rw [hib] at b0
                     rw [hie] at b1
                     have HQQ2:=Lib.hid (show decide (ib ≥ 0)=false ∨ (decide (ib ≥ 0)=true∧decide (ob < 0)=false∧decide (ib < ob)=false∧decide (ie > oe)=false) by
                       rcases hns with e | ⟨e1,e2,e3⟩
                       · rw [e] at hib
                         exact .inl (decide_eq_false (by simp only at hib;omega))
                       · rw [hob,hib] at e1
                         rw [hie,hoe] at e2
                         rw [hob] at e3
                         exact .inr ⟨decide_eq_true (by omega),decide_eq_false (by omega),decide_eq_false (by omega),decide_eq_false (by omega)⟩)
                     have E1:=Lib.hid hlt
                     have hlt2:(i:Int) < (r.2.length:Int):=by omega
                     clear hab hns hg5 k0 k1 hob hoe hib hie hlt HPR HROW HCL
                     go_upto_region 24 with (fail)
                     have hbw:=(Below.refl wr.heap.size wr).alloc (Nat.le_refl _) (.cells #[.int .i64 (an:Int),.int .i64 (bn:Int)] 80)
                     have a0':=(hbw.cell (p:=⟨g,an * 2,none⟩) hgl).trans a0
                     have a1':=(hbw.cell (p:=⟨g,an * 2+1,none⟩) hgl).trans a1
                     have b0':=(hbw.cell (p:=⟨g,bn * 2,none⟩) hgl).trans b0
                     have b1':=(hbw.cell (p:=⟨g,bn * 2+1,none⟩) hgl).trans b1
                     have hsx:(wr.alloc (.cells #[.int .i64 (an:Int),.int .i64 (bn:Int)] 80)).heap.size=wr.heap.size+1:=by simp
                     have hgx:g < (wr.alloc (.cells #[.int .i64 (an:Int),.int .i64 (bn:Int)] 80)).heap.size:=by omega
                     have hwx:=heap_alloc_new wr (.cells #[.int .i64 (an:Int),.int .i64 (bn:Int)] 80)
                     obtain ⟨t0,t1⟩:=two_cells hwx
                     have hlx:wr.heap.size < (wr.alloc (.cells #[.int .i64 (an:Int),.int .i64 (bn:Int)] 80)).heap.size:=by omega
                     clear a0 a1 b0 b1 hwx k0' k1' hsx
                     have HBW:=Lib.hid hbw
                     clear hbw hgl
                     generalize wr.alloc (.cells #[.int .i64 (an:Int),.int .i64 (bn:Int)] 80)=W6 at *
                     have HX6:=Lib.hid (HBX.out.trans (HBW.out.mono HBX.out.size))
                     have hg2:g < W6.heap.size+1:=by omega
                     have hg3:g < W6.heap.size+1+1:=by omega
                     have hg4:wr.heap.size < W6.heap.size+1:=by omega
                     have hg5:g < W6.heap.size+2:=by omega
                     go_region
                     all_goals clear a0' a1' b0' b1' t0 t1 hg2 hg3 hg4 hg5
                     all_goals rcases HQQ2.out with n1 | ⟨n1,n2,n3,n4⟩
                     all_goals (go_wp2;exact ⟨⟨i+1,by go_num,by have:=E1.out;omega,Lib.hid (HX6.out.trans (Below.mono (B:=W6.heap.size) (by go_grown) HX6.out.size))⟩,by have:=E1.out;simp [intOf];omega⟩)
                   · obtain rfl:i=r.2.length:=by omega
                     go_wp2
                     go_ret
                     exact ⟨rfl,HB5.out.trans (HBX.out.mono HB5.out.size)⟩
       | false =>
         have HSP:=Lib.hid (fun w9 (hb:Below w3.heap.size w3 w9) g8 (hx8:ScAt w9 g8 (Sc.new s c e0))=>show Calls Tryd.prog 34 #[.agg #[.int .i64 t.kind,.int .u64 (Oc.U t.w0),.int .u64 (Oc.U t.w1),.int .u64 (Oc.U t.w2),.int .u64 (Oc.U t.w3),.slice p t.subs.length cap,.int .i64 t.num,.int .i64 t.least,.int .i64 t.most,.bool t.bare],.pointer (some ⟨g8,0,none⟩),.agg #[.int .i64 q.lo,.int .i64 q.hi,.int .i64 q.pick,.slice p2 q.subs.length c2],.int .i64 999] w9 (SpNo w9) from rkspans_no A _ g8 HTS.out t HDP.out q 999 (by unfold Rk.asks;rw [hyes];rfl) w9 (HE.out.below (HB.out.trans (hb.mono HB.out.size))) hx8 B0 B2 _ _ (HVV.out w9 (HB.out.trans (hb.mono HB.out.size))) (HQQ.out w9 (HB.out.trans (hb.mono HB.out.size))))
         clear hyes
         refine Ri.wp_region_frame (by kernel_rfl) (by kernel_rfl) (by kernel_rfl) (by kernel_rfl)
           (fun L v w'=>Below w3.heap.size w3 w'∧(L 0=true→v 0=.agg #[.int .i64 t.kind,.int .u64 (Oc.U t.w0),.int .u64 (Oc.U t.w1),.int .u64 (Oc.U t.w2),.int .u64 (Oc.U t.w3),.slice p t.subs.length cap,.int .i64 t.num,.int .i64 t.least,.int .i64 t.most,.bool t.bare])∧(L 1=true→v 1=.pointer (some ⟨w.heap.size+1,0,none⟩))∧(L 2=true→v 2=.string s)∧(L 3=true→v 3=.pointer (some ⟨w.heap.size+1,1,none⟩))∧(L 4=true→v 4=.int .i64 c)∧(L 5=true→v 5=.pointer (some ⟨w.heap.size+1,2,none⟩))∧(L 6=true→v 6=.int .i64 e0)∧(L 7=true→ScVN (Sc.new s c e0) w' (v 7))∧(L 8=true→v 8=.agg #[.int .i64 q.lo,.int .i64 q.hi,.int .i64 q.pick,.slice p2 q.subs.length c2])∧(L 9=true→v 9=.tuple #[.slice none 0 0,.bool false])∧(L 10=true→v 10=.tuple #[.slice none 0 0,.bool false])∧(L 11=true→v 11=.slice none 0 0)∧(L 12=true→v 12=.bool false)∧(L 13=true→v 13=.slice none 0 0)∧(L 14=true→v 14=.bool false))
           ?_ ?_ ?_
         · exact ⟨(Below.refl _ _).drew,by simp,by simp,by simp,by simp,by simp,by simp,by simp,by simp,by simp,by simp,by simp,by simp,by simp,by simp,by simp⟩
         · intro i hi9 L v w9 xa hI hL hd hv ho
           have hi':i=0 ∨ i=1 ∨ i=2 ∨ i=3 ∨ i=4 ∨ i=5 ∨ i=6 ∨ i=7 ∨ i=8 ∨ i=9 ∨ i=10 ∨ i=11 ∨ i=12 ∨ i=13 ∨ i=14:=by simp at hi9;omega
           obtain ⟨hb,q0,q1,q2,q3,q4,q5,q6,q7,q8,q9,q10,q11,q12,q13,q14⟩:=hI
           rcases hi' with rfl | rfl | rfl | rfl | rfl | rfl | rfl | rfl | rfl | rfl | rfl | rfl | rfl | rfl | rfl
           · have e3:xa.tmps.getD 3 undef=.pointer (some ⟨w.heap.size,0,none⟩):=ho 3 (by kernel_rfl)
             refine Ri.step_plain rfl rfl (fun K' hK=>?_)
             obtain ⟨d0,d1,d2,d3,d4,d5,d6,d7,d8,d9⟩:=allTen (keep_blk hb X0.out)
             go_simp
             exact hK _ _ ⟨_,_,rfl,rfl,hb,fun _=>rfl,q1,q2,q3,q4,q5,q6,q7,q8,q9,q10,q11,q12,q13,q14⟩
           · have e4:xa.tmps.getD 4 undef=.pointer (some ⟨w.heap.size+1,0,none⟩):=ho 4 (by kernel_rfl)
             refine Ri.step_plain rfl rfl (fun K' hK=>?_)
             go_simp
             exact hK _ _ ⟨_,_,rfl,rfl,hb,q0,fun _=>rfl,q2,q3,q4,q5,q6,q7,q8,q9,q10,q11,q12,q13,q14⟩
           · have l0:L 1=true:=by have:=hd _ rfl;simp [Region.binds] at this;simp [this]
             have f1:=(hv 1 35 rfl l0).trans (q1 l0)
             refine Ri.step_plain rfl rfl (fun K' hK=>?_)
             obtain ⟨u0,u1,u2⟩:=three_cells (keep_blk hb X1.out)
             go_simp
             exact hK _ _ ⟨_,_,rfl,rfl,hb,q0,q1,fun _=>rfl,q3,q4,q5,q6,q7,q8,q9,q10,q11,q12,q13,q14⟩
           · have e4:xa.tmps.getD 4 undef=.pointer (some ⟨w.heap.size+1,0,none⟩):=ho 4 (by kernel_rfl)
             refine Ri.step_plain rfl rfl (fun K' hK=>?_)
             go_simp
             exact hK _ _ ⟨_,_,rfl,rfl,hb,q0,q1,q2,fun _=>rfl,q4,q5,q6,q7,q8,q9,q10,q11,q12,q13,q14⟩
           · have l0:L 3=true:=by have:=hd _ rfl;simp [Region.binds] at this;simp [this]
             have f3:=(hv 3 37 rfl l0).trans (q3 l0)
             refine Ri.step_plain rfl rfl (fun K' hK=>?_)
             obtain ⟨u0,u1,u2⟩:=three_cells (keep_blk hb X1.out)
             go_simp
             exact hK _ _ ⟨_,_,rfl,rfl,hb,q0,q1,q2,q3,fun _=>rfl,q5,q6,q7,q8,q9,q10,q11,q12,q13,q14⟩
           · have e4:xa.tmps.getD 4 undef=.pointer (some ⟨w.heap.size+1,0,none⟩):=ho 4 (by kernel_rfl)
             refine Ri.step_plain rfl rfl (fun K' hK=>?_)
             go_simp
             exact hK _ _ ⟨_,_,rfl,rfl,hb,q0,q1,q2,q3,q4,fun _=>rfl,q6,q7,q8,q9,q10,q11,q12,q13,q14⟩
           · have l0:L 5=true:=by have:=hd _ rfl;simp [Region.binds] at this;simp [this]
             have f5:=(hv 5 39 rfl l0).trans (q5 l0)
             refine Ri.step_plain rfl rfl (fun K' hK=>?_)
             obtain ⟨u0,u1,u2⟩:=three_cells (keep_blk hb X1.out)
             go_simp
             exact hK _ _ ⟨_,_,rfl,rfl,hb,q0,q1,q2,q3,q4,q5,fun _=>rfl,q7,q8,q9,q10,q11,q12,q13,q14⟩
           · have l0:L 2=true∧L 4=true∧L 6=true:=by have:=hd _ rfl;simp [Region.binds] at this;simp [this]
             have f2:=(hv 2 36 rfl l0.1).trans (q2 l0.1)
             have f4:=(hv 4 38 rfl l0.2.1).trans (q4 l0.2.1)
             have f6:=(hv 6 40 rfl l0.2.2).trans (q6 l0.2.2)
             refine Ri.step_plain rfl rfl (fun K' hK=>?_)
             go_simp
             refine (scnew_any s c e0 _).mono ?_
             rintro e w8 ⟨rfl,hx8,hb8,-⟩
             exact hK _ _ ⟨_,_,rfl,rfl,hb.trans (hb8.mono hb.size),q0,q1,q2,q3,q4,q5,q6,fun _=>⟨_,rfl,hx8⟩,q8,q9,q10,q11,q12,q13,q14⟩
           · have e5:xa.tmps.getD 5 undef=.pointer (some ⟨w.heap.size+1+1,0,none⟩):=ho 5 (by kernel_rfl)
             refine Ri.step_plain rfl rfl (fun K' hK=>?_)
             obtain ⟨x0,x1,x2,x3,-,-,-,-⟩:=four (keep_blk hb X2.out)
             go_simp
             exact hK _ _ ⟨_,_,rfl,rfl,hb,q0,q1,q2,q3,q4,q5,q6,q7,fun _=>rfl,q9,q10,q11,q12,q13,q14⟩
           · have l0:L 0=true∧L 7=true∧L 8=true:=by have:=hd _ rfl;simp [Region.binds] at this;simp [this]
             have f0:=(hv 0 34 rfl l0.1).trans (q0 l0.1)
             have f7:=hv 7 41 rfl l0.2.1
             have f8:=(hv 8 42 rfl l0.2.2).trans (q8 l0.2.2)
             refine Ri.step_plain rfl rfl (fun K' hK=>?_)
             obtain ⟨g8,e8,hx8⟩:=(q7 l0.2.1)
             rw [e8] at f7
             clear e8
             go_simp
             refine (HSP.out _ hb g8 hx8).mono ?_
             rintro e w8 ⟨rfl,hb8⟩
             exact hK _ _ ⟨_,_,rfl,rfl,hb.trans (hb8.mono hb.size),q0,q1,q2,q3,q4,q5,q6,fun l=>(q7 l).below hb8,q8,fun _=>rfl,q10,q11,q12,q13,q14⟩
           · have l0:L 9=true:=by have:=hd _ rfl;simp [Region.binds] at this;simp [this]
             have f9:=(hv 9 43 rfl l0).trans (q9 l0)
             refine Ri.step_plain rfl rfl (fun K' hK=>?_)
             go_simp
             exact hK _ _ ⟨_,_,rfl,rfl,hb,q0,q1,q2,q3,q4,q5,q6,q7,q8,q9,fun _=>rfl,q11,q12,q13,q14⟩
           · have l0:L 10=true:=by have:=hd _ rfl;simp [Region.binds] at this;simp [this]
             have f10:=(hv 10 33 rfl l0).trans (q10 l0)
             refine Ri.step_plain rfl rfl (fun K' hK=>?_)
             go_simp
             exact hK _ _ ⟨_,_,rfl,rfl,hb,q0,q1,q2,q3,q4,q5,q6,q7,q8,q9,q10,fun _=>rfl,q12,q13,q14⟩
           · have l0:L 10=true:=by have:=hd _ rfl;simp [Region.binds] at this;simp [this]
             have f10:=(hv 10 33 rfl l0).trans (q10 l0)
             refine Ri.step_plain rfl rfl (fun K' hK=>?_)
             go_simp
             exact hK _ _ ⟨_,_,rfl,rfl,hb,q0,q1,q2,q3,q4,q5,q6,q7,q8,q9,q10,q11,fun _=>rfl,q13,q14⟩
           · have l0:L 11=true:=by have:=hd _ rfl;simp [Region.binds] at this;simp [this]
             have f11:=(hv 11 44 rfl l0).trans (q11 l0)
             refine Ri.step_plain rfl rfl (fun K' hK=>?_)
             go_simp
             exact hK _ _ ⟨_,_,rfl,rfl,hb,q0,q1,q2,q3,q4,q5,q6,q7,q8,q9,q10,q11,q12,fun _=>rfl,q14⟩
           · have l0:L 12=true:=by have:=hd _ rfl;simp [Region.binds] at this;simp [this]
             have f12:=(hv 12 45 rfl l0).trans (q12 l0)
             refine Ri.step_plain rfl rfl (fun K' hK=>?_)
             go_simp
             exact hK _ _ ⟨_,_,rfl,rfl,hb,q0,q1,q2,q3,q4,q5,q6,q7,q8,q9,q10,q11,q12,q13,fun _=>rfl⟩
         · rintro v w9 ⟨hb,-,-,-,-,-,-,-,-,-,-,-,-,-,q13,q14⟩
           have q13':v 13=.slice none 0 0:=q13 rfl
           have q14':v 14=.bool false:=q14 rfl
           simp only [Ri.frame,List.zipIdx,List.foldl_cons,List.foldl_nil,if_true,List.setIfInBounds_toArray,List.set_cons_zero,List.set_cons_succ,Nat.reduceAdd,q13',q14']
           clear q13 q13' q14 q14'
           generalize v 0=y0;generalize v 1=y1;generalize v 2=y2;generalize v 3=y3;generalize v 4=y4;generalize v 5=y5;generalize v 6=y6;generalize v 7=y7;generalize v 8=y8;generalize v 9=y9;generalize v 10=y10;generalize v 11=y11;generalize v 12=y12
           have HBn:=Lib.hid (HB.out.trans (hb.mono HB.out.size))
           clear hb
           go_wp2
           go_ret
           exact ⟨rfl,HBn.out⟩
     · have g5:decide ((s.size:Int) > 500)=true:=decide_eq_true (by omega)
       have g5':decide (500 < (s.size:Int))=true:=decide_eq_true (by omega)
       obtain ⟨u0,u1,u2⟩:=three_cells X1.out
       clear hs5
       go_wp2
       go_ret
       exact ⟨rfl,HB.out⟩
   · rw [decide_eq_false hg]
     clear hg HFQ
     go_wp2
     go_ret
     exact ⟨rfl,HB.out⟩
 · rw [decide_eq_false hf]
   clear hf HFT HFQ
   go_wp2
   go_ret
   exact ⟨rfl,HB.out⟩
end Go.Proofs.YtknlkgegbcbcfaaDoor
namespace Go.Proofs.YtknlkgegbcbcfaaDoor
open Go.ChangeShapes Go.WideShapes Go.ChangeAt Go.RowKit
theorem Tryd.cellsSet:Tryd.prog.cellsOf 24=4:=by kernel_rfl
theorem Tryd.cellsU64:Tryd.prog.cellsOf 22=1:=by kernel_rfl
theorem word_of {n:Int} (h:(Lit.int .u64 n).wf=true):∃ x:BitVec 64,n=Oc.U x:=by
 simp only [Lit.wf,IntKind.min,IntKind.max,IntKind.signed,IntKind.bits,Bool.and_eq_true] at h
 refine ⟨BitVec.ofInt 64 n, ?_⟩
 unfold Oc.U;rw [BitVec.toNat_ofInt]
 have h1:=h.1;have h2:=h.2
 simp at h1 h2
 omega
theorem open_words {H:Type} {enc:TypeId × Value→H} {w:World} {base:Nat} {spare:Nat→Bool} {held:Bool} {fuel:Nat} {c0 c1 c2 c3:Value} {x:DataW H × List MemPlace}
   (h:DataW.trod enc Tryd.prog w base spare held fuel 24 [c0,c1,c2,c3]=some x):∃ a b c d:BitVec 64,c0=.int .u64 (Oc.U a)∧c1=.int .u64 (Oc.U b)∧c2=.int .u64 (Oc.U c)∧c3=.int .u64 (Oc.U d):=by
 obtain ⟨y0,y1,y2,y3,n,_,h0,h1,h2,h3⟩:=trod_array4 Tryd.underlying24 Tryd.cellsU64 h
 obtain ⟨n0,e0,-,w0⟩:=DataW.trod_int Tryd.underlying22 h0
 obtain ⟨n1,e1,-,w1⟩:=DataW.trod_int Tryd.underlying22 h1
 obtain ⟨n2,e2,-,w2⟩:=DataW.trod_int Tryd.underlying22 h2
 obtain ⟨n3,e3,-,w3⟩:=DataW.trod_int Tryd.underlying22 h3
 obtain ⟨a,rfl⟩:=word_of w0
 obtain ⟨b,rfl⟩:=word_of w1
 obtain ⟨c,rfl⟩:=word_of w2
 obtain ⟨d,rfl⟩:=word_of w3
 simp only [List.cons.injEq,and_true] at e0 e1 e2 e3
 exact ⟨a,b,c,d,e0,e1,e2,e3⟩
end Go.Proofs.YtknlkgegbcbcfaaDoor
namespace Go.Proofs.YtknlkgegbcbcfaaDoor
open Go.ChangeShapes Go.WideShapes Go.ChangeAt Go.RowKit
theorem Tryd.cellsNodeO:Tryd.prog.cellsOf 37=10:=by kernel_rfl
theorem Tryd.cellsBoolO:Tryd.prog.cellsOf 4=1:=by kernel_rfl
theorem Tryd.cellsNodesO:Tryd.prog.cellsOf 35=1:=by kernel_rfl
theorem Tryd.bytesNodeO:Tryd.prog.bytesOf 37=96:=by kernel_rfl
theorem list10 {α:Type} {l:List α} (h:l.length=10):∃ a0 a1 a2 a3 a4 a5 a6 a7 a8 a9,l=[a0,a1,a2,a3,a4,a5,a6,a7,a8,a9]:=by
 match l,h with
 | [a0,a1,a2,a3,a4,a5,a6,a7,a8,a9],_=>exact ⟨a0,a1,a2,a3,a4,a5,a6,a7,a8,a9,rfl⟩
theorem list7 {α:Type} {l:List α} (h:l.length=7):∃ a0 a1 a2 a3 a4 a5 a6,l=[a0,a1,a2,a3,a4,a5,a6]:=by
 match l,h with
 | [a0,a1,a2,a3,a4,a5,a6],_=>exact ⟨a0,a1,a2,a3,a4,a5,a6,rfl⟩
theorem open_node {H:Type} {enc:TypeId × Value→H} {W:World} {base:Nat} {spare:Nat→Bool} {held:Bool} : ∀ (fuel:Nat) (cs:List Value) (x:DataW H × List MemPlace),
   DataW.trod enc Tryd.prog W base spare held fuel 37 cs=some x→(∀ k,k ∈ x.1.weights Tryd.prog 37→k ≤ 140737488351232) →
   ∃ (t:Tr) (s:Value),cs=(t.cells s).toList∧TreesAt W (fun _=>True) s t.subs:=by
 intro fuel
 induction fuel using Nat.strongRecOn with
 | _ fuel ih =>
   intro cs x h hw
   obtain ⟨xs,n,rfl,rfl,hlen,hxs,hf⟩:=DataW.trod_struct Tryd.underlying37 h
   rw [Tryd.cellsNodeO] at hlen
   obtain ⟨c0,c1,c2,c3,c4,c5,c6,c7,c8,c9,rfl⟩:=list10 hlen
   obtain ⟨y0,y1,y2,y3,y4,y5,y6,rfl⟩:=list7 (by simpa using hxs)
   have f0:=hf 0 _ rfl;have f1:=hf 1 _ rfl;have f2:=hf 2 _ rfl;have f3:=hf 3 _ rfl;have f4:=hf 4 _ rfl;have f5:=hf 5 _ rfl;have f6:=hf 6 _ rfl
   simp only [List.getElem_toArray,List.getElem_cons_zero,List.getElem_cons_succ,Tryd.cellsIntO,Tryd.cellsBoolO,Tryd.cellsNodesO,Tryd.cellsSet,List.drop_zero,List.drop_succ_cons,List.take_succ_cons,List.take_zero,List.getElem?_cons_zero,List.getElem?_cons_succ] at f0 f1 f2 f3 f4 f5 f6
   obtain ⟨k,e0,-,-⟩:=DataW.trod_int Tryd.underlying3 f0
   obtain ⟨a,b,c,d,rfl,rfl,rfl,rfl⟩:=open_words f1
   obtain ⟨nn,e3,-,-⟩:=DataW.trod_int Tryd.underlying3 f3
   obtain ⟨lo,e4,-,-⟩:=DataW.trod_int Tryd.underlying3 f4
   obtain ⟨hi,e5,-,-⟩:=DataW.trod_int Tryd.underlying3 f5
   obtain ⟨br,e6,-⟩:=DataW.trod_bool Tryd.underlying4 f6
   simp only [List.cons.injEq,and_true] at e0 e3 e4 e5 e6
   subst e0 e3 e4 e5 e6
   have fin:∀ (ts:List Tr),TreesAt W (fun _=>True) c5 ts→∃ (t:Tr) (s:Value),[.int .i64 k,.int .u64 (Oc.U a),.int .u64 (Oc.U b),.int .u64 (Oc.U c),.int .u64 (Oc.U d),c5,.int .i64 nn,.int .i64 lo,.int .i64 hi,.bool br]=(t.cells s).toList∧TreesAt W (fun _=>True) s t.subs :=
     fun ts hts=>⟨.node k a b c d ts nn lo hi br,c5,rfl,hts⟩
   rcases DataW.trod_slice Tryd.underlying35 f2 with ⟨hc5,-⟩ | ⟨ad,len,cap,elems,rest,n',rfl,hc5,hx,-,-,-,hel,hall,-,-⟩
   · simp only [List.cons.injEq,and_true] at hc5
     subst hc5
     exact fin [] TreesAt.nil
   · simp only [List.cons.injEq,and_true] at hc5
     subst hc5
     rw [Tryd.cellsNodeO] at hall
     have hwn:∀ k,k ∈ y2.1.weights Tryd.prog 35→k ≤ 140737488351232:=fun k hk=>hw k (by
       rw [DataW.weights,Tryd.underlying37]
       exact DataW.weights_mem_each (j:=2) rfl rfl k hk)
     have hlen96:len * 96 ≤ 140737488351232:=by
       have:=hwn ((elems.length+rest.length) * 96) (by
         rw [hx]
         simp only [DataW.weights,Tryd.underlying35,Tryd.bytesNodeO,List.length_map]
         exact List.mem_cons_self)
       rw [hel] at this
       have h2:len * 96 ≤ (len+rest.length) * 96:=Nat.mul_le_mul_right _ (by omega)
       omega
     have key:∀ i,∃ (t:Tr) (s:Value),i < len→(∃ b o,some ad=some ⟨b,o,none⟩∧TenAt W b (o+i * 10) t s)∧TreesAt W (fun _=>True) s t.subs:=by
       intro i
       by_cases hi:i < len
       · have h1:=hall i hi
         rw [List.getElem?_eq_getElem (by omega)] at h1
         obtain ⟨csi,hcs,htr⟩:=Option.bind_eq_some_iff.1 h1
         obtain ⟨t,s,hts,hsub⟩:=ih n' (by omega) csi _ htr (fun k hk=>hwn k (by
           rw [hx]
           simp only [DataW.weights,Tryd.underlying35]
           refine List.mem_cons_of_mem _ (List.mem_append_left _ (weightsAll_mem (d:=elems[i].1) ?_ hk))
           exact List.mem_map.2 ⟨elems[i],List.getElem_mem _,rfl⟩))
         obtain ⟨-,-,hcell⟩:=World.cells?_some hcs
         have hspot:ad.spot=none:=by
           have h0:=hall 0 (by omega)
           rw [List.getElem?_eq_getElem (by omega)] at h0
           obtain ⟨cs0,hcs0,htr0⟩:=Option.bind_eq_some_iff.1 h0
           obtain ⟨t0,s0,hts0,-⟩:=ih n' (by omega) cs0 _ htr0 (fun k hk=>hwn k (by
             rw [hx]
             simp only [DataW.weights,Tryd.underlying35]
             refine List.mem_cons_of_mem _ (List.mem_append_left _ (weightsAll_mem (d:=elems[0].1) ?_ hk))
             exact List.mem_map.2 ⟨elems[0],List.getElem_mem _,rfl⟩))
           have h2:=(World.cells?_some hcs0).2.2 0 (by omega)
           rw [hts0] at h2
           have e:(ad.add (0 * 10)).add 0=ad:=by simp [Addr.add]
           rw [e] at h2
           cases hsp:ad.spot with
           | none=>rfl
           | some z =>
             unfold World.cell? at h2
             rw [hsp] at h2
             split at h2 <;> simp [Tr.cells] at h2
         have hadd:∀ j,(ad.add (i * 10)).add j=⟨ad.block,ad.off+i * 10+j,none⟩:=fun j=>by
           rw [add_at hspot,add_at (a:=⟨ad.block,ad.off+i * 10,none⟩) rfl]
         refine ⟨t,s,fun _=>⟨⟨ad.block,ad.off,by cases ad;simp_all, ?_⟩,hsub⟩⟩
         rw [hts] at hcell
         have get:∀ j u,j < 10→(t.cells s).toList[j]? = some u→W.cell? ⟨ad.block,ad.off+i * 10+j,none⟩=some u:=fun j u hj hu=>by
           rw [← hadd j,hcell j hj,hu]
         exact ⟨get 0 _ (by omega) rfl,get 1 _ (by omega) rfl,get 2 _ (by omega) rfl,get 3 _ (by omega) rfl,get 4 _ (by omega) rfl,get 5 _ (by omega) rfl,get 6 _ (by omega) rfl,get 7 _ (by omega) rfl,get 8 _ (by omega) rfl,get 9 _ (by omega) rfl⟩
       · exact ⟨.node 0 0#64 0#64 0#64 0#64 [] 0 0 0 false,.nilIface,fun h=>absurd h hi⟩
     obtain ⟨T,hT⟩:=Classical.axiomOfChoice key
     obtain ⟨S,hS⟩:=Classical.axiomOfChoice hT
     have hl:((List.range len).map T).length=len:=by simp
     have hg:∀ i t,((List.range len).map T)[i]? = some t→i < len∧t=T i:=fun i t h=>by
       rw [List.getElem?_map] at h
       by_cases hi:i < len
       · rw [List.getElem?_range hi] at h
         exact ⟨hi,(Option.some.inj h).symm⟩
       · rw [List.getElem?_eq_none (by simp;omega)] at h;cases h
     have:=TreesAt.mk (w:=W) (B:=fun _=>True) (some ad) cap ((List.range len).map T) S (by rw [hl];exact hlen96) (fun i t h=>by
       obtain ⟨hi,rfl⟩:=hg i t h
       obtain ⟨⟨b,o,e,ht⟩,-⟩:=hS i hi
       exact ⟨b,o,e,trivial,ht⟩) (fun i t h=>by
       obtain ⟨hi,rfl⟩:=hg i t h
       exact (hS i hi).2)
     rw [hl] at this
     exact fin _ this
theorem open_tree {H:Type} {enc:TypeId × Value→H} {w:World} {base b0:Nat} {spare:Nat→Bool} {held:Bool} {v:Value} {y:DataW H} {ps:List MemPlace} {r:Reach}
   (hv:Value.okWide Tryd.prog w r b0 37 v) (h:DataW.Trod enc Tryd.prog w base spare held 37 v y ps) (hw:∀ k,k ∈ y.weights Tryd.prog 37→k ≤ 140737488351232):∃ t,NodeV w (fun _=>True) v t:=by
 unfold Value.okWide at hv
 rw [Tryd.underlying37] at hv
 obtain ⟨cs,rfl,hsz,-⟩:=hv
 obtain ⟨fuel,hf⟩:=h
 obtain ⟨t,s,e,hs⟩:=open_node fuel _ _ hf hw
 refine ⟨t,s, ?_,hs⟩
 simp only [Value.cells] at e
 exact congrArg Value.agg (Array.toList_inj.1 e)
end Go.Proofs.YtknlkgegbcbcfaaDoor
namespace Go.Proofs.YtknlkgegbcbcfaaDoor
open Go.RowKit
namespace Tr
end Tr
theorem u0:Oc.U 0#64=0:=by decide
end Go.Proofs.YtknlkgegbcbcfaaDoor
namespace Go.Proofs.YtknlkgegbcbcfaaDoor
open Go.ChangeShapes Go.WideShapes Go.ChangeAt Go.RowKit
theorem Tryd.cellsViewR:Tryd.prog.cellsOf 39=3:=by kernel_rfl
theorem Tryd.cellsStrR:Tryd.prog.cellsOf 9=1:=by kernel_rfl
theorem Tryd.cellsIntR:Tryd.prog.cellsOf 3=1:=by kernel_rfl
theorem open_view {H:Type} {enc:TypeId × Value→H} {w:World} {base b0:Nat} {spare:Nat→Bool} {held:Bool} {v:Value} {y:DataW H} {ps:List MemPlace} {r:Reach}
   (hv:Value.okWide Tryd.prog w r b0 39 v) (h:DataW.Trod enc Tryd.prog w base spare held 39 v y ps):∃ (s:ByteArray) (c e:Int),v=.agg #[.string s,.int .i64 c,.int .i64 e]:=by
 unfold Value.okWide at hv
 rw [Tryd.underlying39] at hv
 obtain ⟨cs,rfl,hsz,-⟩:=hv
 rw [Tryd.cellsViewR] at hsz
 obtain ⟨c0,c1,c2,rfl⟩:∃ c0 c1 c2,cs=#[c0,c1,c2]:=by
   obtain ⟨l⟩:=cs
   match l,hsz with
   | [c0,c1,c2],_=>exact ⟨c0,c1,c2,rfl⟩
 obtain ⟨fuel,hf⟩:=h
 obtain ⟨y0,y1,y2,m,_,_,h0,h1,h2⟩:=Deep.trod_struct3 Tryd.underlying39 hf
 simp only [Tryd.cellsStrR,Tryd.cellsIntR,List.drop_zero] at h0 h1 h2
 obtain ⟨s,e0,-⟩:=DataW.trod_string Tryd.underlying9 h0
 obtain ⟨c,e1,-,-⟩:=DataW.trod_int Tryd.underlying3 h1
 obtain ⟨e,e2,-,-⟩:=DataW.trod_int Tryd.underlying3 h2
 have x0:c0=.string s:=(List.cons.inj (show [c0]=[Value.string s] from e0)).1
 have x1:c1=.int .i64 c:=(List.cons.inj (show [c1]=[Value.int .i64 c] from e1)).1
 have x2:c2=.int .i64 e:=(List.cons.inj (show [c2]=[Value.int .i64 e] from e2)).1
 subst x0 x1 x2
 exact ⟨s,c,e,rfl⟩
end Go.Proofs.YtknlkgegbcbcfaaDoor
