/- Part 3 of what these proofs need. -/
import Derived.ChangeOld
import Derived.Deep.Slices
import Derived.Laws.IdiomArrays
import Derived.Lib.SmallJoins
import Derived.SizedLaws
import Derived.DataReads
import Derived.Test.YtnaoiglbjkjogaaDoorOe2
set_option maxRecDepth 100000
set_option maxHeartbeats 16000000
namespace Go.Proofs.YtnaoiglbjkjogaaDoor
open Go.RowKit
theorem rsp_part0 (a b:Value) (w:World):(Go.part 3 #[a,b] 0).run Tryd.prog w=.ok a w:=by kernel_rfl
theorem rsp_part1 (a b:Value) (w:World):(Go.part 3 #[a,b] 1).run Tryd.prog w=.ok b w:=by kernel_rfl
theorem rsp_eqi (a b:Int) (w:World):(Op.equalIn 9999 3 (.int .i64 a) (.int .i64 b)).run Tryd.prog w=.ok (a == b) w:=run_equalIn_int w 9998 3 .i64 .i64 a b Tryd.underlying3
theorem rsp_eq2 (a b a' b':Int) (w:World):(Op.equalIn 10000 70 (.agg #[.int .i64 a,.int .i64 b]) (.agg #[.int .i64 a',.int .i64 b'])).run Tryd.prog w=.ok (a == a' && b == b') w:=by
 have h0:=run_underlying (P:=Tryd.prog) (w:=w) Tryd.underlying70
 unfold Op.equalIn
 simp only [Sem.run_bind,h0,Result.andThen_ok]
 simp
 simp only [rsp_part0,rsp_part1,rsp_eqi,Result.andThen_ok]
 by_cases h1:a=a'
 · by_cases h2:b=b' <;> simp [h1,h2]
 · simp [h1]
def SpsAt (w:World) (v:Value) (l:List (Int × Int)):Prop:=∃ p cap,v=.slice p l.length cap∧∀ (i:Nat) (s:Int × Int),l[i]? = some s→∃ b o,p=some ⟨b,o,none⟩∧b < w.heap.size∧w.cell? ⟨b,o+i * 2,none⟩=some (.int .i64 s.1)∧w.cell? ⟨b,o+i * 2+1,none⟩=some (.int .i64 s.2)
theorem SpsAt.below {w w':World} {v:Value} {l:List (Int × Int)} (h:SpsAt w v l) (hb:Below w.heap.size w w'):SpsAt w' v l:=by
 obtain ⟨p,cap,e,hc⟩:=h
 refine ⟨p,cap,e,fun i s hi=>?_⟩
 obtain ⟨b,o,h1,h2,h3,h4⟩:=hc i s hi
 exact ⟨b,o,h1,Nat.lt_of_lt_of_le h2 hb.size,(hb.cell (p:=⟨b,o+i * 2,none⟩) h2).trans h3,(hb.cell (p:=⟨b,o+i * 2+1,none⟩) h2).trans h4⟩
def spL (n:Nat) (G:Nat→Int × Int):List (Int × Int):=(List.range n).map G
theorem spL_len (n:Nat) (G:Nat→Int × Int):(spL n G).length=n:=by simp [spL]
theorem spL_get {n:Nat} {G:Nat→Int × Int} {i:Nat} {s:Int × Int} (h:(spL n G)[i]? = some s):i < n∧s=G i:=by
 unfold spL at h
 rw [List.getElem?_map] at h
 by_cases hi:i < n
 · rw [List.getElem?_range hi] at h;exact ⟨hi,(Option.some.inj h).symm⟩
 · rw [List.getElem?_eq_none (by simp;omega)] at h;cases h
theorem SpsAt.of {w:World} {g n:Nat} {G:Nat→Int × Int} {t:TypeId} (h:w.heap[g]? = some (.cells (sp n G) t)):SpsAt w (.slice (some ⟨g,0,none⟩) n n) (spL n G):=by
 refine ⟨some ⟨g,0,none⟩,n,by rw [spL_len],fun i s hi=>?_⟩
 obtain ⟨h1,rfl⟩:=spL_get hi
 obtain ⟨c0,c1,-,-⟩:=sp_cell h1 h
 refine ⟨g,0,rfl,(Array.getElem?_eq_some_iff.1 h).1, ?_, ?_⟩
 · rw [Nat.zero_add];exact c0
 · rw [Nat.zero_add];exact c1
theorem samespans_any (l m:List (Int × Int)) (hl:l.length ≤ 1000000) (hm:m.length ≤ 1000000) (v u:Value) (w:World) (hv:SpsAt w v l) (hu:SpsAt w u m) :
   Calls Tryd.prog 34 #[v,u] w fun e w'=>e=.returned (.bool (decide (l=m)))∧Below w.heap.size w w':=by
 obtain ⟨p,c1,rfl,H1⟩:=hv
 obtain ⟨q,c2,rfl,H2⟩:=hu
 have h1:=Lib.hid H1;have h2:=Lib.hid H2
 clear H1 H2
 have heqs:=rsp_eq2
 by_cases hlen:l.length=m.length
 · have hd:((l.length:Int) == (m.length:Int))=true:=by rw [hlen];simp
   have hne:((l.length:Int) != (m.length:Int))=false:=by rw [hlen];simp
   have HL:=Lib.hid hlen
   rw [hlen] at hl ⊢
   clear hlen hd hne
   generalize hn:m.length=n at *
   have HN:=Lib.hid hn
   clear hn
   go_enter Tryd.func34,Tryd.ntmps34
   go_wp2
   go_loopw [13] (fun iv wr=>∃ k:Nat,iv=.int .i64 (k:Int)∧k ≤ n∧Hid (Below w.heap.size w wr)∧Hid (∀ i,i < k→l[i]? = m[i]?)) (fun iv _=>n - (intOf iv).toNat)
   case atStart=>exact ⟨0,rfl,Nat.zero_le _,Lib.hid (Below.refl _ _),Lib.hid (fun i h=>by omega)⟩
   case round =>
     obtain ⟨k,rfl,hk,HB,HS⟩:=hrel
     by_cases hlt:k < n
     · have wi:IntKind.i64.wrap ((k:Int)+1)=(k:Int)+1:=IntWalk.i64_in _ (by omega)
       have hk1:k < l.length:=by have:=HL.out;omega
       have hk2:k < m.length:=by have:=HN.out;omega
       obtain ⟨x,hx⟩:∃ x,l[k]? = some x:=⟨_,List.getElem?_eq_getElem hk1⟩
       obtain ⟨y,hy⟩:∃ y,m[k]? = some y:=⟨_,List.getElem?_eq_getElem hk2⟩
       obtain ⟨b1,o1,rfl,hb1,d1,d1'⟩:=h1.out k x hx
       obtain ⟨b2,o2,rfl,hb2,d2,d2'⟩:=h2.out k y hy
       have e1:=(HB.out.cell (p:=⟨b1,o1+k * 2,none⟩) hb1).trans d1
       have e1':=(HB.out.cell (p:=⟨b1,o1+k * 2+1,none⟩) hb1).trans d1'
       have e2:=(HB.out.cell (p:=⟨b2,o2+k * 2,none⟩) hb2).trans d2
       have e2':=(HB.out.cell (p:=⟨b2,o2+k * 2+1,none⟩) hb2).trans d2'
       have HX:=Lib.hid hx;have HY:=Lib.hid hy
       have hkn:(k:Int) < (n:Int):=by omega
       clear hx hy d1 d2 d1' d2' hb1 hb2 h1 h2
       obtain ⟨xa,xb⟩:=x
       obtain ⟨ya,yb⟩:=y
       by_cases hxy:xa=ya∧xb=yb
       · obtain ⟨rfl,rfl⟩:=hxy
         have hq:(xa == xa && xb == xb)=true:=by simp
         go_wp2_with fail
         go_region
         go_wp2
         exact ⟨⟨k+1,by go_num,by omega,Lib.hid HB.out.drew,Lib.hid (fun i hi=>by
           by_cases e:i=k
           · subst e;rw [HX.out,HY.out]
           · exact HS.out i (by omega))⟩,by simp [intOf];omega⟩
       · have hq:(xa == ya && xb == yb)=false:=by
           cases h:(xa == ya && xb == yb) with
           | false=>rfl
           | true=>simp at h;exact absurd h hxy
         have HD:=Lib.hid (show decide (l=m)=false from decide_eq_false fun e=>by
           have:=HX.out;rw [e,HY.out] at this
           simp only [Option.some.injEq,Prod.mk.injEq] at this
           exact hxy ⟨this.1.symm,this.2.symm⟩)
         clear hxy
         go_wp2_with fail
         go_region
         go_wp2
         go_ret
         exact ⟨ret_bool HD.out.symm,HB.out.drew⟩
     · obtain rfl:k=n:=by omega
       have HD:=Lib.hid (show decide (l=m)=true from decide_eq_true (List.ext_getElem? fun i=>by
         by_cases hi:i < k
         · exact HS.out i hi
         · rw [List.getElem?_eq_none (by have:=HL.out;omega),List.getElem?_eq_none (by have:=HN.out;omega)]))
       clear hlt h1 h2
       go_wp2
       go_ret
       exact ⟨ret_bool HD.out.symm,HB.out⟩
 · have hd:((l.length:Int) != (m.length:Int))=true:=by simp;omega
   have hd2:(l.length != m.length)=true:=by simpa using hlen
   have hd3:(l.length == m.length)=false:=by simpa using hlen
   have HD:=Lib.hid (show decide (l=m)=false from decide_eq_false fun e=>hlen (by rw [e]))
   clear hlen h1 h2
   go_enter Tryd.func34,Tryd.ntmps34
   go_wp2
   go_ret
   exact ⟨ret_bool HD.out.symm,Below.refl _ _⟩
end Go.Proofs.YtnaoiglbjkjogaaDoor
namespace Go.Proofs.YtnaoiglbjkjogaaDoor
namespace Pa
def cmpI (a b:Int) (z:Int):Int:=if a < b then -1 else if b < a then 1 else z
mutual
def cmpT:Pa→Pa→Int
 | .node l h p s,u=>cmpI l u.lo (cmpI u.hi h (cmpI p u.pick (cmpS s u.subs)))
def cmpS:List Pa→List Pa→Int
 | [],us=>if us.length=0 then 0 else 1
 | t :: ts,us=>match us with
   | []=>-1
   | u :: us=>if cmpT t u ≠ 0 then cmpT t u else cmpS ts us
end
theorem cmpT_eq (t u:Pa):cmpT t u=cmpI t.lo u.lo (cmpI u.hi t.hi (cmpI t.pick u.pick (cmpS t.subs u.subs))):=by cases t;rw [cmpT];rfl
@[simp] theorem cmpS_nil:cmpS [] []=0:=by rw [cmpS];rfl
@[simp] theorem cmpS_nl (u:Pa) (us:List Pa):cmpS [] (u :: us)=1:=by rw [cmpS];simp
@[simp] theorem cmpS_cn (t:Pa) (ts:List Pa):cmpS (t :: ts) [] = -1:=by rw [cmpS]
theorem cmpS_cc (t u:Pa) (ts us:List Pa):cmpS (t :: ts) (u :: us)=if cmpT t u ≠ 0 then cmpT t u else cmpS ts us:=by rw [cmpS]
end Pa
end Go.Proofs.YtnaoiglbjkjogaaDoor
namespace Go.Proofs.YtnaoiglbjkjogaaDoor
open Go.RowKit
theorem nan_any (a:Int) (w:World):Calls Tryd.prog 117 #[.int .i64 a] w fun e w'=>e=.returned (.bool false)∧w=w':=by
 go_enter Tryd.func117,Tryd.ntmps117
 go_wp2
 go_ret
 exact ⟨rfl,rfl⟩
theorem cmpc_any (a b:Int) (w:World):Calls Tryd.prog 92 #[.int .i64 a,.int .i64 b] w fun e w'=>e=.returned (.int .i64 (Pa.cmpI a b 0))∧w=w':=by
 have H1:=Lib.hid (nan_any a w)
 have H2:=Lib.hid (nan_any b w)
 unfold Pa.cmpI
 by_cases h1:a < b
 · have d1:decide (a < b)=true:=decide_eq_true h1
   rw [if_pos h1]
   go_enter Tryd.func92,Tryd.ntmps92
   go_wp2_with fail
   refine H1.out.mono ?_;rintro e w' ⟨rfl,rfl⟩
   go_wp2_with fail
   refine H2.out.mono ?_;rintro e w' ⟨rfl,rfl⟩
   go_wp2
   go_ret
   exact ⟨rfl,rfl⟩
 · have d1:decide (a < b)=false:=decide_eq_false h1
   rw [if_neg h1]
   by_cases h2:b < a
   · have d2:decide (b < a)=true:=decide_eq_true h2
     rw [if_pos h2]
     go_enter Tryd.func92,Tryd.ntmps92
     go_wp2_with fail
     refine H1.out.mono ?_;rintro e w' ⟨rfl,rfl⟩
     go_wp2_with fail
     refine H2.out.mono ?_;rintro e w' ⟨rfl,rfl⟩
     go_wp2
     go_ret
     exact ⟨rfl,rfl⟩
   · have d2:decide (b < a)=false:=decide_eq_false h2
     rw [if_neg h2]
     go_enter Tryd.func92,Tryd.ntmps92
     go_wp2_with fail
     refine H1.out.mono ?_;rintro e w' ⟨rfl,rfl⟩
     go_wp2_with fail
     refine H2.out.mono ?_;rintro e w' ⟨rfl,rfl⟩
     go_wp2
     go_ret
     exact ⟨rfl,rfl⟩
def CmpDoes (f:Nat) (t:Pa):Prop:=∀ (u:Pa) (w:World) (B C:Nat→Prop) (va vb:Value),PaV w B va t→PaV w C vb u→Calls Tryd.prog f #[va,vb] w fun e w'=>e=.returned (.int .i64 (Pa.cmpT t u))∧Below w.heap.size w w'
namespace Pa
theorem cmpI_drop (a b i:Nat) (ha:i ≤ a) (hb:i ≤ b):cmpI ((a - i:Nat):Int) ((b - i:Nat):Int) 0=cmpI (a:Int) (b:Int) 0:=by
 unfold cmpI
 have h1:((a - i:Nat):Int) < ((b - i:Nat):Int) ↔ (a:Int) < (b:Int):=by omega
 have h2:((b - i:Nat):Int) < ((a - i:Nat):Int) ↔ (b:Int) < (a:Int):=by omega
 simp only [h1,h2]
theorem cmpS_end (ts us:List Pa) (h:ts=[] ∨ us=[]):cmpS ts us=cmpI (us.length:Int) (ts.length:Int) 0:=by
 unfold cmpI
 cases ts with
 | nil=>cases us with
   | nil=>simp
   | cons u us=>rw [cmpS_nl,if_neg (by simp;omega),if_pos (by simp)]
 | cons t ts =>
   rcases h with h | h
   · cases h
   · subst h;rw [cmpS_cn,if_pos (by simp)]
end Pa
theorem cmplists_any (ts us:List Pa) (ih:∀ t,t ∈ ts→CmpDoes 55 t) (w:World) (B C:Nat→Prop) (va vb:Value) (ha:PasAt w B va ts) (hb:PasAt w C vb us) :
   Calls Tryd.prog 93 #[va,vb] w fun e w'=>e=.returned (.int .i64 (Pa.cmpS ts us))∧Below w.heap.size w w':=by
 obtain ⟨p,cap,rfl,hla⟩:=ha.slice
 obtain ⟨q,cbp,rfl,hlb⟩:=hb.slice
 have HSA:=Lib.hid ha;have HSB:=Lib.hid hb;have IH:=Lib.hid ih
 clear ha hb ih
 obtain ⟨R,hR⟩:∃ R,Pa.cmpS ts us=R:=⟨_,rfl⟩
 rw [hR]
 have HR:=Lib.hid hR
 clear hR
 obtain ⟨n,hn⟩:∃ n,min ts.length us.length=n:=⟨_,rfl⟩
 have hn1:n ≤ ts.length:=by omega
 have hn2:n ≤ us.length:=by omega
 have HN:=Lib.hid (show n=ts.length ∨ n=us.length by omega)
 have hmin:(if ((us.length:Int) < ts.length) then (us.length:Int) else ts.length)=(n:Int):=by split <;> omega
 have hmin2:(if us.length < ts.length then (us.length:Int) else (ts.length:Int))=(n:Int):=by split <;> omega
 have hmin3:min (ts.length:Int) (us.length:Int)=(n:Int):=by omega
 have HQ:=Lib.hid hn
 clear hn
 go_enter Tryd.func93,Tryd.ntmps93
 go_wp2
 clear hmin hmin2 hmin3
 go_loopw [12] (fun iv wr=>∃ i:Nat,iv=.int .i64 i∧i ≤ n∧Hid (Pa.cmpS (ts.drop i) (us.drop i)=R)∧Hid (Below w.heap.size w wr)) (fun iv _=>n - (intOf iv).toNat)
 case atStart=>exact ⟨0,rfl,Nat.zero_le _,by rw [List.drop_zero,List.drop_zero];exact HR,Lib.hid (Below.refl _ _)⟩
 case round =>
   obtain ⟨i,rfl,hi,HL,HB⟩:=hrel
   have wi:IntKind.i64.wrap ((i:Int)+1)=(i:Int)+1:=IntWalk.i64_in _ (by omega)
   by_cases hlt:i < n
   · obtain ⟨x,hx⟩:∃ x,ts[i]? = some x:=⟨_,List.getElem?_eq_getElem (by omega)⟩
     obtain ⟨y,hy⟩:∃ y,us[i]? = some y:=⟨_,List.getElem?_eq_getElem (by omega)⟩
     obtain ⟨b1,o1,s1,rfl,-,t1,sub1⟩:=HSA.out.get hx
     obtain ⟨b2,o2,s2,rfl,-,t2,sub2⟩:=HSB.out.get hy
     have hmem:=List.mem_of_getElem? hx
     have hd1:ts.drop i=x :: ts.drop (i+1):=by rw [List.drop_eq_getElem_cons (by omega),(List.getElem?_eq_some_iff.1 hx).2]
     have hd2:us.drop i=y :: us.drop (i+1):=by rw [List.drop_eq_getElem_cons (by omega),(List.getElem?_eq_some_iff.1 hy).2]
     have hl:=HL.out
     rw [hd1,hd2,Pa.cmpS_cc] at hl
     have T1:=Lib.hid t1;have T2:=Lib.hid t2
     have l1:=t1.lt;have l2:=t2.lt
     have hi1:i < ts.length:=by omega
     have hi2:i < us.length:=by omega
     have hs:=fun w9 (hb:Below wr.heap.size wr w9)=>IH.out x hmem y w9 B C (.agg #[.int .i64 x.lo,.int .i64 x.hi,.int .i64 x.pick,s1]) (.agg #[.int .i64 y.lo,.int .i64 y.hi,.int .i64 y.pick,s2]) ⟨s1,rfl,sub1.later (HB.out.trans (hb.mono HB.out.size))⟩ ⟨s2,rfl,sub2.later (HB.out.trans (hb.mono HB.out.size))⟩
     clear t1 t2 sub1 sub2 hmem hx hy hd1 hd2 HL
     generalize Pa.cmpT x y=z at *
     have HS:=Lib.hid hs;have HLL:=Lib.hid hl
     clear hs hl
     by_cases hz:z=0
     · have HR2:=Lib.hid (show Pa.cmpS (ts.drop (i+1)) (us.drop (i+1))=R by have:=HLL.out;rw [if_neg (by omega)] at this;exact this)
       have ez:(z != 0)=false:=by simpa using hz
       clear hz HLL
       go_wp2
       refine Ri.wp_region_frame (by kernel_rfl) (by kernel_rfl) (by kernel_rfl) (by kernel_rfl)
         (fun L v w'=>Below wr.heap.size wr w'∧(L 0=true→v 0=.slice (some ⟨b1,o1,none⟩) ts.length cap)∧(L 1=true→v 1=.int .i64 (i:Int))∧(L 2=true→v 2=.pointer (some ⟨b1,o1+i * 4,none⟩))∧(L 3=true→v 3=.agg #[.int .i64 x.lo,.int .i64 x.hi,.int .i64 x.pick,s1])∧(L 4=true→v 4=.slice (some ⟨b2,o2,none⟩) us.length cbp)∧(L 5=true→v 5=.int .i64 (i:Int))∧(L 6=true→v 6=.pointer (some ⟨b2,o2+i * 4,none⟩))∧(L 7=true→v 7=.agg #[.int .i64 y.lo,.int .i64 y.hi,.int .i64 y.pick,s2])∧(L 8=true→v 8=.int .i64 z)∧(L 9=true→v 9=.int .i64 z))
         ?_ ?_ ?_
       · exact ⟨(Below.refl _ _).drew,by simp,by simp,by simp,by simp,by simp,by simp,by simp,by simp,by simp,by simp⟩
       · intro i hi9 L v w9 xa hI hL hd hv ho
         have hi':i=0 ∨ i=1 ∨ i=2 ∨ i=3 ∨ i=4 ∨ i=5 ∨ i=6 ∨ i=7 ∨ i=8 ∨ i=9:=by simp at hi9;omega
         obtain ⟨hb,q0,q1,q2,q3,q4,q5,q6,q7,q8,q9⟩:=hI
         rcases hi' with rfl | rfl | rfl | rfl | rfl | rfl | rfl | rfl | rfl | rfl
         · have e0:xa.tmps.getD 0 undef=.slice (some ⟨b1,o1,none⟩) ts.length cap:=ho 0 (by kernel_rfl)
           refine Ri.step_plain rfl rfl (fun K' hK=>?_)
           go_simp
           exact hK _ _ ⟨_,_,rfl,rfl,hb,fun _=>rfl,q1,q2,q3,q4,q5,q6,q7,q8,q9⟩
         · have e5:xa.tmps.getD 5 undef=.int .i64 (i:Int):=ho 5 (by kernel_rfl)
           refine Ri.step_plain rfl rfl (fun K' hK=>?_)
           go_simp
           exact hK _ _ ⟨_,_,rfl,rfl,hb,q0,fun _=>rfl,q2,q3,q4,q5,q6,q7,q8,q9⟩
         · have l0:L 0=true∧L 1=true:=by have:=hd _ rfl;simp [Region.binds] at this;simp [this]
           have f0:=(hv 0 15 rfl l0.1).trans (q0 l0.1)
           have f1:=(hv 1 16 rfl l0.2).trans (q1 l0.2)
           refine Ri.step_plain rfl rfl (fun K' hK=>?_)
           go_simp
           exact hK _ _ ⟨_,_,rfl,rfl,hb,q0,q1,fun _=>rfl,q3,q4,q5,q6,q7,q8,q9⟩
         · have l0:L 2=true:=by have:=hd _ rfl;simp [Region.binds] at this;simp [this]
           have f2:=(hv 2 17 rfl l0).trans (q2 l0)
           refine Ri.step_plain rfl rfl (fun K' hK=>?_)
           obtain ⟨d0,d1,d2,d3⟩:=(T1.out.keep ((HB.out.trans (hb.mono HB.out.size)).block _ l1))
           go_simp
           exact hK _ _ ⟨_,_,rfl,rfl,hb,q0,q1,q2,fun _=>rfl,q4,q5,q6,q7,q8,q9⟩
         · have e1:xa.tmps.getD 1 undef=.slice (some ⟨b2,o2,none⟩) us.length cbp:=ho 1 (by kernel_rfl)
           refine Ri.step_plain rfl rfl (fun K' hK=>?_)
           go_simp
           exact hK _ _ ⟨_,_,rfl,rfl,hb,q0,q1,q2,q3,fun _=>rfl,q5,q6,q7,q8,q9⟩
         · have e5:xa.tmps.getD 5 undef=.int .i64 (i:Int):=ho 5 (by kernel_rfl)
           refine Ri.step_plain rfl rfl (fun K' hK=>?_)
           go_simp
           exact hK _ _ ⟨_,_,rfl,rfl,hb,q0,q1,q2,q3,q4,fun _=>rfl,q6,q7,q8,q9⟩
         · have l0:L 4=true∧L 5=true:=by have:=hd _ rfl;simp [Region.binds] at this;simp [this]
           have f4:=(hv 4 19 rfl l0.1).trans (q4 l0.1)
           have f5:=(hv 5 20 rfl l0.2).trans (q5 l0.2)
           refine Ri.step_plain rfl rfl (fun K' hK=>?_)
           go_simp
           exact hK _ _ ⟨_,_,rfl,rfl,hb,q0,q1,q2,q3,q4,q5,fun _=>rfl,q7,q8,q9⟩
         · have l0:L 6=true:=by have:=hd _ rfl;simp [Region.binds] at this;simp [this]
           have f6:=(hv 6 21 rfl l0).trans (q6 l0)
           refine Ri.step_plain rfl rfl (fun K' hK=>?_)
           obtain ⟨d0,d1,d2,d3⟩:=(T2.out.keep ((HB.out.trans (hb.mono HB.out.size)).block _ l2))
           go_simp
           exact hK _ _ ⟨_,_,rfl,rfl,hb,q0,q1,q2,q3,q4,q5,q6,fun _=>rfl,q8,q9⟩
         · have l0:L 3=true∧L 7=true:=by have:=hd _ rfl;simp [Region.binds] at this;simp [this]
           have f3:=(hv 3 18 rfl l0.1).trans (q3 l0.1)
           have f7:=(hv 7 22 rfl l0.2).trans (q7 l0.2)
           refine Ri.step_plain rfl rfl (fun K' hK=>?_)
           go_simp
           refine (HS.out _ hb).mono ?_
           rintro e w8 ⟨rfl,hb8⟩
           exact hK _ _ ⟨_,_,rfl,rfl,hb.trans (hb8.mono hb.size),q0,q1,q2,q3,q4,q5,q6,q7,fun _=>rfl,q9⟩
         · have l0:L 8=true:=by have:=hd _ rfl;simp [Region.binds] at this;simp [this]
           have f8:=(hv 8 23 rfl l0).trans (q8 l0)
           refine Ri.step_plain rfl rfl (fun K' hK=>?_)
           go_simp
           exact hK _ _ ⟨_,_,rfl,rfl,hb,q0,q1,q2,q3,q4,q5,q6,q7,q8,fun _=>rfl⟩
       · rintro v w9 ⟨hb,-,-,-,-,-,-,-,-,-,q9⟩
         have q9':v 9=.int .i64 z:=q9 rfl
         simp only [Ri.frame,List.zipIdx,List.foldl_cons,List.foldl_nil,if_true,List.setIfInBounds_toArray,List.set_cons_zero,List.set_cons_succ,Nat.reduceAdd,q9']
         clear q9 q9'
         generalize v 0=y0;generalize v 1=y1;generalize v 2=y2;generalize v 3=y3;generalize v 4=y4;generalize v 5=y5;generalize v 6=y6;generalize v 7=y7;generalize v 8=y8

         have HB2:=Lib.hid (HB.out.trans (hb.mono HB.out.size))
         clear hb
         go_wp2
         exact ⟨⟨i+1,by go_num,by omega,HR2,HB2⟩,by simp [intOf];omega⟩
     · have HR2:=Lib.hid (show z=R by have:=HLL.out;rw [if_pos hz] at this;exact this)
       have ez:(z != 0)=true:=by simpa using hz
       clear hz HLL
       go_wp2
       refine Ri.wp_region_frame (by kernel_rfl) (by kernel_rfl) (by kernel_rfl) (by kernel_rfl)
         (fun L v w'=>Below wr.heap.size wr w'∧(L 0=true→v 0=.slice (some ⟨b1,o1,none⟩) ts.length cap)∧(L 1=true→v 1=.int .i64 (i:Int))∧(L 2=true→v 2=.pointer (some ⟨b1,o1+i * 4,none⟩))∧(L 3=true→v 3=.agg #[.int .i64 x.lo,.int .i64 x.hi,.int .i64 x.pick,s1])∧(L 4=true→v 4=.slice (some ⟨b2,o2,none⟩) us.length cbp)∧(L 5=true→v 5=.int .i64 (i:Int))∧(L 6=true→v 6=.pointer (some ⟨b2,o2+i * 4,none⟩))∧(L 7=true→v 7=.agg #[.int .i64 y.lo,.int .i64 y.hi,.int .i64 y.pick,s2])∧(L 8=true→v 8=.int .i64 z)∧(L 9=true→v 9=.int .i64 z))
         ?_ ?_ ?_
       · exact ⟨(Below.refl _ _).drew,by simp,by simp,by simp,by simp,by simp,by simp,by simp,by simp,by simp,by simp⟩
       · intro i hi9 L v w9 xa hI hL hd hv ho
         have hi':i=0 ∨ i=1 ∨ i=2 ∨ i=3 ∨ i=4 ∨ i=5 ∨ i=6 ∨ i=7 ∨ i=8 ∨ i=9:=by simp at hi9;omega
         obtain ⟨hb,q0,q1,q2,q3,q4,q5,q6,q7,q8,q9⟩:=hI
         rcases hi' with rfl | rfl | rfl | rfl | rfl | rfl | rfl | rfl | rfl | rfl
         · have e0:xa.tmps.getD 0 undef=.slice (some ⟨b1,o1,none⟩) ts.length cap:=ho 0 (by kernel_rfl)
           refine Ri.step_plain rfl rfl (fun K' hK=>?_)
           go_simp
           exact hK _ _ ⟨_,_,rfl,rfl,hb,fun _=>rfl,q1,q2,q3,q4,q5,q6,q7,q8,q9⟩
         · have e5:xa.tmps.getD 5 undef=.int .i64 (i:Int):=ho 5 (by kernel_rfl)
           refine Ri.step_plain rfl rfl (fun K' hK=>?_)
           go_simp
           exact hK _ _ ⟨_,_,rfl,rfl,hb,q0,fun _=>rfl,q2,q3,q4,q5,q6,q7,q8,q9⟩
         · have l0:L 0=true∧L 1=true:=by have:=hd _ rfl;simp [Region.binds] at this;simp [this]
           have f0:=(hv 0 15 rfl l0.1).trans (q0 l0.1)
           have f1:=(hv 1 16 rfl l0.2).trans (q1 l0.2)
           refine Ri.step_plain rfl rfl (fun K' hK=>?_)
           go_simp
           exact hK _ _ ⟨_,_,rfl,rfl,hb,q0,q1,fun _=>rfl,q3,q4,q5,q6,q7,q8,q9⟩
         · have l0:L 2=true:=by have:=hd _ rfl;simp [Region.binds] at this;simp [this]
           have f2:=(hv 2 17 rfl l0).trans (q2 l0)
           refine Ri.step_plain rfl rfl (fun K' hK=>?_)
           obtain ⟨d0,d1,d2,d3⟩:=(T1.out.keep ((HB.out.trans (hb.mono HB.out.size)).block _ l1))
           go_simp
           exact hK _ _ ⟨_,_,rfl,rfl,hb,q0,q1,q2,fun _=>rfl,q4,q5,q6,q7,q8,q9⟩
         · have e1:xa.tmps.getD 1 undef=.slice (some ⟨b2,o2,none⟩) us.length cbp:=ho 1 (by kernel_rfl)
           refine Ri.step_plain rfl rfl (fun K' hK=>?_)
           go_simp
           exact hK _ _ ⟨_,_,rfl,rfl,hb,q0,q1,q2,q3,fun _=>rfl,q5,q6,q7,q8,q9⟩
         · have e5:xa.tmps.getD 5 undef=.int .i64 (i:Int):=ho 5 (by kernel_rfl)
           refine Ri.step_plain rfl rfl (fun K' hK=>?_)
           go_simp
           exact hK _ _ ⟨_,_,rfl,rfl,hb,q0,q1,q2,q3,q4,fun _=>rfl,q6,q7,q8,q9⟩
         · have l0:L 4=true∧L 5=true:=by have:=hd _ rfl;simp [Region.binds] at this;simp [this]
           have f4:=(hv 4 19 rfl l0.1).trans (q4 l0.1)
           have f5:=(hv 5 20 rfl l0.2).trans (q5 l0.2)
           refine Ri.step_plain rfl rfl (fun K' hK=>?_)
           go_simp
           exact hK _ _ ⟨_,_,rfl,rfl,hb,q0,q1,q2,q3,q4,q5,fun _=>rfl,q7,q8,q9⟩
         · have l0:L 6=true:=by have:=hd _ rfl;simp [Region.binds] at this;simp [this]
           have f6:=(hv 6 21 rfl l0).trans (q6 l0)
           refine Ri.step_plain rfl rfl (fun K' hK=>?_)
           obtain ⟨d0,d1,d2,d3⟩:=(T2.out.keep ((HB.out.trans (hb.mono HB.out.size)).block _ l2))
           go_simp
           exact hK _ _ ⟨_,_,rfl,rfl,hb,q0,q1,q2,q3,q4,q5,q6,fun _=>rfl,q8,q9⟩
         · have l0:L 3=true∧L 7=true:=by have:=hd _ rfl;simp [Region.binds] at this;simp [this]
           have f3:=(hv 3 18 rfl l0.1).trans (q3 l0.1)
           have f7:=(hv 7 22 rfl l0.2).trans (q7 l0.2)
           refine Ri.step_plain rfl rfl (fun K' hK=>?_)
           go_simp
           refine (HS.out _ hb).mono ?_
           rintro e w8 ⟨rfl,hb8⟩
           exact hK _ _ ⟨_,_,rfl,rfl,hb.trans (hb8.mono hb.size),q0,q1,q2,q3,q4,q5,q6,q7,fun _=>rfl,q9⟩
         · have l0:L 8=true:=by have:=hd _ rfl;simp [Region.binds] at this;simp [this]
           have f8:=(hv 8 23 rfl l0).trans (q8 l0)
           refine Ri.step_plain rfl rfl (fun K' hK=>?_)
           go_simp
           exact hK _ _ ⟨_,_,rfl,rfl,hb,q0,q1,q2,q3,q4,q5,q6,q7,q8,fun _=>rfl⟩
       · rintro v w9 ⟨hb,-,-,-,-,-,-,-,-,-,q9⟩
         have q9':v 9=.int .i64 z:=q9 rfl
         simp only [Ri.frame,List.zipIdx,List.foldl_cons,List.foldl_nil,if_true,List.setIfInBounds_toArray,List.set_cons_zero,List.set_cons_succ,Nat.reduceAdd,q9']
         clear q9 q9'
         generalize v 0=y0;generalize v 1=y1;generalize v 2=y2;generalize v 3=y3;generalize v 4=y4;generalize v 5=y5;generalize v 6=y6;generalize v 7=y7;generalize v 8=y8

         have HB2:=Lib.hid (HB.out.trans (hb.mono HB.out.size))
         clear hb
         go_wp2
         go_ret
         exact ⟨ret_int HR2.out,HB2.out⟩
   · obtain rfl:i=n:=by omega
     have hl:=HL.out
     rw [Pa.cmpS_end _ _ (by
       rcases HN.out with h | h
       · exact .inl (List.drop_eq_nil_of_le (by omega))
       · exact .inr (List.drop_eq_nil_of_le (by omega)))] at hl
     have HE:=Lib.hid (show Pa.cmpI (us.length:Int) (ts.length:Int) 0=R by
       rw [List.length_drop,List.length_drop,Pa.cmpI_drop _ _ _ (by omega) (by omega)] at hl;exact hl)
     clear hl HL hlt
     go_wp2_with fail
     refine (cmpc_any _ _ _).mono ?_
     rintro e w9 ⟨rfl,rfl⟩
     rw [HE.out]
     go_wp2
     go_ret
     exact ⟨rfl,HB.out⟩
theorem compare_any:∀ t:Pa,CmpDoes 55 t:=by
 intro t
 induction t using Pa.rec_subs with
 | h t ih =>
   intro u w B C va vb ha hb
   obtain ⟨sa,rfl,hsa⟩:=ha
   obtain ⟨sb,rfl,hsb⟩:=hb
   have HL:=Lib.hid (fun w9 (h9:Below w.heap.size w w9)=>cmplists_any t.subs u.subs ih w9 B C sa sb (hsa.later h9) (hsb.later h9))
   obtain ⟨p,cap,rfl,-⟩:=hsa.slice
   obtain ⟨q,cbp,rfl,-⟩:=hsb.slice
   clear hsa hsb ih
   rw [Pa.cmpT_eq]
   unfold Pa.cells
   generalize Pa.cmpS t.subs u.subs=z at *
   generalize t.lo=a0 at *;generalize u.lo=b0 at *;generalize t.hi=a1 at *;generalize u.hi=b1 at *;generalize t.pick=a2 at *;generalize u.pick=b2 at *
   generalize t.subs.length=n1 at *;generalize u.subs.length=n2 at *
   by_cases h0:a0=b0
   case neg =>
     have e0:(a0 != b0)=true:=by simpa using h0
     have e9:Pa.cmpI a0 b0 (Pa.cmpI b1 a1 (Pa.cmpI a2 b2 z))=Pa.cmpI a0 b0 0:=by unfold Pa.cmpI;split;rfl;split;rfl;omega
     rw [e9]
     clear h0 e9 HL
     go_enter Tryd.func55,Tryd.ntmps55
     go_wp2_with fail
     refine (cmpc_any _ _ _).mono ?_
     rintro e w9 ⟨rfl,rfl⟩
     go_wp2
     go_ret
     exact ⟨rfl,by go_grown⟩
   obtain rfl:=h0
   rw [show Pa.cmpI a0 a0 (Pa.cmpI b1 a1 (Pa.cmpI a2 b2 z))=Pa.cmpI b1 a1 (Pa.cmpI a2 b2 z) by unfold Pa.cmpI;rw [if_neg (by omega),if_neg (by omega)]]
   by_cases h1:a1=b1
   case neg =>
     have e0:(a1 != b1)=true:=by simpa using h1
     have e9:Pa.cmpI b1 a1 (Pa.cmpI a2 b2 z)=Pa.cmpI b1 a1 0:=by unfold Pa.cmpI;split;rfl;split;rfl;omega
     rw [e9]
     clear h1 e9 HL
     go_enter Tryd.func55,Tryd.ntmps55
     go_wp2_with fail
     refine (cmpc_any _ _ _).mono ?_
     rintro e w9 ⟨rfl,rfl⟩
     go_wp2
     go_ret
     exact ⟨rfl,by go_grown⟩
   obtain rfl:=h1
   rw [show Pa.cmpI a1 a1 (Pa.cmpI a2 b2 z)=Pa.cmpI a2 b2 z by unfold Pa.cmpI;rw [if_neg (by omega),if_neg (by omega)]]
   by_cases h2:a2=b2
   case neg =>
     have e0:(a2 != b2)=true:=by simpa using h2
     have e9:Pa.cmpI a2 b2 z=Pa.cmpI a2 b2 0:=by unfold Pa.cmpI;split;rfl;split;rfl;omega
     rw [e9]
     clear h2 e9 HL
     go_enter Tryd.func55,Tryd.ntmps55
     go_wp2_with fail
     refine (cmpc_any _ _ _).mono ?_
     rintro e w9 ⟨rfl,rfl⟩
     go_wp2
     go_ret
     exact ⟨rfl,by go_grown⟩
   obtain rfl:=h2
   rw [show Pa.cmpI a2 a2 z=z by unfold Pa.cmpI;rw [if_neg (by omega),if_neg (by omega)]]
   go_enter Tryd.func55,Tryd.ntmps55
   go_wp2_with fail
   refine (HL.out _ (by go_grown)).mono ?_
   rintro e w9 ⟨rfl,hb9⟩
   have HB9:=Lib.hid (show Below w.heap.size w w9 from Below.trans (by go_grown) (hb9.mono (by simp;omega)))
   clear hb9
   go_wp2
   go_ret
   exact ⟨rfl,HB9.out⟩
end Go.Proofs.YtnaoiglbjkjogaaDoor
namespace Go.Proofs.YtnaoiglbjkjogaaDoor
open Go.RowKit
theorem alloc_list:∀ (os:List Obj) (w:World) (k:Nat),k < os.length→(os.foldl World.alloc w).heap[w.heap.size+k]? = os[k]?
 | [],_,k,h=>by simp at h
 | o :: os,w,0,_=>by
   show (os.foldl World.alloc (w.alloc o)).heap[w.heap.size+0]? = some o
   have:∀ (os:List Obj) (v:World) (g:Nat) (x:Obj),v.heap[g]? = some x→(os.foldl World.alloc v).heap[g]? = some x:=by
     intro os
     induction os with
     | nil=>intro v g x h;exact h
     | cons y os ih=>intro v g x h;exact ih _ g x (heap_alloc_lt h)
   exact this os _ _ _ (heap_alloc_new w o)
 | o :: os,w,k+1,h=>by
   show (os.foldl World.alloc (w.alloc o)).heap[w.heap.size+(k+1)]? = os[k]?
   have:=alloc_list os (w.alloc o) k (by simpa using h)
   rw [show (w.alloc o).heap.size=w.heap.size+1 by simp] at this
   rw [show w.heap.size+(k+1)=w.heap.size+1+k by omega]
   exact this
theorem alloc_below:∀ (os:List Obj) (w:World),Below w.heap.size w (os.foldl World.alloc w)
 | [],w=>Below.refl _ _
 | o :: os,w=>by
   have h1:Below w.heap.size w (w.alloc o):=(Below.refl _ _).alloc (Nat.le_refl _) o
   exact h1.trans ((alloc_below os (w.alloc o)).mono h1.size)
theorem trees_one {w:World} {b c:Nat} {t:Tr} {s:Value} {ty:TypeId} (h:w.heap[b]? = some (.cells (t.cells s) ty)) (hs:TreesAt w (fun _=>True) s t.subs):TreesAt w (fun _=>True) (.slice (some ⟨b,0,none⟩) 1 c) [t]:=by
 refine .mk (some ⟨b,0,none⟩) c [t] (fun _=>s) (by simp) (fun i u hi=>?_) (fun i u hi=>?_)
 · match i,hi with
   | 0,hi =>
     simp only [List.getElem?_cons_zero,Option.some.injEq] at hi
     subst hi
     exact ⟨b,0,rfl,trivial,by constructor <;> (unfold World.cell?;rw [h];rfl)⟩
 · match i,hi with
   | 0,hi =>
     simp only [List.getElem?_cons_zero,Option.some.injEq] at hi
     subst hi
     exact hs
theorem trees_two {w:World} {b c:Nat} {t u:Tr} {s r:Value} {ty:TypeId} (h:w.heap[b]? = some (.cells #[.int .i64 t.kind,.int .u64 (Oc.U t.w0),.int .u64 (Oc.U t.w1),.int .u64 (Oc.U t.w2),.int .u64 (Oc.U t.w3),s,.int .i64 t.num,.int .i64 t.least,.int .i64 t.most,.bool t.bare,.int .i64 u.kind,.int .u64 (Oc.U u.w0),.int .u64 (Oc.U u.w1),.int .u64 (Oc.U u.w2),.int .u64 (Oc.U u.w3),r,.int .i64 u.num,.int .i64 u.least,.int .i64 u.most,.bool u.bare] ty)) (hs:TreesAt w (fun _=>True) s t.subs) (hr:TreesAt w (fun _=>True) r u.subs):TreesAt w (fun _=>True) (.slice (some ⟨b,0,none⟩) 2 c) [t,u]:=by
 refine .mk (some ⟨b,0,none⟩) c [t,u] (fun i=>if i=0 then s else r) (by simp) (fun i x hi=>?_) (fun i x hi=>?_)
 · match i,hi with
   | 0,hi =>
     simp only [List.getElem?_cons_zero,Option.some.injEq] at hi
     subst hi
     exact ⟨b,0,rfl,trivial,by constructor <;> (unfold World.cell?;rw [h];rfl)⟩
   | 1,hi =>
     simp only [List.getElem?_cons_succ,List.getElem?_cons_zero,Option.some.injEq] at hi
     subst hi
     exact ⟨b,0,rfl,trivial,by constructor <;> (unfold World.cell?;rw [h];rfl)⟩
 · match i,hi with
   | 0,hi =>
     simp only [List.getElem?_cons_zero,Option.some.injEq] at hi
     subst hi
     exact hs
   | 1,hi =>
     simp only [List.getElem?_cons_succ,List.getElem?_cons_zero,Option.some.injEq] at hi
     subst hi
     exact hr
theorem pas_one {w:World} {b:Nat} {t:Pa} {s:Value} {ty:TypeId} (h:w.heap[b]? = some (.cells (t.cells s) ty)) (hs:PasAt w (fun _=>True) s t.subs):PasAt w (fun _=>True) (.slice (some ⟨b,0,none⟩) 1 1) [t]:=by
 refine .mk (some ⟨b,0,none⟩) 1 [t] (fun _=>s) (by simp) (by simp) (fun i u hi=>?_) (fun i u hi=>?_)
 · match i,hi with
   | 0,hi =>
     simp only [List.getElem?_cons_zero,Option.some.injEq] at hi
     subst hi
     exact ⟨b,0,rfl,trivial,by constructor <;> (unfold World.cell?;rw [h];rfl)⟩
 · match i,hi with
   | 0,hi =>
     simp only [List.getElem?_cons_zero,Option.some.injEq] at hi
     subst hi
     exact hs
theorem pas_two {w:World} {b:Nat} {t u:Pa} {s r:Value} {ty:TypeId} (h:w.heap[b]? = some (.cells #[.int .i64 t.lo,.int .i64 t.hi,.int .i64 t.pick,s,.int .i64 u.lo,.int .i64 u.hi,.int .i64 u.pick,r] ty)) (hs:PasAt w (fun _=>True) s t.subs) (hr:PasAt w (fun _=>True) r u.subs):PasAt w (fun _=>True) (.slice (some ⟨b,0,none⟩) 2 2) [t,u]:=by
 refine .mk (some ⟨b,0,none⟩) 2 [t,u] (fun i=>if i=0 then s else r) (by simp) (by simp) (fun i x hi=>?_) (fun i x hi=>?_)
 · match i,hi with
   | 0,hi =>
     simp only [List.getElem?_cons_zero,Option.some.injEq] at hi
     subst hi
     exact ⟨b,0,rfl,trivial,by constructor <;> (unfold World.cell?;rw [h];rfl)⟩
   | 1,hi =>
     simp only [List.getElem?_cons_succ,List.getElem?_cons_zero,Option.some.injEq] at hi
     subst hi
     exact ⟨b,0,rfl,trivial,by constructor <;> (unfold World.cell?;rw [h];rfl)⟩
 · match i,hi with
   | 0,hi =>
     simp only [List.getElem?_cons_zero,Option.some.injEq] at hi
     subst hi
     exact hs
   | 1,hi =>
     simp only [List.getElem?_cons_succ,List.getElem?_cons_zero,Option.some.injEq] at hi
     subst hi
     exact hr
def rkA:Tr:=.node 2 0#64 8589934592#64 0#64 0#64 [] 0 0 0 false
def rkB:Tr:=.node 2 0#64 17179869184#64 0#64 0#64 [] 0 0 0 false
def rkG2:Tr:=.node 7 0#64 0#64 0#64 0#64 [rkA] 2 0 0 false
def rkAlt:Tr:=.node 6 0#64 0#64 0#64 0#64 [rkG2,rkB] 0 0 0 false
def rkG1:Tr:=.node 7 0#64 0#64 0#64 0#64 [rkAlt] 1 0 0 false
def rkT:Tr:=.node 8 0#64 0#64 0#64 0#64 [rkG1] 0 0 (-1) false
def rkX:Sc:=Sc.new ⟨#[97,98]⟩ 0 0
def rkP3:Pa:=.node 0 1 0 []
def rkP2:Pa:=.node 0 1 0 [rkP3]
def rkP1:Pa:=.node 0 1 0 [rkP2]
def rkOne:Pa:=.node 0 1 0 [rkP1]
def rkQ2:Pa:=.node 1 2 0 []
def rkQ1:Pa:=.node 1 2 1 [rkQ2]
def rkTwo:Pa:=.node 1 2 0 [rkQ1]
def rkWhole:Pa:=.node 0 2 0 [rkOne,rkTwo]
theorem rk_chk:Rk.chk rkX rkT rkWhole=true:=by decide +kernel
theorem rk_dp:rkT.dpT ≤ 1000000:=by decide +kernel
theorem rk_spans:spL 3 (Rk.shown (Rk.of rkWhole rkT))=[(0,2),(1,2),(-1,-1)]:=by decide +kernel
theorem rk_cmp:Pa.cmpT rkOne rkTwo = -1:=by decide +kernel
theorem rk_sz:rkX.t.size ≤ 4611686018427387904:=by decide +kernel
def ScVL (w:World) (v:Value):Prop:=∃ g,v=.pointer (some ⟨g,0,none⟩)∧ScAt w g rkX
theorem ScVL.below {w w':World} {v:Value} (h:ScVL w v) (hb:Below w.heap.size w w'):ScVL w' v:=by obtain ⟨g,e,hx⟩:=h;exact ⟨g,e,hx.below hb⟩
def PaLs (w:World) (v:Value):Prop:=∃ g,v=.slice (some ⟨g,0,none⟩) 2 2∧PasAt w (fun _=>True) (.slice (some ⟨g,0,none⟩) 2 2) [rkOne,rkTwo]
theorem PaLs.below {w w':World} {v:Value} (h:PaLs w v) (hb:Below w.heap.size w w'):PaLs w' v:=by obtain ⟨g,e,h⟩:=h;exact ⟨g,e,h.later hb⟩
def PaVs (w:World) (v:Value):Prop:=∃ g,v=.agg #[.int .i64 0,.int .i64 2,.int .i64 0,.slice (some ⟨g,0,none⟩) 2 2]∧PasAt w (fun _=>True) (.slice (some ⟨g,0,none⟩) 2 2) [rkOne,rkTwo]
theorem PaVs.below {w w':World} {v:Value} (h:PaVs w v) (hb:Below w.heap.size w w'):PaVs w' v:=by obtain ⟨g,e,h⟩:=h;exact ⟨g,e,h.later hb⟩
theorem paw_of {w:World} {g:Nat} (h:PasAt w (fun _=>True) (.slice (some ⟨g,0,none⟩) 2 2) [rkOne,rkTwo]):PaV w (fun _=>True) (.agg #[.int .i64 0,.int .i64 2,.int .i64 0,.slice (some ⟨g,0,none⟩) 2 2]) rkWhole:=⟨_,rfl,h⟩
def SpTup (w:World) (v:Value):Prop:=∃ g,v=.tuple #[.slice (some ⟨g,0,none⟩) 3 3,.bool true]∧w.heap[g]? = some (.cells (sp 3 (Rk.shown (Rk.of rkWhole rkT))) 70)
theorem SpTup.below {w w':World} {v:Value} (h:SpTup w v) (hb:Below w.heap.size w w'):SpTup w' v:=by obtain ⟨g,e,hx⟩:=h;exact ⟨g,e,keep_blk hb hx⟩
def SpSl (w:World) (v:Value):Prop:=∃ g,v=.slice (some ⟨g,0,none⟩) 3 3∧w.heap[g]? = some (.cells (sp 3 (Rk.shown (Rk.of rkWhole rkT))) 70)
theorem SpSl.below {w w':World} {v:Value} (h:SpSl w v) (hb:Below w.heap.size w w'):SpSl w' v:=by obtain ⟨g,e,hx⟩:=h;exact ⟨g,e,keep_blk hb hx⟩
theorem rklives_any (A:Nat→Addr) (w:World) (hE:ErrsC w A):Calls Tryd.prog 27 #[] w fun e w'=>e=.returned (.bool true)∧Below w.heap.size w w':=by
 have HE:=Lib.hid hE
 clear hE
 have HL0:=Lib.hid (alloc_list [Obj.cells #[.int .i64 2,.int .u64 0,.int .u64 8589934592,.int .u64 0,.int .u64 0,.slice none 0 0,.int .i64 0,.int .i64 0,.int .i64 0,.bool false] 37,Obj.cells #[.int .i64 2,.int .u64 0,.int .u64 17179869184,.int .u64 0,.int .u64 0,.slice none 0 0,.int .i64 0,.int .i64 0,.int .i64 0,.bool false] 37,Obj.cells #[.int .i64 2,.int .u64 0,.int .u64 8589934592,.int .u64 0,.int .u64 0,.slice none 0 0,.int .i64 0,.int .i64 0,.int .i64 0,.bool false] 37,Obj.cells #[.int .i64 7,.int .u64 0,.int .u64 0,.int .u64 0,.int .u64 0,.slice (some ⟨w.heap.size+1+1,0,none⟩) 1 1,.int .i64 2,.int .i64 0,.int .i64 0,.bool false,.int .i64 2,.int .u64 0,.int .u64 17179869184,.int .u64 0,.int .u64 0,.slice none 0 0,.int .i64 0,.int .i64 0,.int .i64 0,.bool false] 37,Obj.cells #[.int .i64 6,.int .u64 0,.int .u64 0,.int .u64 0,.int .u64 0,.slice (some ⟨w.heap.size+1+1+1,0,none⟩) 2 2,.int .i64 0,.int .i64 0,.int .i64 0,.bool false] 37,Obj.cells #[.int .i64 6,.int .u64 0,.int .u64 0,.int .u64 0,.int .u64 0,.slice (some ⟨w.heap.size+1+1+1,0,none⟩) 2 2,.int .i64 0,.int .i64 0,.int .i64 0,.bool false] 37,Obj.cells #[.int .i64 7,.int .u64 0,.int .u64 0,.int .u64 0,.int .u64 0,.slice (some ⟨w.heap.size+1+1+1+1+1,0,none⟩) 1 1,.int .i64 1,.int .i64 0,.int .i64 0,.bool false] 37,Obj.cells #[.int .i64 8,.int .u64 0,.int .u64 0,.int .u64 0,.int .u64 0,.slice (some ⟨w.heap.size+1+1+1+1+1+1,0,none⟩) 1 1,.int .i64 0,.int .i64 0,.int .i64 (-1),.bool false] 37,Obj.cells #[.int .i64 0,.int .i64 1,.int .i64 0,.slice none 0 0] 57,Obj.cells #[.int .i64 0,.int .i64 1,.int .i64 0,.slice (some ⟨w.heap.size+1+1+1+1+1+1+1+1,0,none⟩) 1 1] 57,Obj.cells #[.int .i64 0,.int .i64 1,.int .i64 0,.slice (some ⟨w.heap.size+1+1+1+1+1+1+1+1+1,0,none⟩) 1 1] 57,Obj.cells #[.int .i64 0,.int .i64 1,.int .i64 0,.slice (some ⟨w.heap.size+1+1+1+1+1+1+1+1+1+1,0,none⟩) 1 1] 57,Obj.cells #[.int .i64 1,.int .i64 2,.int .i64 0,.slice none 0 0] 57,Obj.cells #[.int .i64 1,.int .i64 2,.int .i64 1,.slice (some ⟨w.heap.size+1+1+1+1+1+1+1+1+1+1+1+1,0,none⟩) 1 1] 57,Obj.cells #[.int .i64 1,.int .i64 2,.int .i64 0,.slice (some ⟨w.heap.size+1+1+1+1+1+1+1+1+1+1+1+1+1,0,none⟩) 1 1] 57] w)
 have HBW:=Lib.hid (show Below w.heap.size w (World.alloc (World.alloc (World.alloc (World.alloc (World.alloc (World.alloc (World.alloc (World.alloc (World.alloc (World.alloc (World.alloc (World.alloc (World.alloc (World.alloc (World.alloc w (.cells #[.int .i64 2,.int .u64 0,.int .u64 8589934592,.int .u64 0,.int .u64 0,.slice none 0 0,.int .i64 0,.int .i64 0,.int .i64 0,.bool false] 37)) (.cells #[.int .i64 2,.int .u64 0,.int .u64 17179869184,.int .u64 0,.int .u64 0,.slice none 0 0,.int .i64 0,.int .i64 0,.int .i64 0,.bool false] 37)) (.cells #[.int .i64 2,.int .u64 0,.int .u64 8589934592,.int .u64 0,.int .u64 0,.slice none 0 0,.int .i64 0,.int .i64 0,.int .i64 0,.bool false] 37)) (.cells #[.int .i64 7,.int .u64 0,.int .u64 0,.int .u64 0,.int .u64 0,.slice (some ⟨w.heap.size+1+1,0,none⟩) 1 1,.int .i64 2,.int .i64 0,.int .i64 0,.bool false,.int .i64 2,.int .u64 0,.int .u64 17179869184,.int .u64 0,.int .u64 0,.slice none 0 0,.int .i64 0,.int .i64 0,.int .i64 0,.bool false] 37)) (.cells #[.int .i64 6,.int .u64 0,.int .u64 0,.int .u64 0,.int .u64 0,.slice (some ⟨w.heap.size+1+1+1,0,none⟩) 2 2,.int .i64 0,.int .i64 0,.int .i64 0,.bool false] 37)) (.cells #[.int .i64 6,.int .u64 0,.int .u64 0,.int .u64 0,.int .u64 0,.slice (some ⟨w.heap.size+1+1+1,0,none⟩) 2 2,.int .i64 0,.int .i64 0,.int .i64 0,.bool false] 37)) (.cells #[.int .i64 7,.int .u64 0,.int .u64 0,.int .u64 0,.int .u64 0,.slice (some ⟨w.heap.size+1+1+1+1+1,0,none⟩) 1 1,.int .i64 1,.int .i64 0,.int .i64 0,.bool false] 37)) (.cells #[.int .i64 8,.int .u64 0,.int .u64 0,.int .u64 0,.int .u64 0,.slice (some ⟨w.heap.size+1+1+1+1+1+1,0,none⟩) 1 1,.int .i64 0,.int .i64 0,.int .i64 (-1),.bool false] 37)) (.cells #[.int .i64 0,.int .i64 1,.int .i64 0,.slice none 0 0] 57)) (.cells #[.int .i64 0,.int .i64 1,.int .i64 0,.slice (some ⟨w.heap.size+1+1+1+1+1+1+1+1,0,none⟩) 1 1] 57)) (.cells #[.int .i64 0,.int .i64 1,.int .i64 0,.slice (some ⟨w.heap.size+1+1+1+1+1+1+1+1+1,0,none⟩) 1 1] 57)) (.cells #[.int .i64 0,.int .i64 1,.int .i64 0,.slice (some ⟨w.heap.size+1+1+1+1+1+1+1+1+1+1,0,none⟩) 1 1] 57)) (.cells #[.int .i64 1,.int .i64 2,.int .i64 0,.slice none 0 0] 57)) (.cells #[.int .i64 1,.int .i64 2,.int .i64 1,.slice (some ⟨w.heap.size+1+1+1+1+1+1+1+1+1+1+1+1,0,none⟩) 1 1] 57)) (.cells #[.int .i64 1,.int .i64 2,.int .i64 0,.slice (some ⟨w.heap.size+1+1+1+1+1+1+1+1+1+1+1+1+1,0,none⟩) 1 1] 57)) from alloc_below [Obj.cells #[.int .i64 2,.int .u64 0,.int .u64 8589934592,.int .u64 0,.int .u64 0,.slice none 0 0,.int .i64 0,.int .i64 0,.int .i64 0,.bool false] 37,Obj.cells #[.int .i64 2,.int .u64 0,.int .u64 17179869184,.int .u64 0,.int .u64 0,.slice none 0 0,.int .i64 0,.int .i64 0,.int .i64 0,.bool false] 37,Obj.cells #[.int .i64 2,.int .u64 0,.int .u64 8589934592,.int .u64 0,.int .u64 0,.slice none 0 0,.int .i64 0,.int .i64 0,.int .i64 0,.bool false] 37,Obj.cells #[.int .i64 7,.int .u64 0,.int .u64 0,.int .u64 0,.int .u64 0,.slice (some ⟨w.heap.size+1+1,0,none⟩) 1 1,.int .i64 2,.int .i64 0,.int .i64 0,.bool false,.int .i64 2,.int .u64 0,.int .u64 17179869184,.int .u64 0,.int .u64 0,.slice none 0 0,.int .i64 0,.int .i64 0,.int .i64 0,.bool false] 37,Obj.cells #[.int .i64 6,.int .u64 0,.int .u64 0,.int .u64 0,.int .u64 0,.slice (some ⟨w.heap.size+1+1+1,0,none⟩) 2 2,.int .i64 0,.int .i64 0,.int .i64 0,.bool false] 37,Obj.cells #[.int .i64 6,.int .u64 0,.int .u64 0,.int .u64 0,.int .u64 0,.slice (some ⟨w.heap.size+1+1+1,0,none⟩) 2 2,.int .i64 0,.int .i64 0,.int .i64 0,.bool false] 37,Obj.cells #[.int .i64 7,.int .u64 0,.int .u64 0,.int .u64 0,.int .u64 0,.slice (some ⟨w.heap.size+1+1+1+1+1,0,none⟩) 1 1,.int .i64 1,.int .i64 0,.int .i64 0,.bool false] 37,Obj.cells #[.int .i64 8,.int .u64 0,.int .u64 0,.int .u64 0,.int .u64 0,.slice (some ⟨w.heap.size+1+1+1+1+1+1,0,none⟩) 1 1,.int .i64 0,.int .i64 0,.int .i64 (-1),.bool false] 37,Obj.cells #[.int .i64 0,.int .i64 1,.int .i64 0,.slice none 0 0] 57,Obj.cells #[.int .i64 0,.int .i64 1,.int .i64 0,.slice (some ⟨w.heap.size+1+1+1+1+1+1+1+1,0,none⟩) 1 1] 57,Obj.cells #[.int .i64 0,.int .i64 1,.int .i64 0,.slice (some ⟨w.heap.size+1+1+1+1+1+1+1+1+1,0,none⟩) 1 1] 57,Obj.cells #[.int .i64 0,.int .i64 1,.int .i64 0,.slice (some ⟨w.heap.size+1+1+1+1+1+1+1+1+1+1,0,none⟩) 1 1] 57,Obj.cells #[.int .i64 1,.int .i64 2,.int .i64 0,.slice none 0 0] 57,Obj.cells #[.int .i64 1,.int .i64 2,.int .i64 1,.slice (some ⟨w.heap.size+1+1+1+1+1+1+1+1+1+1+1+1,0,none⟩) 1 1] 57,Obj.cells #[.int .i64 1,.int .i64 2,.int .i64 0,.slice (some ⟨w.heap.size+1+1+1+1+1+1+1+1+1+1+1+1+1,0,none⟩) 1 1] 57] w)
 have Z0:=Lib.hid (show ((World.alloc (World.alloc (World.alloc (World.alloc (World.alloc (World.alloc (World.alloc (World.alloc (World.alloc (World.alloc (World.alloc (World.alloc (World.alloc (World.alloc (World.alloc w (.cells #[.int .i64 2,.int .u64 0,.int .u64 8589934592,.int .u64 0,.int .u64 0,.slice none 0 0,.int .i64 0,.int .i64 0,.int .i64 0,.bool false] 37)) (.cells #[.int .i64 2,.int .u64 0,.int .u64 17179869184,.int .u64 0,.int .u64 0,.slice none 0 0,.int .i64 0,.int .i64 0,.int .i64 0,.bool false] 37)) (.cells #[.int .i64 2,.int .u64 0,.int .u64 8589934592,.int .u64 0,.int .u64 0,.slice none 0 0,.int .i64 0,.int .i64 0,.int .i64 0,.bool false] 37)) (.cells #[.int .i64 7,.int .u64 0,.int .u64 0,.int .u64 0,.int .u64 0,.slice (some ⟨w.heap.size+1+1,0,none⟩) 1 1,.int .i64 2,.int .i64 0,.int .i64 0,.bool false,.int .i64 2,.int .u64 0,.int .u64 17179869184,.int .u64 0,.int .u64 0,.slice none 0 0,.int .i64 0,.int .i64 0,.int .i64 0,.bool false] 37)) (.cells #[.int .i64 6,.int .u64 0,.int .u64 0,.int .u64 0,.int .u64 0,.slice (some ⟨w.heap.size+1+1+1,0,none⟩) 2 2,.int .i64 0,.int .i64 0,.int .i64 0,.bool false] 37)) (.cells #[.int .i64 6,.int .u64 0,.int .u64 0,.int .u64 0,.int .u64 0,.slice (some ⟨w.heap.size+1+1+1,0,none⟩) 2 2,.int .i64 0,.int .i64 0,.int .i64 0,.bool false] 37)) (.cells #[.int .i64 7,.int .u64 0,.int .u64 0,.int .u64 0,.int .u64 0,.slice (some ⟨w.heap.size+1+1+1+1+1,0,none⟩) 1 1,.int .i64 1,.int .i64 0,.int .i64 0,.bool false] 37)) (.cells #[.int .i64 8,.int .u64 0,.int .u64 0,.int .u64 0,.int .u64 0,.slice (some ⟨w.heap.size+1+1+1+1+1+1,0,none⟩) 1 1,.int .i64 0,.int .i64 0,.int .i64 (-1),.bool false] 37)) (.cells #[.int .i64 0,.int .i64 1,.int .i64 0,.slice none 0 0] 57)) (.cells #[.int .i64 0,.int .i64 1,.int .i64 0,.slice (some ⟨w.heap.size+1+1+1+1+1+1+1+1,0,none⟩) 1 1] 57)) (.cells #[.int .i64 0,.int .i64 1,.int .i64 0,.slice (some ⟨w.heap.size+1+1+1+1+1+1+1+1+1,0,none⟩) 1 1] 57)) (.cells #[.int .i64 0,.int .i64 1,.int .i64 0,.slice (some ⟨w.heap.size+1+1+1+1+1+1+1+1+1+1,0,none⟩) 1 1] 57)) (.cells #[.int .i64 1,.int .i64 2,.int .i64 0,.slice none 0 0] 57)) (.cells #[.int .i64 1,.int .i64 2,.int .i64 1,.slice (some ⟨w.heap.size+1+1+1+1+1+1+1+1+1+1+1+1,0,none⟩) 1 1] 57)) (.cells #[.int .i64 1,.int .i64 2,.int .i64 0,.slice (some ⟨w.heap.size+1+1+1+1+1+1+1+1+1+1+1+1+1,0,none⟩) 1 1] 57))).heap[w.heap.size]? = some (.cells (rkA.cells (.slice none 0 0)) 37) from HL0.out 0 (by show (0:Nat) < 15;decide))
 have Z1:=Lib.hid (show ((World.alloc (World.alloc (World.alloc (World.alloc (World.alloc (World.alloc (World.alloc (World.alloc (World.alloc (World.alloc (World.alloc (World.alloc (World.alloc (World.alloc (World.alloc w (.cells #[.int .i64 2,.int .u64 0,.int .u64 8589934592,.int .u64 0,.int .u64 0,.slice none 0 0,.int .i64 0,.int .i64 0,.int .i64 0,.bool false] 37)) (.cells #[.int .i64 2,.int .u64 0,.int .u64 17179869184,.int .u64 0,.int .u64 0,.slice none 0 0,.int .i64 0,.int .i64 0,.int .i64 0,.bool false] 37)) (.cells #[.int .i64 2,.int .u64 0,.int .u64 8589934592,.int .u64 0,.int .u64 0,.slice none 0 0,.int .i64 0,.int .i64 0,.int .i64 0,.bool false] 37)) (.cells #[.int .i64 7,.int .u64 0,.int .u64 0,.int .u64 0,.int .u64 0,.slice (some ⟨w.heap.size+1+1,0,none⟩) 1 1,.int .i64 2,.int .i64 0,.int .i64 0,.bool false,.int .i64 2,.int .u64 0,.int .u64 17179869184,.int .u64 0,.int .u64 0,.slice none 0 0,.int .i64 0,.int .i64 0,.int .i64 0,.bool false] 37)) (.cells #[.int .i64 6,.int .u64 0,.int .u64 0,.int .u64 0,.int .u64 0,.slice (some ⟨w.heap.size+1+1+1,0,none⟩) 2 2,.int .i64 0,.int .i64 0,.int .i64 0,.bool false] 37)) (.cells #[.int .i64 6,.int .u64 0,.int .u64 0,.int .u64 0,.int .u64 0,.slice (some ⟨w.heap.size+1+1+1,0,none⟩) 2 2,.int .i64 0,.int .i64 0,.int .i64 0,.bool false] 37)) (.cells #[.int .i64 7,.int .u64 0,.int .u64 0,.int .u64 0,.int .u64 0,.slice (some ⟨w.heap.size+1+1+1+1+1,0,none⟩) 1 1,.int .i64 1,.int .i64 0,.int .i64 0,.bool false] 37)) (.cells #[.int .i64 8,.int .u64 0,.int .u64 0,.int .u64 0,.int .u64 0,.slice (some ⟨w.heap.size+1+1+1+1+1+1,0,none⟩) 1 1,.int .i64 0,.int .i64 0,.int .i64 (-1),.bool false] 37)) (.cells #[.int .i64 0,.int .i64 1,.int .i64 0,.slice none 0 0] 57)) (.cells #[.int .i64 0,.int .i64 1,.int .i64 0,.slice (some ⟨w.heap.size+1+1+1+1+1+1+1+1,0,none⟩) 1 1] 57)) (.cells #[.int .i64 0,.int .i64 1,.int .i64 0,.slice (some ⟨w.heap.size+1+1+1+1+1+1+1+1+1,0,none⟩) 1 1] 57)) (.cells #[.int .i64 0,.int .i64 1,.int .i64 0,.slice (some ⟨w.heap.size+1+1+1+1+1+1+1+1+1+1,0,none⟩) 1 1] 57)) (.cells #[.int .i64 1,.int .i64 2,.int .i64 0,.slice none 0 0] 57)) (.cells #[.int .i64 1,.int .i64 2,.int .i64 1,.slice (some ⟨w.heap.size+1+1+1+1+1+1+1+1+1+1+1+1,0,none⟩) 1 1] 57)) (.cells #[.int .i64 1,.int .i64 2,.int .i64 0,.slice (some ⟨w.heap.size+1+1+1+1+1+1+1+1+1+1+1+1+1,0,none⟩) 1 1] 57))).heap[w.heap.size+1]? = some (.cells (rkB.cells (.slice none 0 0)) 37) from HL0.out 1 (by show (1:Nat) < 15;decide))
 have Z2:=Lib.hid (show ((World.alloc (World.alloc (World.alloc (World.alloc (World.alloc (World.alloc (World.alloc (World.alloc (World.alloc (World.alloc (World.alloc (World.alloc (World.alloc (World.alloc (World.alloc w (.cells #[.int .i64 2,.int .u64 0,.int .u64 8589934592,.int .u64 0,.int .u64 0,.slice none 0 0,.int .i64 0,.int .i64 0,.int .i64 0,.bool false] 37)) (.cells #[.int .i64 2,.int .u64 0,.int .u64 17179869184,.int .u64 0,.int .u64 0,.slice none 0 0,.int .i64 0,.int .i64 0,.int .i64 0,.bool false] 37)) (.cells #[.int .i64 2,.int .u64 0,.int .u64 8589934592,.int .u64 0,.int .u64 0,.slice none 0 0,.int .i64 0,.int .i64 0,.int .i64 0,.bool false] 37)) (.cells #[.int .i64 7,.int .u64 0,.int .u64 0,.int .u64 0,.int .u64 0,.slice (some ⟨w.heap.size+1+1,0,none⟩) 1 1,.int .i64 2,.int .i64 0,.int .i64 0,.bool false,.int .i64 2,.int .u64 0,.int .u64 17179869184,.int .u64 0,.int .u64 0,.slice none 0 0,.int .i64 0,.int .i64 0,.int .i64 0,.bool false] 37)) (.cells #[.int .i64 6,.int .u64 0,.int .u64 0,.int .u64 0,.int .u64 0,.slice (some ⟨w.heap.size+1+1+1,0,none⟩) 2 2,.int .i64 0,.int .i64 0,.int .i64 0,.bool false] 37)) (.cells #[.int .i64 6,.int .u64 0,.int .u64 0,.int .u64 0,.int .u64 0,.slice (some ⟨w.heap.size+1+1+1,0,none⟩) 2 2,.int .i64 0,.int .i64 0,.int .i64 0,.bool false] 37)) (.cells #[.int .i64 7,.int .u64 0,.int .u64 0,.int .u64 0,.int .u64 0,.slice (some ⟨w.heap.size+1+1+1+1+1,0,none⟩) 1 1,.int .i64 1,.int .i64 0,.int .i64 0,.bool false] 37)) (.cells #[.int .i64 8,.int .u64 0,.int .u64 0,.int .u64 0,.int .u64 0,.slice (some ⟨w.heap.size+1+1+1+1+1+1,0,none⟩) 1 1,.int .i64 0,.int .i64 0,.int .i64 (-1),.bool false] 37)) (.cells #[.int .i64 0,.int .i64 1,.int .i64 0,.slice none 0 0] 57)) (.cells #[.int .i64 0,.int .i64 1,.int .i64 0,.slice (some ⟨w.heap.size+1+1+1+1+1+1+1+1,0,none⟩) 1 1] 57)) (.cells #[.int .i64 0,.int .i64 1,.int .i64 0,.slice (some ⟨w.heap.size+1+1+1+1+1+1+1+1+1,0,none⟩) 1 1] 57)) (.cells #[.int .i64 0,.int .i64 1,.int .i64 0,.slice (some ⟨w.heap.size+1+1+1+1+1+1+1+1+1+1,0,none⟩) 1 1] 57)) (.cells #[.int .i64 1,.int .i64 2,.int .i64 0,.slice none 0 0] 57)) (.cells #[.int .i64 1,.int .i64 2,.int .i64 1,.slice (some ⟨w.heap.size+1+1+1+1+1+1+1+1+1+1+1+1,0,none⟩) 1 1] 57)) (.cells #[.int .i64 1,.int .i64 2,.int .i64 0,.slice (some ⟨w.heap.size+1+1+1+1+1+1+1+1+1+1+1+1+1,0,none⟩) 1 1] 57))).heap[w.heap.size+1+1]? = some (.cells (rkA.cells (.slice none 0 0)) 37) from HL0.out 2 (by show (2:Nat) < 15;decide))
 have Z3:=Lib.hid (show ((World.alloc (World.alloc (World.alloc (World.alloc (World.alloc (World.alloc (World.alloc (World.alloc (World.alloc (World.alloc (World.alloc (World.alloc (World.alloc (World.alloc (World.alloc w (.cells #[.int .i64 2,.int .u64 0,.int .u64 8589934592,.int .u64 0,.int .u64 0,.slice none 0 0,.int .i64 0,.int .i64 0,.int .i64 0,.bool false] 37)) (.cells #[.int .i64 2,.int .u64 0,.int .u64 17179869184,.int .u64 0,.int .u64 0,.slice none 0 0,.int .i64 0,.int .i64 0,.int .i64 0,.bool false] 37)) (.cells #[.int .i64 2,.int .u64 0,.int .u64 8589934592,.int .u64 0,.int .u64 0,.slice none 0 0,.int .i64 0,.int .i64 0,.int .i64 0,.bool false] 37)) (.cells #[.int .i64 7,.int .u64 0,.int .u64 0,.int .u64 0,.int .u64 0,.slice (some ⟨w.heap.size+1+1,0,none⟩) 1 1,.int .i64 2,.int .i64 0,.int .i64 0,.bool false,.int .i64 2,.int .u64 0,.int .u64 17179869184,.int .u64 0,.int .u64 0,.slice none 0 0,.int .i64 0,.int .i64 0,.int .i64 0,.bool false] 37)) (.cells #[.int .i64 6,.int .u64 0,.int .u64 0,.int .u64 0,.int .u64 0,.slice (some ⟨w.heap.size+1+1+1,0,none⟩) 2 2,.int .i64 0,.int .i64 0,.int .i64 0,.bool false] 37)) (.cells #[.int .i64 6,.int .u64 0,.int .u64 0,.int .u64 0,.int .u64 0,.slice (some ⟨w.heap.size+1+1+1,0,none⟩) 2 2,.int .i64 0,.int .i64 0,.int .i64 0,.bool false] 37)) (.cells #[.int .i64 7,.int .u64 0,.int .u64 0,.int .u64 0,.int .u64 0,.slice (some ⟨w.heap.size+1+1+1+1+1,0,none⟩) 1 1,.int .i64 1,.int .i64 0,.int .i64 0,.bool false] 37)) (.cells #[.int .i64 8,.int .u64 0,.int .u64 0,.int .u64 0,.int .u64 0,.slice (some ⟨w.heap.size+1+1+1+1+1+1,0,none⟩) 1 1,.int .i64 0,.int .i64 0,.int .i64 (-1),.bool false] 37)) (.cells #[.int .i64 0,.int .i64 1,.int .i64 0,.slice none 0 0] 57)) (.cells #[.int .i64 0,.int .i64 1,.int .i64 0,.slice (some ⟨w.heap.size+1+1+1+1+1+1+1+1,0,none⟩) 1 1] 57)) (.cells #[.int .i64 0,.int .i64 1,.int .i64 0,.slice (some ⟨w.heap.size+1+1+1+1+1+1+1+1+1,0,none⟩) 1 1] 57)) (.cells #[.int .i64 0,.int .i64 1,.int .i64 0,.slice (some ⟨w.heap.size+1+1+1+1+1+1+1+1+1+1,0,none⟩) 1 1] 57)) (.cells #[.int .i64 1,.int .i64 2,.int .i64 0,.slice none 0 0] 57)) (.cells #[.int .i64 1,.int .i64 2,.int .i64 1,.slice (some ⟨w.heap.size+1+1+1+1+1+1+1+1+1+1+1+1,0,none⟩) 1 1] 57)) (.cells #[.int .i64 1,.int .i64 2,.int .i64 0,.slice (some ⟨w.heap.size+1+1+1+1+1+1+1+1+1+1+1+1+1,0,none⟩) 1 1] 57))).heap[w.heap.size+1+1+1]? = some (.cells #[.int .i64 rkG2.kind,.int .u64 (Oc.U rkG2.w0),.int .u64 (Oc.U rkG2.w1),.int .u64 (Oc.U rkG2.w2),.int .u64 (Oc.U rkG2.w3),.slice (some ⟨w.heap.size+1+1,0,none⟩) 1 1,.int .i64 rkG2.num,.int .i64 rkG2.least,.int .i64 rkG2.most,.bool rkG2.bare,.int .i64 rkB.kind,.int .u64 (Oc.U rkB.w0),.int .u64 (Oc.U rkB.w1),.int .u64 (Oc.U rkB.w2),.int .u64 (Oc.U rkB.w3),.slice none 0 0,.int .i64 rkB.num,.int .i64 rkB.least,.int .i64 rkB.most,.bool rkB.bare] 37) from HL0.out 3 (by show (3:Nat) < 15;decide))
 have Z4:=Lib.hid (show ((World.alloc (World.alloc (World.alloc (World.alloc (World.alloc (World.alloc (World.alloc (World.alloc (World.alloc (World.alloc (World.alloc (World.alloc (World.alloc (World.alloc (World.alloc w (.cells #[.int .i64 2,.int .u64 0,.int .u64 8589934592,.int .u64 0,.int .u64 0,.slice none 0 0,.int .i64 0,.int .i64 0,.int .i64 0,.bool false] 37)) (.cells #[.int .i64 2,.int .u64 0,.int .u64 17179869184,.int .u64 0,.int .u64 0,.slice none 0 0,.int .i64 0,.int .i64 0,.int .i64 0,.bool false] 37)) (.cells #[.int .i64 2,.int .u64 0,.int .u64 8589934592,.int .u64 0,.int .u64 0,.slice none 0 0,.int .i64 0,.int .i64 0,.int .i64 0,.bool false] 37)) (.cells #[.int .i64 7,.int .u64 0,.int .u64 0,.int .u64 0,.int .u64 0,.slice (some ⟨w.heap.size+1+1,0,none⟩) 1 1,.int .i64 2,.int .i64 0,.int .i64 0,.bool false,.int .i64 2,.int .u64 0,.int .u64 17179869184,.int .u64 0,.int .u64 0,.slice none 0 0,.int .i64 0,.int .i64 0,.int .i64 0,.bool false] 37)) (.cells #[.int .i64 6,.int .u64 0,.int .u64 0,.int .u64 0,.int .u64 0,.slice (some ⟨w.heap.size+1+1+1,0,none⟩) 2 2,.int .i64 0,.int .i64 0,.int .i64 0,.bool false] 37)) (.cells #[.int .i64 6,.int .u64 0,.int .u64 0,.int .u64 0,.int .u64 0,.slice (some ⟨w.heap.size+1+1+1,0,none⟩) 2 2,.int .i64 0,.int .i64 0,.int .i64 0,.bool false] 37)) (.cells #[.int .i64 7,.int .u64 0,.int .u64 0,.int .u64 0,.int .u64 0,.slice (some ⟨w.heap.size+1+1+1+1+1,0,none⟩) 1 1,.int .i64 1,.int .i64 0,.int .i64 0,.bool false] 37)) (.cells #[.int .i64 8,.int .u64 0,.int .u64 0,.int .u64 0,.int .u64 0,.slice (some ⟨w.heap.size+1+1+1+1+1+1,0,none⟩) 1 1,.int .i64 0,.int .i64 0,.int .i64 (-1),.bool false] 37)) (.cells #[.int .i64 0,.int .i64 1,.int .i64 0,.slice none 0 0] 57)) (.cells #[.int .i64 0,.int .i64 1,.int .i64 0,.slice (some ⟨w.heap.size+1+1+1+1+1+1+1+1,0,none⟩) 1 1] 57)) (.cells #[.int .i64 0,.int .i64 1,.int .i64 0,.slice (some ⟨w.heap.size+1+1+1+1+1+1+1+1+1,0,none⟩) 1 1] 57)) (.cells #[.int .i64 0,.int .i64 1,.int .i64 0,.slice (some ⟨w.heap.size+1+1+1+1+1+1+1+1+1+1,0,none⟩) 1 1] 57)) (.cells #[.int .i64 1,.int .i64 2,.int .i64 0,.slice none 0 0] 57)) (.cells #[.int .i64 1,.int .i64 2,.int .i64 1,.slice (some ⟨w.heap.size+1+1+1+1+1+1+1+1+1+1+1+1,0,none⟩) 1 1] 57)) (.cells #[.int .i64 1,.int .i64 2,.int .i64 0,.slice (some ⟨w.heap.size+1+1+1+1+1+1+1+1+1+1+1+1+1,0,none⟩) 1 1] 57))).heap[w.heap.size+1+1+1+1]? = some (.cells #[.int .i64 6,.int .u64 0,.int .u64 0,.int .u64 0,.int .u64 0,.slice (some ⟨w.heap.size+1+1+1,0,none⟩) 2 2,.int .i64 0,.int .i64 0,.int .i64 0,.bool false] 37) from HL0.out 4 (by show (4:Nat) < 15;decide))
 have Z5:=Lib.hid (show ((World.alloc (World.alloc (World.alloc (World.alloc (World.alloc (World.alloc (World.alloc (World.alloc (World.alloc (World.alloc (World.alloc (World.alloc (World.alloc (World.alloc (World.alloc w (.cells #[.int .i64 2,.int .u64 0,.int .u64 8589934592,.int .u64 0,.int .u64 0,.slice none 0 0,.int .i64 0,.int .i64 0,.int .i64 0,.bool false] 37)) (.cells #[.int .i64 2,.int .u64 0,.int .u64 17179869184,.int .u64 0,.int .u64 0,.slice none 0 0,.int .i64 0,.int .i64 0,.int .i64 0,.bool false] 37)) (.cells #[.int .i64 2,.int .u64 0,.int .u64 8589934592,.int .u64 0,.int .u64 0,.slice none 0 0,.int .i64 0,.int .i64 0,.int .i64 0,.bool false] 37)) (.cells #[.int .i64 7,.int .u64 0,.int .u64 0,.int .u64 0,.int .u64 0,.slice (some ⟨w.heap.size+1+1,0,none⟩) 1 1,.int .i64 2,.int .i64 0,.int .i64 0,.bool false,.int .i64 2,.int .u64 0,.int .u64 17179869184,.int .u64 0,.int .u64 0,.slice none 0 0,.int .i64 0,.int .i64 0,.int .i64 0,.bool false] 37)) (.cells #[.int .i64 6,.int .u64 0,.int .u64 0,.int .u64 0,.int .u64 0,.slice (some ⟨w.heap.size+1+1+1,0,none⟩) 2 2,.int .i64 0,.int .i64 0,.int .i64 0,.bool false] 37)) (.cells #[.int .i64 6,.int .u64 0,.int .u64 0,.int .u64 0,.int .u64 0,.slice (some ⟨w.heap.size+1+1+1,0,none⟩) 2 2,.int .i64 0,.int .i64 0,.int .i64 0,.bool false] 37)) (.cells #[.int .i64 7,.int .u64 0,.int .u64 0,.int .u64 0,.int .u64 0,.slice (some ⟨w.heap.size+1+1+1+1+1,0,none⟩) 1 1,.int .i64 1,.int .i64 0,.int .i64 0,.bool false] 37)) (.cells #[.int .i64 8,.int .u64 0,.int .u64 0,.int .u64 0,.int .u64 0,.slice (some ⟨w.heap.size+1+1+1+1+1+1,0,none⟩) 1 1,.int .i64 0,.int .i64 0,.int .i64 (-1),.bool false] 37)) (.cells #[.int .i64 0,.int .i64 1,.int .i64 0,.slice none 0 0] 57)) (.cells #[.int .i64 0,.int .i64 1,.int .i64 0,.slice (some ⟨w.heap.size+1+1+1+1+1+1+1+1,0,none⟩) 1 1] 57)) (.cells #[.int .i64 0,.int .i64 1,.int .i64 0,.slice (some ⟨w.heap.size+1+1+1+1+1+1+1+1+1,0,none⟩) 1 1] 57)) (.cells #[.int .i64 0,.int .i64 1,.int .i64 0,.slice (some ⟨w.heap.size+1+1+1+1+1+1+1+1+1+1,0,none⟩) 1 1] 57)) (.cells #[.int .i64 1,.int .i64 2,.int .i64 0,.slice none 0 0] 57)) (.cells #[.int .i64 1,.int .i64 2,.int .i64 1,.slice (some ⟨w.heap.size+1+1+1+1+1+1+1+1+1+1+1+1,0,none⟩) 1 1] 57)) (.cells #[.int .i64 1,.int .i64 2,.int .i64 0,.slice (some ⟨w.heap.size+1+1+1+1+1+1+1+1+1+1+1+1+1,0,none⟩) 1 1] 57))).heap[w.heap.size+1+1+1+1+1]? = some (.cells (rkAlt.cells (.slice (some ⟨w.heap.size+1+1+1,0,none⟩) 2 2)) 37) from HL0.out 5 (by show (5:Nat) < 15;decide))
 have Z6:=Lib.hid (show ((World.alloc (World.alloc (World.alloc (World.alloc (World.alloc (World.alloc (World.alloc (World.alloc (World.alloc (World.alloc (World.alloc (World.alloc (World.alloc (World.alloc (World.alloc w (.cells #[.int .i64 2,.int .u64 0,.int .u64 8589934592,.int .u64 0,.int .u64 0,.slice none 0 0,.int .i64 0,.int .i64 0,.int .i64 0,.bool false] 37)) (.cells #[.int .i64 2,.int .u64 0,.int .u64 17179869184,.int .u64 0,.int .u64 0,.slice none 0 0,.int .i64 0,.int .i64 0,.int .i64 0,.bool false] 37)) (.cells #[.int .i64 2,.int .u64 0,.int .u64 8589934592,.int .u64 0,.int .u64 0,.slice none 0 0,.int .i64 0,.int .i64 0,.int .i64 0,.bool false] 37)) (.cells #[.int .i64 7,.int .u64 0,.int .u64 0,.int .u64 0,.int .u64 0,.slice (some ⟨w.heap.size+1+1,0,none⟩) 1 1,.int .i64 2,.int .i64 0,.int .i64 0,.bool false,.int .i64 2,.int .u64 0,.int .u64 17179869184,.int .u64 0,.int .u64 0,.slice none 0 0,.int .i64 0,.int .i64 0,.int .i64 0,.bool false] 37)) (.cells #[.int .i64 6,.int .u64 0,.int .u64 0,.int .u64 0,.int .u64 0,.slice (some ⟨w.heap.size+1+1+1,0,none⟩) 2 2,.int .i64 0,.int .i64 0,.int .i64 0,.bool false] 37)) (.cells #[.int .i64 6,.int .u64 0,.int .u64 0,.int .u64 0,.int .u64 0,.slice (some ⟨w.heap.size+1+1+1,0,none⟩) 2 2,.int .i64 0,.int .i64 0,.int .i64 0,.bool false] 37)) (.cells #[.int .i64 7,.int .u64 0,.int .u64 0,.int .u64 0,.int .u64 0,.slice (some ⟨w.heap.size+1+1+1+1+1,0,none⟩) 1 1,.int .i64 1,.int .i64 0,.int .i64 0,.bool false] 37)) (.cells #[.int .i64 8,.int .u64 0,.int .u64 0,.int .u64 0,.int .u64 0,.slice (some ⟨w.heap.size+1+1+1+1+1+1,0,none⟩) 1 1,.int .i64 0,.int .i64 0,.int .i64 (-1),.bool false] 37)) (.cells #[.int .i64 0,.int .i64 1,.int .i64 0,.slice none 0 0] 57)) (.cells #[.int .i64 0,.int .i64 1,.int .i64 0,.slice (some ⟨w.heap.size+1+1+1+1+1+1+1+1,0,none⟩) 1 1] 57)) (.cells #[.int .i64 0,.int .i64 1,.int .i64 0,.slice (some ⟨w.heap.size+1+1+1+1+1+1+1+1+1,0,none⟩) 1 1] 57)) (.cells #[.int .i64 0,.int .i64 1,.int .i64 0,.slice (some ⟨w.heap.size+1+1+1+1+1+1+1+1+1+1,0,none⟩) 1 1] 57)) (.cells #[.int .i64 1,.int .i64 2,.int .i64 0,.slice none 0 0] 57)) (.cells #[.int .i64 1,.int .i64 2,.int .i64 1,.slice (some ⟨w.heap.size+1+1+1+1+1+1+1+1+1+1+1+1,0,none⟩) 1 1] 57)) (.cells #[.int .i64 1,.int .i64 2,.int .i64 0,.slice (some ⟨w.heap.size+1+1+1+1+1+1+1+1+1+1+1+1+1,0,none⟩) 1 1] 57))).heap[w.heap.size+1+1+1+1+1+1]? = some (.cells (rkG1.cells (.slice (some ⟨w.heap.size+1+1+1+1+1,0,none⟩) 1 1)) 37) from HL0.out 6 (by show (6:Nat) < 15;decide))
 have Z7:=Lib.hid (show ((World.alloc (World.alloc (World.alloc (World.alloc (World.alloc (World.alloc (World.alloc (World.alloc (World.alloc (World.alloc (World.alloc (World.alloc (World.alloc (World.alloc (World.alloc w (.cells #[.int .i64 2,.int .u64 0,.int .u64 8589934592,.int .u64 0,.int .u64 0,.slice none 0 0,.int .i64 0,.int .i64 0,.int .i64 0,.bool false] 37)) (.cells #[.int .i64 2,.int .u64 0,.int .u64 17179869184,.int .u64 0,.int .u64 0,.slice none 0 0,.int .i64 0,.int .i64 0,.int .i64 0,.bool false] 37)) (.cells #[.int .i64 2,.int .u64 0,.int .u64 8589934592,.int .u64 0,.int .u64 0,.slice none 0 0,.int .i64 0,.int .i64 0,.int .i64 0,.bool false] 37)) (.cells #[.int .i64 7,.int .u64 0,.int .u64 0,.int .u64 0,.int .u64 0,.slice (some ⟨w.heap.size+1+1,0,none⟩) 1 1,.int .i64 2,.int .i64 0,.int .i64 0,.bool false,.int .i64 2,.int .u64 0,.int .u64 17179869184,.int .u64 0,.int .u64 0,.slice none 0 0,.int .i64 0,.int .i64 0,.int .i64 0,.bool false] 37)) (.cells #[.int .i64 6,.int .u64 0,.int .u64 0,.int .u64 0,.int .u64 0,.slice (some ⟨w.heap.size+1+1+1,0,none⟩) 2 2,.int .i64 0,.int .i64 0,.int .i64 0,.bool false] 37)) (.cells #[.int .i64 6,.int .u64 0,.int .u64 0,.int .u64 0,.int .u64 0,.slice (some ⟨w.heap.size+1+1+1,0,none⟩) 2 2,.int .i64 0,.int .i64 0,.int .i64 0,.bool false] 37)) (.cells #[.int .i64 7,.int .u64 0,.int .u64 0,.int .u64 0,.int .u64 0,.slice (some ⟨w.heap.size+1+1+1+1+1,0,none⟩) 1 1,.int .i64 1,.int .i64 0,.int .i64 0,.bool false] 37)) (.cells #[.int .i64 8,.int .u64 0,.int .u64 0,.int .u64 0,.int .u64 0,.slice (some ⟨w.heap.size+1+1+1+1+1+1,0,none⟩) 1 1,.int .i64 0,.int .i64 0,.int .i64 (-1),.bool false] 37)) (.cells #[.int .i64 0,.int .i64 1,.int .i64 0,.slice none 0 0] 57)) (.cells #[.int .i64 0,.int .i64 1,.int .i64 0,.slice (some ⟨w.heap.size+1+1+1+1+1+1+1+1,0,none⟩) 1 1] 57)) (.cells #[.int .i64 0,.int .i64 1,.int .i64 0,.slice (some ⟨w.heap.size+1+1+1+1+1+1+1+1+1,0,none⟩) 1 1] 57)) (.cells #[.int .i64 0,.int .i64 1,.int .i64 0,.slice (some ⟨w.heap.size+1+1+1+1+1+1+1+1+1+1,0,none⟩) 1 1] 57)) (.cells #[.int .i64 1,.int .i64 2,.int .i64 0,.slice none 0 0] 57)) (.cells #[.int .i64 1,.int .i64 2,.int .i64 1,.slice (some ⟨w.heap.size+1+1+1+1+1+1+1+1+1+1+1+1,0,none⟩) 1 1] 57)) (.cells #[.int .i64 1,.int .i64 2,.int .i64 0,.slice (some ⟨w.heap.size+1+1+1+1+1+1+1+1+1+1+1+1+1,0,none⟩) 1 1] 57))).heap[w.heap.size+1+1+1+1+1+1+1]? = some (.cells #[.int .i64 8,.int .u64 0,.int .u64 0,.int .u64 0,.int .u64 0,.slice (some ⟨w.heap.size+1+1+1+1+1+1,0,none⟩) 1 1,.int .i64 0,.int .i64 0,.int .i64 (-1),.bool false] 37) from HL0.out 7 (by show (7:Nat) < 15;decide))
 have Z8:=Lib.hid (show ((World.alloc (World.alloc (World.alloc (World.alloc (World.alloc (World.alloc (World.alloc (World.alloc (World.alloc (World.alloc (World.alloc (World.alloc (World.alloc (World.alloc (World.alloc w (.cells #[.int .i64 2,.int .u64 0,.int .u64 8589934592,.int .u64 0,.int .u64 0,.slice none 0 0,.int .i64 0,.int .i64 0,.int .i64 0,.bool false] 37)) (.cells #[.int .i64 2,.int .u64 0,.int .u64 17179869184,.int .u64 0,.int .u64 0,.slice none 0 0,.int .i64 0,.int .i64 0,.int .i64 0,.bool false] 37)) (.cells #[.int .i64 2,.int .u64 0,.int .u64 8589934592,.int .u64 0,.int .u64 0,.slice none 0 0,.int .i64 0,.int .i64 0,.int .i64 0,.bool false] 37)) (.cells #[.int .i64 7,.int .u64 0,.int .u64 0,.int .u64 0,.int .u64 0,.slice (some ⟨w.heap.size+1+1,0,none⟩) 1 1,.int .i64 2,.int .i64 0,.int .i64 0,.bool false,.int .i64 2,.int .u64 0,.int .u64 17179869184,.int .u64 0,.int .u64 0,.slice none 0 0,.int .i64 0,.int .i64 0,.int .i64 0,.bool false] 37)) (.cells #[.int .i64 6,.int .u64 0,.int .u64 0,.int .u64 0,.int .u64 0,.slice (some ⟨w.heap.size+1+1+1,0,none⟩) 2 2,.int .i64 0,.int .i64 0,.int .i64 0,.bool false] 37)) (.cells #[.int .i64 6,.int .u64 0,.int .u64 0,.int .u64 0,.int .u64 0,.slice (some ⟨w.heap.size+1+1+1,0,none⟩) 2 2,.int .i64 0,.int .i64 0,.int .i64 0,.bool false] 37)) (.cells #[.int .i64 7,.int .u64 0,.int .u64 0,.int .u64 0,.int .u64 0,.slice (some ⟨w.heap.size+1+1+1+1+1,0,none⟩) 1 1,.int .i64 1,.int .i64 0,.int .i64 0,.bool false] 37)) (.cells #[.int .i64 8,.int .u64 0,.int .u64 0,.int .u64 0,.int .u64 0,.slice (some ⟨w.heap.size+1+1+1+1+1+1,0,none⟩) 1 1,.int .i64 0,.int .i64 0,.int .i64 (-1),.bool false] 37)) (.cells #[.int .i64 0,.int .i64 1,.int .i64 0,.slice none 0 0] 57)) (.cells #[.int .i64 0,.int .i64 1,.int .i64 0,.slice (some ⟨w.heap.size+1+1+1+1+1+1+1+1,0,none⟩) 1 1] 57)) (.cells #[.int .i64 0,.int .i64 1,.int .i64 0,.slice (some ⟨w.heap.size+1+1+1+1+1+1+1+1+1,0,none⟩) 1 1] 57)) (.cells #[.int .i64 0,.int .i64 1,.int .i64 0,.slice (some ⟨w.heap.size+1+1+1+1+1+1+1+1+1+1,0,none⟩) 1 1] 57)) (.cells #[.int .i64 1,.int .i64 2,.int .i64 0,.slice none 0 0] 57)) (.cells #[.int .i64 1,.int .i64 2,.int .i64 1,.slice (some ⟨w.heap.size+1+1+1+1+1+1+1+1+1+1+1+1,0,none⟩) 1 1] 57)) (.cells #[.int .i64 1,.int .i64 2,.int .i64 0,.slice (some ⟨w.heap.size+1+1+1+1+1+1+1+1+1+1+1+1+1,0,none⟩) 1 1] 57))).heap[w.heap.size+1+1+1+1+1+1+1+1]? = some (.cells (rkP3.cells (.slice none 0 0)) 57) from HL0.out 8 (by show (8:Nat) < 15;decide))
 have Z9:=Lib.hid (show ((World.alloc (World.alloc (World.alloc (World.alloc (World.alloc (World.alloc (World.alloc (World.alloc (World.alloc (World.alloc (World.alloc (World.alloc (World.alloc (World.alloc (World.alloc w (.cells #[.int .i64 2,.int .u64 0,.int .u64 8589934592,.int .u64 0,.int .u64 0,.slice none 0 0,.int .i64 0,.int .i64 0,.int .i64 0,.bool false] 37)) (.cells #[.int .i64 2,.int .u64 0,.int .u64 17179869184,.int .u64 0,.int .u64 0,.slice none 0 0,.int .i64 0,.int .i64 0,.int .i64 0,.bool false] 37)) (.cells #[.int .i64 2,.int .u64 0,.int .u64 8589934592,.int .u64 0,.int .u64 0,.slice none 0 0,.int .i64 0,.int .i64 0,.int .i64 0,.bool false] 37)) (.cells #[.int .i64 7,.int .u64 0,.int .u64 0,.int .u64 0,.int .u64 0,.slice (some ⟨w.heap.size+1+1,0,none⟩) 1 1,.int .i64 2,.int .i64 0,.int .i64 0,.bool false,.int .i64 2,.int .u64 0,.int .u64 17179869184,.int .u64 0,.int .u64 0,.slice none 0 0,.int .i64 0,.int .i64 0,.int .i64 0,.bool false] 37)) (.cells #[.int .i64 6,.int .u64 0,.int .u64 0,.int .u64 0,.int .u64 0,.slice (some ⟨w.heap.size+1+1+1,0,none⟩) 2 2,.int .i64 0,.int .i64 0,.int .i64 0,.bool false] 37)) (.cells #[.int .i64 6,.int .u64 0,.int .u64 0,.int .u64 0,.int .u64 0,.slice (some ⟨w.heap.size+1+1+1,0,none⟩) 2 2,.int .i64 0,.int .i64 0,.int .i64 0,.bool false] 37)) (.cells #[.int .i64 7,.int .u64 0,.int .u64 0,.int .u64 0,.int .u64 0,.slice (some ⟨w.heap.size+1+1+1+1+1,0,none⟩) 1 1,.int .i64 1,.int .i64 0,.int .i64 0,.bool false] 37)) (.cells #[.int .i64 8,.int .u64 0,.int .u64 0,.int .u64 0,.int .u64 0,.slice (some ⟨w.heap.size+1+1+1+1+1+1,0,none⟩) 1 1,.int .i64 0,.int .i64 0,.int .i64 (-1),.bool false] 37)) (.cells #[.int .i64 0,.int .i64 1,.int .i64 0,.slice none 0 0] 57)) (.cells #[.int .i64 0,.int .i64 1,.int .i64 0,.slice (some ⟨w.heap.size+1+1+1+1+1+1+1+1,0,none⟩) 1 1] 57)) (.cells #[.int .i64 0,.int .i64 1,.int .i64 0,.slice (some ⟨w.heap.size+1+1+1+1+1+1+1+1+1,0,none⟩) 1 1] 57)) (.cells #[.int .i64 0,.int .i64 1,.int .i64 0,.slice (some ⟨w.heap.size+1+1+1+1+1+1+1+1+1+1,0,none⟩) 1 1] 57)) (.cells #[.int .i64 1,.int .i64 2,.int .i64 0,.slice none 0 0] 57)) (.cells #[.int .i64 1,.int .i64 2,.int .i64 1,.slice (some ⟨w.heap.size+1+1+1+1+1+1+1+1+1+1+1+1,0,none⟩) 1 1] 57)) (.cells #[.int .i64 1,.int .i64 2,.int .i64 0,.slice (some ⟨w.heap.size+1+1+1+1+1+1+1+1+1+1+1+1+1,0,none⟩) 1 1] 57))).heap[w.heap.size+1+1+1+1+1+1+1+1+1]? = some (.cells (rkP2.cells (.slice (some ⟨w.heap.size+1+1+1+1+1+1+1+1,0,none⟩) 1 1)) 57) from HL0.out 9 (by show (9:Nat) < 15;decide))
 have Z10:=Lib.hid (show ((World.alloc (World.alloc (World.alloc (World.alloc (World.alloc (World.alloc (World.alloc (World.alloc (World.alloc (World.alloc (World.alloc (World.alloc (World.alloc (World.alloc (World.alloc w (.cells #[.int .i64 2,.int .u64 0,.int .u64 8589934592,.int .u64 0,.int .u64 0,.slice none 0 0,.int .i64 0,.int .i64 0,.int .i64 0,.bool false] 37)) (.cells #[.int .i64 2,.int .u64 0,.int .u64 17179869184,.int .u64 0,.int .u64 0,.slice none 0 0,.int .i64 0,.int .i64 0,.int .i64 0,.bool false] 37)) (.cells #[.int .i64 2,.int .u64 0,.int .u64 8589934592,.int .u64 0,.int .u64 0,.slice none 0 0,.int .i64 0,.int .i64 0,.int .i64 0,.bool false] 37)) (.cells #[.int .i64 7,.int .u64 0,.int .u64 0,.int .u64 0,.int .u64 0,.slice (some ⟨w.heap.size+1+1,0,none⟩) 1 1,.int .i64 2,.int .i64 0,.int .i64 0,.bool false,.int .i64 2,.int .u64 0,.int .u64 17179869184,.int .u64 0,.int .u64 0,.slice none 0 0,.int .i64 0,.int .i64 0,.int .i64 0,.bool false] 37)) (.cells #[.int .i64 6,.int .u64 0,.int .u64 0,.int .u64 0,.int .u64 0,.slice (some ⟨w.heap.size+1+1+1,0,none⟩) 2 2,.int .i64 0,.int .i64 0,.int .i64 0,.bool false] 37)) (.cells #[.int .i64 6,.int .u64 0,.int .u64 0,.int .u64 0,.int .u64 0,.slice (some ⟨w.heap.size+1+1+1,0,none⟩) 2 2,.int .i64 0,.int .i64 0,.int .i64 0,.bool false] 37)) (.cells #[.int .i64 7,.int .u64 0,.int .u64 0,.int .u64 0,.int .u64 0,.slice (some ⟨w.heap.size+1+1+1+1+1,0,none⟩) 1 1,.int .i64 1,.int .i64 0,.int .i64 0,.bool false] 37)) (.cells #[.int .i64 8,.int .u64 0,.int .u64 0,.int .u64 0,.int .u64 0,.slice (some ⟨w.heap.size+1+1+1+1+1+1,0,none⟩) 1 1,.int .i64 0,.int .i64 0,.int .i64 (-1),.bool false] 37)) (.cells #[.int .i64 0,.int .i64 1,.int .i64 0,.slice none 0 0] 57)) (.cells #[.int .i64 0,.int .i64 1,.int .i64 0,.slice (some ⟨w.heap.size+1+1+1+1+1+1+1+1,0,none⟩) 1 1] 57)) (.cells #[.int .i64 0,.int .i64 1,.int .i64 0,.slice (some ⟨w.heap.size+1+1+1+1+1+1+1+1+1,0,none⟩) 1 1] 57)) (.cells #[.int .i64 0,.int .i64 1,.int .i64 0,.slice (some ⟨w.heap.size+1+1+1+1+1+1+1+1+1+1,0,none⟩) 1 1] 57)) (.cells #[.int .i64 1,.int .i64 2,.int .i64 0,.slice none 0 0] 57)) (.cells #[.int .i64 1,.int .i64 2,.int .i64 1,.slice (some ⟨w.heap.size+1+1+1+1+1+1+1+1+1+1+1+1,0,none⟩) 1 1] 57)) (.cells #[.int .i64 1,.int .i64 2,.int .i64 0,.slice (some ⟨w.heap.size+1+1+1+1+1+1+1+1+1+1+1+1+1,0,none⟩) 1 1] 57))).heap[w.heap.size+1+1+1+1+1+1+1+1+1+1]? = some (.cells (rkP1.cells (.slice (some ⟨w.heap.size+1+1+1+1+1+1+1+1+1,0,none⟩) 1 1)) 57) from HL0.out 10 (by show (10:Nat) < 15;decide))
 have Z11:=Lib.hid (show ((World.alloc (World.alloc (World.alloc (World.alloc (World.alloc (World.alloc (World.alloc (World.alloc (World.alloc (World.alloc (World.alloc (World.alloc (World.alloc (World.alloc (World.alloc w (.cells #[.int .i64 2,.int .u64 0,.int .u64 8589934592,.int .u64 0,.int .u64 0,.slice none 0 0,.int .i64 0,.int .i64 0,.int .i64 0,.bool false] 37)) (.cells #[.int .i64 2,.int .u64 0,.int .u64 17179869184,.int .u64 0,.int .u64 0,.slice none 0 0,.int .i64 0,.int .i64 0,.int .i64 0,.bool false] 37)) (.cells #[.int .i64 2,.int .u64 0,.int .u64 8589934592,.int .u64 0,.int .u64 0,.slice none 0 0,.int .i64 0,.int .i64 0,.int .i64 0,.bool false] 37)) (.cells #[.int .i64 7,.int .u64 0,.int .u64 0,.int .u64 0,.int .u64 0,.slice (some ⟨w.heap.size+1+1,0,none⟩) 1 1,.int .i64 2,.int .i64 0,.int .i64 0,.bool false,.int .i64 2,.int .u64 0,.int .u64 17179869184,.int .u64 0,.int .u64 0,.slice none 0 0,.int .i64 0,.int .i64 0,.int .i64 0,.bool false] 37)) (.cells #[.int .i64 6,.int .u64 0,.int .u64 0,.int .u64 0,.int .u64 0,.slice (some ⟨w.heap.size+1+1+1,0,none⟩) 2 2,.int .i64 0,.int .i64 0,.int .i64 0,.bool false] 37)) (.cells #[.int .i64 6,.int .u64 0,.int .u64 0,.int .u64 0,.int .u64 0,.slice (some ⟨w.heap.size+1+1+1,0,none⟩) 2 2,.int .i64 0,.int .i64 0,.int .i64 0,.bool false] 37)) (.cells #[.int .i64 7,.int .u64 0,.int .u64 0,.int .u64 0,.int .u64 0,.slice (some ⟨w.heap.size+1+1+1+1+1,0,none⟩) 1 1,.int .i64 1,.int .i64 0,.int .i64 0,.bool false] 37)) (.cells #[.int .i64 8,.int .u64 0,.int .u64 0,.int .u64 0,.int .u64 0,.slice (some ⟨w.heap.size+1+1+1+1+1+1,0,none⟩) 1 1,.int .i64 0,.int .i64 0,.int .i64 (-1),.bool false] 37)) (.cells #[.int .i64 0,.int .i64 1,.int .i64 0,.slice none 0 0] 57)) (.cells #[.int .i64 0,.int .i64 1,.int .i64 0,.slice (some ⟨w.heap.size+1+1+1+1+1+1+1+1,0,none⟩) 1 1] 57)) (.cells #[.int .i64 0,.int .i64 1,.int .i64 0,.slice (some ⟨w.heap.size+1+1+1+1+1+1+1+1+1,0,none⟩) 1 1] 57)) (.cells #[.int .i64 0,.int .i64 1,.int .i64 0,.slice (some ⟨w.heap.size+1+1+1+1+1+1+1+1+1+1,0,none⟩) 1 1] 57)) (.cells #[.int .i64 1,.int .i64 2,.int .i64 0,.slice none 0 0] 57)) (.cells #[.int .i64 1,.int .i64 2,.int .i64 1,.slice (some ⟨w.heap.size+1+1+1+1+1+1+1+1+1+1+1+1,0,none⟩) 1 1] 57)) (.cells #[.int .i64 1,.int .i64 2,.int .i64 0,.slice (some ⟨w.heap.size+1+1+1+1+1+1+1+1+1+1+1+1+1,0,none⟩) 1 1] 57))).heap[w.heap.size+1+1+1+1+1+1+1+1+1+1+1]? = some (.cells #[.int .i64 0,.int .i64 1,.int .i64 0,.slice (some ⟨w.heap.size+1+1+1+1+1+1+1+1+1+1,0,none⟩) 1 1] 57) from HL0.out 11 (by show (11:Nat) < 15;decide))
 have Z12:=Lib.hid (show ((World.alloc (World.alloc (World.alloc (World.alloc (World.alloc (World.alloc (World.alloc (World.alloc (World.alloc (World.alloc (World.alloc (World.alloc (World.alloc (World.alloc (World.alloc w (.cells #[.int .i64 2,.int .u64 0,.int .u64 8589934592,.int .u64 0,.int .u64 0,.slice none 0 0,.int .i64 0,.int .i64 0,.int .i64 0,.bool false] 37)) (.cells #[.int .i64 2,.int .u64 0,.int .u64 17179869184,.int .u64 0,.int .u64 0,.slice none 0 0,.int .i64 0,.int .i64 0,.int .i64 0,.bool false] 37)) (.cells #[.int .i64 2,.int .u64 0,.int .u64 8589934592,.int .u64 0,.int .u64 0,.slice none 0 0,.int .i64 0,.int .i64 0,.int .i64 0,.bool false] 37)) (.cells #[.int .i64 7,.int .u64 0,.int .u64 0,.int .u64 0,.int .u64 0,.slice (some ⟨w.heap.size+1+1,0,none⟩) 1 1,.int .i64 2,.int .i64 0,.int .i64 0,.bool false,.int .i64 2,.int .u64 0,.int .u64 17179869184,.int .u64 0,.int .u64 0,.slice none 0 0,.int .i64 0,.int .i64 0,.int .i64 0,.bool false] 37)) (.cells #[.int .i64 6,.int .u64 0,.int .u64 0,.int .u64 0,.int .u64 0,.slice (some ⟨w.heap.size+1+1+1,0,none⟩) 2 2,.int .i64 0,.int .i64 0,.int .i64 0,.bool false] 37)) (.cells #[.int .i64 6,.int .u64 0,.int .u64 0,.int .u64 0,.int .u64 0,.slice (some ⟨w.heap.size+1+1+1,0,none⟩) 2 2,.int .i64 0,.int .i64 0,.int .i64 0,.bool false] 37)) (.cells #[.int .i64 7,.int .u64 0,.int .u64 0,.int .u64 0,.int .u64 0,.slice (some ⟨w.heap.size+1+1+1+1+1,0,none⟩) 1 1,.int .i64 1,.int .i64 0,.int .i64 0,.bool false] 37)) (.cells #[.int .i64 8,.int .u64 0,.int .u64 0,.int .u64 0,.int .u64 0,.slice (some ⟨w.heap.size+1+1+1+1+1+1,0,none⟩) 1 1,.int .i64 0,.int .i64 0,.int .i64 (-1),.bool false] 37)) (.cells #[.int .i64 0,.int .i64 1,.int .i64 0,.slice none 0 0] 57)) (.cells #[.int .i64 0,.int .i64 1,.int .i64 0,.slice (some ⟨w.heap.size+1+1+1+1+1+1+1+1,0,none⟩) 1 1] 57)) (.cells #[.int .i64 0,.int .i64 1,.int .i64 0,.slice (some ⟨w.heap.size+1+1+1+1+1+1+1+1+1,0,none⟩) 1 1] 57)) (.cells #[.int .i64 0,.int .i64 1,.int .i64 0,.slice (some ⟨w.heap.size+1+1+1+1+1+1+1+1+1+1,0,none⟩) 1 1] 57)) (.cells #[.int .i64 1,.int .i64 2,.int .i64 0,.slice none 0 0] 57)) (.cells #[.int .i64 1,.int .i64 2,.int .i64 1,.slice (some ⟨w.heap.size+1+1+1+1+1+1+1+1+1+1+1+1,0,none⟩) 1 1] 57)) (.cells #[.int .i64 1,.int .i64 2,.int .i64 0,.slice (some ⟨w.heap.size+1+1+1+1+1+1+1+1+1+1+1+1+1,0,none⟩) 1 1] 57))).heap[w.heap.size+1+1+1+1+1+1+1+1+1+1+1+1]? = some (.cells (rkQ2.cells (.slice none 0 0)) 57) from HL0.out 12 (by show (12:Nat) < 15;decide))
 have Z13:=Lib.hid (show ((World.alloc (World.alloc (World.alloc (World.alloc (World.alloc (World.alloc (World.alloc (World.alloc (World.alloc (World.alloc (World.alloc (World.alloc (World.alloc (World.alloc (World.alloc w (.cells #[.int .i64 2,.int .u64 0,.int .u64 8589934592,.int .u64 0,.int .u64 0,.slice none 0 0,.int .i64 0,.int .i64 0,.int .i64 0,.bool false] 37)) (.cells #[.int .i64 2,.int .u64 0,.int .u64 17179869184,.int .u64 0,.int .u64 0,.slice none 0 0,.int .i64 0,.int .i64 0,.int .i64 0,.bool false] 37)) (.cells #[.int .i64 2,.int .u64 0,.int .u64 8589934592,.int .u64 0,.int .u64 0,.slice none 0 0,.int .i64 0,.int .i64 0,.int .i64 0,.bool false] 37)) (.cells #[.int .i64 7,.int .u64 0,.int .u64 0,.int .u64 0,.int .u64 0,.slice (some ⟨w.heap.size+1+1,0,none⟩) 1 1,.int .i64 2,.int .i64 0,.int .i64 0,.bool false,.int .i64 2,.int .u64 0,.int .u64 17179869184,.int .u64 0,.int .u64 0,.slice none 0 0,.int .i64 0,.int .i64 0,.int .i64 0,.bool false] 37)) (.cells #[.int .i64 6,.int .u64 0,.int .u64 0,.int .u64 0,.int .u64 0,.slice (some ⟨w.heap.size+1+1+1,0,none⟩) 2 2,.int .i64 0,.int .i64 0,.int .i64 0,.bool false] 37)) (.cells #[.int .i64 6,.int .u64 0,.int .u64 0,.int .u64 0,.int .u64 0,.slice (some ⟨w.heap.size+1+1+1,0,none⟩) 2 2,.int .i64 0,.int .i64 0,.int .i64 0,.bool false] 37)) (.cells #[.int .i64 7,.int .u64 0,.int .u64 0,.int .u64 0,.int .u64 0,.slice (some ⟨w.heap.size+1+1+1+1+1,0,none⟩) 1 1,.int .i64 1,.int .i64 0,.int .i64 0,.bool false] 37)) (.cells #[.int .i64 8,.int .u64 0,.int .u64 0,.int .u64 0,.int .u64 0,.slice (some ⟨w.heap.size+1+1+1+1+1+1,0,none⟩) 1 1,.int .i64 0,.int .i64 0,.int .i64 (-1),.bool false] 37)) (.cells #[.int .i64 0,.int .i64 1,.int .i64 0,.slice none 0 0] 57)) (.cells #[.int .i64 0,.int .i64 1,.int .i64 0,.slice (some ⟨w.heap.size+1+1+1+1+1+1+1+1,0,none⟩) 1 1] 57)) (.cells #[.int .i64 0,.int .i64 1,.int .i64 0,.slice (some ⟨w.heap.size+1+1+1+1+1+1+1+1+1,0,none⟩) 1 1] 57)) (.cells #[.int .i64 0,.int .i64 1,.int .i64 0,.slice (some ⟨w.heap.size+1+1+1+1+1+1+1+1+1+1,0,none⟩) 1 1] 57)) (.cells #[.int .i64 1,.int .i64 2,.int .i64 0,.slice none 0 0] 57)) (.cells #[.int .i64 1,.int .i64 2,.int .i64 1,.slice (some ⟨w.heap.size+1+1+1+1+1+1+1+1+1+1+1+1,0,none⟩) 1 1] 57)) (.cells #[.int .i64 1,.int .i64 2,.int .i64 0,.slice (some ⟨w.heap.size+1+1+1+1+1+1+1+1+1+1+1+1+1,0,none⟩) 1 1] 57))).heap[w.heap.size+1+1+1+1+1+1+1+1+1+1+1+1+1]? = some (.cells (rkQ1.cells (.slice (some ⟨w.heap.size+1+1+1+1+1+1+1+1+1+1+1+1,0,none⟩) 1 1)) 57) from HL0.out 13 (by show (13:Nat) < 15;decide))
 have Z14:=Lib.hid (show ((World.alloc (World.alloc (World.alloc (World.alloc (World.alloc (World.alloc (World.alloc (World.alloc (World.alloc (World.alloc (World.alloc (World.alloc (World.alloc (World.alloc (World.alloc w (.cells #[.int .i64 2,.int .u64 0,.int .u64 8589934592,.int .u64 0,.int .u64 0,.slice none 0 0,.int .i64 0,.int .i64 0,.int .i64 0,.bool false] 37)) (.cells #[.int .i64 2,.int .u64 0,.int .u64 17179869184,.int .u64 0,.int .u64 0,.slice none 0 0,.int .i64 0,.int .i64 0,.int .i64 0,.bool false] 37)) (.cells #[.int .i64 2,.int .u64 0,.int .u64 8589934592,.int .u64 0,.int .u64 0,.slice none 0 0,.int .i64 0,.int .i64 0,.int .i64 0,.bool false] 37)) (.cells #[.int .i64 7,.int .u64 0,.int .u64 0,.int .u64 0,.int .u64 0,.slice (some ⟨w.heap.size+1+1,0,none⟩) 1 1,.int .i64 2,.int .i64 0,.int .i64 0,.bool false,.int .i64 2,.int .u64 0,.int .u64 17179869184,.int .u64 0,.int .u64 0,.slice none 0 0,.int .i64 0,.int .i64 0,.int .i64 0,.bool false] 37)) (.cells #[.int .i64 6,.int .u64 0,.int .u64 0,.int .u64 0,.int .u64 0,.slice (some ⟨w.heap.size+1+1+1,0,none⟩) 2 2,.int .i64 0,.int .i64 0,.int .i64 0,.bool false] 37)) (.cells #[.int .i64 6,.int .u64 0,.int .u64 0,.int .u64 0,.int .u64 0,.slice (some ⟨w.heap.size+1+1+1,0,none⟩) 2 2,.int .i64 0,.int .i64 0,.int .i64 0,.bool false] 37)) (.cells #[.int .i64 7,.int .u64 0,.int .u64 0,.int .u64 0,.int .u64 0,.slice (some ⟨w.heap.size+1+1+1+1+1,0,none⟩) 1 1,.int .i64 1,.int .i64 0,.int .i64 0,.bool false] 37)) (.cells #[.int .i64 8,.int .u64 0,.int .u64 0,.int .u64 0,.int .u64 0,.slice (some ⟨w.heap.size+1+1+1+1+1+1,0,none⟩) 1 1,.int .i64 0,.int .i64 0,.int .i64 (-1),.bool false] 37)) (.cells #[.int .i64 0,.int .i64 1,.int .i64 0,.slice none 0 0] 57)) (.cells #[.int .i64 0,.int .i64 1,.int .i64 0,.slice (some ⟨w.heap.size+1+1+1+1+1+1+1+1,0,none⟩) 1 1] 57)) (.cells #[.int .i64 0,.int .i64 1,.int .i64 0,.slice (some ⟨w.heap.size+1+1+1+1+1+1+1+1+1,0,none⟩) 1 1] 57)) (.cells #[.int .i64 0,.int .i64 1,.int .i64 0,.slice (some ⟨w.heap.size+1+1+1+1+1+1+1+1+1+1,0,none⟩) 1 1] 57)) (.cells #[.int .i64 1,.int .i64 2,.int .i64 0,.slice none 0 0] 57)) (.cells #[.int .i64 1,.int .i64 2,.int .i64 1,.slice (some ⟨w.heap.size+1+1+1+1+1+1+1+1+1+1+1+1,0,none⟩) 1 1] 57)) (.cells #[.int .i64 1,.int .i64 2,.int .i64 0,.slice (some ⟨w.heap.size+1+1+1+1+1+1+1+1+1+1+1+1+1,0,none⟩) 1 1] 57))).heap[w.heap.size+1+1+1+1+1+1+1+1+1+1+1+1+1+1]? = some (.cells #[.int .i64 1,.int .i64 2,.int .i64 0,.slice (some ⟨w.heap.size+1+1+1+1+1+1+1+1+1+1+1+1+1,0,none⟩) 1 1] 57) from HL0.out 14 (by show (14:Nat) < 15;decide))
 go_enter Tryd.func27,Tryd.ntmps27
 go_upto_region 6 with (fail)
 clear HL0
 generalize (World.alloc (World.alloc (World.alloc (World.alloc (World.alloc (World.alloc (World.alloc (World.alloc (World.alloc (World.alloc (World.alloc (World.alloc (World.alloc (World.alloc (World.alloc w (.cells #[.int .i64 2,.int .u64 0,.int .u64 8589934592,.int .u64 0,.int .u64 0,.slice none 0 0,.int .i64 0,.int .i64 0,.int .i64 0,.bool false] 37)) (.cells #[.int .i64 2,.int .u64 0,.int .u64 17179869184,.int .u64 0,.int .u64 0,.slice none 0 0,.int .i64 0,.int .i64 0,.int .i64 0,.bool false] 37)) (.cells #[.int .i64 2,.int .u64 0,.int .u64 8589934592,.int .u64 0,.int .u64 0,.slice none 0 0,.int .i64 0,.int .i64 0,.int .i64 0,.bool false] 37)) (.cells #[.int .i64 7,.int .u64 0,.int .u64 0,.int .u64 0,.int .u64 0,.slice (some ⟨w.heap.size+1+1,0,none⟩) 1 1,.int .i64 2,.int .i64 0,.int .i64 0,.bool false,.int .i64 2,.int .u64 0,.int .u64 17179869184,.int .u64 0,.int .u64 0,.slice none 0 0,.int .i64 0,.int .i64 0,.int .i64 0,.bool false] 37)) (.cells #[.int .i64 6,.int .u64 0,.int .u64 0,.int .u64 0,.int .u64 0,.slice (some ⟨w.heap.size+1+1+1,0,none⟩) 2 2,.int .i64 0,.int .i64 0,.int .i64 0,.bool false] 37)) (.cells #[.int .i64 6,.int .u64 0,.int .u64 0,.int .u64 0,.int .u64 0,.slice (some ⟨w.heap.size+1+1+1,0,none⟩) 2 2,.int .i64 0,.int .i64 0,.int .i64 0,.bool false] 37)) (.cells #[.int .i64 7,.int .u64 0,.int .u64 0,.int .u64 0,.int .u64 0,.slice (some ⟨w.heap.size+1+1+1+1+1,0,none⟩) 1 1,.int .i64 1,.int .i64 0,.int .i64 0,.bool false] 37)) (.cells #[.int .i64 8,.int .u64 0,.int .u64 0,.int .u64 0,.int .u64 0,.slice (some ⟨w.heap.size+1+1+1+1+1+1,0,none⟩) 1 1,.int .i64 0,.int .i64 0,.int .i64 (-1),.bool false] 37)) (.cells #[.int .i64 0,.int .i64 1,.int .i64 0,.slice none 0 0] 57)) (.cells #[.int .i64 0,.int .i64 1,.int .i64 0,.slice (some ⟨w.heap.size+1+1+1+1+1+1+1+1,0,none⟩) 1 1] 57)) (.cells #[.int .i64 0,.int .i64 1,.int .i64 0,.slice (some ⟨w.heap.size+1+1+1+1+1+1+1+1+1,0,none⟩) 1 1] 57)) (.cells #[.int .i64 0,.int .i64 1,.int .i64 0,.slice (some ⟨w.heap.size+1+1+1+1+1+1+1+1+1+1,0,none⟩) 1 1] 57)) (.cells #[.int .i64 1,.int .i64 2,.int .i64 0,.slice none 0 0] 57)) (.cells #[.int .i64 1,.int .i64 2,.int .i64 1,.slice (some ⟨w.heap.size+1+1+1+1+1+1+1+1+1+1+1+1,0,none⟩) 1 1] 57)) (.cells #[.int .i64 1,.int .i64 2,.int .i64 0,.slice (some ⟨w.heap.size+1+1+1+1+1+1+1+1+1+1+1+1+1,0,none⟩) 1 1] 57))=W at *
 have H2:=trees_one (t:=rkA) (c:=1) Z2.out .nil
 have H3:=trees_two (t:=rkG2) (u:=rkB) (c:=2) Z3.out H2 .nil
 have H5:=trees_one (t:=rkAlt) (c:=1) Z5.out H3
 have HN:=Lib.hid (trees_one (t:=rkG1) (c:=1) Z6.out H5)
 have P8:=pas_one (t:=rkP3) Z8.out .nil
 have P9:=pas_one (t:=rkP2) Z9.out P8
 have HP1:=Lib.hid (pas_one (t:=rkP1) Z10.out P9)
 have P12:=pas_one (t:=rkQ2) Z12.out .nil
 have HP2:=Lib.hid (pas_one (t:=rkQ1) Z13.out P12)
 have HNV:=Lib.hid (show NodeV W (fun _=>True) (.agg #[.int .i64 8,.int .u64 0,.int .u64 0,.int .u64 0,.int .u64 0,.slice (some ⟨w.heap.size+1+1+1+1+1+1,0,none⟩) 1 1,.int .i64 0,.int .i64 0,.int .i64 (-1),.bool false]) rkT from ⟨.slice (some ⟨w.heap.size+1+1+1+1+1+1,0,none⟩) 1 1,by kernel_rfl,HN.out⟩)
 have HSPC:=Lib.hid (fun w9 (hb:Below W.heap.size W w9) g8 (hx8:ScAt w9 g8 rkX) vq (hq:PaV w9 (fun _=>True) vq rkWhole)=>show Calls Tryd.prog 32 #[.agg #[.int .i64 8,.int .u64 0,.int .u64 0,.int .u64 0,.int .u64 0,.slice (some ⟨w.heap.size+1+1+1+1+1+1,0,none⟩) 1 1,.int .i64 0,.int .i64 0,.int .i64 (-1),.bool false],.pointer (some ⟨g8,0,none⟩),vq,.int .i64 2] w9 (SpYes 3 (Rk.shown (Rk.of rkWhole rkT)) w9) from rkspans_yes A rkX g8 rk_sz rkT rk_dp rkWhole 2 (by decide) rk_chk w9 (HE.out.below (HBW.out.trans (hb.mono HBW.out.size))) hx8 (fun _=>True) (fun _=>True) _ _ (HNV.out.later hb) hq)
 clear H2 H3 H5 P8 P9 P12
 refine Ri.wp_region_frame (by kernel_rfl) (by kernel_rfl) (by kernel_rfl) (by kernel_rfl)
   (fun L v w'=>Below W.heap.size W w'∧(L 0=true→v 0=.agg #[.int .i64 8,.int .u64 0,.int .u64 0,.int .u64 0,.int .u64 0,.slice (some ⟨w.heap.size+1+1+1+1+1+1,0,none⟩) 1 1,.int .i64 0,.int .i64 0,.int .i64 (-1),.bool false])∧(L 1=true→ScVL w' (v 1))∧(L 2=true→v 2=.agg #[.int .i64 0,.int .i64 1,.int .i64 0,.slice (some ⟨w.heap.size+1+1+1+1+1+1+1+1+1+1,0,none⟩) 1 1])∧(L 3=true→v 3=.agg #[.int .i64 1,.int .i64 2,.int .i64 0,.slice (some ⟨w.heap.size+1+1+1+1+1+1+1+1+1+1+1+1+1,0,none⟩) 1 1])∧(L 4=true→PaLs w' (v 4))∧(L 5=true→PaVs w' (v 5))∧(L 6=true→SpTup w' (v 6))∧(L 7=true→SpTup w' (v 7))∧(L 8=true→SpSl w' (v 8))∧(L 9=true→v 9=.bool true)∧(L 10=true→SpSl w' (v 10))∧(L 11=true→v 11=.bool true))
   ?_ ?_ ?_
 · exact ⟨(Below.refl _ _).drew,by simp,by simp,by simp,by simp,by simp,by simp,by simp,by simp,by simp,by simp,by simp,by simp⟩
 · intro i hi9 L v w9 xa hI hL hd hv ho
   have hi':i=0 ∨ i=1 ∨ i=2 ∨ i=3 ∨ i=4 ∨ i=5 ∨ i=6 ∨ i=7 ∨ i=8 ∨ i=9 ∨ i=10 ∨ i=11:=by simp at hi9;omega
   obtain ⟨hb,q0,q1,q2,q3,q4,q5,q6,q7,q8,q9,q10,q11⟩:=hI
   rcases hi' with rfl | rfl | rfl | rfl | rfl | rfl | rfl | rfl | rfl | rfl | rfl | rfl
   · have e4:xa.tmps.getD 4 undef=.pointer (some ⟨w.heap.size+1+1+1+1+1+1+1,0,none⟩):=ho 4 (by kernel_rfl)
     refine Ri.step_plain rfl rfl (fun K' hK=>?_)
     obtain ⟨n0,n1,n2,n3,n4,n5,n6,n7,n8,n9⟩:=allTen (keep_blk hb Z7.out)
     go_simp
     exact hK _ _ ⟨_,_,rfl,rfl,hb,fun _=>rfl,q1,q2,q3,q4,q5,q6,q7,q8,q9,q10,q11⟩
   · refine Ri.step_plain rfl rfl (fun K' hK=>?_)
     go_simp
     refine (scnew_any ⟨#[97,98]⟩ 0 0 _).mono ?_
     rintro e w8 ⟨rfl,hx8,hb8,-⟩
     exact hK _ _ ⟨_,_,rfl,rfl,hb.trans (hb8.mono hb.size),q0,fun _=>⟨_,rfl,hx8⟩,q2,q3,fun l=>(q4 l).below hb8,fun l=>(q5 l).below hb8,fun l=>(q6 l).below hb8,fun l=>(q7 l).below hb8,fun l=>(q8 l).below hb8,q9,fun l=>(q10 l).below hb8,q11⟩
   · have e5:xa.tmps.getD 5 undef=.pointer (some ⟨w.heap.size+1+1+1+1+1+1+1+1+1+1+1,0,none⟩):=ho 5 (by kernel_rfl)
     refine Ri.step_plain rfl rfl (fun K' hK=>?_)
     obtain ⟨d0,d1,d2,d3,-,-,-,-⟩:=four (keep_blk hb Z11.out)
     go_simp
     exact hK _ _ ⟨_,_,rfl,rfl,hb,q0,q1,fun _=>rfl,q3,q4,q5,q6,q7,q8,q9,q10,q11⟩
   · have e6:xa.tmps.getD 6 undef=.pointer (some ⟨w.heap.size+1+1+1+1+1+1+1+1+1+1+1+1+1+1,0,none⟩):=ho 6 (by kernel_rfl)
     refine Ri.step_plain rfl rfl (fun K' hK=>?_)
     obtain ⟨d0,d1,d2,d3,-,-,-,-⟩:=four (keep_blk hb Z14.out)
     go_simp
     exact hK _ _ ⟨_,_,rfl,rfl,hb,q0,q1,q2,fun _=>rfl,q4,q5,q6,q7,q8,q9,q10,q11⟩
   · have l0:L 2=true∧L 3=true:=by have:=hd _ rfl;simp [Region.binds] at this;simp [this]
     have f2:=(hv 2 39 rfl l0.1).trans (q2 l0.1)
     have f3:=(hv 3 40 rfl l0.2).trans (q3 l0.2)
     refine Ri.step_plain rfl rfl (fun K' hK=>?_)
     have g39:=(fun s=>(Array.getD_eq_getD_getElem? (xs:=xa.tmps) (i:=39) (d:=undef)).symm.trans s) f2
     have g40:=(fun s=>(Array.getD_eq_getD_getElem? (xs:=xa.tmps) (i:=40) (d:=undef)).symm.trans s) f3
     go_simp
     exact hK _ _ ⟨_,_,rfl,rfl,hb.alloc hb.size _,q0,fun l=>(q1 l).below ((Below.refl _ _).alloc (Nat.le_refl _) _),q2,q3,fun _=>⟨_,rfl,pas_two (t:=rkOne) (u:=rkTwo) (s:=.slice (some ⟨w.heap.size+1+1+1+1+1+1+1+1+1+1,0,none⟩) 1 1) (r:=.slice (some ⟨w.heap.size+1+1+1+1+1+1+1+1+1+1+1+1+1,0,none⟩) 1 1) (heap_alloc_new _ _) ((HP1.out.later hb).later ((Below.refl _ _).alloc (Nat.le_refl _) _)) ((HP2.out.later hb).later ((Below.refl _ _).alloc (Nat.le_refl _) _))⟩,fun l=>(q5 l).below ((Below.refl _ _).alloc (Nat.le_refl _) _),fun l=>(q6 l).below ((Below.refl _ _).alloc (Nat.le_refl _) _),fun l=>(q7 l).below ((Below.refl _ _).alloc (Nat.le_refl _) _),fun l=>(q8 l).below ((Below.refl _ _).alloc (Nat.le_refl _) _),q9,fun l=>(q10 l).below ((Below.refl _ _).alloc (Nat.le_refl _) _),q11⟩
   · have l0:L 4=true:=by have:=hd _ rfl;simp [Region.binds] at this;simp [this]
     have f4:=hv 4 41 rfl l0
     refine Ri.step_plain rfl rfl (fun K' hK=>?_)
     obtain ⟨g8,e8,hp8⟩:=(q4 l0)
     have f41':=f4.trans e8
     have g41:=(fun s=>(Array.getD_eq_getD_getElem? (xs:=xa.tmps) (i:=41) (d:=undef)).symm.trans s) f41'
     go_simp
     exact hK _ _ ⟨_,_,rfl,rfl,hb,q0,q1,q2,q3,q4,fun _=>⟨g8,rfl,hp8⟩,q6,q7,q8,q9,q10,q11⟩
   · have l0:L 0=true∧L 1=true∧L 5=true:=by have:=hd _ rfl;simp [Region.binds] at this;simp [this]
     have f0:=(hv 0 37 rfl l0.1).trans (q0 l0.1)
     have f1:=hv 1 38 rfl l0.2.1
     have f5:=hv 5 42 rfl l0.2.2
     refine Ri.step_plain rfl rfl (fun K' hK=>?_)
     obtain ⟨g8,e8,hx8⟩:=(q1 l0.2.1)
     obtain ⟨s8,e9,hp8⟩:=(q5 l0.2.2)
     rw [e8] at f1
     rw [e9] at f5
     have hq8:=paw_of hp8
     clear e8 e9 hp8
     go_simp
     refine (HSPC.out _ hb g8 hx8 _ hq8).mono ?_
     rintro e w8 ⟨g9,rfl,hg9,hsp9,hb8⟩
     exact hK _ _ ⟨_,_,rfl,rfl,hb.trans (hb8.mono hb.size),q0,fun l=>(q1 l).below hb8,q2,q3,fun l=>(q4 l).below hb8,fun l=>(q5 l).below hb8,fun _=>⟨g9,rfl,hsp9⟩,fun l=>(q7 l).below hb8,fun l=>(q8 l).below hb8,q9,fun l=>(q10 l).below hb8,q11⟩
   · have l0:L 6=true:=by have:=hd _ rfl;simp [Region.binds] at this;simp [this]
     have f6:=hv 6 43 rfl l0
     refine Ri.step_plain rfl rfl (fun K' hK=>?_)
     have hq9:=(q6 l0)
     go_simp
     exact hK _ _ ⟨_,_,rfl,rfl,hb,q0,q1,q2,q3,q4,q5,q6,fun _=>hq9,q8,q9,q10,q11⟩
   · have l0:L 7=true:=by have:=hd _ rfl;simp [Region.binds] at this;simp [this]
     have f7:=hv 7 36 rfl l0
     refine Ri.step_plain rfl rfl (fun K' hK=>?_)
     obtain ⟨g8,e8,hh8⟩:=(q7 l0)
     have f36:=f7.trans e8
     go_simp
     exact hK _ _ ⟨_,_,rfl,rfl,hb,q0,q1,q2,q3,q4,q5,q6,q7,fun _=>⟨g8,rfl,hh8⟩,q9,q10,q11⟩
   · have l0:L 7=true:=by have:=hd _ rfl;simp [Region.binds] at this;simp [this]
     have f7:=hv 7 36 rfl l0
     refine Ri.step_plain rfl rfl (fun K' hK=>?_)
     obtain ⟨g8,e8,hh8⟩:=(q7 l0)
     have f36:=f7.trans e8
     go_simp
     exact hK _ _ ⟨_,_,rfl,rfl,hb,q0,q1,q2,q3,q4,q5,q6,q7,q8,fun _=>rfl,q10,q11⟩
   · have l0:L 8=true:=by have:=hd _ rfl;simp [Region.binds] at this;simp [this]
     have f8:=hv 8 44 rfl l0
     refine Ri.step_plain rfl rfl (fun K' hK=>?_)
     have hq9:=(q8 l0)
     go_simp
     exact hK _ _ ⟨_,_,rfl,rfl,hb,q0,q1,q2,q3,q4,q5,q6,q7,q8,q9,fun _=>hq9,q11⟩
   · have l0:L 9=true:=by have:=hd _ rfl;simp [Region.binds] at this;simp [this]
     have f9:=(hv 9 45 rfl l0).trans (q9 l0)
     refine Ri.step_plain rfl rfl (fun K' hK=>?_)
     go_simp
     exact hK _ _ ⟨_,_,rfl,rfl,hb,q0,q1,q2,q3,q4,q5,q6,q7,q8,q9,q10,fun _=>rfl⟩
 · rintro v w9 ⟨hb,-,-,-,-,-,-,-,-,-,-,q10,q11⟩
   have q11':v 11=.bool true:=q11 rfl
   have E10:=Lib.hid (q10 rfl)
   simp only [Ri.frame,List.zipIdx,List.foldl_cons,List.foldl_nil,if_true,List.setIfInBounds_toArray,List.set_cons_zero,List.set_cons_succ,Nat.reduceAdd,q11']
   clear q11 q11' q10
   generalize v 0=y0;generalize v 1=y1;generalize v 2=y2;generalize v 3=y3;generalize v 4=y4;generalize v 5=y5;generalize v 6=y6;generalize v 7=y7;generalize v 8=y8;generalize v 9=y9;generalize v 10=y10 at *
   obtain ⟨g,rfl,hg⟩:=E10.out
   have HSP:=Lib.hid (SpsAt.of hg)
   rw [rk_spans] at HSP
   have HB:=Lib.hid (HBW.out.trans (hb.mono HBW.out.size));have X11:=Lib.hid (keep_blk hb Z11.out);have X14:=Lib.hid (keep_blk hb Z14.out)
   have Q1:=Lib.hid (HP1.out.later hb);have Q2:=Lib.hid (HP2.out.later hb)
   clear hg hb E10 Z0 Z1 Z2 Z3 Z4 Z5 Z6 Z7 Z8 Z9 Z10 Z11 Z12 Z13 Z14 HN HP1 HP2 HBW HE
   go_wp2_with fail
   have HLT:=Lib.hid (heap_alloc_new w9 (.cells #[.int .i64 0,.int .i64 2,.int .i64 1,.int .i64 2,.int .i64 (-1),.int .i64 (-1)] 70))
   have HBA:=Lib.hid (show Below w9.heap.size w9 (w9.alloc (.cells #[.int .i64 0,.int .i64 2,.int .i64 1,.int .i64 2,.int .i64 (-1),.int .i64 (-1)] 70)) from (Below.refl _ _).alloc (Nat.le_refl _) _)
   generalize w9.alloc (.cells #[.int .i64 0,.int .i64 2,.int .i64 1,.int .i64 2,.int .i64 (-1),.int .i64 (-1)] 70)=w10 at *
   have HSA:=Lib.hid (HSP.out.below HBA.out)
   have HSB:=Lib.hid (show SpsAt w10 (.slice (some ⟨w9.heap.size,0,none⟩) 3 3) [(0,2),(1,2),(-1,-1)] from ⟨_,3,rfl,fun i s hi=>by
     have hl:=(Array.getElem?_eq_some_iff.1 HLT.out).1
     match i,hi with
     | 0,hi=>simp at hi;subst hi;exact ⟨_,0,rfl,hl,by unfold World.cell?;rw [HLT.out];rfl,by unfold World.cell?;rw [HLT.out];rfl⟩
     | 1,hi=>simp at hi;subst hi;exact ⟨_,0,rfl,hl,by unfold World.cell?;rw [HLT.out];rfl,by unfold World.cell?;rw [HLT.out];rfl⟩
     | 2,hi=>simp at hi;subst hi;exact ⟨_,0,rfl,hl,by unfold World.cell?;rw [HLT.out];rfl,by unfold World.cell?;rw [HLT.out];rfl⟩⟩)
   have HB2:=Lib.hid (HB.out.trans (HBA.out.mono HB.out.size));have V11:=Lib.hid (keep_blk HBA.out X11.out);have V14:=Lib.hid (keep_blk HBA.out X14.out)
   have U1:=Lib.hid (Q1.out.later HBA.out);have U2:=Lib.hid (Q2.out.later HBA.out)
   clear HLT HSP HBA HB X11 X14 Q1 Q2
   refine (samespans_any [(0,2),(1,2),(-1,-1)] [(0,2),(1,2),(-1,-1)] (by decide) (by decide) _ _ _ HSA.out HSB.out).mono ?_
   rintro e w11 ⟨rfl,hb11⟩
   have HB3:=Lib.hid (HB2.out.trans (hb11.mono HB2.out.size));have V11':=Lib.hid (keep_blk hb11 V11.out);have V14':=Lib.hid (keep_blk hb11 V14.out)
   have U1':=Lib.hid (U1.out.later hb11);have U2':=Lib.hid (U2.out.later hb11)
   clear hb11 V11 V14 U1 U2 HB2 HSA HSB
   rw [show decide ([((0:Int),(2:Int)),(1,2),(-1,-1)]=[(0,2),(1,2),(-1,-1)])=true from by decide]
   obtain ⟨d0,d1,d2,d3,-,-,-,-⟩:=four V11'.out
   obtain ⟨e0,e1,e2,e3,-,-,-,-⟩:=four V14'.out
   have HCMP:=Lib.hid (compare_any rkOne rkTwo w11 (fun _=>True) (fun _=>True) (.agg #[.int .i64 0,.int .i64 1,.int .i64 0,.slice (some ⟨w.heap.size+1+1+1+1+1+1+1+1+1+1,0,none⟩) 1 1]) (.agg #[.int .i64 1,.int .i64 2,.int .i64 0,.slice (some ⟨w.heap.size+1+1+1+1+1+1+1+1+1+1+1+1+1,0,none⟩) 1 1]) ⟨_,rfl,U1'.out⟩ ⟨_,rfl,U2'.out⟩)
   rw [rk_cmp] at HCMP
   go_wp2_with fail
   refine HCMP.out.mono ?_
   rintro e w12 ⟨rfl,hb12⟩
   have HB4:=Lib.hid (HB3.out.trans (hb12.mono HB3.out.size))
   clear hb12 d0 d1 d2 d3 e0 e1 e2 e3
   go_wp2
   go_ret
   exact ⟨rfl,HB4.out⟩
end Go.Proofs.YtnaoiglbjkjogaaDoor
namespace Go.Proofs.YtnaoiglbjkjogaaDoor
open Go.RowKit
theorem Tryd.infoIntI:(Tryd.prog.info? 3).map (fun i=>(i.zero,i.size,i.bytes))=some (some (.int .i64 0),1,8):=by kernel_rfl
def intCells (l:List Nat):List Value:=l.map fun (n:Nat)=>.int .i64 (n:Int)
theorem intCells_len (l:List Nat):(intCells l).length=l.length:=by unfold intCells;simp
theorem intCells_append (l m:List Nat):intCells (l ++ m)=intCells l ++ intCells m:=by unfold intCells;rw [List.map_append]
theorem intCells_get (l:List Nat) (i:Nat) (k:Nat) (h:l[i]? = some k):(intCells l)[i]? = some (.int .i64 (k:Int)):=by unfold intCells;rw [List.getElem?_map,h];rfl
def IR (B:Nat) (w:World) (v:Value) (l:List Nat):Prop:=w.ownsRow B 3 1 v l.length (intCells l)
theorem IR.nil (B:Nat) (w:World):IR B w (.slice none 0 0) []:=World.ownsRow_nil _ _ _ _
theorem IR.below {B:Nat} {w w':World} {v:Value} {l:List Nat} (h:IR B w v l) (hb:Below w.heap.size w w'):IR B w' v l :=
 World.ownsRow.kept h (row:=none) ⟨hb.os,hb.tape,hb.output,hb.size,fun k hk _=>hb.block k hk⟩ (by
   cases h:Value.ownBlock v with
   | none=>exact .inl rfl
   | some g=>exact .inr (by simp))
theorem IR.mono {B B':Nat} {w:World} {v:Value} {l:List Nat} (h:IR B w v l) (hb:B' ≤ B):IR B' w v l :=
 ⟨h.1,h.2.imp id fun ⟨g,cap,cur,h1,h2,h3⟩=>⟨g,cap,cur,h1,Nat.le_trans hb h2,h3⟩⟩
theorem wp_appI {w:World} {B:Nat} {v:Value} {l:List Nat} {ops:Array Oper} {rest:List Oper} {o:Oper} {a:Act} {Q:Exit→Act→World→Prop} (hgd:o.guard=none) (s x:Operand)
   (ho:o.op=.call { callee:=.builtin .append,args:=#[s,x],argTypes:=#[50,50] }) (c:Nat) (g:Nat) (hs:a.eval s=v) (hx:a.eval x=.slice (some ⟨g,0,none⟩) 1 1)
   (hg:w.cell? ⟨g,0,none⟩=some (.int .i64 (c:Int))) (hrow:IR B w v l) (hB:B ≤ w.heap.size) (hlen:l.length ≤ 1000000)
   (h:∀ v' w',IR B w' v' (l ++ [c])→Below B w w'→wpList Tryd.prog ops Q rest (a.put o.dst v') w'):wpList Tryd.prog ops Q (o :: rest) a w:=by
 obtain ⟨ie,hi,hz0,hz1,hz2⟩:=info_parts Tryd.infoIntI
 refine wpList_append_own w hgd s x 50 ho B 3 ie _ 1 8 Tryd.underlying50 hi hz0 hz1 hz2 rfl (by decide) v l.length _ hs hrow ⟨g,0,none⟩ 1 1 [.int .i64 (c:Int)] hx rfl ?_ ?_ (by unfold maxLen;omega) (by omega) hB ?_
 · intro j u hj
   match j,hj with
   | 0,hj=>simp at hj;subst hj;exact hg
 · intro u hu;simp at hu;subst hu;rfl
 · intro v' w' hown hgr _
   refine h v' w' ?_ ((Below.refl B w).grown hgr hB (fun k hk=>(World.ownsRow.lt hrow k hk).1))
   unfold IR
   rw [intCells_append,List.length_append]
   exact hown
end Go.Proofs.YtnaoiglbjkjogaaDoor
namespace Go.Proofs.YtnaoiglbjkjogaaDoor
open Go.RowKit
theorem intCells_one (l:List Nat):∀ u ∈ intCells l,u.oneCell'=true:=by
 intro u hu
 unfold intCells at hu
 obtain ⟨n,-,rfl⟩:=List.mem_map.1 hu
 rfl
theorem wp_appIs {w:World} {B B2:Nat} {v x2:Value} {l m:List Nat} {ops:Array Oper} {rest:List Oper} {o:Oper} {a:Act} {Q:Exit→Act→World→Prop} (hgd:o.guard=none) (s x:Operand)
   (ho:o.op=.call { callee:=.builtin .append,args:=#[s,x],argTypes:=#[50,50] }) (hs:a.eval s=v) (hx:a.eval x=x2)
   (hrow2:IR B2 w x2 m) (hrow:IR B w v l) (hB:B ≤ w.heap.size) (hlen:l.length+m.length ≤ 1000000)
   (h:∀ v' w',IR B w' v' (l ++ m)→Below B w w'→wpList Tryd.prog ops Q rest (a.put o.dst v') w'):wpList Tryd.prog ops Q (o :: rest) a w:=by
 obtain ⟨ie,hi,hz0,hz1,hz2⟩:=info_parts Tryd.infoIntI
 have hcells:=fun g hv=>World.ownsRow.cells hrow2 (g:=g) hv
 have key:∃ p c,x2=.slice p m.length c∧(p=none→m.length=0∧c=0)∧∀ ad,p=some ad→∀ j u,(intCells m)[j]? = some u→w.cell? (ad.add j)=some u:=by
   rcases hrow2.2 with ⟨rfl,hn0⟩ | ⟨g,cap,cur,rfl,hbg,hheap,-⟩
   · exact ⟨none,0,by rw [hn0],fun _=>⟨hn0,rfl⟩,(fun ad e=>by cases e)⟩
   · exact ⟨some ⟨g,0,none⟩,cap,rfl,(fun e=>nomatch e),(fun ad e j u hj=>by rw [← Option.some.inj e];exact hcells g rfl j u hj)⟩
 obtain ⟨p,c,rfl,hp,hc⟩:=key
 refine append_both w hgd s x 50 ho B 3 ie _ 1 8 Tryd.underlying50 hi hz0 hz1 hz2 rfl (by decide) v l.length _ hs hrow p m.length c (intCells m) hx hp (by rw [intCells_len];omega) hc (intCells_one m) (by unfold maxLen;omega) (by omega) hB ?_
 intro v' w' hown hgr _
 refine h v' w' ?_ ((Below.refl B w).grown hgr hB (fun k hk=>(World.ownsRow.lt hrow k hk).1))
 unfold IR
 rw [intCells_append,List.length_append]
 exact hown
def Rk.numsN (t:Tr):List Nat:=(Rk.nums t).map Int.toNat
def Rk.numsNS (l:List Tr):List Nat:=(Rk.numsS l).map Int.toNat
theorem Rk.numsN_len (t:Tr):(Rk.numsN t).length=(Rk.nums t).length:=by unfold Rk.numsN;simp
theorem Rk.numsNS_snoc (l:List Tr) (x:Tr):Rk.numsNS (l ++ [x])=Rk.numsNS l ++ Rk.numsN x:=by
 unfold Rk.numsNS Rk.numsN;rw [Rk.numsS_append,List.map_append]
 show _ ++ List.map Int.toNat (Rk.nums x ++ Rk.numsS [])=_
 rw [show Rk.numsS []=[] from rfl,List.append_nil]
theorem Rk.numsS_take (l:List Tr) (i:Nat):(Rk.numsS (l.take i)).length ≤ (Rk.numsS l).length:=by
 have:Rk.numsS l=Rk.numsS (l.take i) ++ Rk.numsS (l.drop i):=by rw [← Rk.numsS_append,List.take_append_drop]
 rw [this,List.length_append];omega
theorem Rk.nums_len_sub {t u:Tr} (h:u ∈ t.subs):(Rk.nums u).length ≤ (Rk.nums t).length:=by
 have key:∀ l:List Tr,u ∈ l→(Rk.nums u).length ≤ (Rk.numsS l).length:=by
   intro l
   induction l with
   | nil=>intro h;cases h
   | cons a l ih =>
     intro h
     rw [Rk.numsS,List.length_append]
     rcases List.mem_cons.1 h with rfl | h
     · omega
     · have:=ih h;omega
 have h1:=key _ h
 rw [Rk.nums_eq t];split
 · rw [List.length_cons];omega
 · exact h1
theorem rrknumbers_any:∀ t:Tr,t.InForm→(Rk.nums t).length ≤ 500000→∀ (w:World) (B:Nat→Prop) (v:Value),NodeV w B v t →
   Calls Tryd.prog 126 #[v] w fun e w'=>∃ v',e=.returned v'∧IR w.heap.size w' v' (Rk.numsN t)∧Below w.heap.size w w':=by
 intro t
 induction t using Tr.rec_subs with
 | h t ih =>
   intro hform hlen w B v hv
   obtain ⟨s,rfl,hs⟩:=hv
   obtain ⟨p,cap,rfl,hl96⟩:=hs.slice
   have hnum:t.kind=7→1 ≤ t.num∧t.num ≤ 999:=fun h7=>Rk.nums_pos t hform t.num (by rw [Rk.nums_eq,if_pos h7];exact List.mem_cons_self)
   have IH:=Lib.hid (fun u (hu:u ∈ t.subs)=>ih u hu (hform.sub hu) (Nat.le_trans (Rk.nums_len_sub hu) hlen))
   have hN:Rk.numsN t=(if t.kind=7 then [t.num.toNat] else []) ++ Rk.numsNS t.subs:=by
     unfold Rk.numsN Rk.numsNS;rw [Rk.nums_eq];split <;> rfl
   have hlenS:(Rk.numsS t.subs).length ≤ 500000:=by
     rw [Rk.nums_eq] at hlen;split at hlen
     · rw [List.length_cons] at hlen;omega
     · exact hlen
   rw [hN]
   unfold Tr.cells
   generalize hts:t.subs=ts at *
   have HS:=Lib.hid hs;have HLS:=Lib.hid hlenS
   clear ih hs hts hform hlen hN hlenS
   have YB:=Lib.hid (heap_alloc_new w (.cells #[.int .i64 t.kind,.int .u64 (Oc.U t.w0),.int .u64 (Oc.U t.w1),.int .u64 (Oc.U t.w2),.int .u64 (Oc.U t.w3),.slice p ts.length cap,.int .i64 t.num,.int .i64 t.least,.int .i64 t.most,.bool t.bare] 37))
   have HBW:=Lib.hid (show Below w.heap.size w (w.alloc (.cells #[.int .i64 t.kind,.int .u64 (Oc.U t.w0),.int .u64 (Oc.U t.w1),.int .u64 (Oc.U t.w2),.int .u64 (Oc.U t.w3),.slice p ts.length cap,.int .i64 t.num,.int .i64 t.least,.int .i64 t.most,.bool t.bare] 37)) from (Below.refl _ _).alloc (Nat.le_refl _) _)
   have HSZ:=Lib.hid (show (w.alloc (.cells #[.int .i64 t.kind,.int .u64 (Oc.U t.w0),.int .u64 (Oc.U t.w1),.int .u64 (Oc.U t.w2),.int .u64 (Oc.U t.w3),.slice p ts.length cap,.int .i64 t.num,.int .i64 t.least,.int .i64 t.most,.bool t.bare] 37)).heap.size=w.heap.size+1 by simp)
   by_cases h7:t.kind=7
   case pos =>
     have e7:(t.kind == 7)=true:=by simpa using h7
     obtain ⟨kn,hkn⟩:∃ kn:Nat,t.num=kn:=⟨t.num.toNat,by have:=hnum h7;omega⟩
     rw [if_pos h7]
     rw [hkn] at YB HBW HSZ ⊢
     rw [Int.toNat_natCast]
     clear h7 hnum hkn
     generalize hPRE:[kn]=pre
     go_enter Tryd.func126,Tryd.ntmps126
     go_upto_region 3 with (fail)
     generalize hW0:World.alloc w _=W0 at *
     have Y0:=YB;have HB0:=HBW;have HZ0:=HSZ
     clear hW0 YB HBW HSZ
     obtain ⟨n0,n1,n2,n3,n4,n5,n6,n7,n8,n9⟩:=allTen Y0.out
     have HZ1:=Lib.hid (show (W0.alloc (.cells #[.int .i64 (kn:Int)] 3)).heap.size=W0.heap.size+1 by simp)
     have HB1:=Lib.hid (show Below w.heap.size w (W0.alloc (.cells #[.int .i64 (kn:Int)] 3)) from HB0.out.alloc HB0.out.size _)
     have Y1:=Lib.hid (heap_alloc_lt (o:=.cells #[.int .i64 (kn:Int)] 3) Y0.out)
     go_wp2_with (first
       | (refine wp_appI rfl (.tmp 8) (.tmp 11) rfl kn W0.heap.size rfl rfl (by rw [cell_new];rfl) (IR.nil (w.heap.size+1) _) (by simp;have:=HZ0.out;omega) (by simp) ?_;intro v3 w3 hir3 hb3;have HIR3:=Lib.hid hir3;have HB3:=Lib.hid (HB1.out.trans (hb3.mono (by omega)));have Y3:=Lib.hid (show w3.heap[w.heap.size]? = _ from (hb3.block _ (by omega)).trans Y1.out);clear hir3 hb3)
       | fail)
     clear n0 n1 n2 n3 n4 n5 n6 n7 n8 n9
     rw [List.nil_append,hPRE] at HIR3
     have HPL:=Lib.hid (show pre.length ≤ 1 by rw [← hPRE];simp)
     clear hPRE
     go_loopw [3,4] (fun lv iv wr=>∃ i:Nat,iv=.int .i64 (i:Int)∧i ≤ ts.length∧Hid (IR (w.heap.size+1) wr lv (pre ++ Rk.numsNS (ts.take i)))∧Hid (Below w.heap.size w wr)∧Hid (wr.heap[w.heap.size]? = some (.cells #[.int .i64 t.kind,.int .u64 (Oc.U t.w0),.int .u64 (Oc.U t.w1),.int .u64 (Oc.U t.w2),.int .u64 (Oc.U t.w3),.slice p ts.length cap,.int .i64 (kn:Int),.int .i64 t.least,.int .i64 t.most,.bool t.bare] 37))) (fun _ iv _=>ts.length - (intOf iv).toNat)
     case atStart=>exact ⟨0,rfl,Nat.zero_le _,Lib.hid (by rw [List.take_zero];exact (List.append_nil pre).symm ▸ HIR3.out),HB3,Y3⟩
     case round =>
       obtain ⟨i,rfl,hi0,HI,HB,Y⟩:=hrel
       clear HIR3 HB3 Y3
       have wi:IntKind.i64.wrap ((i:Int)+1)=(i:Int)+1:=IntWalk.i64_in _ (by omega)
       obtain ⟨n0,n1,n2,n3,n4,n5,n6,n7,n8,n9⟩:=allTen Y.out
       have HYS:=Lib.hid (Array.getElem?_eq_some_iff.1 Y.out).1
       by_cases hlt:i < ts.length
       · have hltd:decide ((i:Int) < (ts.length:Int))=true:=decide_eq_true (by omega)
         obtain ⟨x,hx⟩:∃ x,ts[i]? = some x:=⟨_,List.getElem?_eq_getElem hlt⟩
         obtain ⟨b1,o1,s1,rfl,-,t1,sub1⟩:=HS.out.get hx
         obtain ⟨d0,d1,d2,d3,d4,d5,d6,d7,d8,d9⟩:=t1.keep (HB.out.block _ t1.lt)
         obtain ⟨p1,c1,rfl,-⟩:=sub1.slice
         have HC:=Lib.hid (IH.out x (List.mem_of_getElem? hx) wr B (.agg (x.cells (.slice p1 x.subs.length c1))) ⟨_,rfl,sub1.later HB.out⟩)
         unfold Tr.cells at HC
         have HT:=Lib.hid (show Rk.numsNS (ts.take (i+1))=Rk.numsNS (ts.take i) ++ Rk.numsN x by rw [List.take_add_one,hx];exact Rk.numsNS_snoc _ _)
         have HTL:=Lib.hid (show (pre ++ Rk.numsNS (ts.take i)).length+(Rk.numsN x).length ≤ 1000000 by
           have h1:=Rk.numsS_take ts (i+1)
           have h2:(Rk.numsNS (ts.take (i+1))).length ≤ 500000:=by unfold Rk.numsNS;rw [List.length_map];exact Nat.le_trans h1 HLS.out
           rw [HT.out,List.length_append] at h2
           rw [List.length_append];have:=HPL.out;omega)
         clear t1 sub1 hx
         go_wp2_with fail
         refine HC.out.mono ?_
         rintro e w2 ⟨v2,rfl,hi2,hb2⟩
         have HI2:=Lib.hid hi2;have HIK:=Lib.hid (HI.out.below (hb2));have HB2:=Lib.hid (HB.out.trans (hb2.mono HB.out.size));have Y2:=Lib.hid (keep_blk hb2 Y.out)
         have HS2:=Lib.hid hb2.size
         clear hi2 hb2 n0 n1 n2 n3 n4 n5 n6 n7 n8 n9 d0 d1 d2 d3 d4 d5 d6 d7 d8 d9 HC
         obtain ⟨m0,m1,m2,m3,m4,m5,m6,m7,m8,m9⟩:=allTen Y2.out
         go_wp2_with (first
           | (refine wp_appIs rfl (.tmp 20) (.tmp 26) rfl rfl rfl HI2.out HIK.out (by have:=HYS.out;have:=HS2.out;omega) HTL.out ?_;intro v4 w4 hir4 hb4;have HIR4:=Lib.hid hir4;have HB4:=Lib.hid (HB2.out.trans (hb4.mono (by omega)));have Y4:=Lib.hid (show w4.heap[w.heap.size]? = _ from (hb4.block _ (by omega)).trans Y2.out);clear hir4 hb4)
           | fail)
         exact ⟨⟨i+1,by go_num,by omega,Lib.hid (by rw [HT.out,← List.append_assoc];exact HIR4.out),HB4,Y4⟩,by simp [intOf];omega⟩
       · obtain rfl:i=ts.length:=by omega
         have hltd:decide ((ts.length:Int) < (ts.length:Int))=false:=decide_eq_false (by omega)
         have HI2:=Lib.hid (show IR (w.heap.size+1) wr u3 (pre ++ Rk.numsNS ts) by have:=HI.out;rw [List.take_length] at this;exact this)
         clear HI hlt
         go_wp2
         go_ret
         exact ⟨_,rfl,HI2.out.mono (by omega),HB.out⟩
   case neg =>
     have e7:(t.kind == 7)=false:=by simpa using h7
     rw [if_neg h7]
     obtain ⟨kn,hkn⟩:∃ kn:Int,t.num=kn:=⟨_,rfl⟩
     rw [hkn] at YB HBW HSZ ⊢
     clear h7 hnum hkn
     generalize hPRE:([]:List Nat)=pre
     go_enter Tryd.func126,Tryd.ntmps126
     go_wp2
     generalize hW0:World.alloc w _=w3 at *
     have Y3:=YB;have HB3:=HBW
     have HIR3:=Lib.hid (show IR (w.heap.size+1) w3 (.slice none 0 0) pre from hPRE ▸ IR.nil _ _)
     clear hW0 YB HBW HSZ
     have HPL:=Lib.hid (show pre.length ≤ 1 by rw [← hPRE];simp)
     clear hPRE
     go_loopw [3,4] (fun lv iv wr=>∃ i:Nat,iv=.int .i64 (i:Int)∧i ≤ ts.length∧Hid (IR (w.heap.size+1) wr lv (pre ++ Rk.numsNS (ts.take i)))∧Hid (Below w.heap.size w wr)∧Hid (wr.heap[w.heap.size]? = some (.cells #[.int .i64 t.kind,.int .u64 (Oc.U t.w0),.int .u64 (Oc.U t.w1),.int .u64 (Oc.U t.w2),.int .u64 (Oc.U t.w3),.slice p ts.length cap,.int .i64 kn,.int .i64 t.least,.int .i64 t.most,.bool t.bare] 37))) (fun _ iv _=>ts.length - (intOf iv).toNat)
     case atStart=>exact ⟨0,rfl,Nat.zero_le _,Lib.hid (by rw [List.take_zero];exact (List.append_nil pre).symm ▸ HIR3.out),HB3,Y3⟩
     case round =>
       obtain ⟨i,rfl,hi0,HI,HB,Y⟩:=hrel
       clear HIR3 HB3 Y3
       have wi:IntKind.i64.wrap ((i:Int)+1)=(i:Int)+1:=IntWalk.i64_in _ (by omega)
       obtain ⟨n0,n1,n2,n3,n4,n5,n6,n7,n8,n9⟩:=allTen Y.out
       have HYS:=Lib.hid (Array.getElem?_eq_some_iff.1 Y.out).1
       by_cases hlt:i < ts.length
       · have hltd:decide ((i:Int) < (ts.length:Int))=true:=decide_eq_true (by omega)
         obtain ⟨x,hx⟩:∃ x,ts[i]? = some x:=⟨_,List.getElem?_eq_getElem hlt⟩
         obtain ⟨b1,o1,s1,rfl,-,t1,sub1⟩:=HS.out.get hx
         obtain ⟨d0,d1,d2,d3,d4,d5,d6,d7,d8,d9⟩:=t1.keep (HB.out.block _ t1.lt)
         obtain ⟨p1,c1,rfl,-⟩:=sub1.slice
         have HC:=Lib.hid (IH.out x (List.mem_of_getElem? hx) wr B (.agg (x.cells (.slice p1 x.subs.length c1))) ⟨_,rfl,sub1.later HB.out⟩)
         unfold Tr.cells at HC
         have HT:=Lib.hid (show Rk.numsNS (ts.take (i+1))=Rk.numsNS (ts.take i) ++ Rk.numsN x by rw [List.take_add_one,hx];exact Rk.numsNS_snoc _ _)
         have HTL:=Lib.hid (show (pre ++ Rk.numsNS (ts.take i)).length+(Rk.numsN x).length ≤ 1000000 by
           have h1:=Rk.numsS_take ts (i+1)
           have h2:(Rk.numsNS (ts.take (i+1))).length ≤ 500000:=by unfold Rk.numsNS;rw [List.length_map];exact Nat.le_trans h1 HLS.out
           rw [HT.out,List.length_append] at h2
           rw [List.length_append];have:=HPL.out;omega)
         clear t1 sub1 hx
         go_wp2_with fail
         refine HC.out.mono ?_
         rintro e w2 ⟨v2,rfl,hi2,hb2⟩
         have HI2:=Lib.hid hi2;have HIK:=Lib.hid (HI.out.below (hb2));have HB2:=Lib.hid (HB.out.trans (hb2.mono HB.out.size));have Y2:=Lib.hid (keep_blk hb2 Y.out)
         have HS2:=Lib.hid hb2.size
         clear hi2 hb2 n0 n1 n2 n3 n4 n5 n6 n7 n8 n9 d0 d1 d2 d3 d4 d5 d6 d7 d8 d9 HC
         obtain ⟨m0,m1,m2,m3,m4,m5,m6,m7,m8,m9⟩:=allTen Y2.out
         go_wp2_with (first
           | (refine wp_appIs rfl (.tmp 20) (.tmp 26) rfl rfl rfl HI2.out HIK.out (by have:=HYS.out;have:=HS2.out;omega) HTL.out ?_;intro v4 w4 hir4 hb4;have HIR4:=Lib.hid hir4;have HB4:=Lib.hid (HB2.out.trans (hb4.mono (by omega)));have Y4:=Lib.hid (show w4.heap[w.heap.size]? = _ from (hb4.block _ (by omega)).trans Y2.out);clear hir4 hb4)
           | fail)
         exact ⟨⟨i+1,by go_num,by omega,Lib.hid (by rw [HT.out,← List.append_assoc];exact HIR4.out),HB4,Y4⟩,by simp [intOf];omega⟩
       · obtain rfl:i=ts.length:=by omega
         have hltd:decide ((ts.length:Int) < (ts.length:Int))=false:=decide_eq_false (by omega)
         have HI2:=Lib.hid (show IR (w.heap.size+1) wr u3 (pre ++ Rk.numsNS ts) by have:=HI.out;rw [List.take_length] at this;exact this)
         clear HI hlt
         go_wp2
         go_ret
         exact ⟨_,rfl,HI2.out.mono (by omega),HB.out⟩
end Go.Proofs.YtnaoiglbjkjogaaDoor
namespace Go.Proofs.YtnaoiglbjkjogaaDoor
open Go.RowKit
theorem Rk.none_le:∀ l:List Pa,Rk.none? l ≤ l.length
 | []=>Nat.le_refl _
 | q :: l=>by rw [Rk.none?,List.length_cons];have:=Rk.none_le l;split <;> omega
theorem rrkrow_any (ts:List Pa) (lo hi:Int) (w:World) (B:Nat→Prop) (v:Value) (hv:PasAt w B v ts):Calls Tryd.prog 98 #[v,.int .i64 lo,.int .i64 hi] w fun e w'=>e=.returned (.bool (Rk.rowB ts lo hi))∧Below w.heap.size w w':=by
 obtain ⟨p,cap,rfl,hlen⟩:=hv.slice
 have HS:=Lib.hid hv
 clear hv
 obtain ⟨R,hR⟩:∃ R,Rk.rowB ts lo hi=R:=⟨_,rfl⟩
 rw [hR]
 have HR:=Lib.hid hR
 clear hR
 go_enter Tryd.func98,Tryd.ntmps98
 go_wp2
 go_loopw [1,7] (fun av iv wr=>∃ (i:Nat) (a:Int),iv=.int .i64 i∧av=.int .i64 a∧i ≤ ts.length∧Hid (Rk.rowB (ts.drop i) a hi=R)∧Hid (Below w.heap.size w wr)) (fun _ iv _=>ts.length - (intOf iv).toNat)
 case atStart=>exact ⟨0,lo,rfl,rfl,Nat.zero_le _,by rw [List.drop_zero];exact HR,Lib.hid (Below.refl _ _)⟩
 case round =>
   obtain ⟨i,a,rfl,rfl,hi0,HL,HB⟩:=hrel
   have wi:IntKind.i64.wrap ((i:Int)+1)=(i:Int)+1:=IntWalk.i64_in _ (by omega)
   by_cases hlt:i < ts.length
   · have hlt2:(i:Int) < (ts.length:Int):=by omega
     obtain ⟨x,hx⟩:∃ x,ts[i]? = some x:=⟨_,List.getElem?_eq_getElem hlt⟩
     obtain ⟨b1,o1,s1,rfl,-,t1,sub1⟩:=HS.out.get hx
     obtain ⟨p1,c1,rfl,-⟩:=sub1.slice
     obtain ⟨e0,e1,e2,e3⟩:=t1.keep (HB.out.block _ t1.lt)
     have hdr:ts.drop i=x :: ts.drop (i+1):=by
       rw [List.drop_eq_getElem_cons hlt,(List.getElem?_eq_some_iff.1 hx).2]
     have hl:=HL.out
     rw [hdr,Rk.rowB] at hl
     have HL2:=Lib.hid hl
     clear t1 sub1 hx hdr hl HL
     by_cases hxa:x.lo=a
     · have f1:(x.lo != a)=false:=by simpa using hxa
       by_cases hxb:x.hi < a
       · have f2:decide (x.hi < a)=true:=decide_eq_true hxb
         have HL3:=Lib.hid (show false=R by have:=HL2.out;rw [if_pos (.inr hxb)] at this;exact this)
         clear hxa hxb HL2
         go_wp2
         go_ret
         exact ⟨ret_bool HL3.out,HB.out⟩
       · have f2:decide (x.hi < a)=false:=decide_eq_false hxb
         have HL3:=Lib.hid (show Rk.rowB (ts.drop (i+1)) x.hi hi=R by have:=HL2.out;rw [if_neg (by rintro (h | h);exact h hxa;exact hxb h)] at this;exact this)
         clear hxa hxb HL2
         go_wp2
         exact ⟨⟨i+1,x.hi,by go_num,rfl,by omega,HL3,Lib.hid HB.out⟩,by simp [intOf];omega⟩
     · have f1:(x.lo != a)=true:=by simpa using hxa
       have HL3:=Lib.hid (show false=R by have:=HL2.out;rw [if_pos (.inl hxa)] at this;exact this)
       clear hxa HL2
       go_wp2
       go_ret
       exact ⟨ret_bool HL3.out,HB.out⟩
   · obtain rfl:i=ts.length:=by omega
     have hl:=HL.out
     rw [List.drop_length,Rk.rowB] at hl
     have HL2:=Lib.hid hl
     clear hl HL hlt
     go_wp2
     go_ret
     exact ⟨ret_bool HL2.out,HB.out⟩
theorem rrkempties_any (ts:List Pa) (k:Nat) (hk:k ≤ ts.length) (w:World) (B:Nat→Prop) (v:Value) (hv:PasAt w B v ts):Calls Tryd.prog 123 #[v,.int .i64 (k:Int)] w fun e w'=>e=.returned (.int .i64 (Rk.none? (ts.drop k):Int))∧Below w.heap.size w w':=by
 obtain ⟨p,cap,rfl,hlen⟩:=hv.slice
 have HS:=Lib.hid hv
 clear hv
 obtain ⟨R,hR⟩:∃ R,Rk.none? (ts.drop k)=R:=⟨_,rfl⟩
 rw [hR]
 have HR:=Lib.hid hR
 have HRL:=Lib.hid (show R ≤ ts.length by rw [← hR];exact Nat.le_trans (Rk.none_le _) (by rw [List.length_drop];omega))
 clear hR
 go_enter Tryd.func123,Tryd.ntmps123
 go_wp2
 go_loopw [5,6] (fun nv iv wr=>∃ (i n:Nat),iv=.int .i64 i∧nv=.int .i64 (n:Int)∧k ≤ i∧i ≤ ts.length∧n ≤ i∧Hid (n+Rk.none? (ts.drop i)=R)∧Hid (Below w.heap.size w wr)) (fun _ iv _=>ts.length - (intOf iv).toNat)
 case atStart=>exact ⟨k,0,rfl,rfl,Nat.le_refl _,hk,Nat.zero_le _,Lib.hid (by rw [Nat.zero_add];exact HR.out),Lib.hid (Below.refl _ _)⟩
 case round =>
   obtain ⟨i,n,rfl,rfl,hki,hi0,hni,HL,HB⟩:=hrel
   have wi:IntKind.i64.wrap ((i:Int)+1)=(i:Int)+1:=IntWalk.i64_in _ (by omega)
   have wn:IntKind.i64.wrap ((n:Int)+1)=(n:Int)+1:=IntWalk.i64_in _ (by omega)
   by_cases hlt:i < ts.length
   · have hlt2:(i:Int) < (ts.length:Int):=by omega
     obtain ⟨x,hx⟩:∃ x,ts[i]? = some x:=⟨_,List.getElem?_eq_getElem hlt⟩
     obtain ⟨b1,o1,s1,rfl,-,t1,sub1⟩:=HS.out.get hx
     obtain ⟨p1,c1,rfl,-⟩:=sub1.slice
     obtain ⟨e0,e1,e2,e3⟩:=t1.keep (HB.out.block _ t1.lt)
     have hdr:ts.drop i=x :: ts.drop (i+1):=by
       rw [List.drop_eq_getElem_cons hlt,(List.getElem?_eq_some_iff.1 hx).2]
     have hl:=HL.out
     rw [hdr,Rk.none?] at hl
     have HL2:=Lib.hid hl
     clear t1 sub1 hx hdr hl HL
     by_cases hxa:x.lo=x.hi
     · have f1:(x.lo == x.hi)=true:=by simpa using hxa
       have HL3:=Lib.hid (show (n+1)+Rk.none? (ts.drop (i+1))=R by have:=HL2.out;rw [if_pos hxa] at this;omega)
       clear hxa HL2
       go_wp2_with fail
       go_region
       go_wp2
       exact ⟨⟨i+1,n+1,by go_num,by go_num,by omega,by omega,by omega,HL3,Lib.hid HB.out.drew⟩,by simp [intOf];omega⟩
     · have f1:(x.lo == x.hi)=false:=by simpa using hxa
       have HL3:=Lib.hid (show n+Rk.none? (ts.drop (i+1))=R by have:=HL2.out;rw [if_neg hxa] at this;omega)
       clear hxa HL2
       go_wp2_with fail
       go_region
       go_wp2
       exact ⟨⟨i+1,n,by go_num,rfl,by omega,by omega,by omega,HL3,Lib.hid HB.out.drew⟩,by simp [intOf];omega⟩
   · obtain rfl:i=ts.length:=by omega
     have hl:=HL.out
     rw [List.drop_length,Rk.none?] at hl
     have HL2:=Lib.hid (show n=R by omega)
     have hnn:decide ((ts.length:Int) < (ts.length:Int))=false:=by simp
     have hnn2:decide (ts.length < ts.length)=false:=by simp
     clear hl HL hlt
     go_wp2_with fail
     go_ret
     exact ⟨by have:=HL2.out;subst this;rfl,HB.out⟩
end Go.Proofs.YtnaoiglbjkjogaaDoor
namespace Go.Proofs.YtnaoiglbjkjogaaDoor
open Go.ChangeShapes Go.WideShapes Go.ChangeAt Go.RowKit
theorem Tryd.cellsSet:Tryd.prog.cellsOf 24=4:=by kernel_rfl
theorem Tryd.cellsU64:Tryd.prog.cellsOf 22=1:=by kernel_rfl
theorem word_of {n:Int} (h:(Lit.int .u64 n).wf=true):∃ x:BitVec 64,n=Oc.U x:=by
 simp only [Lit.wf,IntKind.min,IntKind.max,IntKind.signed,IntKind.bits,Bool.and_eq_true] at h
 refine ⟨BitVec.ofInt 64 n, ?_⟩
 unfold Oc.U;rw [BitVec.toNat_ofInt]
 have h1:=h.1;have h2:=h.2
 simp at h1 h2
 omega
theorem open_words {H:Type} {enc:TypeId × Value→H} {w:World} {base:Nat} {spare:Nat→Bool} {held:Bool} {fuel:Nat} {c0 c1 c2 c3:Value} {x:DataW H × List MemPlace}
   (h:DataW.trod enc Tryd.prog w base spare held fuel 24 [c0,c1,c2,c3]=some x):∃ a b c d:BitVec 64,c0=.int .u64 (Oc.U a)∧c1=.int .u64 (Oc.U b)∧c2=.int .u64 (Oc.U c)∧c3=.int .u64 (Oc.U d):=by
 obtain ⟨y0,y1,y2,y3,n,_,h0,h1,h2,h3⟩:=trod_array4 Tryd.underlying24 Tryd.cellsU64 h
 obtain ⟨n0,e0,-,w0⟩:=DataW.trod_int Tryd.underlying22 h0
 obtain ⟨n1,e1,-,w1⟩:=DataW.trod_int Tryd.underlying22 h1
 obtain ⟨n2,e2,-,w2⟩:=DataW.trod_int Tryd.underlying22 h2
 obtain ⟨n3,e3,-,w3⟩:=DataW.trod_int Tryd.underlying22 h3
 obtain ⟨a,rfl⟩:=word_of w0
 obtain ⟨b,rfl⟩:=word_of w1
 obtain ⟨c,rfl⟩:=word_of w2
 obtain ⟨d,rfl⟩:=word_of w3
 simp only [List.cons.injEq,and_true] at e0 e1 e2 e3
 exact ⟨a,b,c,d,e0,e1,e2,e3⟩
theorem Tryd.own:ownKnob Tryd.prog.godebug=none:=by kernel_rfl
theorem Tryd.laidOut:laidOutB Tryd.prog=true:=by kernel_rfl
end Go.Proofs.YtnaoiglbjkjogaaDoor
namespace Go.Proofs.YtnaoiglbjkjogaaDoor
open Go.ChangeShapes Go.WideShapes Go.ChangeAt Go.RowKit
theorem Tryd.cellsNodeO:Tryd.prog.cellsOf 37=10:=by kernel_rfl
theorem Tryd.cellsIntO:Tryd.prog.cellsOf 3=1:=by kernel_rfl
theorem Tryd.cellsBoolO:Tryd.prog.cellsOf 4=1:=by kernel_rfl
theorem Tryd.cellsNodesO:Tryd.prog.cellsOf 35=1:=by kernel_rfl
theorem Tryd.bytesNodeO:Tryd.prog.bytesOf 37=96:=by kernel_rfl
theorem list10 {α:Type} {l:List α} (h:l.length=10):∃ a0 a1 a2 a3 a4 a5 a6 a7 a8 a9,l=[a0,a1,a2,a3,a4,a5,a6,a7,a8,a9]:=by
 match l,h with
 | [a0,a1,a2,a3,a4,a5,a6,a7,a8,a9],_=>exact ⟨a0,a1,a2,a3,a4,a5,a6,a7,a8,a9,rfl⟩
theorem list7 {α:Type} {l:List α} (h:l.length=7):∃ a0 a1 a2 a3 a4 a5 a6,l=[a0,a1,a2,a3,a4,a5,a6]:=by
 match l,h with
 | [a0,a1,a2,a3,a4,a5,a6],_=>exact ⟨a0,a1,a2,a3,a4,a5,a6,rfl⟩
theorem weightsAll_mem {H:Type} {P:Program} {e:TypeId} {k:Nat} {d:DataW H} : ∀ {l:List (DataW H)},d ∈ l→k ∈ d.weights P e→k ∈ DataW.weightsAll P e l
 | [],h,_=>by cases h
 | x :: l,h,hk=>by
   rw [DataW.weightsAll]
   rcases List.mem_cons.1 h with rfl | h
   · exact List.mem_append_left _ hk
   · exact List.mem_append_right _ (weightsAll_mem h hk)
theorem add_at {a:Addr} (h:a.spot=none) (m:Nat):a.add m=⟨a.block,a.off+m,none⟩:=by
 unfold Addr.add
 split
 · rename_i h0;subst h0;cases a;simp_all
 · rfl
end Go.Proofs.YtnaoiglbjkjogaaDoor
namespace Go.Proofs.YtnaoiglbjkjogaaDoor
open Go.ChangeShapes Go.WideShapes Go.ChangeAt Go.RowKit
inductive TreesC (w:World) (B:Nat→Prop):Value→List Tr→Prop
 | mk (p:Option Addr) (cap:Nat) (ts:List Tr) (S:Nat→Value) (hlen:ts.length * 96 ≤ 140737488351232) (hcap:ts.length ≤ cap)
     (hc:∀ i t,ts[i]? = some t→∃ b o,p=some ⟨b,o,none⟩∧B b∧TenAt w b (o+i * 10) t (S i))
     (hs:∀ i t,ts[i]? = some t→TreesC w B (S i) t.subs):TreesC w B (.slice p ts.length cap) ts
def NodeC (w:World) (B:Nat→Prop) (v:Value) (t:Tr):Prop:=∃ s,v=.agg (t.cells s)∧TreesC w B s t.subs
theorem TreesC.plain {w:World} {B:Nat→Prop} {s:Value} {ts:List Tr} (h:TreesC w B s ts):TreesAt w B s ts:=by
 induction h with
 | mk p cap ts S hlen hcap hc hs ih=>exact .mk p cap ts S hlen (fun i t hi=>hc i t hi) (fun i t hi=>ih i t hi)
theorem TreesC.keep {w w':World} {B:Nat→Prop} {s:Value} {ts:List Tr} (h:TreesC w B s ts) (hk:∀ b,b < w.heap.size→B b→w'.heap[b]? = w.heap[b]?):TreesC w' B s ts:=by
 induction h with
 | mk p cap ts S hlen hcap hc hs ih =>
   refine .mk p cap ts S hlen hcap (fun i t hi=>?_) (fun i t hi=>ih i t hi)
   obtain ⟨b,o,hp,hB,h10⟩:=hc i t hi
   exact ⟨b,o,hp,hB,h10.keep (hk b h10.lt hB)⟩
theorem TreesC.later {w w':World} {B:Nat→Prop} {s:Value} {ts:List Tr} (h:TreesC w B s ts) (hb:Below w.heap.size w w'):TreesC w' B s ts :=
 h.keep fun b hb' _=>hb.block b hb'
theorem TreesC.mono {w:World} {B B':Nat→Prop} {s:Value} {ts:List Tr} (h:TreesC w B s ts) (hB:∀ b,b < w.heap.size→B b→B' b):TreesC w B' s ts:=by
 induction h with
 | mk p cap ts S hlen hcap hc hs ih =>
   refine .mk p cap ts S hlen hcap (fun i t hi=>?_) (fun i t hi=>ih i t hi)
   obtain ⟨b,o,hp,hb,h10⟩:=hc i t hi
   exact ⟨b,o,hp,hB b h10.lt hb,h10⟩
theorem TreesC.nil {w:World} {B:Nat→Prop} {p:Option Addr} {cap:Nat} : TreesC w B (.slice p 0 cap) [] :=
 .mk p cap [] (fun _=>.nilIface) (by simp) (Nat.zero_le _) (fun i t h=>by simp at h) (fun i t h=>by simp at h)
theorem TreesC.slice {w:World} {B:Nat→Prop} {s:Value} {ts:List Tr} (h:TreesC w B s ts):∃ p cap,s=.slice p ts.length cap∧ts.length * 96 ≤ 140737488351232∧ts.length ≤ cap:=by
 cases h with | mk p cap _ S hlen hcap hc hs=>exact ⟨p,cap,rfl,hlen,hcap⟩
theorem TreesC.get {w:World} {B:Nat→Prop} {p:Option Addr} {len cap:Nat} {ts:List Tr} (h:TreesC w B (.slice p len cap) ts) {i:Nat} {t:Tr} (hi:ts[i]? = some t) :
   ∃ b o s,p=some ⟨b,o,none⟩∧B b∧TenAt w b (o+i * 10) t s∧TreesC w B s t.subs:=by
 cases h with
 | mk _ _ _ S hlen hcap hc hs =>
   obtain ⟨b,o,hp,hB,h10⟩:=hc i t hi
   exact ⟨b,o,S i,hp,hB,h10,hs i t hi⟩
theorem NodeC.plain {w:World} {B:Nat→Prop} {v:Value} {t:Tr} (h:NodeC w B v t):NodeV w B v t:=by obtain ⟨s,e,hs⟩:=h;exact ⟨s,e,hs.plain⟩
theorem NodeC.later {w w':World} {B:Nat→Prop} {v:Value} {t:Tr} (h:NodeC w B v t) (hb:Below w.heap.size w w'):NodeC w' B v t:=by obtain ⟨s,e,hs⟩:=h;exact ⟨s,e,hs.later hb⟩
def RowC (w:World) (B:Nat→Prop) (v:Value) (ts:List Tr):Prop:=∃ p cap,v=.slice p ts.length cap∧∀ i t,ts[i]? = some t→∃ b o s,p=some ⟨b,o,none⟩∧B b∧TenAt w b (o+i * 10) t s∧TreesC w B s t.subs
theorem TreesC.row {w:World} {B:Nat→Prop} {v:Value} {ts:List Tr} (h:TreesC w B v ts):RowC w B v ts:=by
 obtain ⟨p,cap,rfl,-,-⟩:=h.slice
 exact ⟨p,cap,rfl,fun i t hi=>h.get hi⟩
theorem RowC.later {w w':World} {B:Nat→Prop} {v:Value} {ts:List Tr} (h:RowC w B v ts) (hb:Below w.heap.size w w'):RowC w' B v ts:=by
 obtain ⟨p,cap,rfl,hr⟩:=h
 refine ⟨p,cap,rfl,fun i t hi=>?_⟩
 obtain ⟨b,o,s,hp,hB,h10,hs⟩:=hr i t hi
 exact ⟨b,o,s,hp,hB,h10.keep (hb.block b h10.lt),hs.later hb⟩
theorem open_nodeC {H:Type} {enc:TypeId × Value→H} {W:World} {base:Nat} {spare:Nat→Bool} {held:Bool} : ∀ (fuel:Nat) (cs:List Value) (x:DataW H × List MemPlace),
   DataW.trod enc Tryd.prog W base spare held fuel 37 cs=some x→(∀ k,k ∈ x.1.weights Tryd.prog 37→k ≤ 140737488351232) →
   ∃ (t:Tr) (s:Value),cs=(t.cells s).toList∧TreesC W (fun _=>True) s t.subs:=by
 intro fuel
 induction fuel using Nat.strongRecOn with
 | _ fuel ih =>
   intro cs x h hw
   obtain ⟨xs,n,rfl,rfl,hlen,hxs,hf⟩:=DataW.trod_struct Tryd.underlying37 h
   rw [Tryd.cellsNodeO] at hlen
   obtain ⟨c0,c1,c2,c3,c4,c5,c6,c7,c8,c9,rfl⟩:=list10 hlen
   obtain ⟨y0,y1,y2,y3,y4,y5,y6,rfl⟩:=list7 (by simpa using hxs)
   have f0:=hf 0 _ rfl;have f1:=hf 1 _ rfl;have f2:=hf 2 _ rfl;have f3:=hf 3 _ rfl;have f4:=hf 4 _ rfl;have f5:=hf 5 _ rfl;have f6:=hf 6 _ rfl
   simp only [List.getElem_toArray,List.getElem_cons_zero,List.getElem_cons_succ,Tryd.cellsIntO,Tryd.cellsBoolO,Tryd.cellsNodesO,Tryd.cellsSet,List.drop_zero,List.drop_succ_cons,List.take_succ_cons,List.take_zero,List.getElem?_cons_zero,List.getElem?_cons_succ] at f0 f1 f2 f3 f4 f5 f6
   obtain ⟨k,e0,-,-⟩:=DataW.trod_int Tryd.underlying3 f0
   obtain ⟨a,b,c,d,rfl,rfl,rfl,rfl⟩:=open_words f1
   obtain ⟨nn,e3,-,-⟩:=DataW.trod_int Tryd.underlying3 f3
   obtain ⟨lo,e4,-,-⟩:=DataW.trod_int Tryd.underlying3 f4
   obtain ⟨hi,e5,-,-⟩:=DataW.trod_int Tryd.underlying3 f5
   obtain ⟨br,e6,-⟩:=DataW.trod_bool Tryd.underlying4 f6
   simp only [List.cons.injEq,and_true] at e0 e3 e4 e5 e6
   subst e0 e3 e4 e5 e6
   have fin:∀ (ts:List Tr),TreesC W (fun _=>True) c5 ts→∃ (t:Tr) (s:Value),[.int .i64 k,.int .u64 (Oc.U a),.int .u64 (Oc.U b),.int .u64 (Oc.U c),.int .u64 (Oc.U d),c5,.int .i64 nn,.int .i64 lo,.int .i64 hi,.bool br]=(t.cells s).toList∧TreesC W (fun _=>True) s t.subs :=
     fun ts hts=>⟨.node k a b c d ts nn lo hi br,c5,rfl,hts⟩
   rcases DataW.trod_slice Tryd.underlying35 f2 with ⟨hc5,-⟩ | ⟨ad,len,cap,elems,rest,n',rfl,hc5,hx,-,hcp,-,hel,hall,-,-⟩
   · simp only [List.cons.injEq,and_true] at hc5
     subst hc5
     exact fin [] TreesC.nil
   · simp only [List.cons.injEq,and_true] at hc5
     subst hc5
     rw [Tryd.cellsNodeO] at hall
     have hwn:∀ k,k ∈ y2.1.weights Tryd.prog 35→k ≤ 140737488351232:=fun k hk=>hw k (by
       rw [DataW.weights,Tryd.underlying37]
       exact DataW.weights_mem_each (j:=2) rfl rfl k hk)
     have hlen96:len * 96 ≤ 140737488351232:=by
       have:=hwn ((elems.length+rest.length) * 96) (by
         rw [hx]
         simp only [DataW.weights,Tryd.underlying35,Tryd.bytesNodeO,List.length_map]
         exact List.mem_cons_self)
       rw [hel] at this
       have h2:len * 96 ≤ (len+rest.length) * 96:=Nat.mul_le_mul_right _ (by omega)
       omega
     have key:∀ i,∃ (t:Tr) (s:Value),i < len→(∃ b o,some ad=some ⟨b,o,none⟩∧TenAt W b (o+i * 10) t s)∧TreesC W (fun _=>True) s t.subs:=by
       intro i
       by_cases hi:i < len
       · have h1:=hall i hi
         rw [List.getElem?_eq_getElem (by omega)] at h1
         obtain ⟨csi,hcs,htr⟩:=Option.bind_eq_some_iff.1 h1
         obtain ⟨t,s,hts,hsub⟩:=ih n' (by omega) csi _ htr (fun k hk=>hwn k (by
           rw [hx]
           simp only [DataW.weights,Tryd.underlying35]
           refine List.mem_cons_of_mem _ (List.mem_append_left _ (weightsAll_mem (d:=elems[i].1) ?_ hk))
           exact List.mem_map.2 ⟨elems[i],List.getElem_mem _,rfl⟩))
         obtain ⟨-,-,hcell⟩:=World.cells?_some hcs
         have hspot:ad.spot=none:=by
           have h0:=hall 0 (by omega)
           rw [List.getElem?_eq_getElem (by omega)] at h0
           obtain ⟨cs0,hcs0,htr0⟩:=Option.bind_eq_some_iff.1 h0
           obtain ⟨t0,s0,hts0,-⟩:=ih n' (by omega) cs0 _ htr0 (fun k hk=>hwn k (by
             rw [hx]
             simp only [DataW.weights,Tryd.underlying35]
             refine List.mem_cons_of_mem _ (List.mem_append_left _ (weightsAll_mem (d:=elems[0].1) ?_ hk))
             exact List.mem_map.2 ⟨elems[0],List.getElem_mem _,rfl⟩))
           have h2:=(World.cells?_some hcs0).2.2 0 (by omega)
           rw [hts0] at h2
           have e:(ad.add (0 * 10)).add 0=ad:=by simp [Addr.add]
           rw [e] at h2
           cases hsp:ad.spot with
           | none=>rfl
           | some z =>
             unfold World.cell? at h2
             rw [hsp] at h2
             split at h2 <;> simp [Tr.cells] at h2
         have hadd:∀ j,(ad.add (i * 10)).add j=⟨ad.block,ad.off+i * 10+j,none⟩:=fun j=>by
           rw [add_at hspot,add_at (a:=⟨ad.block,ad.off+i * 10,none⟩) rfl]
         refine ⟨t,s,fun _=>⟨⟨ad.block,ad.off,by cases ad;simp_all, ?_⟩,hsub⟩⟩
         rw [hts] at hcell
         have get:∀ j u,j < 10→(t.cells s).toList[j]? = some u→W.cell? ⟨ad.block,ad.off+i * 10+j,none⟩=some u:=fun j u hj hu=>by
           rw [← hadd j,hcell j hj,hu]
         exact ⟨get 0 _ (by omega) rfl,get 1 _ (by omega) rfl,get 2 _ (by omega) rfl,get 3 _ (by omega) rfl,get 4 _ (by omega) rfl,get 5 _ (by omega) rfl,get 6 _ (by omega) rfl,get 7 _ (by omega) rfl,get 8 _ (by omega) rfl,get 9 _ (by omega) rfl⟩
       · exact ⟨.node 0 0#64 0#64 0#64 0#64 [] 0 0 0 false,.nilIface,fun h=>absurd h hi⟩
     obtain ⟨T,hT⟩:=Classical.axiomOfChoice key
     obtain ⟨S,hS⟩:=Classical.axiomOfChoice hT
     have hl:((List.range len).map T).length=len:=by simp
     have hg:∀ i t,((List.range len).map T)[i]? = some t→i < len∧t=T i:=fun i t h=>by
       rw [List.getElem?_map] at h
       by_cases hi:i < len
       · rw [List.getElem?_range hi] at h
         exact ⟨hi,(Option.some.inj h).symm⟩
       · rw [List.getElem?_eq_none (by simp;omega)] at h;cases h
     have:=TreesC.mk (w:=W) (B:=fun _=>True) (some ad) cap ((List.range len).map T) S (by rw [hl];exact hlen96) (by rw [hl];exact hcp) (fun i t h=>by
       obtain ⟨hi,rfl⟩:=hg i t h
       obtain ⟨⟨b,o,e,ht⟩,-⟩:=hS i hi
       exact ⟨b,o,e,trivial,ht⟩) (fun i t h=>by
       obtain ⟨hi,rfl⟩:=hg i t h
       exact (hS i hi).2)
     rw [hl] at this
     exact fin _ this
theorem open_treeC {H:Type} {enc:TypeId × Value→H} {w:World} {base b0:Nat} {spare:Nat→Bool} {held:Bool} {v:Value} {y:DataW H} {ps:List MemPlace} {r:Reach}
   (hv:Value.okWide Tryd.prog w r b0 37 v) (h:DataW.Trod enc Tryd.prog w base spare held 37 v y ps) (hw:∀ k,k ∈ y.weights Tryd.prog 37→k ≤ 140737488351232):∃ t,NodeC w (fun _=>True) v t:=by
 unfold Value.okWide at hv
 rw [Tryd.underlying37] at hv
 obtain ⟨cs,rfl,hsz,-⟩:=hv
 obtain ⟨fuel,hf⟩:=h
 obtain ⟨t,s,e,hs⟩:=open_nodeC fuel _ _ hf hw
 refine ⟨t,s, ?_,hs⟩
 simp only [Value.cells] at e
 exact congrArg Value.agg (Array.toList_inj.1 e)
end Go.Proofs.YtnaoiglbjkjogaaDoor
namespace Go.Proofs.YtnaoiglbjkjogaaDoor
open Go.RowKit
def Rk.rList (t:Tr) (p:Pa):List Tr :=
 if t.kind=5 then t.subs
 else if t.kind=6 then (match Rk.at? t.subs p.pick with
   | some u=>[u]
   | none=>[])
 else if t.kind=7 then t.subs
 else if t.kind=8 then (match t.subs with
   | u :: _=>List.replicate p.subs.length u
   | []=>[])
 else []
theorem Rk.rList_get {t:Tr} {p:Pa} (hf:t.InForm) (hr:Rk.rSubs t p=true) {i:Nat} (hi:i < p.subs.length):∃ u,(Rk.rList t p)[i]? = some u∧Rk.at? t.subs (Rk.taker t.kind p.pick i)=some u∧u ∈ t.subs:=by
 have key:∀ k:Nat,k < t.subs.length→∃ u,t.subs[k]? = some u∧Rk.at? t.subs (k:Int)=some u∧u ∈ t.subs:=fun k hk=>by
   refine ⟨t.subs[k]'hk,by rw [List.getElem?_eq_getElem], ?_,List.getElem_mem _⟩
   rw [Rk.at_nat,List.getElem?_eq_getElem hk]
 have hk:=hf.fields
 unfold Tr.fieldsOk at hk
 unfold Rk.rSubs at hr
 unfold Rk.rList Rk.taker
 rcases hk with ⟨k,-,-,-,-,hs,-⟩ | ⟨k,hs,-⟩ | ⟨k,-,-,-,-,hl,-⟩ | ⟨k,-,-,-,-,hl,-⟩ | ⟨k,-,-,-,-,hl,-,h0,h1,-,-⟩
 · rw [if_neg (by omega),if_neg (by omega),if_neg (by omega),if_neg (by omega),decide_eq_true_eq] at hr
   omega
 · rw [if_neg (by omega),if_neg (by omega),if_neg (by omega),if_neg (by omega),decide_eq_true_eq] at hr
   omega
 · rcases k with k | k
   · rw [if_pos k,decide_eq_true_eq] at hr
     rw [if_pos k,if_pos k]
     exact key i (by omega)
   · rw [if_neg (by omega),if_pos k,decide_eq_true_eq] at hr
     rw [if_neg (by omega),if_pos k,if_neg (by omega),if_pos k]
     obtain ⟨h1,h2,h3⟩:=hr
     obtain ⟨u,hu,ha,hm⟩:=key p.pick.toNat (by omega)
     rw [show ((p.pick.toNat:Nat):Int)=p.pick by omega] at ha
     refine ⟨u, ?_,ha,hm⟩
     rw [ha]
     obtain rfl:i=0:=by omega
     rfl
 · rw [if_neg (by omega),if_neg (by omega),if_pos k,decide_eq_true_eq] at hr
   rw [if_neg (by omega),if_neg (by omega),if_pos k,if_neg (by omega),if_neg (by omega)]
   obtain ⟨u,hu,ha,hm⟩:=key 0 (by omega)
   obtain rfl:i=0:=by omega
   exact ⟨u,hu,ha,hm⟩
 · rw [if_neg (by omega),if_neg (by omega),if_neg (by omega),if_pos k,if_neg (by omega),if_neg (by omega)]
   obtain ⟨u,hu,ha,hm⟩:=key 0 (by omega)
   refine ⟨u, ?_,ha,hm⟩
   cases hs:t.subs with
   | nil=>rw [hs] at hl;simp at hl
   | cons x l =>
     rw [hs] at hu
     simp only [List.getElem?_cons_zero,Option.some.injEq] at hu
     subst hu
     show (List.replicate p.subs.length x)[i]? = some x
     rw [List.getElem?_replicate,if_pos hi]
theorem Rk.rList_len {t:Tr} {p:Pa} (hf:t.InForm) (hr:Rk.rSubs t p=true):(Rk.rList t p).length=p.subs.length:=by
 have hk:=hf.fields
 unfold Tr.fieldsOk at hk
 unfold Rk.rSubs at hr
 unfold Rk.rList
 rcases hk with ⟨k,-,-,-,-,hs,-⟩ | ⟨k,hs,-⟩ | ⟨k,-,-,-,-,hl,-⟩ | ⟨k,-,-,-,-,hl,-⟩ | ⟨k,-,-,-,-,hl,-,h0,h1,-,-⟩
 · rw [if_neg (by omega),if_neg (by omega),if_neg (by omega),if_neg (by omega),decide_eq_true_eq] at hr
   rw [if_neg (by omega),if_neg (by omega),if_neg (by omega),if_neg (by omega)];simp;omega
 · rw [if_neg (by omega),if_neg (by omega),if_neg (by omega),if_neg (by omega),decide_eq_true_eq] at hr
   rw [if_neg (by omega),if_neg (by omega),if_neg (by omega),if_neg (by omega)];simp;omega
 · rcases k with k | k
   · rw [if_pos k,decide_eq_true_eq] at hr
     rw [if_pos k];omega
   · rw [if_neg (by omega),if_pos k,decide_eq_true_eq] at hr
     rw [if_neg (by omega),if_pos k]
     obtain ⟨h1,h2,h3⟩:=hr
     unfold Rk.at?
     rw [if_pos h2,List.getElem?_eq_getElem (by omega)]
     simp;omega
 · rw [if_neg (by omega),if_neg (by omega),if_pos k,decide_eq_true_eq] at hr
   rw [if_neg (by omega),if_neg (by omega),if_pos k];omega
 · rw [if_neg (by omega),if_neg (by omega),if_neg (by omega),if_pos k]
   cases hs:t.subs with
   | nil=>rw [hs] at hl;simp at hl
   | cons x l=>simp
def SubE (B:Nat→Prop) (t:Tr) (q:Pa) (w:World) (e:Ending) (w':World):Prop:=∃ v,e=.returned (.tuple #[v,.bool (Rk.rSubs t q)])∧(Rk.rSubs t q=true→RowC w' B v (Rk.rList t q))∧Below w.heap.size w w'
theorem one_tree {w:World} {B:Nat→Prop} {p:Option Addr} {len cap:Nat} {ts:List Tr} (h:TreesC w B (.slice p len cap) ts) {k:Nat} {u:Tr} (hk:ts[k]? = some u) (c:Nat):RowC w B (.slice (p.map (·.add (k * 10))) 1 c) [u]:=by
 obtain ⟨b,o,s,rfl,hB,t1,sub1⟩:=h.get hk
 have ea:((some (⟨b,o,none⟩:Addr)).map (·.add (k * 10)))=some ⟨b,o+k * 10,none⟩:=by
   simp only [Option.map_some];unfold Addr.add;split
   · rename_i h0;rw [h0];rfl
   · rfl
 rw [ea]
 refine ⟨_,_,rfl,fun i x hi=>?_⟩
 obtain rfl:i=0:=by
   by_cases h0:i=0
   · exact h0
   · rw [List.getElem?_eq_none (by simp;omega)] at hi;cases hi
 simp only [List.getElem?_cons_zero,Option.some.injEq] at hi
 subst hi
 exact ⟨b,o+k * 10,s,rfl,hB,by rw [Nat.zero_mul,Nat.add_zero];exact t1,sub1⟩
theorem ret_tb {v:Value} {a b:Bool} (h:a=b):Ending.returned (.tuple #[v,.bool a])=.returned (.tuple #[v,.bool b]):=by rw [h]
theorem rrk_size (w:World):(sizeOf (Tryd.prog.elem 35)).run Tryd.prog w=.ok 10 w:=by kernel_rfl
theorem rrk_elem:Tryd.prog.underlying 35=some (.slice (Tryd.prog.elem 35)):=by kernel_rfl
theorem rrksubs_5 (t:Tr) (q:Pa) (_hf:t.InForm) (hk:t.kind=5) (_hn:q.subs.length ≤ 1000000) (w:World) (B C:Nat→Prop) (_hB:∀ b,w.heap.size ≤ b→B b) (v vq:Value) (hv:NodeC w B v t) (hq:PaV w C vq q):Calls Tryd.prog 96 #[v,vq] w (SubE B t q w):=by
 obtain ⟨s,rfl,hs⟩:=hv
 obtain ⟨p,cap,rfl,hlen,hcp⟩:=hs.slice
 obtain ⟨z,rfl,hz⟩:=hq
 obtain ⟨pp,pc,rfl,hlq⟩:=hz.slice
 have HS:=Lib.hid hs;have HZ:=Lib.hid hz
 clear hs hz
 obtain ⟨R,hR⟩:∃ R,Rk.rSubs t q=R:=⟨_,rfl⟩
 obtain ⟨L,hL⟩:∃ L,Rk.rList t q=L:=⟨_,rfl⟩
 unfold SubE
 rw [hR,hL]
 have HR:=Lib.hid hR;have HL:=Lib.hid hL
 clear hR hL
 unfold Tr.cells Pa.cells
 generalize hts:t.subs=ts at *
 generalize hqs:q.subs=qs at *
 have HTS:=Lib.hid hts;have HQS:=Lib.hid hqs
 clear hts hqs
 generalize q.lo=lo at *;generalize q.hi=hi at *
 obtain ⟨pk,hpk⟩:∃ pk,q.pick=pk:=⟨_,rfl⟩
 rw [hpk]
 have HPK:=Lib.hid hpk
 clear hpk
 obtain ⟨n,hnn⟩:∃ n,qs.length=n:=⟨_,rfl⟩
 rw [hnn] at _hn hlq ⊢
 have HN:=Lib.hid hnn
 clear hnn
 have e5:(t.kind == 5)=true:=by rw [hk];decide
 have HR2:=Lib.hid (show (n == ts.length)=R by have:=HR.out;unfold Rk.rSubs at this;rw [if_pos hk,HTS.out,HQS.out,HN.out] at this;rw [← this];by_cases e:n=ts.length <;> simp [e])
 have HL2:=Lib.hid (show ts=L by have:=HL.out;unfold Rk.rList at this;rw [if_pos hk,HTS.out] at this;exact this)
 have hcast:((n:Int) == (ts.length:Int))=(n == ts.length):=by rw [Bool.eq_iff_iff,beq_iff_eq,beq_iff_eq];omega
 clear hk HR HL
 go_enter Tryd.func96,Tryd.ntmps96
 go_wp2
 go_region
 go_wp2
 go_ret2
 refine ⟨_,ret_tb (by first | exact HR2.out | (rw [hcast];exact HR2.out)),fun _=>?_,by go_grown⟩
 rw [← HL2.out]
 exact (HS.out.later (by go_grown)).row
theorem rrksubs_7 (t:Tr) (q:Pa) (_hf:t.InForm) (hk:t.kind=7) (_hn:q.subs.length ≤ 1000000) (w:World) (B C:Nat→Prop) (_hB:∀ b,w.heap.size ≤ b→B b) (v vq:Value) (hv:NodeC w B v t) (hq:PaV w C vq q):Calls Tryd.prog 96 #[v,vq] w (SubE B t q w):=by
 obtain ⟨s,rfl,hs⟩:=hv
 obtain ⟨p,cap,rfl,hlen,hcp⟩:=hs.slice
 obtain ⟨z,rfl,hz⟩:=hq
 obtain ⟨pp,pc,rfl,hlq⟩:=hz.slice
 have HS:=Lib.hid hs;have HZ:=Lib.hid hz
 clear hs hz
 obtain ⟨R,hR⟩:∃ R,Rk.rSubs t q=R:=⟨_,rfl⟩
 obtain ⟨L,hL⟩:∃ L,Rk.rList t q=L:=⟨_,rfl⟩
 unfold SubE
 rw [hR,hL]
 have HR:=Lib.hid hR;have HL:=Lib.hid hL
 clear hR hL
 unfold Tr.cells Pa.cells
 generalize hts:t.subs=ts at *
 generalize hqs:q.subs=qs at *
 have HTS:=Lib.hid hts;have HQS:=Lib.hid hqs
 clear hts hqs
 generalize q.lo=lo at *;generalize q.hi=hi at *
 obtain ⟨pk,hpk⟩:∃ pk,q.pick=pk:=⟨_,rfl⟩
 rw [hpk]
 have HPK:=Lib.hid hpk
 clear hpk
 obtain ⟨n,hnn⟩:∃ n,qs.length=n:=⟨_,rfl⟩
 rw [hnn] at _hn hlq ⊢
 have HN:=Lib.hid hnn
 clear hnn
 have e5:(t.kind == 5)=false:=by rw [hk];decide
 have e6:(t.kind == 6)=false:=by rw [hk];decide
 have e7:(t.kind == 7)=true:=by rw [hk];decide
 have HR2:=Lib.hid (show (n == 1)=R by have:=HR.out;unfold Rk.rSubs at this;rw [if_neg (by omega),if_neg (by omega),if_pos hk,HQS.out,HN.out] at this;rw [← this];by_cases e:n=1 <;> simp [e])
 have HL2:=Lib.hid (show ts=L by have:=HL.out;unfold Rk.rList at this;rw [if_neg (by omega),if_neg (by omega),if_pos hk,HTS.out] at this;exact this)
 have hcast:((n:Int) == 1)=(n == 1):=by rw [Bool.eq_iff_iff,beq_iff_eq,beq_iff_eq];omega
 clear hk HR HL
 go_enter Tryd.func96,Tryd.ntmps96
 go_wp2
 go_ret2
 refine ⟨_,ret_tb (by first | exact HR2.out | (rw [hcast];exact HR2.out)),fun _=>?_,by go_grown⟩
 rw [← HL2.out]
 exact (HS.out.later (by go_grown)).row
theorem rrksubs_0 (t:Tr) (q:Pa) (_hf:t.InForm) (hk:t.kind=1 ∨ t.kind=2 ∨ t.kind=3 ∨ t.kind=4) (_hn:q.subs.length ≤ 1000000) (w:World) (B C:Nat→Prop) (_hB:∀ b,w.heap.size ≤ b→B b) (v vq:Value) (hv:NodeC w B v t) (hq:PaV w C vq q):Calls Tryd.prog 96 #[v,vq] w (SubE B t q w):=by
 obtain ⟨s,rfl,hs⟩:=hv
 obtain ⟨p,cap,rfl,hlen,hcp⟩:=hs.slice
 obtain ⟨z,rfl,hz⟩:=hq
 obtain ⟨pp,pc,rfl,hlq⟩:=hz.slice
 have HS:=Lib.hid hs;have HZ:=Lib.hid hz
 clear hs hz
 obtain ⟨R,hR⟩:∃ R,Rk.rSubs t q=R:=⟨_,rfl⟩
 obtain ⟨L,hL⟩:∃ L,Rk.rList t q=L:=⟨_,rfl⟩
 unfold SubE
 rw [hR,hL]
 have HR:=Lib.hid hR;have HL:=Lib.hid hL
 clear hR hL
 unfold Tr.cells Pa.cells
 generalize hts:t.subs=ts at *
 generalize hqs:q.subs=qs at *
 have HTS:=Lib.hid hts;have HQS:=Lib.hid hqs
 clear hts hqs
 generalize q.lo=lo at *;generalize q.hi=hi at *
 obtain ⟨pk,hpk⟩:∃ pk,q.pick=pk:=⟨_,rfl⟩
 rw [hpk]
 have HPK:=Lib.hid hpk
 clear hpk
 obtain ⟨n,hnn⟩:∃ n,qs.length=n:=⟨_,rfl⟩
 rw [hnn] at _hn hlq ⊢
 have HN:=Lib.hid hnn
 clear hnn
 have e5:(t.kind == 5)=false:=by simp;omega
 have e6:(t.kind == 6)=false:=by simp;omega
 have e7:(t.kind == 7)=false:=by simp;omega
 have e8:(t.kind == 8)=false:=by simp;omega
 have HR2:=Lib.hid (show (n == 0)=R by have:=HR.out;unfold Rk.rSubs at this;rw [if_neg (by omega),if_neg (by omega),if_neg (by omega),if_neg (by omega),HQS.out,HN.out] at this;rw [← this];by_cases e:n=0 <;> simp [e])
 have HL2:=Lib.hid (show []=L by have:=HL.out;unfold Rk.rList at this;rw [if_neg (by omega),if_neg (by omega),if_neg (by omega),if_neg (by omega)] at this;exact this)
 have hcast:((n:Int) == 0)=(n == 0):=by rw [Bool.eq_iff_iff,beq_iff_eq,beq_iff_eq];omega
 clear hk HR HL
 go_enter Tryd.func96,Tryd.ntmps96
 go_wp2
 go_ret2
 refine ⟨_,ret_tb (by first | exact HR2.out | (rw [hcast];exact HR2.out)),fun _=>?_,by go_grown⟩
 rw [← HL2.out]
 exact TreesC.nil.row
theorem rrksubs_6 (t:Tr) (q:Pa) (_hf:t.InForm) (hk:t.kind=6) (_hn:q.subs.length ≤ 1000000) (w:World) (B C:Nat→Prop) (_hB:∀ b,w.heap.size ≤ b→B b) (v vq:Value) (hv:NodeC w B v t) (hq:PaV w C vq q):Calls Tryd.prog 96 #[v,vq] w (SubE B t q w):=by
 obtain ⟨s,rfl,hs⟩:=hv
 obtain ⟨p,cap,rfl,hlen,hcp⟩:=hs.slice
 obtain ⟨z,rfl,hz⟩:=hq
 obtain ⟨pp,pc,rfl,hlq⟩:=hz.slice
 have HS:=Lib.hid hs;have HZ:=Lib.hid hz
 clear hs hz
 obtain ⟨R,hR⟩:∃ R,Rk.rSubs t q=R:=⟨_,rfl⟩
 obtain ⟨L,hL⟩:∃ L,Rk.rList t q=L:=⟨_,rfl⟩
 unfold SubE
 rw [hR,hL]
 have HR:=Lib.hid hR;have HL:=Lib.hid hL
 clear hR hL
 unfold Tr.cells Pa.cells
 generalize hts:t.subs=ts at *
 generalize hqs:q.subs=qs at *
 have HTS:=Lib.hid hts;have HQS:=Lib.hid hqs
 clear hts hqs
 generalize q.lo=lo at *;generalize q.hi=hi at *
 obtain ⟨pk,hpk⟩:∃ pk,q.pick=pk:=⟨_,rfl⟩
 rw [hpk]
 have HPK:=Lib.hid hpk
 clear hpk
 obtain ⟨n,hnn⟩:∃ n,qs.length=n:=⟨_,rfl⟩
 rw [hnn] at _hn hlq ⊢
 have HN:=Lib.hid hnn
 clear hnn
 have e5:(t.kind == 5)=false:=by rw [hk];decide
 have e6:(t.kind == 6)=true:=by rw [hk];decide
 have HR2:=Lib.hid (show decide (n=1∧0 ≤ pk∧pk < (ts.length:Int))=R by have:=HR.out;unfold Rk.rSubs at this;rw [if_neg (by omega),if_pos hk,HTS.out,HQS.out,HN.out,HPK.out] at this;exact this)
 have HL2:=Lib.hid (show (match Rk.at? ts pk with | some u=>[u] | none=>[])=L by have:=HL.out;unfold Rk.rList at this;rw [if_neg (by omega),if_pos hk,HTS.out,HPK.out] at this;exact this)
 clear hk HR HL
 by_cases h1:n=1
 · have c1:((n:Int) != 1)=false:=by simp;omega
   have c1':(n != 1)=false:=by simp;omega
   by_cases h2:pk < 0
   · have c2:decide (pk < 0)=true:=decide_eq_true h2
     have HR3:=Lib.hid (show false=R by have:=HR2.out;rw [decide_eq_false (by rintro ⟨-,a,-⟩;omega)] at this;exact this)
     clear h1 h2 HR2 HL2
     go_enter Tryd.func96,Tryd.ntmps96
     go_wp2
     go_ret2
     exact ⟨_,ret_tb HR3.out,fun h=>(by rw [← HR3.out] at h;cases h),by go_grown⟩
   · have c2:decide (pk < 0)=false:=decide_eq_false h2
     by_cases h3:(ts.length:Int) ≤ pk
     · have c3:decide ((ts.length:Int) ≤ pk)=true:=decide_eq_true h3
       have HR3:=Lib.hid (show false=R by have:=HR2.out;rw [decide_eq_false (by rintro ⟨-,-,a⟩;omega)] at this;exact this)
       clear h1 h2 h3 HR2 HL2
       go_enter Tryd.func96,Tryd.ntmps96
       go_wp2
       go_ret2
       exact ⟨_,ret_tb HR3.out,fun h=>(by rw [← HR3.out] at h;cases h),by go_grown⟩
     · have c3:decide ((ts.length:Int) ≤ pk)=false:=decide_eq_false h3
       have HR3:=Lib.hid (show true=R by have:=HR2.out;rw [decide_eq_true ⟨h1,by omega,by omega⟩] at this;exact this)
       obtain ⟨k,rfl⟩:∃ k:Nat,pk=k:=⟨pk.toNat,by omega⟩
       have hkl:k < ts.length:=by omega
       obtain ⟨u,hu⟩:∃ u,ts[k]? = some u:=⟨_,List.getElem?_eq_getElem hkl⟩
       have HL3:=Lib.hid (show [u]=L by have:=HL2.out;rw [Rk.at_nat,hu] at this;exact this)
       have HT1:=Lib.hid (one_tree HS.out hu)
       have hsl:∀ w9:World,(Instr.slice 35 (.slice p ts.length cap) (some (.int .i64 (k:Int))) (some (.int .i64 ((k:Int)+1))) none).run Tryd.prog w9=.ok (.slice (p.map (·.add (k * 10))) 1 (cap - k)) w9:=fun w9=>by
         rw [run_slice_lh w9 35 p ts.length cap rrk_elem .i64 .i64 (k:Int) ((k:Int)+1) (by omega) (by omega) (by omega),rrk_size]
         simp only [Result.andThen]
         unfold sliced
         rw [if_neg (by omega)]
         rw [show ((k:Int)).toNat=k by omega,show ((k:Int)+1).toNat - k=1 by omega]
       have wk:IntKind.i64.wrap ((k:Int)+1)=(k:Int)+1:=IntWalk.i64_in _ (by omega)
       clear h1 h2 h3 HR2 HL2
       go_enter Tryd.func96,Tryd.ntmps96
       go_wp2
       go_ret2
       refine ⟨_,ret_tb HR3.out,fun _=>?_,by go_grown⟩
       rw [← HL3.out]
       exact (HT1.out _).later (by go_grown)
 · have c1:((n:Int) != 1)=true:=by simp;omega
   have c1':(n != 1)=true:=by simp;omega
   have HR3:=Lib.hid (show false=R by have:=HR2.out;rw [decide_eq_false (by rintro ⟨a,-⟩;omega)] at this;exact this)
   clear h1 HR2 HL2
   go_enter Tryd.func96,Tryd.ntmps96
   go_wp2
   go_ret2
   exact ⟨_,ret_tb HR3.out,fun h=>(by rw [← HR3.out] at h;cases h),by go_grown⟩
theorem row_same {w:World} {B:Nat→Prop} {base n:Nat} {v:Value} {u:Tr} {s:Value} (h:w.ownsRow base 37 10 v n (rowOf (List.replicate n (u,s)))) (hn:n ≤ 1000000) (hs:TreesC w B s u.subs) (hB:∀ b,base ≤ b→B b):RowC w B v (List.replicate n u):=by
 have h1:TreesAt w (fun _=>True) v ((List.replicate n (u,s)).map (·.1)):=trees_of_row (B:=fun _=>True) h (by rw [List.length_replicate];omega) (fun i t s' hi=>by
   have:=List.getElem?_replicate (a:=(u,s)) (n:=n) (i:=i)
   rw [this] at hi;split at hi
   · simp only [Option.some.injEq,Prod.mk.injEq] at hi;obtain ⟨rfl,rfl⟩:=hi;exact hs.plain.mono fun _ _ _=>trivial
   · cases hi) (fun _ _=>trivial) (fun _ _=>trivial)
 rw [List.map_replicate] at h1
 obtain ⟨p,cap,rfl,-⟩:=h1.slice
 refine ⟨p,cap,rfl,fun i t hi=>?_⟩
 have hc:=fun g hv=>World.ownsRow.cells h (g:=g) hv
 rcases h.2 with ⟨-,hn0⟩ | ⟨g,cp,cur,e,hbg,hheap,-⟩
 · subst hn0;simp at hi
 · injection e with e1 e2 e3
   subst e1
   have hi2:i < n∧t=u:=by
     rw [List.getElem?_replicate] at hi;split at hi
     · exact ⟨by assumption,(Option.some.inj hi).symm⟩
     · cases hi
   obtain ⟨hin,rfl⟩:=hi2
   have hp:(List.replicate n (t,s))[i]? = some (t,s):=by rw [List.getElem?_replicate,if_pos hin]
   have get:∀ j x,j < 10→(t.cells s)[j]? = some x→w.cell? ⟨g,0+i * 10+j,none⟩=some x:=by
     intro j x hj hx
     have:=hc g rfl (i * 10+j) x (by rw [rowOf_get _ i t s hp j hj];exact hx)
     have ea:(⟨g,0,none⟩:Addr).add (i * 10+j)=⟨g,0+i * 10+j,none⟩:=by unfold Addr.add;split <;> simp_all <;> omega
     rw [ea] at this;exact this
   exact ⟨g,0,s,rfl,hB g hbg,⟨get 0 _ (by omega) rfl,get 1 _ (by omega) rfl,get 2 _ (by omega) rfl,get 3 _ (by omega) rfl,get 4 _ (by omega) rfl,get 5 _ (by omega) rfl,get 6 _ (by omega) rfl,get 7 _ (by omega) rfl,get 8 _ (by omega) rfl,get 9 _ (by omega) rfl⟩,hs⟩
theorem rrksubs_8 (t:Tr) (q:Pa) (hf:t.InForm) (hk:t.kind=8) (hn:q.subs.length ≤ 1000000) (w:World) (B C:Nat→Prop) (hB:∀ b,w.heap.size ≤ b→B b) (v vq:Value) (hv:NodeC w B v t) (hq:PaV w C vq q):Calls Tryd.prog 96 #[v,vq] w (SubE B t q w):=by
 have hfk:=hf.fields
 unfold Tr.fieldsOk at hfk
 have hfl:t.subs.length=1∧0 ≤ t.least:=by
   rcases hfk with ⟨k,-⟩ | ⟨k,-⟩ | ⟨k,-⟩ | ⟨k,-⟩ | ⟨k,-,-,-,-,hl,-,h0,-⟩
   · omega
   · omega
   · omega
   · omega
   · exact ⟨hl,h0⟩
 clear hfk
 have HBB:=Lib.hid hB
 obtain ⟨s,rfl,hs⟩:=hv
 obtain ⟨p,cap,rfl,hlen,hcp⟩:=hs.slice
 obtain ⟨z,rfl,hz⟩:=hq
 obtain ⟨pp,pc,rfl,hlq⟩:=hz.slice
 obtain ⟨m,hm⟩:∃ m:Nat,t.least=m:=⟨t.least.toNat,by omega⟩
 have HEM:=Lib.hid (fun w9 (h:Below w.heap.size w w9) (hm9:m ≤ q.subs.length)=>rrkempties_any q.subs m hm9 w9 C _ (hz.later h))
 obtain ⟨u,hu⟩:∃ u,t.subs=[u]:=by
   match h:t.subs,hfl.1 with
   | [u],_=>exact ⟨u,rfl⟩
 obtain ⟨b1,o1,s1,rfl,-,t1,sub1⟩:=hs.get (i:=0) (t:=u) (by rw [hu];rfl)
 rw [Nat.zero_mul,Nat.add_zero] at t1
 obtain ⟨p1,c1,rfl,hl1,-⟩:=sub1.slice
 have HT1:=Lib.hid sub1;have HTN:=Lib.hid t1
 obtain ⟨R,hR⟩:∃ R,Rk.rSubs t q=R:=⟨_,rfl⟩
 obtain ⟨L,hL⟩:∃ L,Rk.rList t q=L:=⟨_,rfl⟩
 unfold SubE
 rw [hR,hL]
 have HL2:=Lib.hid (show List.replicate q.subs.length u=L by have:=hL;unfold Rk.rList at this;rw [if_neg (by omega),if_neg (by omega),if_neg (by omega),if_pos hk,hu] at this;exact this)
 have HR2:=Lib.hid (show decide (¬ ((q.subs.length:Int) < m ∨ (t.most ≠ -1∧t.most < (q.subs.length:Int)))∧(Rk.none? (q.subs.drop m)=0 ∨ (q.subs.length=1∧(m:Int)=0∧t.bare=false)))=R by
   have:=hR;unfold Rk.rSubs at this;rw [if_neg (by omega),if_neg (by omega),if_neg (by omega),if_pos hk,hm,Int.toNat_natCast] at this;exact this)
 clear hR hL hs hz sub1 t1
 have e5:(t.kind == 5)=false:=by rw [hk];decide
 have e6:(t.kind == 6)=false:=by rw [hk];decide
 have e7:(t.kind == 7)=false:=by rw [hk];decide
 have e8:(t.kind == 8)=true:=by rw [hk];decide
 unfold Tr.cells Pa.cells
 rw [hm,hu]
 have h1l:([u]:List Tr).length=1:=rfl
 rw [h1l]
 clear h1l hm hu hfl hlen hk hf hcp
 obtain ⟨n,hnn⟩:∃ n,q.subs.length=n:=⟨_,rfl⟩
 rw [hnn] at hn hlq HEM HL2 HR2 ⊢
 clear hnn
 generalize Rk.none? (q.subs.drop m)=nn at *
 generalize t.most=M at *;generalize t.bare=br at *
 generalize q.lo=lo at *;generalize q.hi=hi at *;generalize q.pick=pk at *
 by_cases h1:(n:Int) < m
 · have d1:decide ((n:Int) < m)=true:=decide_eq_true h1
   have d2:decide (n < m)=true:=by simp;omega
   have HR3:=Lib.hid (show false=R by have:=HR2.out;rw [decide_eq_false (by rintro ⟨a,-⟩;exact a (.inl h1))] at this;exact this)
   clear h1 HR2 HL2 HEM HT1 HTN
   go_enter Tryd.func96,Tryd.ntmps96
   go_wp2
   go_ret2
   exact ⟨_,ret_tb HR3.out,fun h=>(by rw [← HR3.out] at h;cases h),by go_grown⟩
 have d1:decide ((n:Int) < m)=false:=decide_eq_false h1
 have d2:decide (n < m)=false:=by simp;omega
 by_cases h2:M ≠ -1∧M < (n:Int)
 · have d3:(M != -1)=true:=by simpa using h2.1
   have d4:decide (M < (n:Int))=true:=decide_eq_true h2.2
   have HR3:=Lib.hid (show false=R by have:=HR2.out;rw [decide_eq_false (by rintro ⟨a,-⟩;exact a (.inr h2))] at this;exact this)
   clear h1 h2 HR2 HL2 HEM HT1 HTN
   go_enter Tryd.func96,Tryd.ntmps96
   go_wp2
   go_ret2
   exact ⟨_,ret_tb HR3.out,fun h=>(by rw [← HR3.out] at h;cases h),by go_grown⟩
 have HG:=Lib.hid (show (M != -1)=false ∨ ((M != -1)=true∧decide (M < (n:Int))=false) by
   by_cases a:M = -1
   · exact .inl (by simpa using a)
   · exact .inr ⟨by simpa using a,decide_eq_false fun b=>h2 ⟨a,b⟩⟩)
 have HRV:=Lib.hid (show decide (nn=0 ∨ (n=1∧(m:Int)=0∧br=false))=R by
   have:=HR2.out;rw [← this];exact decide_eq_decide.2 ⟨fun a=>⟨by rintro (b | b);exact h1 b;exact h2 b,a⟩,fun a=>a.2⟩)
 have hmn:m ≤ n:=by omega
 clear h1 h2 HR2
 have HEM2:=Lib.hid (fun w9 (h:Below w.heap.size w w9)=>HEM.out w9 h hmn)
 have HNN:Hid (Below w.heap.size w ((w.alloc (.cells #[.int .i64 t.kind,.int .u64 (Oc.U t.w0),.int .u64 (Oc.U t.w1),.int .u64 (Oc.U t.w2),.int .u64 (Oc.U t.w3),.slice (some ⟨b1,o1,none⟩) 1 cap,.int .i64 t.num,.int .i64 m,.int .i64 M,.bool br] 37)).alloc (.cells #[.int .i64 lo,.int .i64 hi,.int .i64 pk,.slice pp n pc] 57))):=Lib.hid (by go_grown)
 have W2x:=Lib.hid (two_new w (.cells #[.int .i64 t.kind,.int .u64 (Oc.U t.w0),.int .u64 (Oc.U t.w1),.int .u64 (Oc.U t.w2),.int .u64 (Oc.U t.w3),.slice (some ⟨b1,o1,none⟩) 1 cap,.int .i64 t.num,.int .i64 m,.int .i64 M,.bool br] 37) (.cells #[.int .i64 lo,.int .i64 hi,.int .i64 pk,.slice pp n pc] 57))
 clear HEM
 obtain ⟨ie,hi0,hz0,hz1,hz2⟩:=info_parts Tryd.infoNode
 have HI:=Lib.hid hi0;have HZ0:=Lib.hid hz0;have HZ1:=Lib.hid hz1;have HZ2:=Lib.hid hz2
 clear hi0 hz0 hz1 hz2
 rcases HG.out with hg | ⟨hg,hg2⟩
 all_goals
   clear HG
   go_enter Tryd.func96,Tryd.ntmps96
   go_wp2
   generalize hW0:World.alloc (World.alloc w _) _=W0
   have HNN0:=Lib.hid (show Below w.heap.size w W0 by rw [← hW0];exact HNN.out)
   have W2y:=Lib.hid (show W0.heap[w.heap.size]? = some (.cells #[.int .i64 t.kind,.int .u64 (Oc.U t.w0),.int .u64 (Oc.U t.w1),.int .u64 (Oc.U t.w2),.int .u64 (Oc.U t.w3),.slice (some ⟨b1,o1,none⟩) 1 cap,.int .i64 t.num,.int .i64 m,.int .i64 M,.bool br] 37)∧W0.heap[w.heap.size+1]? = some (.cells #[.int .i64 lo,.int .i64 hi,.int .i64 pk,.slice pp n pc] 57) by rw [← hW0];exact W2x.out)
   clear hW0 HNN W2x
   go_loopw [7,8] (fun lv iv wr=>∃ k:Nat,iv=.int .i64 (k:Int)∧k ≤ n∧Hid (wr.ownsRow (w.heap.size+2) 37 10 lv k (rowOf (List.replicate k (u,.slice p1 u.subs.length c1))))∧Hid (Below w.heap.size w wr)∧Hid (wr.heap[w.heap.size]? = some (.cells #[.int .i64 t.kind,.int .u64 (Oc.U t.w0),.int .u64 (Oc.U t.w1),.int .u64 (Oc.U t.w2),.int .u64 (Oc.U t.w3),.slice (some ⟨b1,o1,none⟩) 1 cap,.int .i64 t.num,.int .i64 m,.int .i64 M,.bool br] 37))∧Hid (wr.heap[w.heap.size+1]? = some (.cells #[.int .i64 lo,.int .i64 hi,.int .i64 pk,.slice pp n pc] 57))∧Hid (∃ q l c,lv=.slice q l c)) (fun _ iv _=>n - (intOf iv).toNat)
   case atStart=>exact ⟨0,rfl,Nat.zero_le _,Lib.hid (World.ownsRow_nil _ _ _ _),HNN0,Lib.hid W2y.out.1,Lib.hid W2y.out.2,Lib.hid ⟨_,_,_,rfl⟩⟩
   case round =>
     obtain ⟨k,rfl,hk,hown,HB,Z0,Z1,HSL⟩:=hrel
     obtain ⟨q7,l7,c7,rfl⟩:=HSL.out
     have wk:IntKind.i64.wrap ((k:Int)+1)=(k:Int)+1:=IntWalk.i64_in _ (by omega)
     have hsz:=(Array.getElem?_eq_some_iff.1 Z1.out).1
     obtain ⟨y0,y1,y2,y3,y4,y5,y6,y7,y8,y9⟩:=allTen Z0.out
     by_cases hlt:k < n
     · have hlt2:decide ((k:Int) < (n:Int))=true:=decide_eq_true (by omega)
       have hlt3:decide (k < n)=true:=decide_eq_true hlt
       obtain ⟨x0,x1,x2,x3,x4,x5,x6,x7,x8,x9⟩:=HTN.out.keep (HB.out.block _ HTN.out.lt)
       have HLT3:=Lib.hid hown.out.lt
       have HOWN2:=Lib.hid (hown.out.alloc (.cells (u.cells (.slice p1 u.subs.length c1)) 37))
       have HNW:Hid (∀ (j:Nat) (y:Value),(u.cells (.slice p1 u.subs.length c1)).toList[j]? = some y→(wr.alloc (.cells (u.cells (.slice p1 u.subs.length c1)) 37)).cell? ((⟨wr.heap.size,0,none⟩:Addr).add j)=some y):=Lib.hid (fun j y hy=>by
         have ea:(⟨wr.heap.size,0,none⟩:Addr).add j=⟨wr.heap.size,j,none⟩:=by unfold Addr.add;split <;> simp_all
         rw [ea,cell_new];simpa using hy)
       have HBA:Hid (w.heap.size+2 ≤ (wr.alloc (.cells (u.cells (.slice p1 u.subs.length c1)) 37)).heap.size):=Lib.hid (by simp;omega)
       have hml:k+1 ≤ maxLen:=by unfold maxLen;omega
       have hbyt:(k+1) * 96 ≤ 140737488355328:=by omega
       clear HSL
       go_wp2_with (first
         | (refine wpList_node1 rfl (.tmp 82) u p1 u.subs.length c1 rfl rfl ?_)
         | (refine wpList_append_fresh _ rfl (.tmp 78) (.tmp 83) 35 rfl (w.heap.size+2) 37 ie _ 10 96 Tryd.underlying35 HI.out HZ0.out HZ1.out HZ2.out rfl (by decide) _ _ _ rfl HOWN2.out ⟨wr.heap.size,0,none⟩ 1 1 (u.cells (.slice p1 u.subs.length c1)).toList rfl rfl HNW.out (nodeC_one _ _ _ _) (by decide) hml hbyt HBA.out ?_;intro v' w4 hown4 hgrow4 hwhere)
         | fail)
       have HG4:=Lib.hid hgrow4
       have hb3:Below wr.heap.size wr (wr.alloc (.cells (u.cells (.slice p1 u.subs.length c1)) 37)):=(Below.refl _ _).alloc (Nat.le_refl _) _
       have key:∀ j,j < wr.heap.size→j < w.heap.size+2→w4.heap[j]? = wr.heap[j]?:=fun j hj hj2 =>
         (HG4.out.block j (Nat.lt_of_lt_of_le hj hb3.size) (fun e=>by have:=(HLT3.out j e.symm).1;omega)).trans (hb3.block j hj)
       refine ⟨⟨k+1,by go_num,by omega,Lib.hid ?_,Lib.hid ?_,Lib.hid ((key _ (by omega) (by omega)).trans Z0.out),Lib.hid ((key _ (by omega) (by omega)).trans Z1.out),Lib.hid ?_⟩,by simp [intOf];omega⟩
       · rw [List.replicate_succ',rowOf_snoc];exact hown4
       · exact (HB.out.alloc HB.out.size _).grown HG4.out (by have:=HB.out.size;simp;omega) (fun j e=>by have:=(HLT3.out j e).1;omega)
       · obtain ⟨g,c,e⟩:=ownsRow_succP hown4;exact ⟨_,_,_,e⟩
     · obtain rfl:k=n:=by omega
       have HROW:=Lib.hid (show RowC wr B (.slice q7 l7 c7) (List.replicate k u) from row_same hown.out (by omega) (HT1.out.later HB.out) (fun b hb=>HBB.out b (by omega)))
       clear hown HT1 HSL HTN hlt
       obtain ⟨a0,a1,a2,a3,-,-,-,-⟩:=four Z1.out
       go_wp2_with fail
       refine (HEM2.out wr HB.out).mono ?_
       rintro e w2 ⟨rfl,hb2⟩
       have HB2:=Lib.hid (HB.out.trans (hb2.mono HB.out.size))
       have Z02:=Lib.hid (keep_blk hb2 Z0.out)
       have HROW2:=Lib.hid (HROW.out.later hb2)
       clear hb2 Z0 Z1 HROW HB HEM2 a0 a1 a2 a3 y0 y1 y2 y3 y4 y5 y6 y7 y8 y9 HI HZ0 HZ1 HZ2 HNN0 W2y
       obtain ⟨y0,y1,y2,y3,y4,y5,y6,y7,y8,y9⟩:=allTen Z02.out
       by_cases g1:k=1
       · have f1:((k:Int) == 1)=true:=by simp;omega
         have f1':(k == 1)=true:=by simpa using g1
         by_cases g2:(m:Int)=0
         · have f2:((m:Int) == 0)=true:=by simpa using g2
           have f2':(m == 0)=true:=by simp;omega
           by_cases g4:nn=0
           · have f4:((nn:Int) == 0)=true:=by simp;omega
             have f4':(nn == 0)=true:=by simpa using g4
             have HRW:=Lib.hid (show true=R by rw [← HRV.out];simp [g4])
             clear g1 g2 g4
             go_wp2
             go_ret2
             exact ⟨_,ret_tb HRW.out,fun _=>by rw [← HL2.out];exact HROW2.out,HB2.out⟩
           · have f4:((nn:Int) == 0)=false:=by simp;omega
             have f4':(nn == 0)=false:=by simpa using g4
             have HRW:=Lib.hid (show (!br)=R by rw [← HRV.out];cases br <;> simp [g4,g1,g2])
             clear g1 g2 g4
             go_wp2
             go_ret2
             exact ⟨_,ret_tb HRW.out,fun _=>by rw [← HL2.out];exact HROW2.out,HB2.out⟩
         · have f2:((m:Int) == 0)=false:=by simpa using g2
           have f2':(m == 0)=false:=by simp;omega
           have HRW:=Lib.hid (show (nn == 0)=R by rw [← HRV.out,Bool.eq_iff_iff,beq_iff_eq,decide_eq_true_eq];omega)
           have f4:((nn:Int) == 0)=(nn == 0):=by rw [Bool.eq_iff_iff,beq_iff_eq,beq_iff_eq];omega
           clear g1 g2
           cases hnn0:(nn == 0) <;> rw [hnn0] at f4 HRW
           all_goals
             go_wp2
             go_ret2
             exact ⟨_,ret_tb HRW.out,fun _=>by rw [← HL2.out];exact HROW2.out,HB2.out⟩
       · have f1:((k:Int) == 1)=false:=by simp;omega
         have f1':(k == 1)=false:=by simpa using g1
         have HRW:=Lib.hid (show (nn == 0)=R by rw [← HRV.out,Bool.eq_iff_iff,beq_iff_eq,decide_eq_true_eq];omega)
         have f4:((nn:Int) == 0)=(nn == 0):=by rw [Bool.eq_iff_iff,beq_iff_eq,beq_iff_eq];omega
         clear g1
         cases hnn0:(nn == 0) <;> rw [hnn0] at f4 HRW
         all_goals
           go_wp2
           go_ret2
           exact ⟨_,ret_tb HRW.out,fun _=>by rw [← HL2.out];exact HROW2.out,HB2.out⟩
theorem rrksubs_any (t:Tr) (q:Pa) (hf:t.InForm) (hn:q.subs.length ≤ 1000000) (w:World) (B C:Nat→Prop) (hB:∀ b,w.heap.size ≤ b→B b) (v vq:Value) (hv:NodeC w B v t) (hq:PaV w C vq q):Calls Tryd.prog 96 #[v,vq] w (SubE B t q w):=by
 have hk:=hf.fields
 unfold Tr.fieldsOk at hk
 rcases hk with ⟨k,-⟩ | ⟨k,-⟩ | ⟨k,-⟩ | ⟨k,-⟩ | ⟨k,-⟩
 · exact rrksubs_0 t q hf (by omega) hn w B C hB v vq hv hq
 · exact rrksubs_0 t q hf (by omega) hn w B C hB v vq hv hq
 · rcases k with k | k
   · exact rrksubs_5 t q hf k hn w B C hB v vq hv hq
   · exact rrksubs_6 t q hf k hn w B C hB v vq hv hq
 · exact rrksubs_7 t q hf k hn w B C hB v vq hv hq
 · exact rrksubs_8 t q hf k hn w B C hB v vq hv hq
end Go.Proofs.YtnaoiglbjkjogaaDoor
namespace Go.Proofs.YtnaoiglbjkjogaaDoor
open Go.RowKit
def BlEnd (n:Nat) (F:Nat→Bool) (w:World) (e:Ending) (w':World):Prop:=∃ g,e=.returned (.slice (some ⟨g,0,none⟩) n n)∧w.heap.size ≤ g∧w'.heap[g]? = some (.cells (bl n F) 4)∧Below w.heap.size w w'
theorem new_at (w:World) (o:Obj) (g:Nat) (hg:w.heap.size=g):(w.alloc o).heap[g]? = some o:=by subst hg;exact heap_alloc_new w o
def firstB (F:Nat→Bool) (k:Nat) (i:Nat):Bool:=decide (i < k) && F i
theorem firstB_zero (F:Nat→Bool):(fun _=>false)=firstB F 0:=by funext i;simp [firstB]
theorem firstB_all {n:Nat} (F:Nat→Bool):bl n (firstB F n)=bl n F:=bl_congr fun i hi=>by simp [firstB,hi]
theorem firstB_next (F:Nat→Bool) (k j:Nat) (h:j ≠ k):firstB F (k+1) j=firstB F k j:=by
 unfold firstB
 have:decide (j < k+1)=decide (j < k):=by rw [decide_eq_decide];omega
 rw [this]
theorem firstB_at (F:Nat→Bool) (k:Nat):firstB F (k+1) k=F k:=by unfold firstB;rw [decide_eq_true (by omega)];rfl
theorem rrnone_any (s:ByteArray) (c e0:Int) (T:Bool) (hs:s.size ≤ 1000000) (w:World):Calls Tryd.prog 138 #[.agg #[.string s,.int .i64 c,.int .i64 e0,.bool T]] w (BlEnd (s.size+1) (fun _=>false) w):=by
 have Z0:=Lib.hid (heap_alloc_new w (.cells #[.string s,.int .i64 c,.int .i64 e0,.bool T] 61))
 have HW:=Lib.hid (show Below w.heap.size w (w.alloc (.cells #[.string s,.int .i64 c,.int .i64 e0,.bool T] 61)) from (Below.refl _ _).alloc (Nat.le_refl _) _)
 obtain ⟨c0,-,-,-,-⟩:=four Z0.out
 have wn:IntKind.i64.wrap ((s.size:Int)+1)=((s.size+1:Nat):Int):=by rw [show (s.size:Int)+1=((s.size+1:Nat):Int) by omega];exact IntWalk.i64_in _ (by omega)
 have hmk:=make_bools 170 Tryd.underlying170 (s.size+1) (by omega)
 generalize hn:s.size+1=n at *
 clear hn
 go_enter Tryd.func138,Tryd.ntmps138
 go_wp2
 go_ret
 exact ⟨_,rfl,Nat.le_succ _,new_at _ _ _ (by simp),HW.out.alloc HW.out.size _⟩
theorem rronly_any (s:ByteArray) (c e0:Int) (T:Bool) (hs:s.size ≤ 1000000) (k:Nat) (hk:k ≤ s.size) (w:World):Calls Tryd.prog 125 #[.agg #[.string s,.int .i64 c,.int .i64 e0,.bool T],.int .i64 (k:Int)] w (BlEnd (s.size+1) (fun j=>decide (j=k)) w):=by
 have Z0:=Lib.hid (heap_alloc_new w (.cells #[.string s,.int .i64 c,.int .i64 e0,.bool T] 61))
 have HW:=Lib.hid (show Below w.heap.size w (w.alloc (.cells #[.string s,.int .i64 c,.int .i64 e0,.bool T] 61)) from (Below.refl _ _).alloc (Nat.le_refl _) _)
 have HNO:=Lib.hid (fun w=>rrnone_any s c e0 T hs w)
 have hkn:k < s.size+1:=by omega
 clear hs hk
 generalize hn:s.size+1=n at *
 clear hn
 go_enter Tryd.func125,Tryd.ntmps125
 go_wp2_with (first
   | (refine wpList_load_row rfl 61 (.tmp 2) rfl w.heap.size rfl 61 _ (0,0) _ Z0.out Tryd.underlying61 rfl (by kernel_rfl) ?_)
   | fail)
 refine (HNO.out _).mono ?_
 rintro e w1 ⟨g,rfl,hg0,hg,hb1⟩
 have HB1:=Lib.hid (HW.out.trans (hb1.mono HW.out.size));have HG:=Lib.hid hg
 have HG0:=Lib.hid (show w.heap.size ≤ g by simp at hg0;omega)
 obtain ⟨l0,f0⟩:=bl_cell hkn hg
 have hki:(k:Int) < (n:Int):=by omega
 have HK:=Lib.hid (bl_put (G:=fun j=>decide (j=k)) (k:=k) (v:=true) hkn hg (by simp) (fun j hj=>by simp [hj]))
 clear hg0 hg hb1
 go_wp2
 go_ret
 exact ⟨g,rfl,HG0.out,HK.out,HB1.out.setCell HG0.out _⟩
theorem rrsome_any (n:Nat) (hn:n ≤ 1000001) (F:Nat→Bool) (q:Bool) (hq:q=true ↔ ∃ i,i < n∧F i=true) (v:Value) (w:World) (hv:BlAt w v n F):Calls Tryd.prog 139 #[v] w fun e w'=>e=.returned (.bool q)∧w'=w:=by
 obtain ⟨g,rfl,hg⟩:=hv
 have HG:=Lib.hid hg;have HQ:=Lib.hid hq
 clear hg hq
 go_enter Tryd.func139,Tryd.ntmps139
 go_wp2
 go_loopw [3] (fun iv wr=>∃ k:Nat,iv=.int .i64 (k:Int)∧k ≤ n∧wr=w∧Hid (∀ i,i < k→F i=false)) (fun iv _=>n - (intOf iv).toNat)
 case atStart=>exact ⟨0,rfl,Nat.zero_le _,rfl,Lib.hid (fun i h=>by omega)⟩
 case round =>
   obtain ⟨k,rfl,hk,rfl,HS⟩:=hrel
   by_cases hlt:k < n
   · have wi:IntKind.i64.wrap ((k:Int)+1)=(k:Int)+1:=IntWalk.i64_in _ (by omega)
     obtain ⟨l0,-⟩:=bl_cell hlt HG.out
     have hki:(k:Int) < (n:Int):=by omega
     cases hf:F k with
     | true =>
       rw [hf] at l0
       have HV:=Lib.hid (HQ.out.2 ⟨k,hlt,hf⟩)
       clear hf
       go_wp2
       go_ret
       exact ⟨ret_bool HV.out.symm,rfl⟩
     | false =>
       rw [hf] at l0
       have HF:=Lib.hid hf
       clear hf
       go_wp2
       exact ⟨⟨k+1,by go_num,by omega,by first | rfl | trivial,Lib.hid (fun i hi=>by
         by_cases e:i=k
         · subst e;exact HF.out
         · exact HS.out i (by omega))⟩,by simp [intOf];omega⟩
   · obtain rfl:k=n:=by omega
     have HV:=Lib.hid (show q=false by
       cases h:q with
       | false=>rfl
       | true=>obtain ⟨i,hi,hf⟩:=HQ.out.1 h;rw [HS.out i hi] at hf;exact absurd hf (by decide))
     clear HS
     go_wp2
     go_ret
     exact ⟨ret_bool HV.out.symm,rfl⟩
theorem rrboth_any (n:Nat) (hn:n ≤ 1000001) (F G:Nat→Bool) (v u:Value) (w:World) (hv:BlAt w v n F) (hu:BlAt w u n G):Calls Tryd.prog 140 #[v,u] w (BlEnd n (fun i=>F i || G i) w):=by
 obtain ⟨g,rfl,hg⟩:=hv
 obtain ⟨h,rfl,hh⟩:=hu
 have HG:=Lib.hid hg;have HH:=Lib.hid hh
 have hmk:=make_bools 170 Tryd.underlying170 n (by omega)
 clear hg hh
 go_enter Tryd.func140,Tryd.ntmps140
 go_upto_region 2 with (fail)
 have z0:(w.alloc (.cells (bl n fun _=>false) 4)).heap[w.heap.size]? = some (.cells (bl n (firstB (fun i=>F i || G i) 0)) 4):=by rw [← firstB_zero];exact heap_alloc_new _ _
 have zg:=Lib.hid (heap_alloc_lt (o:=.cells (bl n fun _=>false) 4) HG.out);have zh:=Lib.hid (heap_alloc_lt (o:=.cells (bl n fun _=>false) 4) HH.out)
 have Z0:=Lib.hid z0
 have HB:=Lib.hid (show Below w.heap.size w (w.alloc (.cells (bl n fun _=>false) 4)) from (Below.refl _ _).alloc (Nat.le_refl _) _)
 have GL:=Lib.hid (show g ≠ w.heap.size from Nat.ne_of_lt (Array.getElem?_eq_some_iff.1 HG.out).1);have HL:=Lib.hid (show h ≠ w.heap.size from Nat.ne_of_lt (Array.getElem?_eq_some_iff.1 HH.out).1)
 clear z0 HG HH hmk
 generalize World.alloc w _=W at *
 go_wp2
 go_loopw [6] (fun iv wr=>∃ k:Nat,iv=.int .i64 (k:Int)∧k ≤ n∧Hid (Below w.heap.size w wr)∧Hid (wr.heap[g]? = some (.cells (bl n F) 4))∧Hid (wr.heap[h]? = some (.cells (bl n G) 4))∧Hid (wr.heap[w.heap.size]? = some (.cells (bl n (firstB (fun i=>F i || G i) k)) 4))) (fun iv _=>n - (intOf iv).toNat)
 case atStart=>exact ⟨0,rfl,Nat.zero_le _,HB,zg,zh,Z0⟩
 case round =>
   clear HB zg zh Z0
   obtain ⟨k,rfl,hk,HB,ZG,ZH,Z0⟩:=hrel
   by_cases hlt:k < n
   · have wi:IntKind.i64.wrap ((k:Int)+1)=(k:Int)+1:=IntWalk.i64_in _ (by omega)
     obtain ⟨l0,f0⟩:=bl_cell hlt Z0.out
     obtain ⟨l1,-⟩:=bl_cell hlt ZG.out
     obtain ⟨l2,-⟩:=bl_cell hlt ZH.out
     have hki:(k:Int) < (n:Int):=by omega
     have KEY:=Lib.hid (fun (x9:Bool) (hx:(F k || G k)=x9)=>bl_put (G:=firstB (fun i=>F i || G i) (k+1)) hlt Z0.out (show _=x9 from (firstB_at _ _).trans hx) (fun j hj=>firstB_next _ _ _ hj))
     generalize F k=a at *
     generalize G k=b at *
     cases a <;> cases b
     all_goals
       have K2:=Lib.hid (KEY.out _ rfl)
       clear KEY
       go_wp2
       refine ⟨⟨k+1,by go_num,by omega,Lib.hid (HB.out.setCell (Nat.le_refl _) _),Lib.hid ?_,Lib.hid ?_,K2⟩,by simp [intOf];omega⟩
       · exact (Below.heap_setCell _ _ _ _ (by show g ≠ w.heap.size;exact GL.out)).trans ZG.out
       · exact (Below.heap_setCell _ _ _ _ (by show h ≠ w.heap.size;exact HL.out)).trans ZH.out
   · obtain rfl:k=n:=by omega
     have z0:=Z0.out
     rw [firstB_all] at z0
     have Y0:=Lib.hid z0
     clear z0 Z0
     go_wp2
     go_ret
     exact ⟨w.heap.size,rfl,Nat.le_refl _,Y0.out,HB.out⟩
theorem rrwithout_any (n:Nat) (hn:n ≤ 1000001) (F G:Nat→Bool) (v u:Value) (w:World) (hv:BlAt w v n F) (hu:BlAt w u n G):Calls Tryd.prog 154 #[v,u] w (BlEnd n (fun i=>F i && !G i) w):=by
 obtain ⟨g,rfl,hg⟩:=hv
 obtain ⟨h,rfl,hh⟩:=hu
 have HG:=Lib.hid hg;have HH:=Lib.hid hh
 have hmk:=make_bools 170 Tryd.underlying170 n (by omega)
 clear hg hh
 go_enter Tryd.func154,Tryd.ntmps154
 go_upto_region 2 with (fail)
 have z0:(w.alloc (.cells (bl n fun _=>false) 4)).heap[w.heap.size]? = some (.cells (bl n (firstB (fun i=>F i && !G i) 0)) 4):=by rw [← firstB_zero];exact heap_alloc_new _ _
 have zg:=Lib.hid (heap_alloc_lt (o:=.cells (bl n fun _=>false) 4) HG.out);have zh:=Lib.hid (heap_alloc_lt (o:=.cells (bl n fun _=>false) 4) HH.out)
 have Z0:=Lib.hid z0
 have HB:=Lib.hid (show Below w.heap.size w (w.alloc (.cells (bl n fun _=>false) 4)) from (Below.refl _ _).alloc (Nat.le_refl _) _)
 have GL:=Lib.hid (show g ≠ w.heap.size from Nat.ne_of_lt (Array.getElem?_eq_some_iff.1 HG.out).1);have HL:=Lib.hid (show h ≠ w.heap.size from Nat.ne_of_lt (Array.getElem?_eq_some_iff.1 HH.out).1)
 clear z0 HG HH hmk
 generalize World.alloc w _=W at *
 go_wp2
 go_loopw [6] (fun iv wr=>∃ k:Nat,iv=.int .i64 (k:Int)∧k ≤ n∧Hid (Below w.heap.size w wr)∧Hid (wr.heap[g]? = some (.cells (bl n F) 4))∧Hid (wr.heap[h]? = some (.cells (bl n G) 4))∧Hid (wr.heap[w.heap.size]? = some (.cells (bl n (firstB (fun i=>F i && !G i) k)) 4))) (fun iv _=>n - (intOf iv).toNat)
 case atStart=>exact ⟨0,rfl,Nat.zero_le _,HB,zg,zh,Z0⟩
 case round =>
   clear HB zg zh Z0
   obtain ⟨k,rfl,hk,HB,ZG,ZH,Z0⟩:=hrel
   by_cases hlt:k < n
   · have wi:IntKind.i64.wrap ((k:Int)+1)=(k:Int)+1:=IntWalk.i64_in _ (by omega)
     obtain ⟨l0,f0⟩:=bl_cell hlt Z0.out
     obtain ⟨l1,-⟩:=bl_cell hlt ZG.out
     obtain ⟨l2,-⟩:=bl_cell hlt ZH.out
     have hki:(k:Int) < (n:Int):=by omega
     have KEY:=Lib.hid (fun (x9:Bool) (hx:(F k && !G k)=x9)=>bl_put (G:=firstB (fun i=>F i && !G i) (k+1)) hlt Z0.out (show _=x9 from (firstB_at _ _).trans hx) (fun j hj=>firstB_next _ _ _ hj))
     generalize F k=a at *
     generalize G k=b at *
     cases a <;> cases b
     all_goals
       have K2:=Lib.hid (KEY.out _ rfl)
       clear KEY
       go_wp2
       refine ⟨⟨k+1,by go_num,by omega,Lib.hid (HB.out.setCell (Nat.le_refl _) _),Lib.hid ?_,Lib.hid ?_,K2⟩,by simp [intOf];omega⟩
       · exact (Below.heap_setCell _ _ _ _ (by show g ≠ w.heap.size;exact GL.out)).trans ZG.out
       · exact (Below.heap_setCell _ _ _ _ (by show h ≠ w.heap.size;exact HL.out)).trans ZH.out
   · obtain rfl:k=n:=by omega
     have z0:=Z0.out
     rw [firstB_all] at z0
     have Y0:=Lib.hid z0
     clear z0 Z0
     go_wp2
     go_ret
     exact ⟨w.heap.size,rfl,Nat.le_refl _,Y0.out,HB.out⟩
end Go.Proofs.YtnaoiglbjkjogaaDoor
namespace Go.Proofs.YtnaoiglbjkjogaaDoor
open Go.RowKit
theorem refhas_any (a b c d:BitVec 64) (n:Nat) (hn:n < 256) (w:World) :
   Calls Tryd.prog 15 #[(.agg #[.int .u64 (Oc.U a),.int .u64 (Oc.U b),.int .u64 (Oc.U c),.int .u64 (Oc.U d)]),.int .u8 n] w fun e w'=>e=.returned (.bool (Oc.mem a b c d n))∧Below w.heap.size w w':=by
 have ha:=Oc.U_nonneg a;have hb:=Oc.U_nonneg b;have hc:=Oc.U_nonneg c;have hd:=Oc.U_nonneg d
 have hq:n / 64=0 ∨ n / 64=1 ∨ n / 64=2 ∨ n / 64=3:=by omega
 have h2:∀ x:BitVec 64,(Oc.U x / (2:Int) ^ (n % 64) % 2 == 1)=x.getLsbD (n % 64):=fun x=>by
   rw [← bit_of];unfold pw;congr 3
 have H2:=Lib.hid h2
 clear h2
 rcases hq with hq | hq | hq | hq
 all_goals
   have hs:=shr_word a (n % 64);have hs1:=shr_word b (n % 64);have hs2:=shr_word c (n % 64);have hs3:=shr_word d (n % 64)
   have ht:=Oc.U_nonneg (a >>> (n % 64));have ht1:=Oc.U_nonneg (b >>> (n % 64));have ht2:=Oc.U_nonneg (c >>> (n % 64));have ht3:=Oc.U_nonneg (d >>> (n % 64))
   go_enter Tryd.func15,Tryd.ntmps15
   go_wp2
   go_returns
   refine ⟨ret_bool ?_,by go_grown⟩
   rw [← shr_word,H2.out]
   unfold Oc.mem Oc.w4
   rw [hq]
   rfl
def least (p:Nat→Bool):Int:=if Oc.nx p 0 < 256 then (Oc.nx p 0:Int) else -1
end Go.Proofs.YtnaoiglbjkjogaaDoor
namespace Go.Proofs.YtnaoiglbjkjogaaDoor
open Go.RowKit
namespace Re
def leafV (x:Sc) (t:Tr) (i:Nat):Int :=
 if t.kind=1 then (i:Int)
 else if t.kind=2 then (if (decide (i < x.t.size) && Oc.mem t.w0 t.w1 t.w2 t.w3 (cb x.t i))=true then (i:Int)+1 else -1)
 else if t.kind=3 then (if x.beg (i:Int)=true then (i:Int) else -1)
 else (if x.fin (i:Int)=true then (i:Int) else -1)
theorem leafV_tk (x:Sc) (t:Tr) (hk:t.kind=1 ∨ t.kind=2 ∨ t.kind=3 ∨ t.kind=4) (i j:Nat):leafV x t i=(j:Int) ↔ Tr.tk x t i j:=by
 unfold leafV
 rcases hk with hk | hk | hk | hk
 · rw [if_pos hk,Tr.tk_empty hk];omega
 · rw [hk,Tr.tk_bytes hk]
   simp only [Int.reduceEq,if_false,if_true,Bool.and_eq_true,decide_eq_true_eq]
   by_cases h:i < x.t.size∧Oc.mem t.w0 t.w1 t.w2 t.w3 (cb x.t i)=true
   · rw [if_pos h]
     constructor
     · intro e;exact ⟨h,by omega⟩
     · rintro ⟨-,e⟩;omega
   · rw [if_neg h]
     constructor
     · intro e;omega
     · rintro ⟨a,-⟩;exact absurd a h
 · rw [hk,Tr.tk_beg hk]
   simp only [Int.reduceEq,if_false,if_true]
   cases x.beg (i:Int) <;> simp <;> omega
 · rw [hk,Tr.tk_fin hk]
   simp only [Int.reduceEq,if_false]
   cases x.fin (i:Int) <;> simp <;> omega
end Re
theorem rrleaf1 (s:ByteArray) (c e0:Int) (_hs:s.size ≤ 1000000) (t:Tr) (hk:t.kind=1) (v:Value) (hv:∃ p l cap,v=.slice p l cap) (i:Nat) (_hi:i ≤ s.size) (w:World):Calls Tryd.prog 142 #[.agg (t.cells v),.agg #[.string s,.int .i64 c,.int .i64 e0,.bool false],.int .i64 (i:Int)] w fun e w'=>e=.returned (.int .i64 (Re.leafV (Sc.new s c e0) t i))∧Below w.heap.size w w':=by
 obtain ⟨p,l,cap,rfl⟩:=hv
 have e9:Re.leafV (Sc.new s c e0) t i=(i:Int):=by unfold Re.leafV;rw [if_pos hk]
 rw [e9]
 clear e9
 unfold Tr.cells
 rw [hk]
 clear hk
 go_enter Tryd.func142,Tryd.ntmps142
 go_upto_region 1 with (fail)
 have hb1:Below w.heap.size w ((w.alloc (.cells #[.int .i64 1,.int .u64 (Oc.U t.w0),.int .u64 (Oc.U t.w1),.int .u64 (Oc.U t.w2),.int .u64 (Oc.U t.w3),.slice p l cap,.int .i64 t.num,.int .i64 t.least,.int .i64 t.most,.bool t.bare] 37)).alloc (.cells #[.string s,.int .i64 c,.int .i64 e0,.bool false] 61)):=by go_grown
 have Y0:=Lib.hid (show ((w.alloc (.cells #[.int .i64 1,.int .u64 (Oc.U t.w0),.int .u64 (Oc.U t.w1),.int .u64 (Oc.U t.w2),.int .u64 (Oc.U t.w3),.slice p l cap,.int .i64 t.num,.int .i64 t.least,.int .i64 t.most,.bool t.bare] 37)).alloc (.cells #[.string s,.int .i64 c,.int .i64 e0,.bool false] 61)).heap[w.heap.size]? = some (.cells #[.int .i64 1,.int .u64 (Oc.U t.w0),.int .u64 (Oc.U t.w1),.int .u64 (Oc.U t.w2),.int .u64 (Oc.U t.w3),.slice p l cap,.int .i64 t.num,.int .i64 t.least,.int .i64 t.most,.bool t.bare] 37) from heap_alloc_lt (heap_alloc_new _ _))
 have Y1:=Lib.hid (show ((w.alloc (.cells #[.int .i64 1,.int .u64 (Oc.U t.w0),.int .u64 (Oc.U t.w1),.int .u64 (Oc.U t.w2),.int .u64 (Oc.U t.w3),.slice p l cap,.int .i64 t.num,.int .i64 t.least,.int .i64 t.most,.bool t.bare] 37)).alloc (.cells #[.string s,.int .i64 c,.int .i64 e0,.bool false] 61)).heap[w.heap.size+1]? = some (.cells #[.string s,.int .i64 c,.int .i64 e0,.bool false] 61) from new_at _ _ _ (by simp))
 have HB:=Lib.hid hb1
 clear hb1
 generalize (w.alloc (.cells #[.int .i64 1,.int .u64 (Oc.U t.w0),.int .u64 (Oc.U t.w1),.int .u64 (Oc.U t.w2),.int .u64 (Oc.U t.w3),.slice p l cap,.int .i64 t.num,.int .i64 t.least,.int .i64 t.most,.bool t.bare] 37)).alloc (.cells #[.string s,.int .i64 c,.int .i64 e0,.bool false] 61)=W at *
 obtain ⟨n0,n1,n2,n3,n4,n5,n6,n7,n8,n9⟩:=allTen Y0.out
 go_wp2
 go_ret
 exact ⟨rfl,HB.out⟩
theorem rrleaf3 (s:ByteArray) (c e0:Int) (_hs:s.size ≤ 1000000) (t:Tr) (hk:t.kind=3) (v:Value) (hv:∃ p l cap,v=.slice p l cap) (i:Nat) (_hi:i ≤ s.size) (w:World):Calls Tryd.prog 142 #[.agg (t.cells v),.agg #[.string s,.int .i64 c,.int .i64 e0,.bool false],.int .i64 (i:Int)] w fun e w'=>e=.returned (.int .i64 (Re.leafV (Sc.new s c e0) t i))∧Below w.heap.size w w':=by
 obtain ⟨p,l,cap,rfl⟩:=hv
 have e9:Re.leafV (Sc.new s c e0) t i=if (Sc.new s c e0).beg (i:Int)=true then (i:Int) else -1:=by unfold Re.leafV;rw [hk];simp only [Int.reduceEq,if_false,if_true]
 rw [e9]
 clear e9
 have HC:=Lib.hid (fun w=>rbeg_any s c e0 false (i:Int) (by omega) w)
 have hof:Sc.of s c e0 false=Sc.new s c e0:=rfl
 rw [hof] at HC
 clear hof
 generalize (Sc.new s c e0).beg (i:Int)=q at *
 unfold Tr.cells
 rw [hk]
 clear hk
 go_enter Tryd.func142,Tryd.ntmps142
 go_upto_region 1 with (fail)
 have hb1:Below w.heap.size w ((w.alloc (.cells #[.int .i64 3,.int .u64 (Oc.U t.w0),.int .u64 (Oc.U t.w1),.int .u64 (Oc.U t.w2),.int .u64 (Oc.U t.w3),.slice p l cap,.int .i64 t.num,.int .i64 t.least,.int .i64 t.most,.bool t.bare] 37)).alloc (.cells #[.string s,.int .i64 c,.int .i64 e0,.bool false] 61)):=by go_grown
 have Y0:=Lib.hid (show ((w.alloc (.cells #[.int .i64 3,.int .u64 (Oc.U t.w0),.int .u64 (Oc.U t.w1),.int .u64 (Oc.U t.w2),.int .u64 (Oc.U t.w3),.slice p l cap,.int .i64 t.num,.int .i64 t.least,.int .i64 t.most,.bool t.bare] 37)).alloc (.cells #[.string s,.int .i64 c,.int .i64 e0,.bool false] 61)).heap[w.heap.size]? = some (.cells #[.int .i64 3,.int .u64 (Oc.U t.w0),.int .u64 (Oc.U t.w1),.int .u64 (Oc.U t.w2),.int .u64 (Oc.U t.w3),.slice p l cap,.int .i64 t.num,.int .i64 t.least,.int .i64 t.most,.bool t.bare] 37) from heap_alloc_lt (heap_alloc_new _ _))
 have Y1:=Lib.hid (show ((w.alloc (.cells #[.int .i64 3,.int .u64 (Oc.U t.w0),.int .u64 (Oc.U t.w1),.int .u64 (Oc.U t.w2),.int .u64 (Oc.U t.w3),.slice p l cap,.int .i64 t.num,.int .i64 t.least,.int .i64 t.most,.bool t.bare] 37)).alloc (.cells #[.string s,.int .i64 c,.int .i64 e0,.bool false] 61)).heap[w.heap.size+1]? = some (.cells #[.string s,.int .i64 c,.int .i64 e0,.bool false] 61) from new_at _ _ _ (by simp))
 have HB:=Lib.hid hb1
 clear hb1
 generalize (w.alloc (.cells #[.int .i64 3,.int .u64 (Oc.U t.w0),.int .u64 (Oc.U t.w1),.int .u64 (Oc.U t.w2),.int .u64 (Oc.U t.w3),.slice p l cap,.int .i64 t.num,.int .i64 t.least,.int .i64 t.most,.bool t.bare] 37)).alloc (.cells #[.string s,.int .i64 c,.int .i64 e0,.bool false] 61)=W at *
 obtain ⟨n0,n1,n2,n3,n4,n5,n6,n7,n8,n9⟩:=allTen Y0.out
 go_wp2_with (first
   | (refine wpList_load_row rfl 61 (.tmp 4) rfl (w.heap.size+1) rfl 61 _ (0,0) _ Y1.out Tryd.underlying61 rfl (by kernel_rfl) ?_)
   | fail)
 refine (HC.out _).mono ?_
 rintro e w2 ⟨rfl,hb2⟩
 have HB2:=Lib.hid (HB.out.trans (hb2.mono HB.out.size))
 clear hb2 HB Y0 Y1 n0 n1 n2 n3 n4 n5 n6 n7 n8 n9
 cases q
 all_goals
   go_wp2
   go_ret
   exact ⟨rfl,HB2.out⟩
theorem rrleaf4 (s:ByteArray) (c e0:Int) (_hs:s.size ≤ 1000000) (t:Tr) (hk:t.kind=4) (v:Value) (hv:∃ p l cap,v=.slice p l cap) (i:Nat) (_hi:i ≤ s.size) (w:World):Calls Tryd.prog 142 #[.agg (t.cells v),.agg #[.string s,.int .i64 c,.int .i64 e0,.bool false],.int .i64 (i:Int)] w fun e w'=>e=.returned (.int .i64 (Re.leafV (Sc.new s c e0) t i))∧Below w.heap.size w w':=by
 obtain ⟨p,l,cap,rfl⟩:=hv
 have e9:Re.leafV (Sc.new s c e0) t i=if (Sc.new s c e0).fin (i:Int)=true then (i:Int) else -1:=by unfold Re.leafV;rw [hk];simp only [Int.reduceEq,if_false]
 rw [e9]
 clear e9
 have HC:=Lib.hid (fun w=>rfin_any s c e0 false (i:Int) (by omega) w)
 have hof:Sc.of s c e0 false=Sc.new s c e0:=rfl
 rw [hof] at HC
 clear hof
 generalize (Sc.new s c e0).fin (i:Int)=q at *
 unfold Tr.cells
 rw [hk]
 clear hk
 go_enter Tryd.func142,Tryd.ntmps142
 go_upto_region 1 with (fail)
 have hb1:Below w.heap.size w ((w.alloc (.cells #[.int .i64 4,.int .u64 (Oc.U t.w0),.int .u64 (Oc.U t.w1),.int .u64 (Oc.U t.w2),.int .u64 (Oc.U t.w3),.slice p l cap,.int .i64 t.num,.int .i64 t.least,.int .i64 t.most,.bool t.bare] 37)).alloc (.cells #[.string s,.int .i64 c,.int .i64 e0,.bool false] 61)):=by go_grown
 have Y0:=Lib.hid (show ((w.alloc (.cells #[.int .i64 4,.int .u64 (Oc.U t.w0),.int .u64 (Oc.U t.w1),.int .u64 (Oc.U t.w2),.int .u64 (Oc.U t.w3),.slice p l cap,.int .i64 t.num,.int .i64 t.least,.int .i64 t.most,.bool t.bare] 37)).alloc (.cells #[.string s,.int .i64 c,.int .i64 e0,.bool false] 61)).heap[w.heap.size]? = some (.cells #[.int .i64 4,.int .u64 (Oc.U t.w0),.int .u64 (Oc.U t.w1),.int .u64 (Oc.U t.w2),.int .u64 (Oc.U t.w3),.slice p l cap,.int .i64 t.num,.int .i64 t.least,.int .i64 t.most,.bool t.bare] 37) from heap_alloc_lt (heap_alloc_new _ _))
 have Y1:=Lib.hid (show ((w.alloc (.cells #[.int .i64 4,.int .u64 (Oc.U t.w0),.int .u64 (Oc.U t.w1),.int .u64 (Oc.U t.w2),.int .u64 (Oc.U t.w3),.slice p l cap,.int .i64 t.num,.int .i64 t.least,.int .i64 t.most,.bool t.bare] 37)).alloc (.cells #[.string s,.int .i64 c,.int .i64 e0,.bool false] 61)).heap[w.heap.size+1]? = some (.cells #[.string s,.int .i64 c,.int .i64 e0,.bool false] 61) from new_at _ _ _ (by simp))
 have HB:=Lib.hid hb1
 clear hb1
 generalize (w.alloc (.cells #[.int .i64 4,.int .u64 (Oc.U t.w0),.int .u64 (Oc.U t.w1),.int .u64 (Oc.U t.w2),.int .u64 (Oc.U t.w3),.slice p l cap,.int .i64 t.num,.int .i64 t.least,.int .i64 t.most,.bool t.bare] 37)).alloc (.cells #[.string s,.int .i64 c,.int .i64 e0,.bool false] 61)=W at *
 obtain ⟨n0,n1,n2,n3,n4,n5,n6,n7,n8,n9⟩:=allTen Y0.out
 go_wp2_with (first
   | (refine wpList_load_row rfl 61 (.tmp 4) rfl (w.heap.size+1) rfl 61 _ (0,0) _ Y1.out Tryd.underlying61 rfl (by kernel_rfl) ?_)
   | fail)
 refine (HC.out _).mono ?_
 rintro e w2 ⟨rfl,hb2⟩
 have HB2:=Lib.hid (HB.out.trans (hb2.mono HB.out.size))
 clear hb2 HB Y0 Y1 n0 n1 n2 n3 n4 n5 n6 n7 n8 n9
 cases q
 all_goals
   go_wp2
   go_ret
   exact ⟨rfl,HB2.out⟩
theorem rrleaf2 (s:ByteArray) (c e0:Int) (_hs:s.size ≤ 1000000) (t:Tr) (hk:t.kind=2) (v:Value) (hv:∃ p l cap,v=.slice p l cap) (i:Nat) (_hi:i ≤ s.size) (w:World):Calls Tryd.prog 142 #[.agg (t.cells v),.agg #[.string s,.int .i64 c,.int .i64 e0,.bool false],.int .i64 (i:Int)] w fun e w'=>e=.returned (.int .i64 (Re.leafV (Sc.new s c e0) t i))∧Below w.heap.size w w':=by
 obtain ⟨p,l,cap,rfl⟩:=hv
 have e9:Re.leafV (Sc.new s c e0) t i=if (decide (i < s.size) && Oc.mem t.w0 t.w1 t.w2 t.w3 (cb s i))=true then (i:Int)+1 else -1:=by unfold Re.leafV;rw [hk];simp only [Int.reduceEq,if_false,if_true];rfl
 rw [e9]
 clear e9
 generalize hL:(if (decide (i < s.size) && Oc.mem t.w0 t.w1 t.w2 t.w3 (cb s i))=true then (i:Int)+1 else -1)=L
 have HLV:=Lib.hid hL.symm
 clear hL
 have HC:=Lib.hid (fun w=>rbyte_any s c e0 false (i:Int) (by omega) w)
 have wi:IntKind.i64.wrap ((i:Int)+1)=(i:Int)+1:=IntWalk.i64_in _ (by omega)
 unfold Tr.cells
 rw [hk]
 clear hk
 go_enter Tryd.func142,Tryd.ntmps142
 go_upto_region 1 with (fail)
 have hb1:Below w.heap.size w ((w.alloc (.cells #[.int .i64 2,.int .u64 (Oc.U t.w0),.int .u64 (Oc.U t.w1),.int .u64 (Oc.U t.w2),.int .u64 (Oc.U t.w3),.slice p l cap,.int .i64 t.num,.int .i64 t.least,.int .i64 t.most,.bool t.bare] 37)).alloc (.cells #[.string s,.int .i64 c,.int .i64 e0,.bool false] 61)):=by go_grown
 have Y0:=Lib.hid (show ((w.alloc (.cells #[.int .i64 2,.int .u64 (Oc.U t.w0),.int .u64 (Oc.U t.w1),.int .u64 (Oc.U t.w2),.int .u64 (Oc.U t.w3),.slice p l cap,.int .i64 t.num,.int .i64 t.least,.int .i64 t.most,.bool t.bare] 37)).alloc (.cells #[.string s,.int .i64 c,.int .i64 e0,.bool false] 61)).heap[w.heap.size]? = some (.cells #[.int .i64 2,.int .u64 (Oc.U t.w0),.int .u64 (Oc.U t.w1),.int .u64 (Oc.U t.w2),.int .u64 (Oc.U t.w3),.slice p l cap,.int .i64 t.num,.int .i64 t.least,.int .i64 t.most,.bool t.bare] 37) from heap_alloc_lt (heap_alloc_new _ _))
 have Y1:=Lib.hid (show ((w.alloc (.cells #[.int .i64 2,.int .u64 (Oc.U t.w0),.int .u64 (Oc.U t.w1),.int .u64 (Oc.U t.w2),.int .u64 (Oc.U t.w3),.slice p l cap,.int .i64 t.num,.int .i64 t.least,.int .i64 t.most,.bool t.bare] 37)).alloc (.cells #[.string s,.int .i64 c,.int .i64 e0,.bool false] 61)).heap[w.heap.size+1]? = some (.cells #[.string s,.int .i64 c,.int .i64 e0,.bool false] 61) from new_at _ _ _ (by simp))
 have HB:=Lib.hid hb1
 clear hb1
 generalize (w.alloc (.cells #[.int .i64 2,.int .u64 (Oc.U t.w0),.int .u64 (Oc.U t.w1),.int .u64 (Oc.U t.w2),.int .u64 (Oc.U t.w3),.slice p l cap,.int .i64 t.num,.int .i64 t.least,.int .i64 t.most,.bool t.bare] 37)).alloc (.cells #[.string s,.int .i64 c,.int .i64 e0,.bool false] 61)=W at *
 obtain ⟨n0,n1,n2,n3,n4,n5,n6,n7,n8,n9⟩:=allTen Y0.out
 by_cases hlt:i < s.size
 · have hrb:(Sc.of s c e0 false).rb (i:Int)=(cb s i:Int):=Sc.rb_in (Sc.of s c e0 false) hlt
   rw [hrb] at HC
   have hcb:=cb_lt hlt
   have HH:=Lib.hid (fun w=>refhas_any t.w0 t.w1 t.w2 t.w3 (cb s i) hcb w)
   have w8:IntKind.u8.wrap (cb s i:Int)=(cb s i:Int):=by rw [IntKind.wrap_u8];omega
   have hl9:=HLV.out
   rw [decide_eq_true hlt,Bool.true_and] at hl9
   have HL9:=Lib.hid hl9
   clear hl9 HLV
   clear hrb hcb
   generalize Oc.mem t.w0 t.w1 t.w2 t.w3 (cb s i)=q at *
   generalize cb s i=n at *
   go_wp2_with (first
   | (refine wpList_load_row rfl 61 (.tmp 4) rfl (w.heap.size+1) rfl 61 _ (0,0) _ Y1.out Tryd.underlying61 rfl (by kernel_rfl) ?_)
   | fail)
   refine (HC.out _).mono ?_
   rintro e w2 ⟨rfl,hb2⟩
   have HB2:=Lib.hid (HB.out.trans (hb2.mono HB.out.size))
   have Z0:=Lib.hid (keep_blk hb2 Y0.out)
   clear hb2 HB Y0 Y1 n0 n1 n2 n3 n4 n5 n6 n7 n8 n9
   obtain ⟨n0,n1,n2,n3,n4,n5,n6,n7,n8,n9⟩:=allTen Z0.out
   go_wp2_with fail
   refine (HH.out _).mono ?_
   rintro e w3 ⟨rfl,hb3⟩
   have HB3:=Lib.hid (HB2.out.trans (hb3.mono HB2.out.size))
   clear hb3 HB2 Z0 n0 n1 n2 n3 n4 n5 n6 n7 n8 n9
   cases q
   all_goals
     go_wp2
     go_ret
     exact ⟨ret_int (by rw [HL9.out];rfl),HB3.out⟩
 · have hrb:(Sc.of s c e0 false).rb (i:Int) = -1:=Sc.rb_out _ (Sc.inn_big _ (by show (s.size:Int) ≤ i;omega))
   rw [hrb] at HC
   have hl9:=HLV.out
   rw [decide_eq_false hlt,Bool.false_and] at hl9
   have HL9:=Lib.hid hl9
   clear hl9 HLV
   clear hrb
   go_wp2_with (first
   | (refine wpList_load_row rfl 61 (.tmp 4) rfl (w.heap.size+1) rfl 61 _ (0,0) _ Y1.out Tryd.underlying61 rfl (by kernel_rfl) ?_)
   | fail)
   refine (HC.out _).mono ?_
   rintro e w2 ⟨rfl,hb2⟩
   have HB2:=Lib.hid (HB.out.trans (hb2.mono HB.out.size))
   clear hb2 HB Y0 Y1 n0 n1 n2 n3 n4 n5 n6 n7 n8 n9
   go_wp2
   go_ret
   exact ⟨ret_int (by rw [HL9.out];rfl),HB2.out⟩
theorem rrleaf_any (s:ByteArray) (c e0:Int) (hs:s.size ≤ 1000000) (t:Tr) (hk:t.kind=1 ∨ t.kind=2 ∨ t.kind=3 ∨ t.kind=4) (v:Value) (hv:∃ p l cap,v=.slice p l cap) (i:Nat) (hi:i ≤ s.size) (w:World) :
   Calls Tryd.prog 142 #[.agg (t.cells v),.agg #[.string s,.int .i64 c,.int .i64 e0,.bool false],.int .i64 (i:Int)] w fun e w'=>e=.returned (.int .i64 (Re.leafV (Sc.new s c e0) t i))∧Below w.heap.size w w':=by
 rcases hk with hk | hk | hk | hk
 · exact rrleaf1 s c e0 hs t hk v hv i hi w
 · exact rrleaf2 s c e0 hs t hk v hv i hi w
 · exact rrleaf3 s c e0 hs t hk v hv i hi w
 · exact rrleaf4 s c e0 hs t hk v hv i hi w
end Go.Proofs.YtnaoiglbjkjogaaDoor
namespace Go.Proofs.YtnaoiglbjkjogaaDoor
open Go.RowKit
namespace Tr
end Tr
theorem u0:Oc.U 0#64=0:=by decide
end Go.Proofs.YtnaoiglbjkjogaaDoor
namespace Go.Proofs.YtnaoiglbjkjogaaDoor
open Go.RowKit
namespace Ri
variable {P:Program} {ops:Array Oper} {Q:Exit→Act→World→Prop}
theorem wp_region_late {id:Nat} {a:Act} {w:World} (hm:P.follows .mixedOrders=true) (hb:backward ops=true) (hap:apart ops=true) (hsz0:(ops.toList.all fun o=>o.dst.all fun d=>decide (d < a.tmps.size))=true)
   (I:(Nat→Bool)→(Nat→Value)→World→Prop)
   (hi:I (fun _=>false) (fun _=>undef) w.drew)
   (step:∀ i,i < ops.size→∀ L v w (a':Act),I L v w→L i=false→(∀ o,ops[i]? = some o→∀ e ∈ o.after,Region.binds .any e=true→L e.on=true) →
     (∀ j d:Nat,(ops[j]?).bind (·.dst)=some d→L j=true→a'.tmps.getD d undef=v j)→(∀ d,ops.toList.all (fun o=>o.dst != some d)=true→a'.tmps.getD d undef=a.tmps.getD d undef) →
     (∀ j d:Nat,(ops[j]?).bind (·.dst)=some d→L j=false→a'.tmps.getD d undef=a.tmps.getD d undef) →
     wpOp P ops Q i (fun b w'=>∃ (o:Oper) (u:Value),ops[i]? = some o∧b=a'.put o.dst u∧I (up L i true) (up v i u) w') a' w)
   (fin:∀ v w,I (fun i=>decide (i < ops.size)) v w→Q .normal (frame ops a (fun _=>true) v) w) :
   (Code.region id ops true).wp P Q a w:=by
 have hsz:∀ (i:Nat) (o:Oper) (d:Nat),ops[i]? = some o→o.dst=some d→d < a.tmps.size:=fun i o d h1 h2=>by
   have:=List.all_eq_true.1 hsz0 o (Array.mem_toList_iff.2 (Array.mem_of_getElem? h1))
   rw [h2] at this
   simpa using this
 refine wp_region_inv hm hb (fun L v w=>I L v w∧∀ i,ops.size ≤ i→L i=false) (frame ops a) ?_ ⟨hi,fun _ _=>rfl⟩ ?_ ?_
 · have:=fold_none (fun _=>undef) ops.toList.zipIdx a.tmps
   unfold frame;rw [show (List.foldl _ a.tmps _)=a.tmps from this]
 · intro i hin L v w ⟨hI,hL⟩ hLi hd
   refine wpOp_mono ?_ (step i hin L v w (frame ops a L v) hI hLi hd ?_ ?_ ?_)
   · rintro b w' ⟨o,u,ho,rfl,hI'⟩
     exact ⟨u,frame_put hap a L v ho u,hI',fun j hj=>by rw [up_other _ _ _ _ (by omega)];exact hL j hj⟩
   · intro j d hjd hlj
     obtain ⟨o,ho,hod⟩:=Option.bind_eq_some_iff.1 hjd
     have hs:=hsz j o d ho hod
     have:=frame_own hap a L v ho hod hs
     rw [hlj,if_pos rfl] at this
     rw [Array.getD_eq_getD_getElem?,this];rfl
   · intro d hall
     have hno:∀ (j:Nat) (o:Oper),ops[j]? = some o→o.dst ≠ some d:=fun j o ho=>by
       have:=List.all_eq_true.1 hall o (Array.mem_toList_iff.2 (Array.mem_of_getElem? ho))
       simpa using this
     rw [Array.getD_eq_getD_getElem?,Array.getD_eq_getD_getElem?,frame_other a L v hno]
   · intro j d hjd hlj
     obtain ⟨o,ho,hod⟩:=Option.bind_eq_some_iff.1 hjd
     have hs:=hsz j o d ho hod
     have:=frame_own hap a L v ho hod hs
     rw [hlj] at this
     rw [Array.getD_eq_getD_getElem?,Array.getD_eq_getD_getElem?,this];rfl
 · intro L v w hall ⟨hI,hL⟩
   have e:L=fun i=>decide (i < ops.size):=by
     funext i
     by_cases h:i < ops.size
     · rw [hall i h];simp [h]
     · rw [hL i (by omega)];simp [h]
   have e2:frame ops a L v=frame ops a (fun _=>true) v:=by
     have:∀ s:Nat,(frame ops a L v).tmps[s]? = (frame ops a (fun _=>true) v).tmps[s]?:=by
       intro s
       by_cases hex:∃ (j:Nat) (o':Oper),ops[j]? = some o'∧o'.dst=some s
       · obtain ⟨j,o',hj,hd⟩:=hex
         have hs:=hsz j o' s hj hd
         rw [frame_own hap a _ _ hj hd hs,frame_own hap a _ _ hj hd hs,hall j (Array.getElem?_eq_some_iff.1 hj).1]
       · have hno:∀ (j:Nat) (o':Oper),ops[j]? = some o'→o'.dst ≠ some s:=fun j o' h1 h2=>hex ⟨j,o',h1,h2⟩
         rw [frame_other a _ _ hno,frame_other a _ _ hno]
     have ht:=Array.ext_getElem? this
     have hd:(frame ops a L v).defers=(frame ops a (fun _=>true) v).defers:=rfl
     generalize frame ops a L v=x at *
     generalize frame ops a (fun _=>true) v=y at *
     cases x;cases y;simp_all
   rw [e2]
   exact fin v w (e ▸ hI)
end Ri
end Go.Proofs.YtnaoiglbjkjogaaDoor
