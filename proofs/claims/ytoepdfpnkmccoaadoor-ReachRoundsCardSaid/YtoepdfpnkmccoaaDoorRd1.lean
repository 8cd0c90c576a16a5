/- Part 1 of what these proofs need. -/
import Derived.IntWalk
import Derived.Maps.OwnOps
import Derived.Maps.Views
import Derived.Test.YtoepdfpnkmccoaaDoorRc3
set_option maxRecDepth 100000
set_option maxHeartbeats 16000000
namespace Go.Proofs.YtoepdfpnkmccoaaDoor
open Go.RowKit
namespace Tr
end Tr
theorem NodeV.later {w w':World} {B:Nat→Prop} {v:Value} {t:Tr} (h:NodeV w B v t) (hb:Below w.heap.size w w'):NodeV w' B v t:=by
 obtain ⟨s,e,hs⟩:=h;exact ⟨s,e,hs.later hb⟩
end Go.Proofs.YtoepdfpnkmccoaaDoor
namespace Go.Proofs.YtoepdfpnkmccoaaDoor
open Go.RowKit
namespace Tk
end Tk
namespace Tr
end Tr
namespace Tk
theorem pow_one (R:Nat→Nat→Prop) (i j:Nat):pow R 1 i j ↔ R i j:=by simp [pow]
theorem pow_last (R:Nat→Nat→Prop) (n i j:Nat):pow R (n+1) i j ↔ ∃ m,pow R n i m∧R m j:=by
 rw [pow_add];simp only [pow_one]
end Tk
namespace Tr
end Tr
end Go.Proofs.YtoepdfpnkmccoaaDoor
namespace Go.Proofs.YtoepdfpnkmccoaaDoor
open Go.RowKit
namespace Tr
theorem tk_times (x:Sc) (lo hi:Int) (a:Tr) (i j:Nat):tk x (rep lo hi a) i j ↔ Tk.rounds (tk x a) lo hi i j:=tk_rep (t:=rep lo hi a) (u:=a) rfl rfl i j
end Tr
namespace Tk
theorem rounds_succ {R:Nat→Nat→Prop} (lo:Nat) (m:Nat) (i j:Nat):rounds R ((lo+1:Nat):Int) ((lo+1+m:Nat):Int) i j ↔ ∃ k,R i k∧rounds R (lo:Int) ((lo+m:Nat):Int) k j:=by
 constructor
 · rintro ⟨n,h1,h2,h3⟩
   obtain ⟨n,rfl⟩:∃ q,n=q+1:=⟨n - 1,by omega⟩
   obtain ⟨k,h4,h5⟩:=h3
   exact ⟨k,h4,n,by omega,.inr (by omega),h5⟩
 · rintro ⟨k,h4,n,h1,h2,h5⟩
   exact ⟨n+1,by omega,.inr (by omega),k,h4,h5⟩
theorem star_none (R:Nat→Nat→Prop) (i:Nat):rounds R 0 (-1) i i:=⟨0,by omega,.inl rfl,rfl⟩
theorem star_step {R:Nat→Nat→Prop} {i k j:Nat} (h:rounds R 0 (-1) i k) (h2:R k j):rounds R 0 (-1) i j:=by
 obtain ⟨n,-,-,hp⟩:=h
 exact ⟨n+1,by omega,.inl rfl,(pow_last R n i j).2 ⟨k,hp,h2⟩⟩
end Tk
namespace Tr
theorem tab_same {x:Sc} {t u:Tr} (hn:x.t.size ≤ 63) (ht:t.InForm) (hu:u.InForm) {i:Nat} (hi:i ≤ x.t.size) (h:∀ j,tk x t i j ↔ tk x u i j):∀ j,(tabT x t i).getLsbD j=(tabT x u i).getLsbD j:=fun j=>by
 rw [Bool.eq_iff_iff,tabT_means x hn t ht i (by omega) j,tabT_means x hn u hu i (by omega) j,h j]
theorem dp_rep (lo hi:Int) (a:Tr):(rep lo hi a).dpT ≤ a.dpT+2:=by
 rw [dpT_eq]
 show (if (1:Nat)=0 then 1 else dpS [a]+_) ≤ _
 rw [if_neg (by decide)]
 simp only [dpS];split <;> omega
end Tr
end Go.Proofs.YtoepdfpnkmccoaaDoor
namespace Go.Proofs.YtoepdfpnkmccoaaDoor
open Go.RowKit
def NdAt (w:World) (v:Value) (t:Tr):Prop:=NodeV w (fun _=>True) v t
theorem NdAt.below {w w':World} {v:Value} {t:Tr} (h:NdAt w v t) (hb:Below w.heap.size w w'):NdAt w' v t:=NodeV.later h hb
end Go.Proofs.YtoepdfpnkmccoaaDoor
namespace Go.Proofs.YtoepdfpnkmccoaaDoor
open Go.RowKit
theorem u64_pos (a:Int):0 ≤ IntKind.u64.wrap a:=by
 unfold IntKind.wrap
 simp [IntKind.signed,IntKind.bits]
 try omega
theorem third (a:Int):∃ n:Nat,n < 3∧wrap64 ((IntKind.u64.wrap a).tmod 3)=(n:Int):=by
 have h:=u64_pos a
 have h1:(IntKind.u64.wrap a).tmod 3=(IntKind.u64.wrap a) % 3:=Int.tmod_eq_emod_of_nonneg h
 have h2:0 ≤ (IntKind.u64.wrap a) % 3:=Int.emod_nonneg _ (by decide)
 have h3:(IntKind.u64.wrap a) % 3 < 3:=Int.emod_lt_of_pos _ (by decide)
 generalize (IntKind.u64.wrap a) % 3=x at *
 rw [h1]
 exact ⟨x.toNat,by omega,by rw [IntWalk.wrap64_in x (by omega)];omega⟩
def QNB (L:Nat→Bool) (v:Nat→Value) (b:Nat):Prop:=L 11=true→v 11 ≠ .pointer (some ⟨b,0,none⟩)
def QVar (W:Nat) (L:Nat→Bool) (v:Nat→Value) (w:World) (x:Tr):Prop:=L 11=true→∃ g,v 11=.pointer (some ⟨g,0,none⟩)∧W ≤ g∧g < w.heap.size∧(L 12=false→w.heap[g]? = some (.cells noNode 29)) ∧
 (L 12=true→∃ p l c,w.heap[g]? = some (.cells (x.cells (.slice p l c)) 29)∧TreesAt w (fun _=>True) (.slice p l c) x.subs)
theorem QVar.next {W:Nat} {L:Nat→Bool} {v:Nat→Value} {w w':World} {x:Tr} (h:QVar W L v w x) (hb:Below w.heap.size w w'):QVar W L v w' x:=fun hk=>by
 obtain ⟨g,h1,h2,h3,h4,h5⟩:=h hk
 refine ⟨g,h1,h2,Nat.lt_of_lt_of_le h3 hb.size,fun e=>keep_blk hb (h4 e),fun e=>?_⟩
 obtain ⟨p,l,c,h6,h7⟩:=h5 e
 exact ⟨p,l,c,keep_blk hb h6,h7.later hb⟩
def QRes (L:Nat→Bool) (v:Nat→Value) (w:World) (x:Tr):Prop:=L 10=true→L 12=true ∨ ∃ s,v 10=.agg (x.cells s)∧TreesAt w (QNB L v) s x.subs
theorem QRes.mono {L L':Nat→Bool} {v v':Nat→Value} {w w':World} {x:Tr} (h:QRes L v w x) (hL:L' 10=L 10) (h12:L' 12=L 12) (hv:v' 10=v 10) (hb:Below w.heap.size w w') (hn:∀ b,b < w.heap.size→QNB L v b→QNB L' v' b):QRes L' v' w' x:=fun hk=>by
 rcases h (hL ▸ hk) with h | ⟨s,h1,h2⟩
 · exact .inl (h12 ▸ h)
 · exact .inr ⟨s,hv.trans h1,(h2.mono hn).later hb⟩
def QNd (L:Nat→Bool) (v:Nat→Value) (w:World) (x:Tr):Prop:=L 8=true→L 12=true ∨ NdAt w (v 8) x
theorem QNd.next {L:Nat→Bool} {v:Nat→Value} {w w':World} {x:Tr} (h:QNd L v w x) (hb:Below w.heap.size w w'):QNd L v w' x:=fun k=>(h k).imp id fun h=>h.below hb
def QLs (L:Nat→Bool) (v:Nat→Value) (w:World) (l:List Tr):Prop:=L 9=true→L 12=true ∨ LsAt w (v 9) l
theorem QLs.next {L:Nat→Bool} {v:Nat→Value} {w w':World} {l:List Tr} (h:QLs L v w l) (hb:Below w.heap.size w w'):QLs L v w' l:=fun k=>(h k).imp id fun h=>h.below hb
structure PJ (W:World) (ra:Array Value) (t x8 x10:Tr) (lo mo hi l0 h0:Nat) (L:Nat→Bool) (v:Nat→Value) (w:World):Prop where
 hb:Below W.heap.size W w
 c1:L 12=true→L 9=true∧L 10=true∧L 11=true
 q0:L 0=true→v 0=.agg ra
 q1:L 1=true→v 1=.agg ra
 q2:L 2=true→v 2=.int .i64 (lo:Int)
 q3:L 3=true→v 3=.int .i64 (l0:Int)
 q4:L 4=true→v 4=.int .i64 (lo:Int)
 q5:L 5=true→v 5=.int .i64 (mo:Int)
 q6:L 6=true→v 6=.int .i64 (hi:Int)
 q7:L 7=true→v 7=.int .i64 (h0:Int)
 q8:QNd L v w x8
 q9:QLs L v w [t,x8]
 qr:QRes L v w x10
 qv:QVar W.heap.size L v w x10
theorem PJ.zero {W W':World} {ra:Array Value} {t x8 x10:Tr} {lo mo hi l0 h0:Nat} (hb:Below W.heap.size W W'):PJ W ra t x8 x10 lo mo hi l0 h0 (fun _=>false) (fun _=>undef) W' :=
 ⟨hb,nofun,nofun,nofun,nofun,nofun,nofun,nofun,nofun,nofun,nofun,nofun,nofun,nofun⟩
theorem QVar.fresh {W:Nat} {L:Nat→Bool} {v:Nat→Value} {w:World} {x:Tr} (h:QVar W L v w x) {b:Nat} (hb:w.heap.size ≤ b):QNB L v b:=fun l e=>by
 obtain ⟨g,h1,-,h3,-⟩:=h l;rw [h1] at e;injection e with e;injection e with e;injection e with e;omega
end Go.Proofs.YtoepdfpnkmccoaaDoor
namespace Go.Proofs.YtoepdfpnkmccoaaDoor
open Go.RowKit Go.Maps
def mapOf (l:List Nat):DataW Unit:=l.foldl (fun D (k:Nat)=>D.put (.int .i64 (k:Int)) (.lit (.int .i64 1))) (.map [])
theorem mapOf_snoc (l:List Nat) (k:Nat):mapOf (l ++ [k])=(mapOf l).put (.int .i64 (k:Int)) (.lit (.int .i64 1)):=by simp [mapOf,List.foldl_append]
theorem mapOf_isMap (l:List Nat):IsMap (mapOf l):=by
 suffices h:∀ (l:List Nat) (D:DataW Unit),IsMap D→IsMap (l.foldl (fun D (k:Nat)=>D.put (.int .i64 (k:Int)) (.lit (.int .i64 1))) D) from h l _ isMap_empty
 intro l
 induction l with
 | nil=>exact fun D h=>h
 | cons k l ih=>exact fun D h=>ih _ (h.put _ _)
theorem put_keeps (l:List Nat) (n:Nat) (z:DataW Unit):∀ D:DataW Unit,IsMap D→D.atKey (.int .i64 (n:Int)) z=.lit (.int .i64 1)→(l.foldl (fun D (k:Nat)=>D.put (.int .i64 (k:Int)) (.lit (.int .i64 1))) D).atKey (.int .i64 (n:Int)) z=.lit (.int .i64 1):=by
 induction l with
 | nil=>exact fun D _ h=>h
 | cons k l ih =>
   intro D hD h
   refine ih _ (hD.put _ _) ?_
   by_cases e:n=k
   · subst e;exact atKey_put_same hD (show WideAt.IsKeyLit (.int .i64 _) from trivial) _ _
   · rw [atKey_put_other (by intro h9;injection h9 with _ h9;exact e (by omega))];exact h
theorem mapOf_has {l:List Nat} {n:Nat} (h:n ∈ l) (z:DataW Unit):(mapOf l).atKey (.int .i64 (n:Int)) z=.lit (.int .i64 1):=by
 obtain ⟨a,b,rfl⟩:=List.append_of_mem h
 unfold mapOf
 rw [List.foldl_append]
 exact put_keeps b n z _ ((mapOf_isMap a).put _ _) (atKey_put_same (mapOf_isMap a) (show WideAt.IsKeyLit (.int .i64 _) from trivial) _ _)
theorem intKeyed:Keyed Tryd.prog 3:=int_keyed Tryd.underlying3
theorem zeroInt (w:World):(zeroValue 3).run Tryd.prog w=.ok (.int .i64 0) w:=by kernel_rfl
theorem wf_nat {n:Nat} (h:n ≤ 1000000):(Lit.int .i64 (n:Int)).wf=true:=WalkArith.wf_i64 (by omega)
def PRo (g0:World) (n v:Array Value) (w:World):Prop:=Below g0.heap.size g0 w∧w.heap[g0.heap.size]? = some (.cells n 29)∧w.heap[g0.heap.size+1]? = some (.cells v 41)
theorem PRo.next {g0 w w':World} {n v:Array Value} (h:PRo g0 n v w) (hb:Below w.heap.size w w'):PRo g0 n v w':=⟨h.1.trans (hb.mono h.1.size),keep_blk hb h.2.1,keep_blk hb h.2.2⟩
theorem PRo.view {g0 w:World} {n:Array Value} {s:ByteArray} {c e0:Int} (h:PRo g0 n #[.string s,.int .i64 c,.int .i64 e0] w) :
   w.cell? ⟨g0.heap.size+1,0,none⟩=some (.string s)∧w.cell? ⟨g0.heap.size+1,1,none⟩=some (.int .i64 c)∧w.cell? ⟨g0.heap.size+1,2,none⟩=some (.int .i64 e0):=by
 simp [World.cell?,h.2.2]
theorem ends_list (A:Nat→Addr) (t:Tr) (hc:t.checkC=0) (x:Sc) (hn:x.t.size ≤ 63) (k:Nat) (hk:k ≤ x.t.size) (b:Nat) (w:World) (hM:ReMemT A w) (hx:ScAt w b x) (B:Nat→Prop) (v:Value) (hv:NodeV w B v t) :
   Calls Tryd.prog 19 #[v,.pointer (some ⟨b,0,none⟩),.int .i64 (k:Int)] w fun e w'=>∃ u,e=.returned (.tuple #[u,.nilIface])∧IntsAt w' u (Re.up (Tr.tabT x t k).getLsbD 64 0)∧Below w.heap.size w w':=by
 have hz:=Tr.checkC_zero.1 hc
 refine (reendsT_any A t (by omega) x b k w hM hx B v hv).mono ?_
 rintro e w' he
 have h0:Re.code t x.t.size [(k:Int)]=0:=code_ok hc hn (by simp;omega)
 obtain ⟨u,rfl,hi,hb⟩:=he.yes h0
 rw [Int.toNat_natCast] at hi
 exact ⟨u,rfl,hi.ints,hb⟩
theorem ends_succ {x:Sc} {t:Tr} {lo mo hi l0 h0 k:Nat} (hn:x.t.size ≤ 63) (hk:k ≤ x.t.size) (hlo:lo=l0+1) (hh0:h0=l0+mo) (hhi:hi=h0+1) (h1:(Tr.rep lo hi t).checkC=0) (h2:(Tr.several 5 [t,Tr.rep l0 h0 t]).checkC=0) :
   Re.up (Tr.tabT x (Tr.several 5 [t,Tr.rep l0 h0 t]) k).getLsbD 64 0=Re.up (Tr.tabT x (Tr.rep lo hi t) k).getLsbD 64 0:=by
 refine Re.up_congr _ _ fun j _ _=>Tr.tab_same hn (Tr.checkC_zero.1 h2).1 (Tr.checkC_zero.1 h1).1 hk (fun j=>?_) j
 rw [Tr.tk_row,Tr.tk_times]
 subst hlo hh0 hhi
 rw [show (l0+mo+1:Nat)=l0+1+mo by omega,Tk.rounds_succ]
 exact ⟨fun ⟨m,a,b⟩=>⟨m,a,(Tr.tk_times _ _ _ _ _ _).1 b⟩,fun ⟨m,a,b⟩=>⟨m,a,(Tr.tk_times _ _ _ _ _ _).2 b⟩⟩
theorem ends_star {x:Sc} {t:Tr} {k:Nat} (hn:x.t.size ≤ 63) (hk:k ≤ x.t.size) (h1:(Tr.rep 0 (-1) t).checkC=0):∃ l,Re.up (Tr.tabT x (Tr.rep 0 (-1) t) k).getLsbD 64 0=k :: l∧(k :: l).length ≤ 64∧(∀ i,i ∈ k :: l→k ≤ i∧i ≤ x.t.size)∧(∀ i j,i ∈ k :: l→Tr.tk x t i j→j ∈ k :: l):=by
 have hm:=Tr.tabT_means x hn _ (Tr.checkC_zero.1 h1).1 k (by omega)
 have hz:(Tr.tabT x (Tr.rep 0 (-1) t) k).getLsbD k=true:=(hm k).2 ⟨hk,(Tr.tk_times _ _ _ _ _ _).2 (Tk.star_none _ _)⟩
 have h0:∀ i,i < k→(Tr.tabT x (Tr.rep 0 (-1) t) k).getLsbD i=false:=fun i hi=>by
   cases e:(Tr.tabT x (Tr.rep 0 (-1) t) k).getLsbD i with
   | false=>rfl
   | true=>have:=(Tr.tk_on _ _ k i hk ((hm i).1 e).2).1;omega
 have hu:=Re.up_first hz h0 (q:=fun j=>(Tr.tabT x (Tr.rep 0 (-1) t) k).getLsbD j && decide (j ≠ k)) (fun _=>rfl) 64 0 (Nat.zero_le _) (by omega)
 refine ⟨_,hu,by rw [← hu];exact Re.up_length _ _ _,fun i hi=>?_,fun i j hi hj=>?_⟩
 · rw [← hu,Re.mem_up,hm] at hi
   exact Tr.tk_on _ _ k i hk hi.2.2.2
 · rw [← hu,Re.mem_up,hm] at hi ⊢
   have hr:=(Tr.tk_times _ _ _ _ _ _).1 hi.2.2.2
   have a:=Tr.tk_on _ _ k i hk hi.2.2.2
   have b:=Tr.tk_on _ _ i j a.2 hj
   exact ⟨Nat.zero_le _,by omega,hk,(Tr.tk_times _ _ _ _ _ _).2 (Tk.star_step hr hj)⟩
theorem reachrounds_any (A:Nat→Addr) (s:ByteArray) (c e0:Int) (t:Tr) (a b f:Int) (w:World) (hM:ReMemT A w) (B:Nat→Prop) (v:Value) (hv:NodeV w B v t) :
   Calls Tryd.prog 7 #[v,.agg #[.string s,.int .i64 c,.int .i64 e0],.int .i64 a,.int .i64 b,.int .i64 f] w fun e w'=>e=.returned (.bool true)∧Below w.heap.size w w':=by
 obtain ⟨sv,rfl,hsv⟩:=hv
 obtain ⟨p,cap,rfl,hlen⟩:=hsv.slice
 have HM:=Lib.hid (fun w9 (hb:Below w.heap.size w w9)=>hM.below hb)
 have HV:=Lib.hid (fun w9 (hb:Below w.heap.size w w9)=>(show NodeV w9 B (.agg (t.cells (.slice p t.subs.length cap))) t from ⟨_,rfl,hsv.later hb⟩))
 have HT:=Lib.hid (fun w9 (hb:Below w.heap.size w w9)=>hsv.later hb)
 have HLG:=Lib.hid (fun w9 (hb:Below w.heap.size w w9)=>relong_any s c e0 t w9 B (.agg (t.cells (.slice p t.subs.length cap))) ⟨_,rfl,hsv.later hb⟩)
 clear hsv hM
 unfold Tr.cells at *
 go_enter Tryd.func7,Tryd.ntmps7
 have hF:PRo w #[.int .i64 t.kind,.int .u64 (Oc.U t.w0),.int .u64 (Oc.U t.w1),.int .u64 (Oc.U t.w2),.int .u64 (Oc.U t.w3),.slice p t.subs.length cap,.int .i64 t.num,.int .i64 t.least,.int .i64 t.most,.bool t.bare] #[.string s,.int .i64 c,.int .i64 e0] ((w.alloc (.cells #[.int .i64 t.kind,.int .u64 (Oc.U t.w0),.int .u64 (Oc.U t.w1),.int .u64 (Oc.U t.w2),.int .u64 (Oc.U t.w3),.slice p t.subs.length cap,.int .i64 t.num,.int .i64 t.least,.int .i64 t.most,.bool t.bare] 29)).alloc (.cells #[.string s,.int .i64 c,.int .i64 e0] 41)):=⟨by go_grown,heap_alloc_lt (heap_alloc_new _ _),new_at _ _ _ (by simp)⟩
 have HF:=Lib.hid hF
 clear hF
 go_upto_region 1 with (fail)
 generalize (w.alloc (.cells #[.int .i64 t.kind,.int .u64 (Oc.U t.w0),.int .u64 (Oc.U t.w1),.int .u64 (Oc.U t.w2),.int .u64 (Oc.U t.w3),.slice p t.subs.length cap,.int .i64 t.num,.int .i64 t.least,.int .i64 t.most,.bool t.bare] 29)).alloc (.cells #[.string s,.int .i64 c,.int .i64 e0] 41)=W1 at *
 go_wp2_with fail
 refine (relivesT_any A W1 (HM.out W1 HF.out.1)).mono ?_
 rintro e w2 ⟨rfl,hb2⟩
 replace HF:=Lib.hid (HF.out.next hb2)
 clear hb2
 go_wp2_with (first
   | (refine wpList_load_row rfl 29 (.tmp 5) rfl w.heap.size rfl 29 #[.int .i64 t.kind,.int .u64 (Oc.U t.w0),.int .u64 (Oc.U t.w1),.int .u64 (Oc.U t.w2),.int .u64 (Oc.U t.w3),.slice p t.subs.length cap,.int .i64 t.num,.int .i64 t.least,.int .i64 t.most,.bool t.bare] (0,0) _ HF.out.2.1 Tryd.underlying29 rfl (by kernel_rfl) ?_)
   | (refine wpList_load_row rfl 41 (.tmp 6) rfl (w.heap.size+1) rfl 41 #[.string s,.int .i64 c,.int .i64 e0] (0,0) _ HF.out.2.2 Tryd.underlying41 rfl (by kernel_rfl) ?_)
   | fail)
 refine (HLG.out w2 HF.out.1).mono ?_
 rintro e w3 ⟨q,rfl,hq,hb3⟩
 replace HF:=Lib.hid (HF.out.next hb3)
 have HQ:=Lib.hid hq
 clear hb3 hq HLG
 cases q with
 | true =>
   go_wp2
   go_ret
   exact ⟨rfl,HF.out.1⟩
 | false =>
 have HD:=Lib.hid (show t.dpT ≤ 5000 by have:=Tr.dp_nd t;have:=HQ.out rfl;omega)
 clear HQ
 go_wp2_with (first
   | (refine wpList_load_row_gd rfl rfl rfl 29 (.tmp 5) rfl w.heap.size rfl 29 #[.int .i64 t.kind,.int .u64 (Oc.U t.w0),.int .u64 (Oc.U t.w1),.int .u64 (Oc.U t.w2),.int .u64 (Oc.U t.w3),.slice p t.subs.length cap,.int .i64 t.num,.int .i64 t.least,.int .i64 t.most,.bool t.bare] (0,0) _ HF.out.2.1 Tryd.underlying29 rfl (by kernel_rfl) ?_)
   | fail)
 refine (treecheckT_any A t (by have:=HD.out;omega) w3 (HM.out w3 HF.out.1).errs _ _ (HV.out w3 HF.out.1)).mono ?_
 rintro e w5 ⟨rfl,hb5⟩
 replace HF:=Lib.hid (HF.out.next hb5)
 clear hb5
 by_cases hz:t.checkC=0
 rotate_left
 · rw [sent_ne hz]
   generalize A (t.checkC - 1)=aa
   clear hz
   go_wp2
   go_ret
   exact ⟨rfl,HF.out.1⟩
 have HZ:=Lib.hid hz
 rw [hz,sent_nil]
 clear hz
 obtain ⟨d0,d1,d2⟩:=HF.out.view
 by_cases h1:40 < s.size
 · have k1:decide ((40:Int) < (s.size:Int))=true:=by simp;omega
   clear h1
   go_wp2
   go_ret
   exact ⟨rfl,HF.out.1⟩
 have k1:decide ((40:Int) < (s.size:Int))=false:=by simp;omega
 by_cases h2:f < 0
 · have k2:decide (f < 0)=true:=decide_eq_true h2
   clear h1 h2
   go_wp2
   go_ret
   exact ⟨rfl,HF.out.1⟩
 have k2:decide (f < 0)=false:=decide_eq_false h2
 by_cases h4:(s.size:Int) < f
 · have k4:decide ((s.size:Int) < f)=true:=decide_eq_true h4
   clear h1 h2 h4
   go_wp2
   go_ret
   exact ⟨rfl,HF.out.1⟩
 have k4:decide ((s.size:Int) < f)=false:=decide_eq_false h4
 have HS40:=Lib.hid (show s.size ≤ 40 by omega)
 have HFT:=Lib.hid (show 0 ≤ f∧f ≤ s.size by omega)
 clear h1 h2 h4
 go_upto_region 6 with (fail)
 clear k1 k2 k4 d0 d1 d2
 obtain ⟨l0,hl0,e1⟩:=third a
 obtain ⟨mo,hmo,e2⟩:=third b
 have e3:wrap64 (1+(l0:Int))=((l0+1:Nat):Int):=by rw [IntWalk.wrap64_in _ (by omega)];omega
 rw [e1,e2,e3]
 clear e1 e2 e3
 obtain ⟨lo,hlo⟩:∃ lo,lo=l0+1:=⟨_,rfl⟩
 obtain ⟨h0,hh0⟩:∃ h0,h0=l0+mo:=⟨_,rfl⟩
 obtain ⟨hi,hhi⟩:∃ hi,hi=h0+1:=⟨_,rfl⟩
 rw [← hlo]
 have HNUM:=Lib.hid (show lo=l0+1∧h0=l0+mo∧hi=h0+1∧l0 < 3∧mo < 3 from ⟨hlo,hh0,hhi,hl0,hmo⟩)
 obtain ⟨k,rfl⟩:∃ k:Nat,f=k:=⟨f.toNat,by have:=HFT.out;omega⟩
 have HK:=Lib.hid (show k ≤ s.size by have:=HFT.out;omega)
 have n1:wrap64 ((lo:Int)+(mo:Int))=(hi:Int):=by rw [IntWalk.wrap64_in _ (by omega)];omega
 have n1':IntKind.i64.wrap ((lo:Int)+(mo:Int))=(hi:Int):=by rw [IntWalk.i64_left];exact n1
 have n2:wrap64 ((lo:Int) - 1)=(l0:Int):=by rw [IntWalk.wrap64_in _ (by omega)];omega
 have n2':IntKind.i64.wrap ((lo:Int) - 1)=(l0:Int):=by rw [IntWalk.i64_left];exact n2
 have n3:wrap64 ((hi:Int) - 1)=(h0:Int):=by rw [IntWalk.wrap64_in _ (by omega)];omega
 have n3':IntKind.i64.wrap ((hi:Int) - 1)=(h0:Int):=by rw [IntWalk.i64_left];exact n3
 clear hlo hh0 hhi hl0 hmo HFT
 go_wp2_with (first
   | (refine wpList_load_row rfl 29 (.tmp 5) rfl w.heap.size rfl 29 #[.int .i64 t.kind,.int .u64 (Oc.U t.w0),.int .u64 (Oc.U t.w1),.int .u64 (Oc.U t.w2),.int .u64 (Oc.U t.w3),.slice p t.subs.length cap,.int .i64 t.num,.int .i64 t.least,.int .i64 t.most,.bool t.bare] (0,0) _ HF.out.2.1 Tryd.underlying29 rfl (by kernel_rfl) ?_)
   | fail)
 refine (rep_any t lo hi w5 _ _ (HV.out w5 HF.out.1)).mono ?_
 rintro e w6 ⟨s6,F6,rfl,ho6,-,hb6⟩
 obtain ⟨pa,la,ca,rfl,-⟩:∃ p l c,s6=.slice p l c∧True:=by obtain ⟨p,c,h,-⟩:=ho6.trees.slice;exact ⟨p,_,c,h,trivial⟩
 replace HF:=Lib.hid (HF.out.next hb6)
 have TA:=Lib.hid ho6.trees.any
 clear ho6 hb6
 go_upto_region 7 with (first
   | (refine wpList_store_row rfl 29 (.tmp 11) (.tmp 71) rfl w6.heap.size ((Tr.rep lo hi t).cells (.slice pa la ca)) rfl rfl 29 _ (heap_alloc_new _ _) (by kernel_rfl) (by kernel_rfl) (nodeC_all _ _ _ _) ?_)
   | fail)
 have hb7:Below w6.heap.size w6 (World.setRow (w6.alloc (.cells noNode 29)) w6.heap.size ((Tr.rep lo hi t).cells (.slice pa la ca))):=below_setRow ((Below.refl _ _).alloc (Nat.le_refl _) _) (Nat.le_refl _) _
 replace HF:=Lib.hid (HF.out.next hb7)
 have YA:=Lib.hid (show (World.setRow (w6.alloc (.cells noNode 29)) w6.heap.size ((Tr.rep lo hi t).cells (.slice pa la ca))).heap[w6.heap.size]? = some (.cells ((Tr.rep lo hi t).cells (.slice pa la ca)) 29) from heap_setRow (heap_alloc_new _ _))
 replace TA:=Lib.hid (TA.out.later hb7)
 clear hb7
 generalize (World.setRow (w6.alloc (.cells noNode 29)) w6.heap.size ((Tr.rep lo hi t).cells (.slice pa la ca)))=w7 at *
 generalize w6.heap.size=ga at *
 try simp only [Act.put]
 refine Ri.wp_region_frame (by kernel_rfl) (by kernel_rfl) (by kernel_rfl) (by kernel_rfl)
   (fun L v w'=>PJ w7 #[.int .i64 t.kind,.int .u64 (Oc.U t.w0),.int .u64 (Oc.U t.w1),.int .u64 (Oc.U t.w2),.int .u64 (Oc.U t.w3),.slice p t.subs.length cap,.int .i64 t.num,.int .i64 t.least,.int .i64 t.most,.bool t.bare] t (Tr.rep l0 h0 t) (Tr.several 5 [t,(Tr.rep l0 h0 t)]) lo mo hi l0 h0 L v w') ?_ ?_ ?_
 · exact PJ.zero (Below.refl _ _).drew
 · intro i hi9 L v w9 xa hI hL hd hv ho
   have hi':i=0 ∨ i=1 ∨ i=2 ∨ i=3 ∨ i=4 ∨ i=5 ∨ i=6 ∨ i=7 ∨ i=8 ∨ i=9 ∨ i=10 ∨ i=11 ∨ i=12:=by simp at hi9;omega
   have hbw:Below w.heap.size w w9:=HF.out.1.trans (hI.hb.mono HF.out.1.size)
   rcases hi' with rfl | rfl | rfl | rfl | rfl | rfl | rfl | rfl | rfl | rfl | rfl | rfl | rfl
   · have e9:xa.tmps.getD 5 undef=.pointer (some ⟨w.heap.size,0,none⟩):=ho 5 (by kernel_rfl)
     refine Ri.step_plain rfl rfl (fun K' hK=>?_)
     refine wp_load_row _ _ rfl _ e9 _ _ _ _ (keep_blk hI.hb HF.out.2.1) Tryd.underlying29 rfl (by kernel_rfl) ?_
     exact hK _ _ ⟨_,_,rfl,rfl,⟨hI.hb,
         hI.c1,
         (fun _=>rfl),
         hI.q1,
         hI.q2,
         hI.q3,
         hI.q4,
         hI.q5,
         hI.q6,
         hI.q7,
         hI.q8,
         hI.q9,
         hI.qr,
         hI.qv⟩⟩
   · have e9:xa.tmps.getD 5 undef=.pointer (some ⟨w.heap.size,0,none⟩):=ho 5 (by kernel_rfl)
     refine Ri.step_plain rfl rfl (fun K' hK=>?_)
     refine wp_load_row _ _ rfl _ e9 _ _ _ _ (keep_blk hI.hb HF.out.2.1) Tryd.underlying29 rfl (by kernel_rfl) ?_
     exact hK _ _ ⟨_,_,rfl,rfl,⟨hI.hb,
         hI.c1,
         hI.q0,
         (fun _=>rfl),
         hI.q2,
         hI.q3,
         hI.q4,
         hI.q5,
         hI.q6,
         hI.q7,
         hI.q8,
         hI.q9,
         hI.qr,
         hI.qv⟩⟩
   · have e2:xa.tmps.getD 2 undef=.int .i64 (lo:Int):=ho 2 (by kernel_rfl)
     refine Ri.step_plain rfl rfl (fun K' hK=>?_)
     go_simp
     exact hK _ _ ⟨_,_,rfl,rfl,⟨hI.hb,
         hI.c1,
         hI.q0,
         hI.q1,
         (fun _=>rfl),
         hI.q3,
         hI.q4,
         hI.q5,
         hI.q6,
         hI.q7,
         hI.q8,
         hI.q9,
         hI.qr,
         hI.qv⟩⟩
   · have j2:L 2=true:=by have:=hd _ rfl;simp [Region.binds] at this;simp [this]
     have f2:=(hv 2 74 rfl j2).trans (hI.q2 j2)
     refine Ri.step_plain rfl rfl (fun K' hK=>?_)
     go_simp
     exact hK _ _ ⟨_,_,rfl,rfl,⟨hI.hb,
         hI.c1,
         hI.q0,
         hI.q1,
         hI.q2,
         (fun _=>rfl),
         hI.q4,
         hI.q5,
         hI.q6,
         hI.q7,
         hI.q8,
         hI.q9,
         hI.qr,
         hI.qv⟩⟩
   · have e2:xa.tmps.getD 2 undef=.int .i64 (lo:Int):=ho 2 (by kernel_rfl)
     refine Ri.step_plain rfl rfl (fun K' hK=>?_)
     go_simp
     exact hK _ _ ⟨_,_,rfl,rfl,⟨hI.hb,
         hI.c1,
         hI.q0,
         hI.q1,
         hI.q2,
         hI.q3,
         (fun _=>rfl),
         hI.q5,
         hI.q6,
         hI.q7,
         hI.q8,
         hI.q9,
         hI.qr,
         hI.qv⟩⟩
   · have e3:xa.tmps.getD 3 undef=.int .i64 (mo:Int):=ho 3 (by kernel_rfl)
     refine Ri.step_plain rfl rfl (fun K' hK=>?_)
     go_simp
     exact hK _ _ ⟨_,_,rfl,rfl,⟨hI.hb,
         hI.c1,
         hI.q0,
         hI.q1,
         hI.q2,
         hI.q3,
         hI.q4,
         (fun _=>rfl),
         hI.q6,
         hI.q7,
         hI.q8,
         hI.q9,
         hI.qr,
         hI.qv⟩⟩
   · obtain ⟨j4,j5⟩:L 4=true∧L 5=true:=by have:=hd _ rfl;simp [Region.binds] at this;simp [this]
     have f4:=(hv 4 76 rfl j4).trans (hI.q4 j4)
     have f5:=(hv 5 77 rfl j5).trans (hI.q5 j5)
     refine Ri.step_plain rfl rfl (fun K' hK=>?_)
     go_simp
     exact hK _ _ ⟨_,_,rfl,rfl,⟨hI.hb,
         hI.c1,
         hI.q0,
         hI.q1,
         hI.q2,
         hI.q3,
         hI.q4,
         hI.q5,
         (fun _=>rfl),
         hI.q7,
         hI.q8,
         hI.q9,
         hI.qr,
         hI.qv⟩⟩
   · have j6:L 6=true:=by have:=hd _ rfl;simp [Region.binds] at this;simp [this]
     have f6:=(hv 6 78 rfl j6).trans (hI.q6 j6)
     refine Ri.step_plain rfl rfl (fun K' hK=>?_)
     go_simp
     exact hK _ _ ⟨_,_,rfl,rfl,⟨hI.hb,
         hI.c1,
         hI.q0,
         hI.q1,
         hI.q2,
         hI.q3,
         hI.q4,
         hI.q5,
         hI.q6,
         (fun _=>rfl),
         hI.q8,
         hI.q9,
         hI.qr,
         hI.qv⟩⟩
   · obtain ⟨j1,j3,j7⟩:L 1=true∧L 3=true∧L 7=true:=by have:=hd _ rfl;simp [Region.binds] at this;simp [this]
     have f1:=(hv 1 73 rfl j1).trans (hI.q1 j1)
     have f3:=(hv 3 75 rfl j3).trans (hI.q3 j3)
     have f7:=(hv 7 79 rfl j7).trans (hI.q7 j7)
     refine Ri.step_plain rfl rfl (fun K' hK=>?_)
     go_simp
     refine (rep_any t l0 h0 w9 _ _ (HV.out w9 hbw)).mono ?_
     rintro e w8 ⟨s9,F9,rfl,ho9,-,hb8⟩
     exact hK _ _ ⟨_,_,rfl,rfl,⟨hI.hb.trans (hb8.mono hI.hb.size),
         hI.c1,
         hI.q0,
         hI.q1,
         hI.q2,
         hI.q3,
         hI.q4,
         hI.q5,
         hI.q6,
         hI.q7,
         (fun _=>.inr ⟨s9,rfl,ho9.trees.any⟩),
         (hI.q9.next hb8),
         (hI.qr.mono rfl rfl rfl hb8 (fun _ _ h9=>h9)),
         (hI.qv.next hb8)⟩⟩
   · obtain ⟨j0,j8⟩:L 0=true∧L 8=true:=by have:=hd _ rfl;simp [Region.binds] at this;simp [this]
     have f0:=(hv 0 72 rfl j0).trans (hI.q0 j0)
     have h12:L 12 ≠ true:=fun k=>by have:=(hI.c1 k).1;rw [hL] at this;cases this
     obtain ⟨s9,hs9,ht9⟩:=(hI.q8 j8).resolve_left h12
     obtain ⟨p9,c9,rfl,-⟩:=ht9.slice
     have f8:=(hv 8 80 rfl j8).trans hs9
     refine Ri.step_plain rfl rfl (fun K' hK=>?_)
     refine wp_node2 (.tmp 72) (.tmp 80) t (Tr.rep l0 h0 t) p t.subs.length cap p9 (Tr.rep l0 h0 t).subs.length c9 rfl f0 f8 ?_
     have hba:=(Below.refl w9.heap.size w9).alloc (Nat.le_refl _) (.cells (cells2 t (Tr.rep l0 h0 t) (.slice p t.subs.length cap) (.slice p9 (Tr.rep l0 h0 t).subs.length c9)) 29)
     exact hK _ _ ⟨_,_,rfl,rfl,⟨hI.hb.trans (hba.mono hI.hb.size),
         (fun k=>⟨rfl,(hI.c1 k).2⟩),
         hI.q0,
         hI.q1,
         hI.q2,
         hI.q3,
         hI.q4,
         hI.q5,
         hI.q6,
         hI.q7,
         (hI.q8.next hba),
         (fun _=>.inr (LsAt.two (HT.out w9 hbw).any ht9)),
         (hI.qr.mono rfl rfl rfl hba (fun _ _ h9=>h9)),
         (hI.qv.next hba)⟩⟩
   · obtain ⟨j9,j8⟩:L 9=true∧L 8=true:=by have:=hd _ rfl;simp [Region.binds] at this;simp [this]
     have f9:=hv 9 81 rfl j9
     have h12:L 12 ≠ true:=fun k=>by have:=(hI.c1 k).2.1;rw [hL] at this;cases this
     have hls:=(hI.q9 j9).resolve_left h12
     refine Ri.step_plain rfl rfl (fun K' hK=>?_)
     go_simp
     refine (seq_any [t,(Tr.rep l0 h0 t)] w9 _ _ hls).mono ?_
     rintro e w8 ⟨s9,F9,rfl,ho9,hF9,hb8⟩
     exact hK _ _ ⟨_,_,rfl,rfl,⟨hI.hb.trans (hb8.mono hI.hb.size),
         (fun k=>⟨(hI.c1 k).1,rfl,(hI.c1 k).2.2⟩),
         hI.q0,
         hI.q1,
         hI.q2,
         hI.q3,
         hI.q4,
         hI.q5,
         hI.q6,
         hI.q7,
         (hI.q8.next hb8),
         (hI.q9.next hb8),
         (fun _=>.inr ⟨s9,rfl,ho9.trees.mono fun b _ hm=>hI.qv.fresh (hF9 b hm)⟩),
         (hI.qv.next hb8)⟩⟩
   · refine Ri.step_plain rfl rfl (fun K' hK=>?_)
     go_simp
     have hba:=(Below.refl w9.heap.size w9).alloc (Nat.le_refl _) (.cells noNode 29)
     exact hK _ _ ⟨_,_,rfl,rfl,⟨hI.hb.trans (hba.mono hI.hb.size),
         (fun k=>⟨(hI.c1 k).1,(hI.c1 k).2.1,rfl⟩),
         hI.q0,
         hI.q1,
         hI.q2,
         hI.q3,
         hI.q4,
         hI.q5,
         hI.q6,
         hI.q7,
         (hI.q8.next hba),
         (hI.q9.next hba),
         (hI.qr.mono rfl rfl rfl hba (fun b hb9 _ _=>ptr_ne hb9)),
         (fun _=>⟨w9.heap.size,rfl,hI.hb.size,by simp,fun _=>heap_alloc_new _ _,fun k=>absurd (show L 12=true from k) (fun k=>by have:=(hI.c1 k).2.2;rw [hL] at this;cases this)⟩)⟩⟩
   · obtain ⟨j11,j10,j9⟩:L 11=true∧L 10=true∧L 9=true:=by have:=hd _ rfl;simp [Region.binds] at this;simp [this]
     obtain ⟨g9,hp9,h2,h3,h4,-⟩:=hI.qv j11
     obtain ⟨s9,hs9,ht9⟩:=(hI.qr j10).resolve_left (by rw [hL];decide)
     obtain ⟨p9,c9,rfl,-⟩:=ht9.slice
     have f9:=(hv 11 12 rfl j11).trans hp9
     have f8:=(hv 10 82 rfl j10).trans hs9
     have hg9:∀ b,QNB L v b→b ≠ g9:=fun b hb9 e=>hb9 j11 (e ▸ hp9)
     refine Ri.step_plain rfl rfl (fun K' hK=>?_)
     refine wp_store_row _ _ _ rfl g9 ((Tr.several 5 [t,(Tr.rep l0 h0 t)]).cells (.slice p9 (Tr.several 5 [t,(Tr.rep l0 h0 t)]).subs.length c9)) f9 f8 29 _ (h4 hL) (by kernel_rfl) (by kernel_rfl) (nodeC_all _ _ _ _) ?_
     exact hK _ _ ⟨_,undef,rfl,rfl,⟨below_setRow hI.hb h2 _,
         (fun _=>⟨j9,j10,j11⟩),
         hI.q0,
         hI.q1,
         hI.q2,
         hI.q3,
         hI.q4,
         hI.q5,
         hI.q6,
         hI.q7,
         (fun _=>.inl rfl),
         (fun _=>.inl rfl),
         (fun _=>.inl rfl),
         (fun _=>⟨g9,hp9,h2,by simpa using h3,(fun k=>by cases k),fun _=>⟨p9,_,c9,heap_setRow (h4 hL),(ht9.keep fun b _ hb9=>heap_setRow_other _ _ _ (hg9 b hb9)).any⟩⟩)⟩⟩
 · rintro v w8 hI
   obtain ⟨gb,vb9,-,-,-,hb9⟩:=hI.qv rfl
   obtain ⟨pb,lb,cb,yb,tb⟩:=hb9 rfl
   replace HF:=Lib.hid (HF.out.next hI.hb)
   have YB:=Lib.hid yb;have TB:=Lib.hid tb;have hI8:=Lib.hid hI.hb
   clear yb tb hb9 hI
   simp only [Ri.frame,List.zipIdx,List.foldl_cons,List.foldl_nil,if_true,List.setIfInBounds_toArray,List.set_cons_zero,List.set_cons_succ,Nat.reduceAdd,vb9]
   clear vb9
   generalize v 0=z0;generalize v 1=z1;generalize v 2=z2;generalize v 3=z3;generalize v 4=z4;generalize v 5=z5;generalize v 6=z6;generalize v 7=z7;generalize v 8=z8;generalize v 9=z9;generalize v 10=z10
   have hb8:Below w8.heap.size w8 w8:=Below.refl _ _
   replace YA:=Lib.hid (keep_blk hI8.out YA.out)
   replace TA:=Lib.hid (TA.out.later hI8.out)
   clear hb8 hI8 n1 n1' n2 n2' n3 n3'
   go_wp2_with (first
     | (refine wpList_load_row rfl 29 (.tmp 5) rfl w.heap.size rfl 29 #[.int .i64 t.kind,.int .u64 (Oc.U t.w0),.int .u64 (Oc.U t.w1),.int .u64 (Oc.U t.w2),.int .u64 (Oc.U t.w3),.slice p t.subs.length cap,.int .i64 t.num,.int .i64 t.least,.int .i64 t.most,.bool t.bare] (0,0) _ HF.out.2.1 Tryd.underlying29 rfl (by kernel_rfl) ?_)
     | fail)
   refine (rep_any t 0 (-1) w8 _ _ (HV.out w8 HF.out.1)).mono ?_
   rintro e w9 ⟨s9,F9,rfl,ho9,-,hb9⟩
   obtain ⟨pS,lS,cS,rfl,-⟩:∃ p l c,s9=.slice p l c∧True:=by obtain ⟨p,c,h,-⟩:=ho9.trees.slice;exact ⟨p,_,c,h,trivial⟩
   replace HF:=Lib.hid (HF.out.next hb9)
   replace YA:=Lib.hid (keep_blk hb9 YA.out);replace YB:=Lib.hid (keep_blk hb9 YB.out)
   replace TA:=Lib.hid (TA.out.later hb9);replace TB:=Lib.hid (TB.out.later hb9)
   have TS:=Lib.hid ho9.trees.any
   clear ho9 hb9
   go_upto_region 9 with (first
     | (refine wpList_store_row rfl 29 (.tmp 13) (.tmp 84) rfl w9.heap.size ((Tr.rep 0 (-1) t).cells (.slice pS lS cS)) rfl rfl 29 _ (heap_alloc_new _ _) (by kernel_rfl) (by kernel_rfl) (nodeC_all _ _ _ _) ?_)
     | fail)
   have hba:Below w9.heap.size w9 (World.setRow (w9.alloc (.cells noNode 29)) w9.heap.size ((Tr.rep 0 (-1) t).cells (.slice pS lS cS))):=below_setRow ((Below.refl _ _).alloc (Nat.le_refl _) _) (Nat.le_refl _) _
   replace HF:=Lib.hid (HF.out.next hba)
   replace YA:=Lib.hid (keep_blk hba YA.out);replace YB:=Lib.hid (keep_blk hba YB.out)
   replace TA:=Lib.hid (TA.out.later hba);replace TB:=Lib.hid (TB.out.later hba);replace TS:=Lib.hid (TS.out.later hba)
   have YS:=Lib.hid (show (World.setRow (w9.alloc (.cells noNode 29)) w9.heap.size ((Tr.rep 0 (-1) t).cells (.slice pS lS cS))).heap[w9.heap.size]? = some (.cells ((Tr.rep 0 (-1) t).cells (.slice pS lS cS)) 29) from heap_setRow (heap_alloc_new _ _))
   clear hba
   generalize (World.setRow (w9.alloc (.cells noNode 29)) w9.heap.size ((Tr.rep 0 (-1) t).cells (.slice pS lS cS)))=wa at *
   generalize w9.heap.size=gs at *
   try simp only [Act.put]
   have HVA:=Lib.hid (fun w9 (hb:Below wa.heap.size wa w9)=>(show NodeV w9 (fun _=>True) (.agg ((Tr.rep lo hi t).cells (.slice pa la ca))) (Tr.rep lo hi t) from ⟨_,rfl,TA.out.later hb⟩))
   have HVB:=Lib.hid (fun w9 (hb:Below wa.heap.size wa w9)=>(show NodeV w9 (fun _=>True) (.agg ((Tr.several 5 [t,(Tr.rep l0 h0 t)]).cells (.slice pb lb cb))) (Tr.several 5 [t,(Tr.rep l0 h0 t)]) from ⟨_,rfl,TB.out.later hb⟩))
   have HVS:=Lib.hid (fun w9 (hb:Below wa.heap.size wa w9)=>(show NodeV w9 (fun _=>True) (.agg ((Tr.rep 0 (-1) t).cells (.slice pS lS cS))) (Tr.rep 0 (-1) t) from ⟨_,rfl,TS.out.later hb⟩))
   have HP:=Lib.hid (show PRo w #[.int .i64 t.kind,.int .u64 (Oc.U t.w0),.int .u64 (Oc.U t.w1),.int .u64 (Oc.U t.w2),.int .u64 (Oc.U t.w3),.slice p t.subs.length cap,.int .i64 t.num,.int .i64 t.least,.int .i64 t.most,.bool t.bare] #[.string s,.int .i64 c,.int .i64 e0] wa∧Below wa.heap.size wa wa∧wa.heap[ga]? = some (.cells ((Tr.rep lo hi t).cells (.slice pa la ca)) 29)∧wa.heap[gb]? = some (.cells ((Tr.several 5 [t,(Tr.rep l0 h0 t)]).cells (.slice pb lb cb)) 29)∧wa.heap[gs]? = some (.cells ((Tr.rep 0 (-1) t).cells (.slice pS lS cS)) 29) from ⟨HF.out,Below.refl _ _,YA.out,YB.out,YS.out⟩)
   have HNX:=Lib.hid (show ∀ u1 u2,(PRo w #[.int .i64 t.kind,.int .u64 (Oc.U t.w0),.int .u64 (Oc.U t.w1),.int .u64 (Oc.U t.w2),.int .u64 (Oc.U t.w3),.slice p t.subs.length cap,.int .i64 t.num,.int .i64 t.least,.int .i64 t.most,.bool t.bare] #[.string s,.int .i64 c,.int .i64 e0] u1∧Below wa.heap.size wa u1∧u1.heap[ga]? = some (.cells ((Tr.rep lo hi t).cells (.slice pa la ca)) 29)∧u1.heap[gb]? = some (.cells ((Tr.several 5 [t,(Tr.rep l0 h0 t)]).cells (.slice pb lb cb)) 29)∧u1.heap[gs]? = some (.cells ((Tr.rep 0 (-1) t).cells (.slice pS lS cS)) 29))→Below u1.heap.size u1 u2→(PRo w #[.int .i64 t.kind,.int .u64 (Oc.U t.w0),.int .u64 (Oc.U t.w1),.int .u64 (Oc.U t.w2),.int .u64 (Oc.U t.w3),.slice p t.subs.length cap,.int .i64 t.num,.int .i64 t.least,.int .i64 t.most,.bool t.bare] #[.string s,.int .i64 c,.int .i64 e0] u2∧Below wa.heap.size wa u2∧u2.heap[ga]? = some (.cells ((Tr.rep lo hi t).cells (.slice pa la ca)) 29)∧u2.heap[gb]? = some (.cells ((Tr.several 5 [t,(Tr.rep l0 h0 t)]).cells (.slice pb lb cb)) 29)∧u2.heap[gs]? = some (.cells ((Tr.rep 0 (-1) t).cells (.slice pS lS cS)) 29)) from
     fun u1 u2 h hb=>⟨h.1.next hb,h.2.1.trans (hb.mono h.2.1.size),keep_blk hb h.2.2.1,keep_blk hb h.2.2.2.1,keep_blk hb h.2.2.2.2⟩)
   clear HF YA YB YS TA TB TS HT
   go_wp2_with (first
     | (refine wpList_load_row rfl 29 (.tmp 11) rfl ga rfl 29 ((Tr.rep lo hi t).cells (.slice pa la ca)) (0,0) _ HP.out.2.2.1 Tryd.underlying29 rfl (by kernel_rfl) ?_)
     | fail)
   refine (treecheckT_any A (Tr.rep lo hi t) (by have:=HD.out;have:=Tr.dp_rep lo hi t;omega) wa (HM.out wa HP.out.1.1).errs _ _ (HVA.out wa HP.out.2.1)).mono ?_
   rintro e wb ⟨rfl,hbb⟩
   replace HP:=Lib.hid (HNX.out _ _ HP.out hbb)
   clear hbb
   by_cases hz:(Tr.rep lo hi t).checkC=0
   rotate_left
   · rw [sent_ne hz]
     generalize A ((Tr.rep lo hi t).checkC - 1)=aa
     clear hz
     go_wp2
     go_ret
     exact ⟨rfl,HP.out.1.1⟩
   have HZA:=Lib.hid hz
   rw [hz,sent_nil]
   clear hz
   go_wp2_with (first
     | (refine wpList_load_row_gd rfl rfl rfl 29 (.tmp 12) rfl gb rfl 29 ((Tr.several 5 [t,(Tr.rep l0 h0 t)]).cells (.slice pb lb cb)) (0,0) _ HP.out.2.2.2.1 Tryd.underlying29 rfl (by kernel_rfl) ?_)
     | fail)
   refine (treecheckT_any A (Tr.several 5 [t,(Tr.rep l0 h0 t)]) (by have:=HD.out;have:=Tr.dp_rep l0 h0 t;have:=Tr.dp_several 5 (by decide) t (Tr.rep l0 h0 t);omega) wb (HM.out wb HP.out.1.1).errs _ _ (HVB.out wb HP.out.2.1)).mono ?_
   rintro e wc ⟨rfl,hbc⟩
   replace HP:=Lib.hid (HNX.out _ _ HP.out hbc)
   clear hbc
   by_cases hz:(Tr.several 5 [t,(Tr.rep l0 h0 t)]).checkC=0
   rotate_left
   · rw [sent_ne hz]
     generalize A ((Tr.several 5 [t,(Tr.rep l0 h0 t)]).checkC - 1)=aa
     clear hz
     go_wp2
     go_ret
     exact ⟨rfl,HP.out.1.1⟩
   have HZB:=Lib.hid hz
   rw [hz,sent_nil]
   clear hz
   go_wp2_with (first
     | (refine wpList_load_row_gd rfl rfl rfl 29 (.tmp 13) rfl gs rfl 29 ((Tr.rep 0 (-1) t).cells (.slice pS lS cS)) (0,0) _ HP.out.2.2.2.2 Tryd.underlying29 rfl (by kernel_rfl) ?_)
     | fail)
   refine (treecheckT_any A (Tr.rep 0 (-1) t) (by have:=HD.out;have:=Tr.dp_rep 0 (-1) t;omega) wc (HM.out wc HP.out.1.1).errs _ _ (HVS.out wc HP.out.2.1)).mono ?_
   rintro e wd ⟨rfl,hbd⟩
   replace HP:=Lib.hid (HNX.out _ _ HP.out hbd)
   clear hbd
   by_cases hz:(Tr.rep 0 (-1) t).checkC=0
   rotate_left
   · rw [sent_ne hz]
     generalize A ((Tr.rep 0 (-1) t).checkC - 1)=aa
     clear hz
     go_wp2
     go_ret
     exact ⟨rfl,HP.out.1.1⟩
   have HZS:=Lib.hid hz
   rw [hz,sent_nil]
   clear hz HD
   obtain ⟨d0,d1,d2⟩:=HP.out.1.view
   go_wp2_with fail
   refine (scnew_any s c e0 wd).mono ?_
   rintro e we ⟨rfl,hx,hbe,-⟩
   replace HP:=Lib.hid (HNX.out _ _ HP.out hbe)
   have HX:=Lib.hid hx
   clear hx hbe d0 d1 d2
   generalize wd.heap.size=gx at *
   have HS63:=Lib.hid (show (Sc.new s c e0).t.size ≤ 63 from Nat.le_trans HS40.out (by decide))
   go_wp2_with (first
     | (refine wpList_load_row rfl 29 (.tmp 11) rfl ga rfl 29 ((Tr.rep lo hi t).cells (.slice pa la ca)) (0,0) _ HP.out.2.2.1 Tryd.underlying29 rfl (by kernel_rfl) ?_)
     | fail)
   refine (ends_list A (Tr.rep lo hi t) HZA.out (Sc.new s c e0) HS63.out k HK.out gx we (HM.out we HP.out.1.1) HX.out _ _ (HVA.out we HP.out.2.1)).mono ?_
   rintro e wf ⟨u1,rfl,hi1,hbf⟩
   replace HP:=Lib.hid (HNX.out _ _ HP.out hbf)
   replace HX:=Lib.hid (HX.out.below hbf)
   have I1:=Lib.hid hi1
   clear hi1 hbf
   go_wp2_with (first
     | (refine wpList_load_row rfl 29 (.tmp 12) rfl gb rfl 29 ((Tr.several 5 [t,(Tr.rep l0 h0 t)]).cells (.slice pb lb cb)) (0,0) _ HP.out.2.2.2.1 Tryd.underlying29 rfl (by kernel_rfl) ?_)
     | fail)
   refine (ends_list A (Tr.several 5 [t,(Tr.rep l0 h0 t)]) HZB.out (Sc.new s c e0) HS63.out k HK.out gx wf (HM.out wf HP.out.1.1) HX.out _ _ (HVB.out wf HP.out.2.1)).mono ?_
   rintro e wg ⟨u2,rfl,hi2,hbg⟩
   replace HP:=Lib.hid (HNX.out _ _ HP.out hbg)
   replace HX:=Lib.hid (HX.out.below hbg)
   rw [ends_succ HS63.out HK.out HNUM.out.1 HNUM.out.2.1 HNUM.out.2.2.1 HZA.out HZB.out] at hi2
   replace I1:=Lib.hid (I1.out.below hbg)
   have I2:=Lib.hid hi2
   clear hi2 hbg
   go_wp2_with (first
     | (refine wpList_load_row rfl 29 (.tmp 13) rfl gs rfl 29 ((Tr.rep 0 (-1) t).cells (.slice pS lS cS)) (0,0) _ HP.out.2.2.2.2 Tryd.underlying29 rfl (by kernel_rfl) ?_)
     | fail)
   refine (ends_list A (Tr.rep 0 (-1) t) HZS.out (Sc.new s c e0) HS63.out k HK.out gx wg (HM.out wg HP.out.1.1) HX.out _ _ (HVS.out wg HP.out.2.1)).mono ?_
   rintro e wh ⟨u3,rfl,hi3,hbh⟩
   replace HP:=Lib.hid (HNX.out _ _ HP.out hbh)
   replace HX:=Lib.hid (HX.out.below hbh)
   replace I1:=Lib.hid (I1.out.below hbh);replace I2:=Lib.hid (I2.out.below hbh)
   obtain ⟨LS,hLS,hlen,hin,hcl⟩:=ends_star HS63.out HK.out HZS.out
   rw [hLS] at hi3
   have HIN:=Lib.hid hin;have HCL:=Lib.hid hcl;have HLEN:=Lib.hid hlen
   clear hbh hLS hlen hin hcl HVA HVB HVS HZA HZB HZS
   have I3:=Lib.hid hi3
   have hlu:(Re.up (Tr.tabT (Sc.new s c e0) (Tr.rep lo hi t) k).getLsbD 64 0).length ≤ 1000000:=Nat.le_trans (Re.up_length _ _ _) (by decide)
   generalize Re.up (Tr.tabT (Sc.new s c e0) (Tr.rep lo hi t) k).getLsbD 64 0=LU at *
   have HLU:=Lib.hid hlu
   clear hlu hi3
   go_wp2_with fail
   refine (sameints_any LU LU HLU.out HLU.out _ _ wh I1.out I2.out).mono ?_
   rintro e wi ⟨rfl,hbi⟩
   rw [decide_eq_true rfl]
   replace HP:=Lib.hid (HNX.out _ _ HP.out hbi)
   replace HX:=Lib.hid (HX.out.below hbi)
   replace I3:=Lib.hid (I3.out.below hbi)
   clear hbi I1 I2 HLU
   obtain ⟨p3,c3,rfl,hat⟩:=I3.out
   obtain ⟨bS,oS,rfl,-,hcell0⟩:=hat 0 k rfl
   have HAT:=Lib.hid hat
   have hne0:¬ (((k :: LS).length:Nat):Int)=0:=by rw [List.length_cons];omega
   have heq0:((((k :: LS).length:Nat):Int) == 0)=false:=by rw [beq_eq_false_iff_ne];exact hne0
   have hlt0:(0:Int) < (((k :: LS).length:Nat):Int):=by rw [List.length_cons];omega
   have hkk:((k:Int) != (k:Int))=false:=by simp
   have hkk2:((k:Int) == (k:Int))=true:=by simp
   try rw [Nat.add_zero] at hcell0
   clear hat I3
   go_upto_region 17 with (fail)
   clear hne0 heq0 hlt0 hkk hkk2 hcell0
   have HLL:=Lib.hid (show (k :: LS).length=LS.length+1 from rfl)
   have hmm:=@run_makeMap Tryd.prog
   go_wp2
   clear hmm
   go_loopw [157] (fun iv wr=>∃ m:Nat,iv=.int .i64 (m:Int)∧m ≤ LS.length+1∧Hid (wr.ownsMap Tryd.prog 3 (plainElem Tryd.prog 3) wi.heap.size m (mapOf ((k :: LS).take m)))∧Hid (Below wi.heap.size wi wr)) (fun iv _=>LS.length+1 - (intOf iv).toNat)
   case atStart=>exact ⟨0,rfl,Nat.zero_le _,Lib.hid (World.ownsMap_made _ _ _ _),Lib.hid ((Below.refl _ _).alloc (Nat.le_refl _) _)⟩
   case round =>
     obtain ⟨m,rfl,hm,HO,HB⟩:=hrel
     by_cases hlt:m < LS.length+1
     · have wi9:IntKind.i64.wrap ((m:Int)+1)=(m:Int)+1:=IntWalk.i64_in _ (by have:=HLEN.out;have:=HLL.out;omega)
       have hmi:(m:Int) < ((LS.length+1:Nat):Int):=by omega
       have hgm:(k :: LS)[m]? = some (k :: LS)[m]:=List.getElem?_eq_getElem (by rw [HLL.out];exact hlt)
       have htk:(k :: LS).take (m+1)=(k :: LS).take m ++ [(k :: LS)[m]]:=by rw [List.take_add_one,hgm,Option.toList_some]
       have hz40:=(HIN.out _ (List.mem_of_getElem? hgm)).2
       obtain ⟨b9,o9,he9,hb9,hcell⟩:=HAT.out m _ hgm
       injection he9 with he9
       injection he9 with he9 ho9 _
       subst he9 ho9
       have hc9:wr.cell? ⟨bS,oS+m,none⟩=some (.int .i64 (((k :: LS)[m]:Nat):Int)):=(HB.out.cell (p:=⟨bS,oS+m,none⟩) hb9).trans hcell
       have HTK:=Lib.hid htk
       clear hgm htk hcell hb9
       generalize (k :: LS)[m]=z at *
       have hzw:(Lit.int .i64 (z:Int)).wf=true:=wf_nat (by have:(Sc.new s c e0).t.size=s.size:=rfl;have:=HS40.out;omega)
       have hkey:keyOf Tryd.prog 3 (.int .i64 (z:Int))=some (.int .i64 (z:Int)):=keyOf_int_mk Tryd.underlying3 hzw
       have hm9:m < maxLen:=by unfold maxLen;have:=HLEN.out;have:=HLL.out;omega
       clear hz40
       go_wp2_with (first
         | (at_mapUpdate;refine wpList_mapUpdate_own _ rfl _ _ _ 71 rfl 3 3 intKeyed Tryd.underlying71 _ wi.heap.size m _ rfl HO.out hm9 _ _ _ rfl rfl hkey _ [] (plainElem_int Tryd.underlying3 (WalkArith.wf_i64 (by omega))) ?_;intro w1 hown1 hgrow1)
         | fail)
       exact ⟨⟨m+1,by go_num,by omega,Lib.hid (by rw [HTK.out,mapOf_snoc];exact hown1),Lib.hid (HB.out.grown hgrow1 HB.out.size (fun j hj=>by cases hj;exact Nat.le_refl _))⟩,by simp [intOf];omega⟩
     · obtain rfl:m=LS.length+1:=by omega
       have HO9:=Lib.hid (show wr.ownsMap Tryd.prog 3 (plainElem Tryd.prog 3) wi.heap.size (LS.length+1) (mapOf (k :: LS)) from by have:=HO.out;rwa [List.take_of_length_le (Nat.le_of_eq HLL.out)] at this)
       clear HO hm hlt
       go_wp2
       go_loopw [166] (fun iv wr2=>∃ m:Nat,iv=.int .i64 (m:Int)∧m ≤ LS.length+1∧Hid (wr2.ownsMap Tryd.prog 3 (plainElem Tryd.prog 3) wi.heap.size (LS.length+1) (mapOf (k :: LS)))∧Hid (Below wi.heap.size wi wr2)) (fun iv _=>LS.length+1 - (intOf iv).toNat)
       case atStart=>exact ⟨0,rfl,Nat.zero_le _,HO9,HB⟩
       case round =>
         clear HO9 HB
         obtain ⟨m,rfl,hm,HO,HB⟩:=hrel
         by_cases hlt:m < LS.length+1
         · have wi9:IntKind.i64.wrap ((m:Int)+1)=(m:Int)+1:=IntWalk.i64_in _ (by have:=HLEN.out;have:=HLL.out;omega)
           have hmi:(m:Int) < ((LS.length+1:Nat):Int):=by omega
           have hgm:(k :: LS)[m]? = some (k :: LS)[m]:=List.getElem?_eq_getElem (by rw [HLL.out];exact hlt)
           have HZ40:=Lib.hid (HIN.out _ (List.mem_of_getElem? hgm)).2
           have HCZ:=Lib.hid (fun j=>HCL.out _ j (List.mem_of_getElem? hgm))
           obtain ⟨b9,o9,he9,hb9,hcell⟩:=HAT.out m _ hgm
           injection he9 with he9
           injection he9 with he9 ho9 _
           subst he9 ho9
           have hc9:wr.cell? ⟨bS,oS+m,none⟩=some (.int .i64 (((k :: LS)[m]:Nat):Int)):=(HB.out.cell (p:=⟨bS,oS+m,none⟩) hb9).trans hcell
           clear hgm hcell hb9
           generalize (k :: LS)[m]=z at *
           have HP2:=Lib.hid (HNX.out _ _ HP.out HB.out);have HX2:=Lib.hid (HX.out.below HB.out)
           go_wp2_with (first
             | (refine wpList_load_row rfl 29 (.tmp 5) rfl w.heap.size rfl 29 #[.int .i64 t.kind,.int .u64 (Oc.U t.w0),.int .u64 (Oc.U t.w1),.int .u64 (Oc.U t.w2),.int .u64 (Oc.U t.w3),.slice p t.subs.length cap,.int .i64 t.num,.int .i64 t.least,.int .i64 t.most,.bool t.bare] (0,0) _ HP2.out.1.2.1 Tryd.underlying29 rfl (by kernel_rfl) ?_)
             | fail)
           refine (ends_list A t HZ.out (Sc.new s c e0) HS63.out z HZ40.out gx wr (HM.out wr HP2.out.1.1) HX2.out _ _ (HV.out wr HP2.out.1.1)).mono ?_
           rintro e wj ⟨u4,rfl,hi4,hbj⟩
           have HB3:=Lib.hid (HB.out.trans (hbj.mono HB.out.size))
           have HO3:=Lib.hid (HO.out.kept (row:=none) ⟨hbj.os,hbj.tape,hbj.output,hbj.size,fun i hi _=>hbj.block i hi⟩ (by simp))
           have HMM:=Lib.hid (show ∀ j,j ∈ Re.up (Tr.tabT (Sc.new s c e0) t z).getLsbD 64 0→j ∈ k :: LS from fun j hj=>by
             rw [Re.mem_up,Tr.tabT_means (Sc.new s c e0) HS63.out t (Tr.checkC_zero.1 HZ.out).1 z (by have:=HZ40.out;have:=HS63.out;omega) j] at hj
             exact HCZ.out j hj.2.2.2)
           have HL4:=Lib.hid (show (Re.up (Tr.tabT (Sc.new s c e0) t z).getLsbD 64 0).length ≤ 64 from Re.up_length _ _ _)
           have I4:=Lib.hid hi4
           clear hi4 hbj HP2 HX2 HB HO HCZ HZ40 hc9
           generalize Re.up (Tr.tabT (Sc.new s c e0) t z).getLsbD 64 0=L4 at *
           obtain ⟨p4,c4,rfl,hat4⟩:=I4.out
           have HAT4:=Lib.hid hat4
           clear hat4 I4
           go_wp2
           go_loopw [181] (fun iv w9=>∃ n:Nat,iv=.int .i64 (n:Int)∧n ≤ L4.length∧w9=wj) (fun iv _=>L4.length - (intOf iv).toNat)
           case atStart=>exact ⟨0,rfl,Nat.zero_le _,rfl⟩
           case round =>
             obtain ⟨n,rfl,hn,rfl⟩:=hrel
             by_cases hlt4:n < L4.length
             · have wi4:IntKind.i64.wrap ((n:Int)+1)=(n:Int)+1:=IntWalk.i64_in _ (by have:=HL4.out;omega)
               have hni:(n:Int) < (L4.length:Int):=by omega
               have hgn:L4[n]? = some L4[n]:=List.getElem?_eq_getElem hlt4
               have hmem:=HMM.out _ (List.mem_of_getElem? hgn)
               obtain ⟨b4,o4,rfl,-,hc4⟩:=HAT4.out n _ hgn
               clear hgn
               generalize L4[n]=y at *
               have hyw:(Lit.int .i64 (y:Int)).wf=true:=wf_nat (by have:=(HIN.out y hmem).2;have:=HS63.out;omega)
               have hkey:keyOf Tryd.prog 3 (.int .i64 (y:Int))=some (.int .i64 (y:Int)):=keyOf_int_mk Tryd.underlying3 hyw
               have hhas:=mapOf_has hmem (.lit (.int .i64 0))
               have h11:((1:Int) != 1)=false:=by decide
               clear hmem hyw
               go_wp2_with (first
                 | (at_lookup;refine wpList_lookup_own_int _ rfl _ _ 71 rfl 3 3 .i64 intKeyed Tryd.underlying71 Tryd.underlying3 (zeroInt _) wi.heap.size (LS.length+1) _ rfl HO3.out _ _ rfl hkey ?_;intro c9 hat9 hwc9;obtain rfl:c9=1:=by (have h9:=hhas.symm.trans hat9;injection h9 with h9;injection h9 with _ h9;exact h9.symm))
                 | fail)
               exact ⟨⟨n+1,by go_num,by omega,by first | trivial | rfl⟩,by simp [intOf];omega⟩
             · have hni:¬ ((n:Int) < (L4.length:Int)):=by omega
               clear HAT4 HMM HL4
               go_wp2
               exact ⟨⟨_,_,_,_,_,.int .i64 ((m:Int)+1),⟨m+1,by go_num,by omega⟩,rfl,rfl,rfl,rfl,rfl,rfl⟩,by simp [intOf];omega⟩
         · have hmi:¬ ((m:Int) < ((LS.length+1:Nat):Int)):=by omega
           have HEND:=Lib.hid (HNX.out _ _ HP.out HB.out).1.1
           clear HO HB
           go_wp2
           go_ret
           exact ⟨rfl,HEND.out⟩
end Go.Proofs.YtoepdfpnkmccoaaDoor
