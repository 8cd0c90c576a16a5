/- Part 2 of what these proofs need. -/
import Derived.Shelf.Small.Wraps
import Derived.Shelf.Strconv.Itoa0
import Derived.Shelf.Strconv.Itoa1
import Derived.Shelf.LaysM
import Derived.Shelf.Strconv.Itoa2
import Derived.Shelf.Strconv.AppendUint10
import Derived.Shelf.Strconv.AppendInt10
import Derived.Shelf.Strconv.AppendIntPublic10
import Derived.Ground.Names2Prog
import Derived.Shelf.Slices.SearchI
import Derived.Test.YtllfgppjobinnaaDoorProg
import Derived.Lib.AppendIntMem
import Derived.Lib.BufferKept
import Derived.Lib.OwnKind
import Derived.Maps.OwnSet
import Derived.Maps.Views
import Derived.Maps.Keyed
import Derived.Laws.IdiomStrings
import Derived.Test.YtllfgppjobinnaaDoorNr1
set_option maxRecDepth 100000
set_option maxHeartbeats 16000000
namespace Go.Proofs.YtllfgppjobinnaaDoor
open Go.RowKit
def RowIs (base:Nat) (w:World) (v:Value) (ps:List (Tr × Value)):Prop :=
 w.ownsRow base 37 10 v ps.length (rowOf ps)∧∀ (i:Nat) (t:Tr) (s:Value),ps[i]? = some (t,s)→TreesAt w (fun b=>v.ownBlock ≠ some b) s t.subs
theorem RowIs.nil (base:Nat) (w:World):RowIs base w (.slice none 0 0) []:=⟨World.ownsRow_nil _ _ _ _,fun i t s h=>by simp at h⟩
theorem RowIs.lt {base:Nat} {w:World} {v:Value} {ps:List (Tr × Value)} (h:RowIs base w v ps):∀ k,v.ownBlock=some k→base ≤ k∧k < w.heap.size:=h.1.lt
theorem RowIs.below {base:Nat} {w w':World} {v:Value} {ps:List (Tr × Value)} (h:RowIs base w v ps) (hb:Below w.heap.size w w'):RowIs base w' v ps:=by
 refine ⟨h.1.kept (w':=w') (row:=none) ⟨hb.os,hb.tape,hb.output,hb.size,fun k hk _=>hb.block k hk⟩ ?_,fun i t s hi=>(h.2 i t s hi).later hb⟩
 cases h:Value.ownBlock v with
 | none=>exact .inl rfl
 | some g=>exact .inr (by simp)
theorem RowIs.step {base:Nat} {w3 w4:World} {v v':Value} {ps:List (Tr × Value)} {x:Tr} {s:Value} (h:RowIs base w3 v ps) (hx:TreesAt w3 (fun b=>v.ownBlock ≠ some b) s x.subs)
   (hown:w4.ownsRow base 37 10 v' (ps.length+1) (rowOf ps ++ (x.cells s).toList)) (hg:w3.grownBy w4 v.ownBlock) (hw:v'.ownBlock=v.ownBlock ∨ v'.ownBlock=some w3.heap.size):RowIs base w4 v' (ps ++ [(x,s)]):=by
 have up:∀ (u:Tr) (r:Value),TreesAt w3 (fun b=>v.ownBlock ≠ some b) r u.subs→TreesAt w4 (fun b=>v'.ownBlock ≠ some b) r u.subs:=fun u r hr =>
   (subs_step (base:=0) (hr.mono fun b _ hb=>⟨Nat.zero_le _,hb⟩) hg hw).mono fun b _ hb=>hb.2
 refine ⟨by rw [rowOf_snoc,List.length_append];exact hown,fun i t r hi=>?_⟩
 by_cases hip:i < ps.length
 · rw [List.getElem?_append_left hip] at hi
   exact up t r (h.2 i t r hi)
 · rw [List.getElem?_append_right (by omega)] at hi
   have hi0:i - ps.length=0:=by
     by_cases h0:i - ps.length=0
     · exact h0
     · rw [List.getElem?_eq_none (by simp;omega)] at hi;cases hi
   rw [hi0] at hi
   simp only [List.getElem?_cons_zero,Option.some.injEq,Prod.mk.injEq] at hi
   obtain ⟨rfl,rfl⟩:=hi
   exact up x s hx
theorem RowIs.trees {base:Nat} {w:World} {v:Value} {ps:List (Tr × Value)} (h:RowIs base w v ps) (hn:ps.length * 96 ≤ 140737488351232):TreesAt w (fun b=>b < w.heap.size) v (ps.map (·.1)) :=
 (trees_of_row (B':=fun _=>True) h.1 hn (fun i t s hi=>h.2 i t s hi) (fun _ _=>trivial) (fun _ _=>trivial)).mono fun _ hb _=>hb
theorem news_one (w:World) (x:Tr) (p:Option Addr) (l c:Nat) (ty:TypeId):∀ (j:Nat) (u:Value),(x.cells (.slice p l c)).toList[j]? = some u→(w.alloc (.cells (x.cells (.slice p l c)) ty)).cell? ((⟨w.heap.size,0,none⟩:Addr).add j)=some u:=fun j u hu=>by
 have ea:(⟨w.heap.size,0,none⟩:Addr).add j=⟨w.heap.size,j,none⟩:=by unfold Addr.add;split <;> simp_all
 rw [ea,cell_new];simpa using hu
theorem RowIs.app {base:Nat} {w0 w3 w4:World} {v v':Value} {ps:List (Tr × Value)} {x:Tr} {p:Option Addr} {l c:Nat} {ty:TypeId} (h:RowIs base w0 v ps) (hb:Below w0.heap.size w0 w3) (hx:TreesAt w3 (fun b=>v.ownBlock ≠ some b) (.slice p l c) x.subs)
   (hown:w4.ownsRow base 37 10 v' (ps.length+1) (rowOf ps ++ (x.cells (.slice p l c)).toList)) (hg:(w3.alloc (.cells (x.cells (.slice p l c)) ty)).grownBy w4 v.ownBlock) (hw:v'.ownBlock=v.ownBlock ∨ v'.ownBlock=some (w3.alloc (.cells (x.cells (.slice p l c)) ty)).heap.size):RowIs base w4 v' (ps ++ [(x,.slice p l c)]) :=
 have ha:Below w3.heap.size w3 (w3.alloc (.cells (x.cells (.slice p l c)) ty)):=(Below.refl _ _).alloc (Nat.le_refl _) _
 RowIs.step ((h.below hb).below ha) (hx.later ha) hown hg hw
end Go.Proofs.YtllfgppjobinnaaDoor
namespace Go.Proofs.YtllfgppjobinnaaDoor
open Go.RowKit
theorem addr_add (b o j:Nat):(⟨b,o,none⟩:Addr).add j=⟨b,o+j,none⟩:=by unfold Addr.add;split <;> simp_all
def Slcs (ps:List (Tr × Value)):Prop:=∀ t s,(t,s) ∈ ps→∃ q c,s=.slice q t.subs.length c
theorem rowOf_append (ps qs:List (Tr × Value)):rowOf (ps ++ qs)=rowOf ps ++ rowOf qs:=by unfold rowOf;rw [List.flatMap_append]
theorem rowOf_one {ps:List (Tr × Value)} (h:Slcs ps):∀ u ∈ rowOf ps,u.oneCell'=true:=by
 intro u hu
 unfold rowOf at hu
 obtain ⟨⟨t,s⟩,hx,hu⟩:=List.mem_flatMap.1 hu
 obtain ⟨q,c,rfl⟩:=h t s hx
 exact nodeC_one t q t.subs.length c u hu
theorem split_fst {ps:List (Tr × Value)} {ts:List Tr} (h:ps.map (·.1)=ts) {i:Nat} {t:Tr} (hi:ts[i]? = some t):∃ s,ps[i]? = some (t,s):=by
 rw [← h,List.getElem?_map] at hi
 cases hx:ps[i]? with
 | none=>rw [hx] at hi;cases hi
 | some x=>rw [hx] at hi;cases x with | mk a b=>simp only [Option.map_some,Option.some.injEq] at hi;subst hi;exact ⟨b,rfl⟩
theorem len_fst {ps:List (Tr × Value)} {ts:List Tr} (h:ps.map (·.1)=ts):ps.length=ts.length:=by rw [← h,List.length_map]
theorem TreesAt.rowPs {w:World} {B:Nat→Prop} {p:Option Addr} {len cap:Nat} {ts:List Tr} (h:TreesAt w B (.slice p len cap) ts) (hne:ts ≠ []) :
   ∃ b o ps,p=some ⟨b,o,none⟩∧ps.map (·.1)=ts∧(∀ j u,(rowOf ps)[j]? = some u→w.cell? ((⟨b,o,none⟩:Addr).add j)=some u)∧Slcs ps∧∀ (i:Nat) (t:Tr) (s:Value),ps[i]? = some (t,s)→TreesAt w B s t.subs:=by
 cases h with
 | mk _ _ _ S hlen hc hs =>
   obtain ⟨t0,ht0⟩:∃ t0,ts[0]? = some t0:=by
     cases ts with
     | nil=>exact absurd rfl hne
     | cons a l=>exact ⟨a,rfl⟩
   obtain ⟨b,o,hp,hB,-⟩:=hc 0 t0 ht0
   have hget:∀ (i:Nat) (t:Tr) (s:Value),(ts.mapIdx fun i t=>(t,S i))[i]? = some (t,s)→ts[i]? = some t∧s=S i:=by
     intro i t s hi
     rw [List.getElem?_mapIdx] at hi
     cases hx:ts[i]? with
     | none=>rw [hx] at hi;cases hi
     | some x =>
       rw [hx] at hi
       simp only [Option.map_some,Option.some.injEq,Prod.mk.injEq] at hi
       exact ⟨by rw [hi.1],hi.2.symm⟩
   refine ⟨b,o,ts.mapIdx fun i t=>(t,S i),hp, ?_, ?_, ?_,fun i t s hi=>?_⟩
   · refine List.ext_getElem? fun i=>?_
     rw [List.getElem?_map,List.getElem?_mapIdx]
     cases ts[i]? <;> rfl
   · intro j u hu
     have hj:j < (rowOf (ts.mapIdx fun i t=>(t,S i))).length:=by
       by_cases h:j < (rowOf (ts.mapIdx fun i t=>(t,S i))).length
       · exact h
       · rw [List.getElem?_eq_none (by omega)] at hu;cases hu
     rw [rowOf_length,List.length_mapIdx] at hj
     have hi:j / 10 < ts.length:=by omega
     have hti:ts[j / 10]? = some ts[j / 10]:=List.getElem?_eq_getElem hi
     have hpi:(ts.mapIdx fun i t=>(t,S i))[j / 10]? = some (ts[j / 10],S (j / 10)):=by rw [List.getElem?_mapIdx,hti];rfl
     have hr:j % 10 < 10:=Nat.mod_lt _ (by omega)
     have hg:=rowOf_get _ (j / 10) _ _ hpi (j % 10) hr
     rw [show j / 10 * 10+j % 10=j by omega,hu] at hg
     obtain ⟨b2,o2,hp2,-,h10⟩:=hc _ _ hti
     rw [hp] at hp2
     cases hp2
     rw [addr_add,show o+j=o+j / 10 * 10+j % 10 by omega]
     have h11:j % 10=0 ∨ j % 10=1 ∨ j % 10=2 ∨ j % 10=3 ∨ j % 10=4 ∨ j % 10=5 ∨ j % 10=6 ∨ j % 10=7 ∨ j % 10=8 ∨ j % 10=9:=by omega
     unfold Tr.cells at hg
     rcases h11 with e | e | e | e | e | e | e | e | e | e <;> rw [e] at hg ⊢ <;> simp at hg <;> subst hg
     · exact h10.c0
     · exact h10.c1
     · exact h10.c2
     · exact h10.c3
     · exact h10.c4
     · exact h10.c5
     · exact h10.c6
     · exact h10.c7
     · exact h10.c8
     · exact h10.c9
   · intro t s hx
     obtain ⟨i,hi⟩:=List.getElem?_of_mem hx
     obtain ⟨h1,rfl⟩:=hget i t s hi
     obtain ⟨q,c,e,-⟩:=(hs i t h1).slice
     exact ⟨q,c,e⟩
   · obtain ⟨h1,rfl⟩:=hget i t s hi
     exact hs i t h1
theorem RowIs.more {base:Nat} {w3 w4:World} {v v':Value} {ps qs:List (Tr × Value)} (h:RowIs base w3 v ps) (hx:∀ (i:Nat) (t:Tr) (s:Value),qs[i]? = some (t,s)→TreesAt w3 (fun b=>v.ownBlock ≠ some b) s t.subs)
   (hown:w4.ownsRow base 37 10 v' (ps.length+qs.length) (rowOf ps ++ rowOf qs)) (hg:w3.grownBy w4 v.ownBlock) (hw:v'.ownBlock=v.ownBlock ∨ v'.ownBlock=some w3.heap.size):RowIs base w4 v' (ps ++ qs):=by
 have up:∀ (u:Tr) (r:Value),TreesAt w3 (fun b=>v.ownBlock ≠ some b) r u.subs→TreesAt w4 (fun b=>v'.ownBlock ≠ some b) r u.subs:=fun u r hr =>
   (subs_step (base:=0) (hr.mono fun b _ hb=>⟨Nat.zero_le _,hb⟩) hg hw).mono fun b _ hb=>hb.2
 refine ⟨by rw [rowOf_append,List.length_append];exact hown,fun i t r hi=>?_⟩
 by_cases hip:i < ps.length
 · rw [List.getElem?_append_left hip] at hi
   exact up t r (h.2 i t r hi)
 · rw [List.getElem?_append_right (by omega)] at hi
   exact up t r (hx _ t r hi)
theorem RowIs.at {base:Nat} {w:World} {v:Value} {ps:List (Tr × Value)} (h:RowIs base w v ps) {i:Nat} {t:Tr} {s:Value} (hi:ps[i]? = some (t,s)):∃ g cap,v=.slice (some ⟨g,0,none⟩) ps.length cap∧base ≤ g∧g < w.heap.size∧v.ownBlock=some g∧TenAt w g (i * 10) t s:=by
 have hlen:i < ps.length:=by
   by_cases hl:i < ps.length
   · exact hl
   · rw [List.getElem?_eq_none (by omega)] at hi;cases hi
 have hcells:=fun g hv=>World.ownsRow.cells h.1 (g:=g) hv
 have hlt:=h.lt
 rcases h.1.2 with ⟨rfl,hn0⟩ | ⟨g,cap,cur,rfl,hbg,hheap,-⟩
 · omega
 · have hc:=hcells g rfl
   have get:∀ j u,j < 10→(t.cells s)[j]? = some u→w.cell? ⟨g,i * 10+j,none⟩=some u:=by
     intro j u hj hu
     have:=hc (i * 10+j) u (by rw [rowOf_get ps i t s hi j hj];exact hu)
     rw [addr_add,Nat.zero_add] at this;exact this
   exact ⟨g,cap,rfl,hbg,(hlt g rfl).2,rfl,⟨get 0 _ (by omega) rfl,get 1 _ (by omega) rfl,get 2 _ (by omega) rfl,get 3 _ (by omega) rfl,get 4 _ (by omega) rfl,get 5 _ (by omega) rfl,get 6 _ (by omega) rfl,get 7 _ (by omega) rfl,get 8 _ (by omega) rfl,get 9 _ (by omega) rfl⟩⟩
theorem setCells_heap {b:Nat} {ty:TypeId} : ∀ (vs:List Value) (o:Nat) (w:World) (C:Array Value),w.heap[b]? = some (.cells C ty)→(w.setCells b o vs).heap[b]? = some (.cells ((List.range vs.length).foldl (fun c i=>c.setIfInBounds (o+i) (vs.getD i undef)) C) ty)
 | [],o,w,C,h=>h
 | v :: r,o,w,C,h=>by
   rw [World.setCells]
   have h1:(w.setCell ⟨b,o,none⟩ v).heap[b]? = some (.cells (C.setIfInBounds o v) ty):=by simp [World.setCell,Array.getElem?_modify,h]
   rw [setCells_heap r (o+1) _ _ h1,List.length_cons,List.range_succ_eq_map,List.foldl_cons,List.foldl_map]
   congr 3
   funext c i
   rw [show o+1+i=o+(i+1) by omega];rfl
theorem fold_set_get {α:Type} (vs:List α) (d:α) (o:Nat):∀ (n:Nat) (C:Array α) (k:Nat),n ≤ vs.length→o+n ≤ C.size→((List.range n).foldl (fun c i=>c.setIfInBounds (o+i) (vs.getD i d)) C)[k]? = (if o ≤ k∧k < o+n then vs[k - o]? else C[k]?)∧((List.range n).foldl (fun c i=>c.setIfInBounds (o+i) (vs.getD i d)) C).size=C.size:=by
 intro n
 induction n with
 | zero=>intro C k _ _;simp;intro h1 h2;omega
 | succ n ih =>
   intro C k hn ho
   obtain ⟨h1,h2⟩:=ih C k (by omega) (by omega)
   rw [List.range_succ,List.foldl_append]
   simp only [List.foldl_cons,List.foldl_nil]
   refine ⟨?_,by rw [Array.size_setIfInBounds];exact h2⟩
   rw [Array.getElem?_setIfInBounds,h1,h2]
   have hv:vs.getD n d=vs[n]:=by rw [List.getD_eq_getElem?_getD,List.getElem?_eq_getElem (by omega)];rfl
   by_cases hk:o+n=k
   · subst hk
     rw [if_pos rfl,if_pos (by omega),if_pos (by omega),hv,show o+n - o=n by omega,List.getElem?_eq_getElem (by omega)]
   · rw [if_neg hk]
     by_cases hk2:o ≤ k∧k < o+n
     · rw [if_pos hk2,if_pos (by omega)]
     · rw [if_neg hk2,if_neg (by omega)]
theorem RowIs.put {base:Nat} {w:World} {v:Value} {ps:List (Tr × Value)} (h:RowIs base w v ps) {i:Nat} {g:Nat} (hg:v.ownBlock=some g) (hi:i < ps.length) {t:Tr} {s:Value} (ht:TreesAt w (fun b=>v.ownBlock ≠ some b) s t.subs) :
   RowIs base (w.setCells g (i * 10) (t.cells s).toList) v (ps.set i (t,s)):=by
 have hsz:((t.cells s).toList).length=10:=by simp [Tr.cells]
 have keep:∀ (u:Tr) (r:Value),TreesAt w (fun b=>v.ownBlock ≠ some b) r u.subs→TreesAt (w.setCells g (i * 10) (t.cells s).toList) (fun b=>v.ownBlock ≠ some b) r u.subs:=fun u r hr =>
   hr.keep fun b _ hb=>heap_setCells_other (by rintro rfl;exact hb hg) _ _ _
 refine ⟨⟨by rw [rowOf_length,List.length_set], ?_⟩,fun j u r hj=>?_⟩
 · rw [List.length_set]
   rcases h.1.2 with ⟨rfl,hn0⟩ | ⟨g',cap,cur,rfl,hbg,hheap,hnc,hcm,hcs,htake⟩
   · omega
   · obtain rfl:g'=g:=by simpa [Value.ownBlock] using hg
     have hh:=setCells_heap (t.cells s).toList (i * 10) w cur hheap
     rw [hsz] at hh
     have hroom:i * 10+10 ≤ cur.size:=by omega
     have hget:=fun k=>(fold_set_get (t.cells s).toList undef (i * 10) 10 cur k (by omega) hroom).1
     have hsize:=(fold_set_get (t.cells s).toList undef (i * 10) 10 cur 0 (by omega) hroom).2
     refine .inr ⟨g',cap,_,rfl,hbg,hh,hnc,hcm,by rw [hsize];exact hcs, ?_⟩
     refine List.ext_getElem? fun k=>?_
     have hold:=congrArg (fun l:List Value=>l[k]?) htake
     simp only [List.getElem?_take,Array.getElem?_toList] at hold ⊢
     by_cases hk:k < ps.length * 10
     · rw [if_pos hk] at hold ⊢
       rw [hget k]
       have hgk:=rowOf_get (ps.set i (t,s)) (k / 10)
       have hkk:k / 10 * 10+k % 10=k:=by omega
       have hr:k % 10 < 10:=Nat.mod_lt _ (by omega)
       by_cases hki:k / 10=i
       · have:=hgk t s (by rw [hki,List.getElem?_set];simp [hi]) (k % 10) hr
         rw [hkk] at this
         rw [this,if_pos (by omega),show k - i * 10=k % 10 by omega,Array.getElem?_toList]
       · rw [if_neg (by omega),hold]
         obtain ⟨⟨u,r⟩,hx⟩:∃ x,ps[k / 10]? = some x:=⟨_,List.getElem?_eq_getElem (by omega)⟩
         have h1:=hgk u r (by rw [List.getElem?_set];rw [if_neg (fun e=>hki e.symm)];exact hx) (k % 10) hr
         have h2:=rowOf_get ps (k / 10) u r hx (k % 10) hr
         rw [hkk] at h1 h2
         rw [h1,h2]
     · rw [if_neg hk]
       rw [List.getElem?_eq_none (by rw [rowOf_length,List.length_set];omega)]
 · rw [List.getElem?_set] at hj
   by_cases e:i=j
   · rw [if_pos e,if_pos hi] at hj
     simp only [Option.some.injEq,Prod.mk.injEq] at hj
     obtain ⟨rfl,rfl⟩:=hj
     exact keep t s ht
   · rw [if_neg e] at hj
     exact keep u r (h.2 j u r hj)
end Go.Proofs.YtllfgppjobinnaaDoor
namespace Go.Proofs
open Go.Shelf
def Tryd.laysM288_ren:Go.Shelf.Ren:=⟨fun | 288=>218 | 283=>219 | 284=>220 | 285=>221 | 286=>222 | 129=>224 | 317=>223 | 318=>225 | 319=>226 | 320=>227 | 337=>228 | 338=>92 | n=>n,fun | 37=>26 | 53=>22 | 3=>3 | 4=>4 | 9=>9 | 171=>241 | 0=>0 | 173=>243 | 212=>246 | 51=>247 | 5=>5 | 20=>20 | 213=>248 | 46=>141 | 232=>251 | 233=>176 | n=>n,fun | 17=>22 | 18=>23 | 19=>21 | n=>n⟩
theorem Tryd.laysM288:Go.Proofs.LaysM.n288 Tryd.prog Tryd.laysM288_ren:={
 mixed:=by kernel_rfl
 f129:=Tryd.func224.trans (congrArg some (by kernel_rfl))
 f283:=Tryd.func219.trans (congrArg some (by kernel_rfl))
 f284:=Tryd.func220.trans (congrArg some (by kernel_rfl))
 f285:=Tryd.func221.trans (congrArg some (by kernel_rfl))
 f286:=Tryd.func222.trans (congrArg some (by kernel_rfl))
 f288:=Tryd.func218.trans (congrArg some (by kernel_rfl))
 f317:=Tryd.func223.trans (congrArg some (by kernel_rfl))
 f318:=Tryd.func225.trans (congrArg some (by kernel_rfl))
 f319:=Tryd.func226.trans (congrArg some (by kernel_rfl))
 f320:=Tryd.func227.trans (congrArg some (by kernel_rfl))
 f337:=Tryd.func228.trans (congrArg some (by kernel_rfl))
 f338:=Tryd.func92.trans (congrArg some (by kernel_rfl))
 t0:=Tryd.underlying0
 a0:=Tryd.isAgg0
 z0:=Tryd.sizeOf0
 v0:=Tryd.zeroValue0
 t3:=Tryd.underlying3
 a3:=Tryd.isAgg3
 z3:=Tryd.sizeOf3
 v3:=Tryd.zeroValue3
 t4:=Tryd.underlying4
 a4:=Tryd.isAgg4
 z4:=Tryd.sizeOf4
 v4:=Tryd.zeroValue4
 t5:=Tryd.underlying5
 a5:=Tryd.isAgg5
 z5:=Tryd.sizeOf5
 v5:=Tryd.zeroValue5
 t9:=Tryd.underlying9
 a9:=Tryd.isAgg9
 z9:=Tryd.sizeOf9
 v9:=Tryd.zeroValue9
 t20:=Tryd.underlying20
 a20:=Tryd.isAgg20
 z20:=Tryd.sizeOf20
 v20:=Tryd.zeroValue20
 t37:=Tryd.underlying26
 a37:=Tryd.isAgg26
 z37:=Tryd.sizeOf26
 v37:=Tryd.zeroValue26
 t46:=Tryd.underlying141
 a46:=Tryd.isAgg141
 z46:=Tryd.sizeOf141
 v46:=Tryd.zeroValue141
 t51:=Tryd.underlying247
 a51:=Tryd.isAgg247
 z51:=Tryd.sizeOf247
 v51:=Tryd.zeroValue247
 t53:=Tryd.underlying22
 a53:=Tryd.isAgg22
 z53:=Tryd.sizeOf22
 v53:=Tryd.zeroValue22
 t171:=Tryd.underlying241
 a171:=Tryd.isAgg241
 z171:=Tryd.sizeOf241
 v171:=Tryd.zeroValue241
 t173:=Tryd.underlying243
 a173:=Tryd.isAgg243
 z173:=Tryd.sizeOf243
 v173:=Tryd.zeroValue243
 t212:=Tryd.underlying246
 a212:=Tryd.isAgg246
 z212:=Tryd.sizeOf246
 v212:=Tryd.zeroValue246
 t213:=Tryd.underlying248
 a213:=Tryd.isAgg248
 z213:=Tryd.sizeOf248
 t232:=Tryd.underlying251
 a232:=Tryd.isAgg251
 z232:=Tryd.sizeOf251
 v232:=Tryd.zeroValue251
 t233:=Tryd.underlying176
 a233:=Tryd.isAgg176
 z233:=Tryd.sizeOf176
 v233:=Tryd.zeroValue176
 g17:=by kernel_rfl
 g18:=by kernel_rfl
 g19:=by kernel_rfl
 i0:=by kernel_rfl
 i3:=by kernel_rfl
 i4:=by kernel_rfl
 i5:=by kernel_rfl
 i9:=by kernel_rfl
 i20:=by kernel_rfl
 i37:=by kernel_rfl
 i46:=by kernel_rfl
 i51:=by kernel_rfl
 i53:=by kernel_rfl
 i171:=by kernel_rfl
 i173:=by kernel_rfl
 i212:=by kernel_rfl
 i232:=by kernel_rfl
 i233:=by kernel_rfl
 m17:=by kernel_rfl
 m18:=by kernel_rfl
 m19:=by kernel_rfl }
open Go.RowKit Go.Sort Go.Lib in
theorem Tryd.internal_strconv_AppendUint_10 (B n u : Nat) (hu64 : u < 18446744073709551616) (sv : Value) (xs : List Value) (w : World) (hown : w.ownsRow B 5 1 sv n xs) (hBw : B ≤ w.heap.size) (hlim : n + 20 ≤ 140737488355328) (htab : Lib.TabIs Tryd.prog w "internal/strconv.uint64pow10" .u64 Lib.pow10Tab) :
   Calls Tryd.prog 218 #[sv,.int .u64 u,.int .i64 10] w fun e w'=>∃ v',e=.returned v'∧w'.ownsRow B 5 1 v' (n+(Lib.decDigits u).length) (xs ++ Lib.byteCells (Lib.decDigits u))∧Below B w w'∧Lib.OthersKept 5 none w w':=Any.internal_strconv_AppendUint_10 Tryd.laysM288 B n u hu64 sv xs w hown hBw hlim htab
def Tryd.laysM176_ren:Go.Shelf.Ren:=⟨fun | 176=>214 | 249=>217 | 288=>218 | 283=>219 | 284=>220 | 285=>221 | 286=>222 | 129=>224 | 317=>223 | 318=>225 | 319=>226 | 320=>227 | 337=>228 | 338=>92 | n=>n,fun | 37=>26 | 2=>2 | 3=>3 | 53=>22 | 4=>4 | 9=>9 | 171=>241 | 0=>0 | 173=>243 | 212=>246 | 51=>247 | 5=>5 | 20=>20 | 213=>248 | 46=>141 | 232=>251 | 233=>176 | n=>n,fun | 17=>22 | 18=>23 | 19=>21 | n=>n⟩
theorem Tryd.laysM176:Go.Proofs.LaysM.n176 Tryd.prog Tryd.laysM176_ren:={
 mixed:=by kernel_rfl
 f129:=Tryd.func224.trans (congrArg some (by kernel_rfl))
 f176:=Tryd.func214.trans (congrArg some (by kernel_rfl))
 f249:=Tryd.func217.trans (congrArg some (by kernel_rfl))
 f283:=Tryd.func219.trans (congrArg some (by kernel_rfl))
 f284:=Tryd.func220.trans (congrArg some (by kernel_rfl))
 f285:=Tryd.func221.trans (congrArg some (by kernel_rfl))
 f286:=Tryd.func222.trans (congrArg some (by kernel_rfl))
 f288:=Tryd.func218.trans (congrArg some (by kernel_rfl))
 f317:=Tryd.func223.trans (congrArg some (by kernel_rfl))
 f318:=Tryd.func225.trans (congrArg some (by kernel_rfl))
 f319:=Tryd.func226.trans (congrArg some (by kernel_rfl))
 f320:=Tryd.func227.trans (congrArg some (by kernel_rfl))
 f337:=Tryd.func228.trans (congrArg some (by kernel_rfl))
 f338:=Tryd.func92.trans (congrArg some (by kernel_rfl))
 t0:=Tryd.underlying0
 a0:=Tryd.isAgg0
 z0:=Tryd.sizeOf0
 v0:=Tryd.zeroValue0
 t2:=Tryd.underlying2
 a2:=Tryd.isAgg2
 z2:=Tryd.sizeOf2
 v2:=Tryd.zeroValue2
 t3:=Tryd.underlying3
 a3:=Tryd.isAgg3
 z3:=Tryd.sizeOf3
 v3:=Tryd.zeroValue3
 t4:=Tryd.underlying4
 a4:=Tryd.isAgg4
 z4:=Tryd.sizeOf4
 v4:=Tryd.zeroValue4
 t5:=Tryd.underlying5
 a5:=Tryd.isAgg5
 z5:=Tryd.sizeOf5
 v5:=Tryd.zeroValue5
 t9:=Tryd.underlying9
 a9:=Tryd.isAgg9
 z9:=Tryd.sizeOf9
 v9:=Tryd.zeroValue9
 t20:=Tryd.underlying20
 a20:=Tryd.isAgg20
 z20:=Tryd.sizeOf20
 v20:=Tryd.zeroValue20
 t37:=Tryd.underlying26
 a37:=Tryd.isAgg26
 z37:=Tryd.sizeOf26
 v37:=Tryd.zeroValue26
 t46:=Tryd.underlying141
 a46:=Tryd.isAgg141
 z46:=Tryd.sizeOf141
 v46:=Tryd.zeroValue141
 t51:=Tryd.underlying247
 a51:=Tryd.isAgg247
 z51:=Tryd.sizeOf247
 v51:=Tryd.zeroValue247
 t53:=Tryd.underlying22
 a53:=Tryd.isAgg22
 z53:=Tryd.sizeOf22
 v53:=Tryd.zeroValue22
 t171:=Tryd.underlying241
 a171:=Tryd.isAgg241
 z171:=Tryd.sizeOf241
 v171:=Tryd.zeroValue241
 t173:=Tryd.underlying243
 a173:=Tryd.isAgg243
 z173:=Tryd.sizeOf243
 v173:=Tryd.zeroValue243
 t212:=Tryd.underlying246
 a212:=Tryd.isAgg246
 z212:=Tryd.sizeOf246
 v212:=Tryd.zeroValue246
 t213:=Tryd.underlying248
 a213:=Tryd.isAgg248
 z213:=Tryd.sizeOf248
 t232:=Tryd.underlying251
 a232:=Tryd.isAgg251
 z232:=Tryd.sizeOf251
 v232:=Tryd.zeroValue251
 t233:=Tryd.underlying176
 a233:=Tryd.isAgg176
 z233:=Tryd.sizeOf176
 v233:=Tryd.zeroValue176
 g17:=by kernel_rfl
 g18:=by kernel_rfl
 g19:=by kernel_rfl
 i0:=by kernel_rfl
 i2:=by kernel_rfl
 i3:=by kernel_rfl
 i4:=by kernel_rfl
 i5:=by kernel_rfl
 i9:=by kernel_rfl
 i20:=by kernel_rfl
 i37:=by kernel_rfl
 i46:=by kernel_rfl
 i51:=by kernel_rfl
 i53:=by kernel_rfl
 i171:=by kernel_rfl
 i173:=by kernel_rfl
 i212:=by kernel_rfl
 i232:=by kernel_rfl
 i233:=by kernel_rfl
 m17:=by kernel_rfl
 m18:=by kernel_rfl
 m19:=by kernel_rfl }
open Go.RowKit Go.Sort Go.Lib in
theorem Tryd.strconv_AppendInt_10 (B n : Nat) (i : Int) (h0 : -9223372036854775808 ≤ i) (h1 : i ≤ 9223372036854775807) (sv : Value) (xs : List Value) (w : World) (hown : w.ownsRow B 5 1 sv n xs) (hBw : B ≤ w.heap.size) (hlim : n + 21 ≤ 140737488355328) (htab : Lib.TabBelow Tryd.prog B w "internal/strconv.uint64pow10" .u64 Lib.pow10Tab) :
   Calls Tryd.prog 214 #[sv,.int .i64 i,.int .i64 10] w fun e w'=>∃ v',e=.returned v'∧w'.ownsRow B 5 1 v' (n+(Lib.itoa i).length) (xs ++ Lib.byteCells (Lib.itoa i))∧Below B w w'∧Lib.OthersKept 5 none w w':=Any.strconv_AppendInt_10 Tryd.laysM176 B n i h0 h1 sv xs w hown hBw hlim htab
end Go.Proofs
namespace Go.Proofs.YtllfgppjobinnaaDoor
open Go.RowKit
theorem Tryd.infoByteT:(Tryd.prog.info? 5).map (fun i=>(i.zero,i.size,i.bytes))=some (some (.int .u8 0),1,1):=by kernel_rfl
theorem txCells_append (l m:List UInt8):Lib.byteCells (l ++ m)=Lib.byteCells l ++ Lib.byteCells m:=by unfold Lib.byteCells;rw [List.map_append]
def Pow10 (B : Nat) (w : World) : Prop := Lib.TabBelow Tryd.prog B w "internal/strconv.uint64pow10" .u64 Lib.pow10Tab
structure TxS (B:Nat) (w0 w:World) (v:Value) (l:List UInt8):Prop where
 row:w.ownsRow B 5 1 v l.length (Lib.byteCells l)
 below:Below B w0 w
 kept:Lib.OthersKept 5 none w0 w
theorem TxS.refl {B:Nat} {w:World} {v:Value} {l:List UInt8} (h:w.ownsRow B 5 1 v l.length (Lib.byteCells l)):TxS B w w v l:=⟨h,Below.refl _ _,Lib.OthersKept.refl _ _ _⟩
theorem TxS.trans {B:Nat} {w0 w w':World} {v v':Value} {l l':List UInt8} (h:TxS B w0 w v l) (h':TxS B w w' v' l'):TxS B w0 w' v' l':=⟨h'.row,h.below.trans h'.below,h.kept.trans h'.kept⟩
theorem TxS.later {B:Nat} {w0 w w':World} {v:Value} {l:List UInt8} (h:TxS B w0 w v l) (hB:B ≤ w.heap.size) (hb:Below w.heap.size w w'):TxS B w0 w' v l :=
 ⟨h.row.kept (row:=none) ⟨hb.os,hb.tape,hb.output,hb.size,fun k hk _=>hb.block k hk⟩ (by
   cases h:Value.ownBlock v with
   | none=>exact .inl rfl
   | some g=>exact .inr (by simp)),h.below.trans (hb.mono hB),h.kept.below hb⟩
theorem TxS.from {B:Nat} {w0 w1 w:World} {v:Value} {l:List UInt8} (h:TxS B w1 w v l) (hB:B ≤ w0.heap.size) (hb:Below w0.heap.size w0 w1):TxS B w0 w v l :=
 ⟨h.row,(hb.mono hB).trans h.below,((Lib.OthersKept.refl _ _ _).below hb).trans h.kept⟩
theorem TxS.keep {B:Nat} {w0 w:World} {v:Value} {l:List UInt8} (h:TxS B w0 w v l) {k:Nat} {C:Array Value} {ty:TypeId} (hk:w0.heap[k]? = some (.cells C ty)) (hne:ty ≠ 5):w.heap[k]? = some (.cells C ty) :=
 h.kept k _ hk (by simp) (fun c fz e=>by injection e with _ e2 _;exact hne e2)
theorem wpList_tx1 {w w0:World} {B:Nat} {v:Value} {l:List UInt8} {ops:Array Oper} {rest:List Oper} {o:Oper} {a:Act} {Q:Exit→Act→World→Prop} (hgd:o.guard=none) (s x:Operand)
   (ho:o.op=.call { callee:=.builtin .append,args:=#[s,x],argTypes:=#[26,26] }) (c:UInt8) (g:Nat) (n:Int) (hn:n=(c.toNat:Int)) (hs:a.eval s=v) (hx:a.eval x=.slice (some ⟨g,0,none⟩) 1 1)
   (hg:w.cell? ⟨g,0,none⟩=some (.int .u8 n)) (hap:TxS B w0 w v l) (hB:B ≤ w.heap.size) (hlen:l.length+1 ≤ 140737488355328)
   (h:∀ v' w',TxS B w0 w' v' (l ++ [c])→wpList Tryd.prog ops Q rest (a.put o.dst v') w'):wpList Tryd.prog ops Q (o :: rest) a w:=by
 obtain ⟨ie,hi,hz0,hz1,hz2⟩:=info_parts Tryd.infoByteT
 refine wpList_append_fresh w hgd s x 26 ho B 5 ie _ 1 1 Tryd.underlying26 hi hz0 hz1 hz2 rfl (by decide) v l.length _ hs hap.row ⟨g,0,none⟩ 1 1 [.int .u8 n] hx rfl ?_ ?_ (by omega) (by unfold maxLen;omega) (by omega) hB ?_
 · intro j u hj
   match j,hj with
   | 0,hj=>simp at hj;subst hj;exact hg
 · intro u hu;simp at hu;subst hu;rfl
 · intro v' w' hown hgr hblk
   refine h v' w' ⟨?_,hap.below.grown hgr hB (fun k e=>(hap.row.lt k e).1),hap.kept.grown hgr (Lib.ownsRow_kind hap.row)⟩
   rw [txCells_append,List.length_append]
   subst hn
   exact hown
theorem Tr.InForm.small {t:Tr} (h:t.InForm):(-9223372036854775808 ≤ t.kind∧t.kind ≤ 9223372036854775807)∧(-9223372036854775808 ≤ t.least∧t.least ≤ 9223372036854775807)∧(-9223372036854775808 ≤ t.most∧t.most ≤ 9223372036854775807):=by
 have hf:=h.fields
 unfold Tr.fieldsOk at hf
 omega
theorem nmuint_any (B:Nat) (l:List UInt8) (x:BitVec 64) (w:World) (v:Value) (hr:w.ownsRow B 5 1 v l.length (Lib.byteCells l)) (hB:B ≤ w.heap.size) (hlen:l.length+30 ≤ 140737488355328) (hP:Pow10 B w) :
   Calls Tryd.prog 215 #[v,.int .u64 (Oc.U x),.int .i64 10] w fun e w'=>∃ v',e=.returned v'∧TxS B w w' v' (l ++ Lib.decDigits x.toNat):=by
 have HC:=Lib.hid (Tryd.internal_strconv_AppendUint_10 B l.length x.toNat x.isLt v (Lib.byteCells l) w hr hB (by omega) hP.here)
 clear hr hB hP
 unfold Oc.U
 go_enter Tryd.func215,Tryd.ntmps215
 go_wp2_with fail
 refine HC.out.mono ?_
 rintro e w1 ⟨v1,rfl,ho,hb,hk⟩
 have HO:=Lib.hid ho;have HB:=Lib.hid hb;have HK:=Lib.hid hk
 clear ho hb hk
 go_wp2
 go_ret
 exact ⟨_,rfl,by rw [txCells_append,List.length_append];exact HO.out,HB.out,HK.out⟩
theorem nmint_any (B:Nat) (l:List UInt8) (x:Int) (h0 : -9223372036854775808 ≤ x) (h1:x ≤ 9223372036854775807) (w:World) (v:Value) (hr:w.ownsRow B 5 1 v l.length (Lib.byteCells l)) (hB:B ≤ w.heap.size) (hlen:l.length+30 ≤ 140737488355328) (hP:Pow10 B w) :
   Calls Tryd.prog 214 #[v,.int .i64 x,.int .i64 10] w fun e w'=>∃ v',e=.returned v'∧TxS B w w' v' (l ++ Lib.itoa x):=by
 refine (Tryd.strconv_AppendInt_10 B l.length x h0 h1 v (Lib.byteCells l) w hr hB (by omega) hP).mono ?_
 rintro e w1 ⟨v1,rfl,ho,hb,hk⟩
 exact ⟨_,rfl,by rw [txCells_append,List.length_append];exact ho,hb,hk⟩
theorem index_word (a b c d y:BitVec 64) (m:Nat) (h:[a,b,c,d][m]? = some y) (w:World):(Instr.index 24 (.agg #[.int .u64 (Oc.U a),.int .u64 (Oc.U b),.int .u64 (Oc.U c),.int .u64 (Oc.U d)]) (.int .i64 (m:Int))).run Tryd.prog w=.ok (.int .u64 (Oc.U y)) w:=by
 match m,h with
 | 0,h=>simp at h;subst h;exact at0 _ _ _ _ w
 | 1,h=>simp at h;subst h;exact at1 _ _ _ _ w
 | 2,h=>simp at h;subst h;exact at2 _ _ _ _ w
 | 3,h=>simp at h;subst h;exact at3 _ _ _ _ w
 | m+4,h=>simp at h
theorem flat_take {α:Type} (f:α→List UInt8) (vs:List α) (m:Nat) (y:α) (h:vs[m]? = some y):(vs.take (m+1)).flatMap f=(vs.take m).flatMap f ++ f y:=by
 rw [List.take_add_one,h,Option.toList_some,List.flatMap_append];simp
theorem flat_le {α:Type} (f:α→List UInt8) (vs:List α) (m:Nat):((vs.take m).flatMap f).length ≤ (vs.flatMap f).length:=by
 conv=>rhs;rw [← List.take_append_drop m vs]
 rw [List.flatMap_append,List.length_append];omega
theorem Tr.head_flat (k lo hi:Int) (n:Nat) (a b c d:BitVec 64):Tr.headB k lo hi n a b c d=[k,lo,hi,(n:Int)].flatMap Tr.numB ++ [a,b,c,d].flatMap Tr.wordB:=by
 unfold Tr.headB;simp [List.append_assoc]
theorem nmtell_any:∀ t:Tr,t.InForm→∀ (B:Nat) (l:List UInt8) (w:World) (v s:Value),w.ownsRow B 5 1 v l.length (Lib.byteCells l)→B ≤ w.heap.size→Pow10 B w→l.length+t.tellB.length ≤ 1000000000→TreesAt w (fun b=>b < B) s t.subs →
   Calls Tryd.prog 208 #[v,.agg (t.cells s)] w fun e w'=>∃ v',e=.returned v'∧TxS B w w' v' (l ++ t.tellB):=by
 intro t
 induction t using Tr.rec_subs with
 | h t ih =>
   intro hf B l w v s hrow hB hP hlen hs
   obtain ⟨p,cap,rfl,hln⟩:=hs.slice
   obtain ⟨hk,hlo,hhi⟩:=hf.small
   have HT:=Lib.hid (Tr.tellB_eq t)
   have HV:=Lib.hid (TxS.refl hrow)
   have hz0:=heap_alloc_new w (.cells (t.cells (.slice p t.subs.length cap)) 37)
   have hb0:Below w.heap.size w (w.alloc (.cells (t.cells (.slice p t.subs.length cap)) 37)):=(Below.refl _ _).alloc (Nat.le_refl _) _
   have hs0:(w.alloc (.cells (t.cells (.slice p t.subs.length cap)) 37)).heap.size=w.heap.size+1:=by simp
   have Z0:=Lib.hid hz0;have HB0:=Lib.hid hb0;have HS0:=Lib.hid hs0
   have IH:=Lib.hid ih;have HF:=Lib.hid hf;have HLN:=Lib.hid hlen;have HS:=Lib.hid hs;have HPW:=Lib.hid hP;have HBB:=Lib.hid hB
   clear hrow hP hlen hs hz0 hb0 hs0 ih hf hB
   unfold Tr.cells at *
   go_enter Tryd.func208,Tryd.ntmps208
   go_upto_region 1 with (fail)
   generalize w.alloc _=w0 at *
   obtain ⟨q0,q1,q2,q3,q4,q5,q6,q7,q8,q9⟩:=allTen Z0.out
   have hzi:=heap_alloc_new w0 (.cells #[.int .i64 t.kind,.int .i64 t.least,.int .i64 t.most,.int .i64 (t.subs.length:Int)] 3)
   have hbi:Below w0.heap.size w0 (w0.alloc (.cells #[.int .i64 t.kind,.int .i64 t.least,.int .i64 t.most,.int .i64 (t.subs.length:Int)] 3)):=(Below.refl _ _).alloc (Nat.le_refl _) _
   have ZI:=Lib.hid hzi;have ZB:=Lib.hid (keep_blk hbi Z0.out)
   have HB01:=Lib.hid (HB0.out.trans (hbi.mono HB0.out.size))
   have HV1:=Lib.hid ((HV.out.later HBB.out HB01.out).row)
   clear hzi hbi
   have HHF:=Lib.hid (Tr.head_flat t.kind t.least t.most t.subs.length t.w0 t.w1 t.w2 t.w3)
   have HNS:Hid (∀ (m:Nat) (y:Int),[t.kind,t.least,t.most,(t.subs.length:Int)][m]? = some y→-9223372036854775808 ≤ y∧y ≤ 9223372036854775807):=Lib.hid (by
     intro m y hy
     match m,hy with
     | 0,hy=>simp at hy;omega
     | 1,hy=>simp at hy;omega
     | 2,hy=>simp at hy;omega
     | 3,hy=>simp at hy;omega
     | m+4,hy=>simp at hy)
   go_wp2
   generalize hw1:w0.alloc _=w1 at *
   clear hw1 q0 q1 q2 q3 q4 q5 q6 q7 q8 q9
   go_loopw [22,0] (fun iv sv wr=>∃ m:Nat,iv=.int .i64 m∧m ≤ 4∧Hid (TxS B w1 wr sv (l ++ ([t.kind,t.least,t.most,(t.subs.length:Int)].take m).flatMap Tr.numB))) (fun iv _ _=>4 - (intOf iv).toNat)
   case atStart=>exact ⟨0,rfl,by omega,Lib.hid (by simpa using TxS.refl HV1.out)⟩
   case round =>
     obtain ⟨m,rfl,hm,HX⟩:=hrel
     have wm:IntKind.i64.wrap ((m:Int)+1)=(m:Int)+1:=IntWalk.i64_in _ (by omega)
     by_cases hlt:m < 4
     · obtain ⟨y,hy⟩:∃ y,[t.kind,t.least,t.most,(t.subs.length:Int)][m]? = some y:=⟨_,List.getElem?_eq_getElem (by simpa using hlt)⟩
       have hyr:=HNS.out m y hy
       have hcell:wr.cell? ⟨w0.heap.size,m,none⟩=some (.int .i64 y):=by
         obtain ⟨c0,c1,c2,c3,-,-,-,-⟩:=four (HX.out.keep ZI.out (by decide))
         match m,hy,hlt with
         | 0,hy,_=>simp at hy;subst hy;exact c0
         | 1,hy,_=>simp at hy;subst hy;exact c1
         | 2,hy,_=>simp at hy;subst hy;exact c2
         | 3,hy,_=>simp at hy;subst hy;exact c3
       have HFT:=Lib.hid (flat_take Tr.numB _ m y hy)
       have HLE:Hid ((l ++ ([t.kind,t.least,t.most,(t.subs.length:Int)].take m).flatMap Tr.numB).length ≤ 1000000000):=Lib.hid (by
         have h1:=HLN.out;have h2:=congrArg List.length HT.out
         have h3:=flat_le Tr.numB [t.kind,t.least,t.most,(t.subs.length:Int)] m
         rw [HHF.out] at h2
         simp only [List.length_append] at h1 h2 ⊢
         omega)
       have hBr:Hid (B ≤ wr.heap.size):=Lib.hid (Nat.le_trans HBB.out (Nat.le_trans HB01.out.size HX.out.below.size))
       have HAI:=Lib.hid (nmint_any B _ y hyr.1 hyr.2 wr _ HX.out.row hBr.out (by have:=HLE.out;omega) (HPW.out.on ((HB01.out.mono HBB.out).trans HX.out.below)))
       have hlt4:(m:Int) < 4:=by omega
       clear hy hyr
       go_wp2_with fail
       clear hcell
       refine HAI.out.mono ?_
       rintro e w2 ⟨v2,rfl,hx2⟩
       have hB2:B ≤ w2.heap.size:=Nat.le_trans hBr.out hx2.below.size
       have HX2:=Lib.hid ((HX.out.trans hx2).later (w':=w2.alloc (.cells #[.int .u8 32] 5)) hB2 ((Below.refl _ _).alloc (Nat.le_refl _) _))
       have hB3:B ≤ (w2.alloc (.cells #[.int .u8 32] 5)).heap.size:=by simp;omega
       have hcn:(w2.alloc (.cells #[.int .u8 32] 5)).cell? ⟨w2.heap.size,0,none⟩=some (.int .u8 32):=cell_new w2 _ _ 0
       have HL3:Hid ((l ++ ([t.kind,t.least,t.most,(t.subs.length:Int)].take m).flatMap Tr.numB ++ Lib.itoa y).length+1 ≤ 140737488355328):=Lib.hid (by
         have h1:=HLE.out
         have h3:=congrArg List.length HFT.out
         have h4:=flat_le Tr.numB [t.kind,t.least,t.most,(t.subs.length:Int)] (m+1)
         have h5:=HLN.out;have h6:=congrArg List.length HT.out
         rw [HHF.out] at h6
         unfold Tr.numB at h3 h4 h6
         simp only [List.length_append,List.length_singleton] at *
         omega)
       clear hx2 hB2 HAI
       go_wp2_with (first
         | (refine wpList_tx1 rfl (.tmp 29) (.tmp 30) rfl 32 w2.heap.size 32 rfl rfl rfl hcn HX2.out hB3 HL3.out ?_;intro v3 w3 h3)
         | fail)
       have HX3:Hid (TxS B w1 w3 v3 (l ++ ([t.kind,t.least,t.most,(t.subs.length:Int)].take (m+1)).flatMap Tr.numB)):=Lib.hid (by
         rw [HFT.out,← List.append_assoc]
         unfold Tr.numB at h3 ⊢
         rw [← List.append_assoc]
         exact h3)
       exact ⟨⟨m+1,by go_num,by omega,HX3⟩,by simp [intOf];omega⟩
     · obtain rfl:m=4:=by omega
       have HT4:Hid (TxS B w1 wr u0 (l ++ [t.kind,t.least,t.most,(t.subs.length:Int)].flatMap Tr.numB)):=HX
       have HBM:=Lib.hid (HB01.out.mono HBB.out)
       have HBr:Hid (B ≤ wr.heap.size):=Lib.hid (Nat.le_trans HBB.out (Nat.le_trans HB01.out.size HX.out.below.size))
       have ZB4:=Lib.hid (HX.out.keep ZB.out (by decide))
       have HPR:=Lib.hid (HPW.out.on (HBM.out.trans HX.out.below))
       have HSR:=Lib.hid (HS.out.keep (w':=wr) fun b hb1 hb2=>(HBM.out.trans HX.out.below).block b hb2)
       have HTR:=Lib.hid (HT4.out.from HBB.out HB01.out)
       have HLN4:Hid ((l ++ [t.kind,t.least,t.most,(t.subs.length:Int)].flatMap Tr.numB).length+([t.w0,t.w1,t.w2,t.w3].flatMap Tr.wordB).length+(Tr.tellsB t.subs).length ≤ 1000000000):=Lib.hid (by
         have h5:=HLN.out;have h6:=congrArg List.length HT.out
         rw [HHF.out] at h6
         simp only [List.length_append] at *
         omega)
       have HTB:Hid (l ++ t.tellB=(l ++ [t.kind,t.least,t.most,(t.subs.length:Int)].flatMap Tr.numB) ++ [t.w0,t.w1,t.w2,t.w3].flatMap Tr.wordB ++ Tr.tellsB t.subs):=Lib.hid (by rw [HT.out,HHF.out];simp only [List.append_assoc])
       obtain ⟨q0,q1,q2,q3,q4,q5,q6,q7,q8,q9⟩:=allTen ZB4.out
       clear HX HT4 HNS hm hlt wm HHF HT HLN ZI ZB HV1 HV Z0 HB0 HS0 HPW HS
       generalize hpre:l ++ [t.kind,t.least,t.most,(t.subs.length:Int)].flatMap Tr.numB=l4 at *
       clear hpre
       generalize u0=sa at *
       generalize wr=wa at *
       go_wp2
       clear q0 q1 q2 q3 q4 q5 q6 q7 q8 q9
       have HR4:=Lib.hid HTR.out.row
       go_loopw [35,0] (fun iv sv wr=>∃ m:Nat,iv=.int .i64 m∧m ≤ 4∧Hid (TxS B wa wr sv (l4 ++ ([t.w0,t.w1,t.w2,t.w3].take m).flatMap Tr.wordB))) (fun iv _ _=>4 - (intOf iv).toNat)
       case atStart=>exact ⟨0,rfl,by omega,Lib.hid (by simpa using TxS.refl HR4.out)⟩
       case round =>
         obtain ⟨m,rfl,hm,HX⟩:=hrel
         have wm:IntKind.i64.wrap ((m:Int)+1)=(m:Int)+1:=IntWalk.i64_in _ (by omega)
         by_cases hlt:m < 4
         · obtain ⟨y,hy⟩:∃ y,[t.w0,t.w1,t.w2,t.w3][m]? = some y:=⟨_,List.getElem?_eq_getElem (by simpa using hlt)⟩
           have hix:=index_word t.w0 t.w1 t.w2 t.w3 y m hy
           have HFT:=Lib.hid (flat_take Tr.wordB _ m y hy)
           have HLE:Hid ((l4 ++ ([t.w0,t.w1,t.w2,t.w3].take m).flatMap Tr.wordB).length ≤ 1000000000):=Lib.hid (by
             have h1:=HLN4.out
             have h3:=flat_le Tr.wordB [t.w0,t.w1,t.w2,t.w3] m
             simp only [List.length_append] at h1 ⊢
             omega)
           have hBr:Hid (B ≤ wr.heap.size):=Lib.hid (Nat.le_trans HBr.out HX.out.below.size)
           have HAI:=Lib.hid (nmuint_any B _ y wr _ HX.out.row hBr.out (by have:=HLE.out;omega) (HPR.out.on HX.out.below))
           have hlt4:(m:Int) < 4:=by omega
           clear hy
           go_wp2_with fail
           clear hix
           refine HAI.out.mono ?_
           rintro e w2 ⟨v2,rfl,hx2⟩
           have hB2:B ≤ w2.heap.size:=Nat.le_trans hBr.out hx2.below.size
           have HX2:=Lib.hid ((HX.out.trans hx2).later (w':=w2.alloc (.cells #[.int .u8 32] 5)) hB2 ((Below.refl _ _).alloc (Nat.le_refl _) _))
           have hB3:B ≤ (w2.alloc (.cells #[.int .u8 32] 5)).heap.size:=by simp;omega
           have hcn:(w2.alloc (.cells #[.int .u8 32] 5)).cell? ⟨w2.heap.size,0,none⟩=some (.int .u8 32):=cell_new w2 _ _ 0
           have HL3:Hid ((l4 ++ ([t.w0,t.w1,t.w2,t.w3].take m).flatMap Tr.wordB ++ Lib.decDigits y.toNat).length+1 ≤ 140737488355328):=Lib.hid (by
             have h1:=HLE.out
             have h3:=congrArg List.length HFT.out
             have h4:=flat_le Tr.wordB [t.w0,t.w1,t.w2,t.w3] (m+1)
             have h5:=HLN4.out
             unfold Tr.wordB at h3 h4 h5
             simp only [List.length_append,List.length_singleton] at *
             omega)
           clear hx2 hB2 HAI
           go_wp2_with (first
             | (refine wpList_tx1 rfl (.tmp 41) (.tmp 42) rfl 32 w2.heap.size 32 rfl rfl rfl hcn HX2.out hB3 HL3.out ?_;intro v3 w3 h3)
             | fail)
           have HX3:Hid (TxS B wa w3 v3 (l4 ++ ([t.w0,t.w1,t.w2,t.w3].take (m+1)).flatMap Tr.wordB)):=Lib.hid (by
             rw [HFT.out,← List.append_assoc]
             unfold Tr.wordB at h3 ⊢
             rw [← List.append_assoc]
             exact h3)
           exact ⟨⟨_,_,.int .i64 ((m:Int)+1),_,_,_,_,_,_,_,_,_,⟨m+1,by go_num,by omega,HX3⟩,rfl⟩,by simp [intOf];omega⟩
         · obtain rfl:m=4:=by omega
           have HT5:Hid (TxS B wa wr u0 (l4 ++ [t.w0,t.w1,t.w2,t.w3].flatMap Tr.wordB)):=HX
           have HBr5:Hid (B ≤ wr.heap.size):=Lib.hid (Nat.le_trans HBr.out HX.out.below.size)
           have ZB5:=Lib.hid (HX.out.keep ZB4.out (by decide))
           have HPR5:=Lib.hid (HPR.out.on HX.out.below)
           have HSR5:=Lib.hid (HSR.out.keep (w':=wr) fun b hb1 hb2=>HX.out.below.block b hb2)
           have HTR5:=Lib.hid (HTR.out.trans HT5.out)
           have HLN5:Hid ((l4 ++ [t.w0,t.w1,t.w2,t.w3].flatMap Tr.wordB).length+(Tr.tellsB t.subs).length ≤ 1000000000):=Lib.hid (by have h5:=HLN4.out;simp only [List.length_append] at h5 ⊢;omega)
           obtain ⟨q0,q1,q2,q3,q4,q5,q6,q7,q8,q9⟩:=allTen ZB5.out
           clear HX HT5 hm hlt wm HLN4 ZB4 HPR HSR HTR HBr HR4
           generalize hpre:l4 ++ [t.w0,t.w1,t.w2,t.w3].flatMap Tr.wordB=l5 at *
           clear hpre
           generalize hts:t.subs=ts at *
           generalize u0=sb at *
           generalize wr=wb at *
           go_wp2
           clear q0 q1 q2 q3 q4 q5 q6 q7 q8 q9
           have HR5:=Lib.hid HTR5.out.row
           go_loopw [48,0] (fun iv sv wr=>∃ m:Nat,iv=.int .i64 m∧m ≤ ts.length∧Hid (TxS B wb wr sv (l5 ++ Tr.tellsB (ts.take m)))) (fun iv _ _=>ts.length - (intOf iv).toNat)
           case atStart=>exact ⟨0,rfl,by omega,Lib.hid (by simpa [Tr.tellsB] using TxS.refl HR5.out)⟩
           case round =>
             obtain ⟨m,rfl,hm,HX⟩:=hrel
             have wm:IntKind.i64.wrap ((m:Int)+1)=(m:Int)+1:=IntWalk.i64_in _ (by omega)
             by_cases hlt:m < ts.length
             · obtain ⟨x,hx⟩:∃ x,ts[m]? = some x:=⟨_,List.getElem?_eq_getElem hlt⟩
               obtain ⟨b1,o1,s1,rfl,hb1,t1,sub1⟩:=HSR5.out.get hx
               obtain ⟨d0,d1,d2,d3,d4,d5,d6,d7,d8,d9⟩:=t1.keep (HX.out.below.block _ hb1)
               obtain ⟨p1,c1,rfl,hl1⟩:=sub1.slice
               have hmem:=List.mem_of_getElem? hx
               have HFT:=Lib.hid (Tr.tellsB_take ts m x hx)
               have HLE:Hid ((l5 ++ Tr.tellsB (ts.take m)).length+x.tellB.length ≤ 1000000000):=Lib.hid (by
                 have h1:=HLN5.out
                 have h2:Tr.tellsB ts=Tr.tellsB (ts.take (m+1)) ++ Tr.tellsB (ts.drop (m+1)):=by rw [← Tr.tellsB_append,List.take_append_drop]
                 rw [HFT.out] at h2
                 have h3:=congrArg List.length h2
                 simp only [List.length_append] at *
                 omega)
               have hBr:Hid (B ≤ wr.heap.size):=Lib.hid (Nat.le_trans HBr5.out HX.out.below.size)
               have HXA:=Lib.hid (HX.out.later hBr.out ((Below.refl wr.heap.size wr).alloc (Nat.le_refl _) (.cells (x.cells (.slice p1 x.subs.length c1)) 37)))
               have hs3:Hid (B ≤ (wr.alloc (.cells (x.cells (.slice p1 x.subs.length c1)) 37)).heap.size):=Lib.hid (by have:=hBr.out;simp;omega)
               have HCALL:=Lib.hid (IH.out x hmem (HF.out.sub (by rw [hts];exact hmem)) B _ _ _ (.slice p1 x.subs.length c1) HXA.out.row hs3.out (HPR5.out.on HXA.out.below) HLE.out (sub1.keep fun b hb1 hb2=>HXA.out.below.block b hb2))
               clear t1 sub1 hmem hx hb1
               unfold Tr.cells at HCALL HXA
               go_wp2_with fail
               clear d0 d1 d2 d3 d4 d5 d6 d7 d8 d9
               refine HCALL.out.mono ?_
               rintro e w2 ⟨v2,rfl,hx2⟩
               have HX3:Hid (TxS B wb w2 v2 (l5 ++ Tr.tellsB (ts.take (m+1)))):=Lib.hid (by rw [HFT.out,← List.append_assoc];exact HXA.out.trans hx2)
               clear hx2 HCALL
               go_wp2
               exact ⟨⟨_,_,.int .i64 ((m:Int)+1),_,_,_,_,_,_,_,⟨m+1,by go_num,by omega,HX3⟩,rfl⟩,by simp [intOf];omega⟩
             · obtain rfl:m=ts.length:=by omega
               have HEND:Hid (TxS B w wr u0 (l ++ t.tellB)):=Lib.hid (by rw [HTB.out];have h9:=HX.out;rw [List.take_length] at h9;exact HTR5.out.trans h9)
               go_wp2
               go_ret
               exact ⟨_,rfl,HEND.out⟩
end Go.Proofs.YtllfgppjobinnaaDoor
namespace Go.Proofs.YtllfgppjobinnaaDoor
open Go.RowKit
namespace Tr
theorem isNone_noSet (t:Tr) (h:t.kind=2):t.isNone=t.noSet:=by
 rw [Bool.eq_iff_iff,noSet_iff]
 unfold isNone
 rw [decide_eq_true_eq]
 exact ⟨fun h=>h.2,fun e=>⟨h,e⟩⟩
theorem isNone_not (t:Tr) (h:t.kind ≠ 2):t.isNone=false:=by
 unfold isNone;rw [decide_eq_false_iff_not];exact fun e=>h e.1
theorem isAnc_not (t:Tr) (h3:t.kind ≠ 3) (h4:t.kind ≠ 4):t.isAnc=false:=by
 unfold isAnc;rw [decide_eq_false_iff_not];omega
theorem isAnc_yes (t:Tr) (h:t.kind=3 ∨ t.kind=4):t.isAnc=true:=by
 unfold isAnc;rw [decide_eq_true_eq];exact h
theorem freeL_take (l:List Tr) (m:Nat) (x:Tr) (h:l[m]? = some x):freeL (l.take (m+1))=(freeL (l.take m) && x.freeT):=by
 rw [List.take_add_one,h,Option.toList_some,freeL_append,freeL,freeL,Bool.and_true]
theorem freeL_no {l:List Tr} {m:Nat} (h:freeL (l.take m)=false):freeL l=false:=by
 have e:=congrArg freeL (List.take_append_drop m l)
 rw [freeL_append,h] at e
 rw [← e];rfl
mutual
def gsT:Tr→Int
 | .node k _ _ _ _ s n _ _ _=>max (if k=7 then max 0 n else 0) (gsS s)
def gsS:List Tr→Int
 | []=>0
 | t :: l=>max (gsT t) (gsS l)
end
theorem gsT_eq (t:Tr):t.gsT=max (if t.kind=7 then max 0 t.num else 0) (gsS t.subs):=by cases t;rw [gsT];rfl
theorem gsS_nn:∀ l:List Tr,0 ≤ gsS l
 | []=>Int.le_refl _
 | t :: l=>by have:=gsS_nn l;rw [gsS];omega
theorem gsS_append:∀ l m:List Tr,gsS (l ++ m)=max (gsS l) (gsS m)
 | [],m=>by have:=gsS_nn m;rw [List.nil_append,gsS];omega
 | t :: l,m=>by rw [List.cons_append,gsS,gsS,gsS_append l m];omega
theorem gsS_take (l:List Tr) (m:Nat) (x:Tr) (h:l[m]? = some x) (a:Int) (ha:0 ≤ a):max (max a (gsS (l.take m))) x.gsT=max a (gsS (l.take (m+1))):=by
 rw [List.take_add_one,h,Option.toList_some,gsS_append,gsS,gsS]
 have:=gsS_nn (l.take m)
 omega
theorem gsS_zero {l:List Tr} (h:∀ u,u ∈ l→u.gsT=0):gsS l=0:=by
 induction l with
 | nil=>rfl
 | cons t l ih=>rw [gsS,h t List.mem_cons_self,ih fun u hu=>h u (List.mem_cons_of_mem _ hu)];rfl
theorem gs_free:∀ {t:Tr},t.freeT=true→t.gsT=0:=by
 intro t
 induction t using Tr.rec_subs with
 | h t ih =>
   intro h
   rw [freeT_eq,Bool.and_eq_true,decide_eq_true_eq,freeL_iff] at h
   rw [gsT_eq,if_neg h.1,gsS_zero fun u hu=>ih u hu (h.2 u hu)];rfl
end Tr
theorem nmnothing_is (t:Tr) (p:Option Addr) (l c:Nat) (w:World):Calls Tryd.prog 183 #[.agg (t.cells (.slice p l c))] w fun e w'=>e=.returned (.bool t.isNone)∧Below w.heap.size w w':=by
 by_cases h2:t.kind=2
 · rw [Tr.isNone_noSet t h2]
   unfold Tr.cells Tr.noSet
   rw [h2]
   clear h2
   have heq:=fun w9=>eq4 (Oc.U t.w0) (Oc.U t.w1) (Oc.U t.w2) (Oc.U t.w3) 0 0 0 0 w9
   go_enter Tryd.func183,Tryd.ntmps183
   go_wp2
   go_ret
   exact ⟨rfl,by go_grown⟩
 · rw [Tr.isNone_not t h2]
   have e2:(t.kind == 2)=false:=by simpa using h2
   unfold Tr.cells
   clear h2
   go_enter Tryd.func183,Tryd.ntmps183
   go_wp2
   go_ret
   exact ⟨rfl,by go_grown⟩
theorem nmanchor_is (t:Tr) (p:Option Addr) (l c:Nat) (w:World):Calls Tryd.prog 188 #[.agg (t.cells (.slice p l c))] w fun e w'=>e=.returned (.bool t.isAnc)∧Below w.heap.size w w':=by
 by_cases h3:t.kind=3
 · rw [Tr.isAnc_yes t (.inl h3)]
   unfold Tr.cells
   rw [h3]
   clear h3
   go_enter Tryd.func188,Tryd.ntmps188
   go_wp2
   go_ret
   exact ⟨rfl,by go_grown⟩
 have e3:(t.kind == 3)=false:=by simpa using h3
 by_cases h4:t.kind=4
 · rw [Tr.isAnc_yes t (.inr h4)]
   unfold Tr.cells
   rw [h4]
   clear h3 h4 e3
   go_enter Tryd.func188,Tryd.ntmps188
   go_wp2
   go_ret
   exact ⟨rfl,by go_grown⟩
 have e4:(t.kind == 4)=false:=by simpa using h4
 rw [Tr.isAnc_not t h3 h4]
 unfold Tr.cells
 clear h3 h4
 go_enter Tryd.func188,Tryd.ntmps188
 go_wp2
 go_ret
 exact ⟨rfl,by go_grown⟩
theorem nmstar_is (t:Tr) (p:Option Addr) (l c:Nat) (w:World):Calls Tryd.prog 189 #[.agg (t.cells (.slice p l c))] w fun e w'=>e=.returned (.bool t.isStar)∧Below w.heap.size w w':=by
 have hI:t.isStar=((t.kind == 8) && ((t.least == 0) && (t.most == -1))):=by
   unfold Tr.isStar
   rw [Bool.eq_iff_iff,decide_eq_true_eq];simp
 rw [hI]
 unfold Tr.cells
 cases e8:(t.kind == 8) with
 | false =>
   go_enter Tryd.func189,Tryd.ntmps189
   go_wp2
   go_ret
   exact ⟨rfl,by go_grown⟩
 | true =>
   cases e0:(t.least == 0) with
   | false =>
     go_enter Tryd.func189,Tryd.ntmps189
     go_wp2
     go_ret
     exact ⟨rfl,by go_grown⟩
   | true =>
     go_enter Tryd.func189,Tryd.ntmps189
     go_wp2
     go_ret
     exact ⟨rfl,by go_grown⟩
theorem nmfree_any:∀ t:Tr,∀ (w:World) (B:Nat→Prop) (v:Value),NodeV w B v t→Calls Tryd.prog 47 #[v] w fun e w'=>e=.returned (.bool t.freeT)∧Below w.heap.size w w':=by
 intro t
 induction t using Tr.rec_subs with
 | h t ih =>
   intro w B v hv
   obtain ⟨s,rfl,hs⟩:=hv
   obtain ⟨p,cap,rfl,hlen⟩:=hs.slice
   rw [Tr.freeT_eq]
   by_cases h7:t.kind=7
   · have e7:(decide (t.kind ≠ 7) && Tr.freeL t.subs)=false:=by simp [h7]
     rw [e7]
     unfold Tr.cells
     rw [h7]
     clear ih hs hlen h7 e7
     go_enter Tryd.func47,Tryd.ntmps47
     go_wp2
     go_ret
     exact ⟨rfl,by go_grown⟩
   have e7:(decide (t.kind ≠ 7) && Tr.freeL t.subs)=Tr.freeL t.subs:=by simp [h7]
   rw [e7]
   have e7b:(t.kind == 7)=false:=by simpa using h7
   generalize hts:t.subs=ts at *
   have HTS:=Lib.hid hts;have IH:=Lib.hid ih;have HS:=Lib.hid hs
   clear ih hs hts h7 e7
   unfold Tr.cells
   go_enter Tryd.func47,Tryd.ntmps47
   go_wp2
   go_loopw [11] (fun iv wr=>∃ m:Nat,iv=.int .i64 m∧m ≤ ts.length∧Hid (Tr.freeL (ts.take m)=true)∧Hid (Below w.heap.size w wr)) (fun iv _=>ts.length - (intOf iv).toNat)
   case atStart=>exact ⟨0,rfl,Nat.zero_le _,Lib.hid rfl,Lib.hid (by go_grown)⟩
   case round =>
     obtain ⟨m,rfl,hm,HF,HB⟩:=hrel
     have wm:IntKind.i64.wrap ((m:Int)+1)=(m:Int)+1:=IntWalk.i64_in _ (by omega)
     by_cases hlt:m < ts.length
     · obtain ⟨x,hx⟩:∃ x,ts[m]? = some x:=⟨_,List.getElem?_eq_getElem hlt⟩
       obtain ⟨b1,o1,s1,rfl,-,t1,sub1⟩:=HS.out.get hx
       obtain ⟨d0,d1,d2,d3,d4,d5,d6,d7,d8,d9⟩:=t1.keep (HB.out.block _ t1.lt)
       have hmem:=List.mem_of_getElem? hx
       obtain ⟨p1,c1,rfl,hl1⟩:=sub1.slice
       have HC:=Lib.hid (fun w9 hb=>IH.out x hmem w9 B (.agg (x.cells (.slice p1 x.subs.length c1))) ⟨_,rfl,sub1.later hb⟩)
       have HSTP:=Lib.hid (Tr.freeL_take ts m x hx)
       clear t1 sub1 hmem hx
       unfold Tr.cells at HC
       go_wp2_with fail
       generalize hw1:World.alloc wr _=w1
       have hb1:Below wr.heap.size wr w1:=by rw [← hw1];exact (Below.refl _ _).alloc (Nat.le_refl _) _
       clear hw1
       refine (HC.out w1 (HB.out.trans (hb1.mono HB.out.size))).mono ?_
       rintro e w2 ⟨rfl,hb2⟩
       have HB2:=Lib.hid (HB.out.trans ((hb1.trans (hb2.mono hb1.size)).mono HB.out.size))
       clear d0 d1 d2 d3 d4 d5 d6 d7 d8 d9 hb1 hb2 HC
       cases hfx:x.freeT with
       | true =>
         have HX:=Lib.hid hfx
         clear hfx
         go_wp2
         exact ⟨⟨m+1,by go_num,by omega,Lib.hid (by rw [HSTP.out,HF.out,HX.out];rfl),HB2⟩,by simp [intOf];omega⟩
       | false =>
         have HX:=Lib.hid (show Tr.freeL ts=false from Tr.freeL_no (m:=m+1) (by rw [HSTP.out,HF.out,hfx];rfl))
         clear hfx
         go_wp2
         go_ret
         exact ⟨by rw [HX.out];rfl,HB2.out⟩
     · obtain rfl:m=ts.length:=by omega
       go_wp2
       go_ret
       exact ⟨by rw [List.take_length] at HF;rw [HF.out];rfl,HB.out⟩
end Go.Proofs.YtllfgppjobinnaaDoor
namespace Go.Proofs.YtllfgppjobinnaaDoor
open Go.RowKit
def RowEnd (ts:List Tr) (w:World) (e:Ending) (w':World):Prop:=∃ v ps,e=.returned v∧RowIs w.heap.size w' v ps∧ps.map (·.1)=ts∧Below w.heap.size w w'
theorem Tr.openL_take (k:Int) (l:List Tr) (m:Nat) (x:Tr) (h:l[m]? = some x):Tr.openL k (l.take (m+1))=Tr.openL k (l.take m) ++ (if x.kind=k then x.subs else [x]):=by
 unfold Tr.openL
 rw [List.take_add_one,h,Option.toList_some,List.flatMap_append];simp
theorem Tr.openL_le (k:Int) (l:List Tr) (m:Nat):(Tr.openL k (l.take m)).length ≤ (Tr.openL k l).length:=by
 have e:Tr.openL k l=Tr.openL k (l.take m) ++ Tr.openL k (l.drop m):=by
   unfold Tr.openL;rw [← List.flatMap_append,List.take_append_drop]
 rw [e,List.length_append];omega
theorem nmopened_any (k:Int) (ts:List Tr) (hne:∀ t,t ∈ ts→t.kind=k→t.subs ≠ []) (hN:(Tr.openL k ts).length ≤ 1000000) (w:World) (B:Nat→Prop) (v:Value) (hs:TreesAt w B v ts) :
   Calls Tryd.prog 182 #[v,.int .i64 k] w (RowEnd (Tr.openL k ts) w):=by
 obtain ⟨p,cap,rfl,hlen⟩:=hs.slice
 obtain ⟨ie,hi0,hz0,hz1,hz2⟩:=info_parts Tryd.infoNode
 have HI:=Lib.hid hi0;have HZ0:=Lib.hid hz0;have HZ1:=Lib.hid hz1;have HZ2:=Lib.hid hz2
 have HS:=Lib.hid hs;have HNE:=Lib.hid hne;have HN:=Lib.hid hN
 clear hi0 hz0 hz1 hz2 hs hne hN
 go_enter Tryd.func182,Tryd.ntmps182
 go_wp2
 go_loopw [10,5] (fun iv sv wr=>∃ (m:Nat) (ps:List (Tr × Value)),iv=.int .i64 m∧m ≤ ts.length∧Hid (ps.map (·.1)=Tr.openL k (ts.take m))∧Hid (RowIs w.heap.size wr sv ps)∧Hid (Below w.heap.size w wr)) (fun iv _ _=>ts.length - (intOf iv).toNat)
 case atStart=>exact ⟨0,[],rfl,Nat.zero_le _,Lib.hid rfl,Lib.hid (RowIs.nil _ _),Lib.hid (Below.refl _ _)⟩
 case round =>
   obtain ⟨m,ps,rfl,hm,HP,HR,HB⟩:=hrel
   have wm:IntKind.i64.wrap ((m:Int)+1)=(m:Int)+1:=IntWalk.i64_in _ (by omega)
   by_cases hlt:m < ts.length
   · obtain ⟨x,hx⟩:∃ x,ts[m]? = some x:=⟨_,List.getElem?_eq_getElem hlt⟩
     obtain ⟨b1,o1,s1,rfl,-,t1,sub1⟩:=HS.out.get hx
     obtain ⟨d0,d1,d2,d3,d4,d5,d6,d7,d8,d9⟩:=t1.keep (HB.out.block _ t1.lt)
     have hmem:=List.mem_of_getElem? hx
     obtain ⟨p1,c1,rfl,hl1⟩:=sub1.slice
     have HSUB:=Lib.hid (sub1.mono (B':=fun b=>b < w.heap.size) fun b hb _=>hb)
     have HST:=Lib.hid (Tr.openL_take k ts m x hx)
     have HLE:=Lib.hid (Tr.openL_le k ts (m+1))
     have hpl:=Lib.hid (len_fst HP.out)
     have HX:=Lib.hid (HNE.out x hmem)
     have Z1:=Lib.hid (heap_alloc_new wr (.cells (x.cells (.slice p1 x.subs.length c1)) 37))
     have HB1:=Lib.hid ((Below.refl wr.heap.size wr).alloc (Nat.le_refl _) (.cells (x.cells (.slice p1 x.subs.length c1)) 37))
     have hs1:(wr.alloc (.cells (x.cells (.slice p1 x.subs.length c1)) 37)).heap.size=wr.heap.size+1:=by simp
     clear t1 sub1 hmem hx
     unfold Tr.cells at Z1 HB1 hs1
     go_upto_region 5 with (fail)
     generalize hw1:wr.alloc _=w1 at *
     clear hw1 d0 d1 d2 d3 d4 d5 d6 d7 d8 d9
     have HR1:=Lib.hid (HR.out.below HB1.out)
     have HBW:=Lib.hid (HB.out.trans (HB1.out.mono HB.out.size))
     have HSB1:=Lib.hid (HSUB.out.keep (w':=w1) fun b hb1 hb2=>HBW.out.block b hb2)
     have HLT:=Lib.hid HR1.out.lt
     have HOFF:Hid (∀ b,b < w.heap.size→u5.ownBlock ≠ some b):=Lib.hid fun b hb e=>by have:=(HLT.out b e).1;omega
     obtain ⟨q0,q1,q2,q3,q4,q5,q6,q7,q8,q9⟩:=allTen Z1.out
     by_cases hk:x.kind=k
     · have ek:(x.kind == k)=true:=by simpa using hk
       rw [if_pos hk] at HST
       obtain ⟨b2,o2,qs,rfl,hq1,hq2,hq3,hq4⟩:=HSB1.out.rowPs (HX.out hk)
       have hql:=len_fst hq1
       have HQ1:=Lib.hid hq1;have HQ2:=Lib.hid hq2;have HQ3:=Lib.hid hq3
       have HQ4:=Lib.hid (fun (i:Nat) (t:Tr) (s:Value) (hi:qs[i]? = some (t,s))=>(hq4 i t s hi).mono (B':=fun b=>u5.ownBlock ≠ some b) fun b hb1 hb2=>HOFF.out b hb2)
       have hpos:0 < x.subs.length:=List.length_pos_iff.2 (HX.out hk)
       have hrl:Hid ((rowOf qs).length=x.subs.length * 10):=Lib.hid (by rw [rowOf_length,hql])
       have htot:Hid (ps.length+x.subs.length ≤ 1000000):=Lib.hid (by
         have a:=congrArg List.length HST.out
         rw [List.length_append] at a
         have b:=HLE.out;have c:=HN.out;have d:=hpl.out
         omega)
       have hml:ps.length+x.subs.length ≤ maxLen:=by have:=htot.out;unfold maxLen;omega
       have hbyt:(ps.length+x.subs.length) * 96 ≤ 140737488355328:=by have:=htot.out;omega
       have HBA:Hid (w.heap.size ≤ w1.heap.size):=Lib.hid HBW.out.size
       clear hq1 hq2 hq3 hq4 hk Z1
       go_wp2_with (first
         | (refine wpList_append_fresh _ rfl (.tmp 18) (.tmp 20) 35 rfl w.heap.size 37 ie _ 10 96 Tryd.underlying35 HI.out HZ0.out HZ1.out HZ2.out rfl (by decide) _ _ _ rfl HR1.out.1 ⟨b2,o2,none⟩ x.subs.length c1 (rowOf qs) rfl hrl.out HQ2.out (rowOf_one HQ3.out) hpos hml hbyt HBA.out ?_;intro v' w4 hown4 hgrow4 hwhere)
         | fail)
       have HG4:=Lib.hid hgrow4;have HW4:=Lib.hid hwhere
       have HR4:=Lib.hid (HR1.out.more HQ4.out (by rw [hql];exact hown4) HG4.out HW4.out)
       have HB4:=Lib.hid (HBW.out.grown HG4.out HBA.out (fun k e=>(HLT.out k e).1))
       refine ⟨⟨m+1,ps ++ qs,by go_num,by omega,Lib.hid (by rw [List.map_append,HP.out,HQ1.out,HST.out]),HR4,HB4⟩,by simp [intOf];omega⟩
     · have ek:(x.kind == k)=false:=by simpa using hk
       rw [if_neg hk] at HST
       have HOWN2:=Lib.hid (HR1.out.1.alloc (.cells (x.cells (.slice p1 x.subs.length c1)) 37))
       have HNW:=Lib.hid (news_one w1 x p1 x.subs.length c1 37)
       have HBA:Hid (w.heap.size ≤ (w1.alloc (.cells (x.cells (.slice p1 x.subs.length c1)) 37)).heap.size):=Lib.hid (by have:=HBW.out.size;simp;omega)
       have htot:Hid (ps.length+1 ≤ 1000000):=Lib.hid (by
         have a:=congrArg List.length HST.out
         rw [List.length_append] at a
         have b:=HLE.out;have c:=HN.out;have d:=hpl.out
         have e:[x].length=1:=rfl
         omega)
       have hml:ps.length+1 ≤ maxLen:=by have:=htot.out;unfold maxLen;omega
       have hbyt:(ps.length+1) * 96 ≤ 140737488355328:=by have:=htot.out;omega
       clear hk q0 q1 q2 q3 q4 q5 q6 q7 q8 q9
       obtain ⟨q0,-⟩:=allTen Z1.out
       go_wp2_with (first
         | (refine wpList_load_row rfl 37 (.tmp 7) rfl wr.heap.size rfl 37 _ (0,0) _ Z1.out Tryd.underlying37 rfl (by kernel_rfl) ?_)
         | (refine wpList_node1 rfl (.tmp 23) x p1 x.subs.length c1 rfl rfl ?_)
         | (refine wpList_append_fresh _ rfl (.tmp 22) (.tmp 24) 35 rfl w.heap.size 37 ie _ 10 96 Tryd.underlying35 HI.out HZ0.out HZ1.out HZ2.out rfl (by decide) _ _ _ rfl HOWN2.out ⟨w1.heap.size,0,none⟩ 1 1 (x.cells (.slice p1 x.subs.length c1)).toList rfl rfl HNW.out (nodeC_one _ _ _ _) (by decide) hml hbyt HBA.out ?_;intro v' w4 hown4 hgrow4 hwhere)
         | fail)
       have HG4:=Lib.hid hgrow4;have HW4:=Lib.hid hwhere
       have HR4:=Lib.hid (HR1.out.app (Below.refl w1.heap.size w1) (HSB1.out.mono fun b hb1 hb2=>HOFF.out b hb2) hown4 HG4.out HW4.out)
       have hb3:Below w1.heap.size w1 (w1.alloc (.cells (x.cells (.slice p1 x.subs.length c1)) 37)):=(Below.refl w1.heap.size w1).alloc (Nat.le_refl _) _
       have HB4:=Lib.hid ((HBW.out.trans (hb3.mono HBW.out.size)).grown HG4.out HBA.out (fun k e=>(HLT.out k e).1))
       refine ⟨⟨m+1,ps ++ [(x,.slice p1 x.subs.length c1)],by go_num,by omega,Lib.hid (by rw [List.map_append,HP.out,HST.out];rfl),HR4,HB4⟩,by simp [intOf];omega⟩
   · obtain rfl:m=ts.length:=by omega
     go_wp2
     go_ret
     exact ⟨_,ps,rfl,HR.out,by rw [HP.out,List.take_length],HB.out⟩
end Go.Proofs.YtllfgppjobinnaaDoor
namespace Go.Proofs.YtllfgppjobinnaaDoor
open Go.RowKit
theorem Tr.again_no {acc:List Tr} {t:Tr} (h:t.isAnc=false):Tr.again acc t=false:=by unfold Tr.again;rw [h];rfl
theorem Tr.again_last {acc:List Tr} {t u:Tr} (h:t.isAnc=true) (hu:acc.getLast? = some u):Tr.again acc t=(u.kind == t.kind):=by unfold Tr.again;rw [h,hu];rfl
theorem nmsaid_any (acc:List Tr) (t:Tr) (p:Option Addr) (l c:Nat) (w:World) (B:Nat→Prop) (sv:Value) (hs:TreesAt w B sv acc) :
   Calls Tryd.prog 184 #[sv,.agg (t.cells (.slice p l c))] w fun e w'=>e=.returned (.bool (Tr.again acc t))∧Below w.heap.size w w':=by
 obtain ⟨q,cap,rfl,hlen⟩:=hs.slice
 have HA:=Lib.hid (fun w9=>nmanchor_is t p l c w9)
 have Z0:=Lib.hid (heap_alloc_new w (.cells (t.cells (.slice p l c)) 37))
 have HW:=Lib.hid ((Below.refl w.heap.size w).alloc (Nat.le_refl _) (.cells (t.cells (.slice p l c)) 37))
 unfold Tr.cells at *
 cases hanc:t.isAnc with
 | false =>
   rw [Tr.again_no hanc]
   rw [hanc] at HA
   clear hs hanc
   go_enter Tryd.func184,Tryd.ntmps184
   go_upto_region 1 with (fail)
   generalize w.alloc _=W at *
   refine Ri.wp_region_frame (by kernel_rfl) (by kernel_rfl) (by kernel_rfl) (by kernel_rfl)
     (fun L v w'=>Below W.heap.size W w'∧(L 0=true→v 0=.agg #[.int .i64 t.kind,.int .u64 (Oc.U t.w0),.int .u64 (Oc.U t.w1),.int .u64 (Oc.U t.w2),.int .u64 (Oc.U t.w3),.slice p l c,.int .i64 t.num,.int .i64 t.least,.int .i64 t.most,.bool t.bare])∧(L 1=true→v 1=.bool false)∧(L 2=true→v 2=.bool false)∧(L 3=true→v 3=undef)∧(L 4=true→v 4=undef)∧(L 5=true→v 5=undef)∧(L 6=true→v 6=.bool false)∧(L 7=true→v 7=.bool false)∧(L 8=true→v 8=undef)∧(L 9=true→v 9=undef)∧(L 10=true→v 10=undef)∧(L 11=true→v 11=undef)∧(L 12=true→v 12=undef)∧(L 13=true→v 13=undef)∧(L 14=true→v 14=undef)∧(L 15=true→v 15=undef)∧(L 16=true→v 16=undef)∧(L 17=true→v 17=undef)∧(L 18=true→v 18=.bool false)∧(L 19=true→v 19=.bool false))
     ?_ ?_ ?_
   · exact ⟨(Below.refl _ _).drew,by simp,by simp,by simp,by simp,by simp,by simp,by simp,by simp,by simp,by simp,by simp,by simp,by simp,by simp,by simp,by simp,by simp,by simp,by simp,by simp⟩
   · intro i hi9 L v w9 xa hI hL hd hv ho
     have hi':i=0 ∨ i=1 ∨ i=2 ∨ i=3 ∨ i=4 ∨ i=5 ∨ i=6 ∨ i=7 ∨ i=8 ∨ i=9 ∨ i=10 ∨ i=11 ∨ i=12 ∨ i=13 ∨ i=14 ∨ i=15 ∨ i=16 ∨ i=17 ∨ i=18 ∨ i=19:=by simp at hi9;omega
     obtain ⟨hb,q0,q1,q2,q3,q4,q5,q6,q7,q8,q9,q10,q11,q12,q13,q14,q15,q16,q17,q18,q19⟩:=hI
     rcases hi' with rfl | rfl | rfl | rfl | rfl | rfl | rfl | rfl | rfl | rfl | rfl | rfl | rfl | rfl | rfl | rfl | rfl | rfl | rfl | rfl
     · have e3:xa.tmps.getD 3 undef=.pointer (some ⟨w.heap.size,0,none⟩):=ho 3 (by kernel_rfl)
       refine Ri.step_plain rfl rfl (fun K' hK=>?_)
       refine wp_load_row _ _ rfl _ e3 _ _ _ _ (keep_blk hb Z0.out) Tryd.underlying37 rfl (by kernel_rfl) ?_
       exact hK _ _ ⟨_,_,rfl,rfl,hb,fun _=>rfl,q1,q2,q3,q4,q5,q6,q7,q8,q9,q10,q11,q12,q13,q14,q15,q16,q17,q18,q19⟩
     · have l0:L 0=true:=by have:=hd _ rfl;simp [Region.binds] at this;simp [this]
       have f0:=(hv 0 5 rfl l0).trans (q0 l0)
       refine Ri.step_plain rfl rfl (fun K' hK=>?_)
       go_simp
       refine (HA.out w9).mono ?_
       rintro e w8 ⟨rfl,hb8⟩
       exact hK _ _ ⟨_,_,rfl,rfl,hb.trans (hb8.mono hb.size),q0,fun _=>rfl,q2,q3,q4,q5,q6,q7,q8,q9,q10,q11,q12,q13,q14,q15,q16,q17,q18,q19⟩
     · have l0:L 1=true:=by have:=hd _ rfl;simp [Region.binds] at this;simp [this]
       have f1:=(hv 1 6 rfl l0).trans (q1 l0)
       refine Ri.step_plain rfl rfl (fun K' hK=>?_)
       go_simp
       exact hK _ _ ⟨_,_,rfl,rfl,hb,q0,q1,fun _=>rfl,q3,q4,q5,q6,q7,q8,q9,q10,q11,q12,q13,q14,q15,q16,q17,q18,q19⟩
     · have l0:L 2=true:=by have:=hd _ rfl;simp [Region.binds] at this;simp [this]
       have f2:=(hv 2 7 rfl l0).trans (q2 l0)
       exact Ri.step_unwanted (b:=false) rfl rfl rfl f2 ⟨_,_,rfl,rfl,hb,q0,q1,q2,fun _=>rfl,q4,q5,q6,q7,q8,q9,q10,q11,q12,q13,q14,q15,q16,q17,q18,q19⟩
     · have l0:L 2=true:=by have:=hd _ rfl;simp [Region.binds] at this;simp [this]
       have f2:=(hv 2 7 rfl l0).trans (q2 l0)
       exact Ri.step_unwanted (b:=false) rfl rfl rfl f2 ⟨_,_,rfl,rfl,hb,q0,q1,q2,q3,fun _=>rfl,q5,q6,q7,q8,q9,q10,q11,q12,q13,q14,q15,q16,q17,q18,q19⟩
     · have l0:L 2=true:=by have:=hd _ rfl;simp [Region.binds] at this;simp [this]
       have f2:=(hv 2 7 rfl l0).trans (q2 l0)
       exact Ri.step_unwanted (b:=false) rfl rfl rfl f2 ⟨_,_,rfl,rfl,hb,q0,q1,q2,q3,q4,fun _=>rfl,q6,q7,q8,q9,q10,q11,q12,q13,q14,q15,q16,q17,q18,q19⟩
     · have l0:L 2=true∧L 5=true:=by have:=hd _ rfl;simp [Region.binds] at this;simp [this]
       have f2:=(hv 2 7 rfl l0.1).trans (q2 l0.1)
       have f5:=(hv 5 10 rfl l0.2).trans (q5 l0.2)
       refine Ri.step_plain rfl rfl (fun K' hK=>?_)
       go_simp
       exact hK _ _ ⟨_,_,rfl,rfl,hb,q0,q1,q2,q3,q4,q5,fun _=>rfl,q7,q8,q9,q10,q11,q12,q13,q14,q15,q16,q17,q18,q19⟩
     · have l0:L 6=true:=by have:=hd _ rfl;simp [Region.binds] at this;simp [this]
       have f6:=(hv 6 11 rfl l0).trans (q6 l0)
       refine Ri.step_plain rfl rfl (fun K' hK=>?_)
       go_simp
       exact hK _ _ ⟨_,_,rfl,rfl,hb,q0,q1,q2,q3,q4,q5,q6,fun _=>rfl,q8,q9,q10,q11,q12,q13,q14,q15,q16,q17,q18,q19⟩
     · have l0:L 7=true:=by have:=hd _ rfl;simp [Region.binds] at this;simp [this]
       have f7:=(hv 7 12 rfl l0).trans (q7 l0)
       exact Ri.step_unwanted (b:=false) rfl rfl rfl f7 ⟨_,_,rfl,rfl,hb,q0,q1,q2,q3,q4,q5,q6,q7,fun _=>rfl,q9,q10,q11,q12,q13,q14,q15,q16,q17,q18,q19⟩
     · have l0:L 7=true:=by have:=hd _ rfl;simp [Region.binds] at this;simp [this]
       have f7:=(hv 7 12 rfl l0).trans (q7 l0)
       exact Ri.step_unwanted (b:=false) rfl rfl rfl f7 ⟨_,_,rfl,rfl,hb,q0,q1,q2,q3,q4,q5,q6,q7,q8,fun _=>rfl,q10,q11,q12,q13,q14,q15,q16,q17,q18,q19⟩
     · have l0:L 7=true:=by have:=hd _ rfl;simp [Region.binds] at this;simp [this]
       have f7:=(hv 7 12 rfl l0).trans (q7 l0)
       exact Ri.step_unwanted (b:=false) rfl rfl rfl f7 ⟨_,_,rfl,rfl,hb,q0,q1,q2,q3,q4,q5,q6,q7,q8,q9,fun _=>rfl,q11,q12,q13,q14,q15,q16,q17,q18,q19⟩
     · have l0:L 7=true:=by have:=hd _ rfl;simp [Region.binds] at this;simp [this]
       have f7:=(hv 7 12 rfl l0).trans (q7 l0)
       exact Ri.step_unwanted (b:=false) rfl rfl rfl f7 ⟨_,_,rfl,rfl,hb,q0,q1,q2,q3,q4,q5,q6,q7,q8,q9,q10,fun _=>rfl,q12,q13,q14,q15,q16,q17,q18,q19⟩
     · have l0:L 7=true:=by have:=hd _ rfl;simp [Region.binds] at this;simp [this]
       have f7:=(hv 7 12 rfl l0).trans (q7 l0)
       exact Ri.step_unwanted (b:=false) rfl rfl rfl f7 ⟨_,_,rfl,rfl,hb,q0,q1,q2,q3,q4,q5,q6,q7,q8,q9,q10,q11,fun _=>rfl,q13,q14,q15,q16,q17,q18,q19⟩
     · have l0:L 7=true:=by have:=hd _ rfl;simp [Region.binds] at this;simp [this]
       have f7:=(hv 7 12 rfl l0).trans (q7 l0)
       exact Ri.step_unwanted (b:=false) rfl rfl rfl f7 ⟨_,_,rfl,rfl,hb,q0,q1,q2,q3,q4,q5,q6,q7,q8,q9,q10,q11,q12,fun _=>rfl,q14,q15,q16,q17,q18,q19⟩
     · have l0:L 7=true:=by have:=hd _ rfl;simp [Region.binds] at this;simp [this]
       have f7:=(hv 7 12 rfl l0).trans (q7 l0)
       exact Ri.step_unwanted (b:=false) rfl rfl rfl f7 ⟨_,_,rfl,rfl,hb,q0,q1,q2,q3,q4,q5,q6,q7,q8,q9,q10,q11,q12,q13,fun _=>rfl,q15,q16,q17,q18,q19⟩
     · have l0:L 7=true:=by have:=hd _ rfl;simp [Region.binds] at this;simp [this]
       have f7:=(hv 7 12 rfl l0).trans (q7 l0)
       exact Ri.step_unwanted (b:=false) rfl rfl rfl f7 ⟨_,_,rfl,rfl,hb,q0,q1,q2,q3,q4,q5,q6,q7,q8,q9,q10,q11,q12,q13,q14,fun _=>rfl,q16,q17,q18,q19⟩
     · have l0:L 7=true:=by have:=hd _ rfl;simp [Region.binds] at this;simp [this]
       have f7:=(hv 7 12 rfl l0).trans (q7 l0)
       exact Ri.step_unwanted (b:=false) rfl rfl rfl f7 ⟨_,_,rfl,rfl,hb,q0,q1,q2,q3,q4,q5,q6,q7,q8,q9,q10,q11,q12,q13,q14,q15,fun _=>rfl,q17,q18,q19⟩
     · have l0:L 7=true:=by have:=hd _ rfl;simp [Region.binds] at this;simp [this]
       have f7:=(hv 7 12 rfl l0).trans (q7 l0)
       exact Ri.step_unwanted (b:=false) rfl rfl rfl f7 ⟨_,_,rfl,rfl,hb,q0,q1,q2,q3,q4,q5,q6,q7,q8,q9,q10,q11,q12,q13,q14,q15,q16,fun _=>rfl,q18,q19⟩
     · have l0:L 7=true∧L 17=true:=by have:=hd _ rfl;simp [Region.binds] at this;simp [this]
       have f7:=(hv 7 12 rfl l0.1).trans (q7 l0.1)
       have f17:=(hv 17 22 rfl l0.2).trans (q17 l0.2)
       refine Ri.step_plain rfl rfl (fun K' hK=>?_)
       go_simp
       exact hK _ _ ⟨_,_,rfl,rfl,hb,q0,q1,q2,q3,q4,q5,q6,q7,q8,q9,q10,q11,q12,q13,q14,q15,q16,q17,fun _=>rfl,q19⟩
     · have l0:L 18=true:=by have:=hd _ rfl;simp [Region.binds] at this;simp [this]
       have f18:=(hv 18 23 rfl l0).trans (q18 l0)
       refine Ri.step_plain rfl rfl (fun K' hK=>?_)
       go_simp
       exact hK _ _ ⟨_,_,rfl,rfl,hb,q0,q1,q2,q3,q4,q5,q6,q7,q8,q9,q10,q11,q12,q13,q14,q15,q16,q17,q18,fun _=>rfl⟩
   · rintro v w9 ⟨hb,-,-,-,-,-,-,-,-,-,-,-,-,-,-,-,-,-,-,-,q19⟩
     have q19':v 19=.bool false:=q19 rfl
     simp only [Ri.frame,List.zipIdx,List.foldl_cons,List.foldl_nil,if_true,List.setIfInBounds_toArray,List.set_cons_zero,List.set_cons_succ,Nat.reduceAdd,q19']
     clear q19 q19'
     generalize v 0=y0;generalize v 1=y1;generalize v 2=y2;generalize v 3=y3;generalize v 4=y4;generalize v 5=y5;generalize v 6=y6;generalize v 7=y7;generalize v 8=y8;generalize v 9=y9;generalize v 10=y10;generalize v 11=y11;generalize v 12=y12;generalize v 13=y13;generalize v 14=y14;generalize v 15=y15;generalize v 16=y16;generalize v 17=y17;generalize v 18=y18
     go_wp2
     go_ret
     exact ⟨rfl,HW.out.trans (hb.mono HW.out.size)⟩
 | true =>
   rw [hanc] at HA
   cases acc with
   | nil =>
     have e0:Tr.again [] t=false:=by unfold Tr.again;rw [hanc];rfl
     rw [e0]
     simp only [List.length_nil] at *
     clear hs hanc e0
     go_enter Tryd.func184,Tryd.ntmps184
     go_upto_region 1 with (fail)
     generalize w.alloc _=W at *
     refine Ri.wp_region_frame (by kernel_rfl) (by kernel_rfl) (by kernel_rfl) (by kernel_rfl)
       (fun L v w'=>Below W.heap.size W w'∧(L 0=true→v 0=.agg #[.int .i64 t.kind,.int .u64 (Oc.U t.w0),.int .u64 (Oc.U t.w1),.int .u64 (Oc.U t.w2),.int .u64 (Oc.U t.w3),.slice p l c,.int .i64 t.num,.int .i64 t.least,.int .i64 t.most,.bool t.bare])∧(L 1=true→v 1=.bool true)∧(L 2=true→v 2=.bool true)∧(L 3=true→v 3=.slice q 0 cap)∧(L 4=true→v 4=.int .i64 0)∧(L 5=true→v 5=.bool false)∧(L 6=true→v 6=.bool false)∧(L 7=true→v 7=.bool false)∧(L 8=true→v 8=undef)∧(L 9=true→v 9=undef)∧(L 10=true→v 10=undef)∧(L 11=true→v 11=undef)∧(L 12=true→v 12=undef)∧(L 13=true→v 13=undef)∧(L 14=true→v 14=undef)∧(L 15=true→v 15=undef)∧(L 16=true→v 16=undef)∧(L 17=true→v 17=undef)∧(L 18=true→v 18=.bool false)∧(L 19=true→v 19=.bool false))
       ?_ ?_ ?_
     · exact ⟨(Below.refl _ _).drew,by simp,by simp,by simp,by simp,by simp,by simp,by simp,by simp,by simp,by simp,by simp,by simp,by simp,by simp,by simp,by simp,by simp,by simp,by simp,by simp⟩
     · intro i hi9 L v w9 xa hI hL hd hv ho
       have hi':i=0 ∨ i=1 ∨ i=2 ∨ i=3 ∨ i=4 ∨ i=5 ∨ i=6 ∨ i=7 ∨ i=8 ∨ i=9 ∨ i=10 ∨ i=11 ∨ i=12 ∨ i=13 ∨ i=14 ∨ i=15 ∨ i=16 ∨ i=17 ∨ i=18 ∨ i=19:=by simp at hi9;omega
       obtain ⟨hb,q0,q1,q2,q3,q4,q5,q6,q7,q8,q9,q10,q11,q12,q13,q14,q15,q16,q17,q18,q19⟩:=hI
       rcases hi' with rfl | rfl | rfl | rfl | rfl | rfl | rfl | rfl | rfl | rfl | rfl | rfl | rfl | rfl | rfl | rfl | rfl | rfl | rfl | rfl
       · have e3:xa.tmps.getD 3 undef=.pointer (some ⟨w.heap.size,0,none⟩):=ho 3 (by kernel_rfl)
         refine Ri.step_plain rfl rfl (fun K' hK=>?_)
         refine wp_load_row _ _ rfl _ e3 _ _ _ _ (keep_blk hb Z0.out) Tryd.underlying37 rfl (by kernel_rfl) ?_
         exact hK _ _ ⟨_,_,rfl,rfl,hb,fun _=>rfl,q1,q2,q3,q4,q5,q6,q7,q8,q9,q10,q11,q12,q13,q14,q15,q16,q17,q18,q19⟩
       · have l0:L 0=true:=by have:=hd _ rfl;simp [Region.binds] at this;simp [this]
         have f0:=(hv 0 5 rfl l0).trans (q0 l0)
         refine Ri.step_plain rfl rfl (fun K' hK=>?_)
         go_simp
         refine (HA.out w9).mono ?_
         rintro e w8 ⟨rfl,hb8⟩
         exact hK _ _ ⟨_,_,rfl,rfl,hb.trans (hb8.mono hb.size),q0,fun _=>rfl,q2,q3,q4,q5,q6,q7,q8,q9,q10,q11,q12,q13,q14,q15,q16,q17,q18,q19⟩
       · have l0:L 1=true:=by have:=hd _ rfl;simp [Region.binds] at this;simp [this]
         have f1:=(hv 1 6 rfl l0).trans (q1 l0)
         refine Ri.step_plain rfl rfl (fun K' hK=>?_)
         go_simp
         exact hK _ _ ⟨_,_,rfl,rfl,hb,q0,q1,fun _=>rfl,q3,q4,q5,q6,q7,q8,q9,q10,q11,q12,q13,q14,q15,q16,q17,q18,q19⟩
       · have l0:L 2=true:=by have:=hd _ rfl;simp [Region.binds] at this;simp [this]
         have f2:=(hv 2 7 rfl l0).trans (q2 l0)
         have e0:xa.tmps.getD 0 undef=.slice q 0 cap:=ho 0 (by kernel_rfl)
         refine Ri.step_wanted (b:=true) rfl rfl rfl f2 (fun K' hK=>?_)
         go_simp
         exact hK _ _ ⟨_,_,rfl,rfl,hb,q0,q1,q2,fun _=>rfl,q4,q5,q6,q7,q8,q9,q10,q11,q12,q13,q14,q15,q16,q17,q18,q19⟩
       · have l0:L 2=true∧L 3=true:=by have:=hd _ rfl;simp [Region.binds] at this;simp [this]
         have f2:=(hv 2 7 rfl l0.1).trans (q2 l0.1)
         have f3:=(hv 3 8 rfl l0.2).trans (q3 l0.2)
         refine Ri.step_wanted (b:=true) rfl rfl rfl f2 (fun K' hK=>?_)
         go_simp
         exact hK _ _ ⟨_,_,rfl,rfl,hb,q0,q1,q2,q3,fun _=>rfl,q5,q6,q7,q8,q9,q10,q11,q12,q13,q14,q15,q16,q17,q18,q19⟩
       · have l0:L 2=true∧L 4=true:=by have:=hd _ rfl;simp [Region.binds] at this;simp [this]
         have f2:=(hv 2 7 rfl l0.1).trans (q2 l0.1)
         have f4:=(hv 4 9 rfl l0.2).trans (q4 l0.2)
         refine Ri.step_wanted (b:=true) rfl rfl rfl f2 (fun K' hK=>?_)
         go_simp
         exact hK _ _ ⟨_,_,rfl,rfl,hb,q0,q1,q2,q3,q4,fun _=>rfl,q6,q7,q8,q9,q10,q11,q12,q13,q14,q15,q16,q17,q18,q19⟩
       · have l0:L 2=true∧L 5=true:=by have:=hd _ rfl;simp [Region.binds] at this;simp [this]
         have f2:=(hv 2 7 rfl l0.1).trans (q2 l0.1)
         have f5:=(hv 5 10 rfl l0.2).trans (q5 l0.2)
         refine Ri.step_plain rfl rfl (fun K' hK=>?_)
         go_simp
         exact hK _ _ ⟨_,_,rfl,rfl,hb,q0,q1,q2,q3,q4,q5,fun _=>rfl,q7,q8,q9,q10,q11,q12,q13,q14,q15,q16,q17,q18,q19⟩
       · have l0:L 6=true:=by have:=hd _ rfl;simp [Region.binds] at this;simp [this]
         have f6:=(hv 6 11 rfl l0).trans (q6 l0)
         refine Ri.step_plain rfl rfl (fun K' hK=>?_)
         go_simp
         exact hK _ _ ⟨_,_,rfl,rfl,hb,q0,q1,q2,q3,q4,q5,q6,fun _=>rfl,q8,q9,q10,q11,q12,q13,q14,q15,q16,q17,q18,q19⟩
       · have l0:L 7=true:=by have:=hd _ rfl;simp [Region.binds] at this;simp [this]
         have f7:=(hv 7 12 rfl l0).trans (q7 l0)
         exact Ri.step_unwanted (b:=false) rfl rfl rfl f7 ⟨_,_,rfl,rfl,hb,q0,q1,q2,q3,q4,q5,q6,q7,fun _=>rfl,q9,q10,q11,q12,q13,q14,q15,q16,q17,q18,q19⟩
       · have l0:L 7=true:=by have:=hd _ rfl;simp [Region.binds] at this;simp [this]
         have f7:=(hv 7 12 rfl l0).trans (q7 l0)
         exact Ri.step_unwanted (b:=false) rfl rfl rfl f7 ⟨_,_,rfl,rfl,hb,q0,q1,q2,q3,q4,q5,q6,q7,q8,fun _=>rfl,q10,q11,q12,q13,q14,q15,q16,q17,q18,q19⟩
       · have l0:L 7=true:=by have:=hd _ rfl;simp [Region.binds] at this;simp [this]
         have f7:=(hv 7 12 rfl l0).trans (q7 l0)
         exact Ri.step_unwanted (b:=false) rfl rfl rfl f7 ⟨_,_,rfl,rfl,hb,q0,q1,q2,q3,q4,q5,q6,q7,q8,q9,fun _=>rfl,q11,q12,q13,q14,q15,q16,q17,q18,q19⟩
       · have l0:L 7=true:=by have:=hd _ rfl;simp [Region.binds] at this;simp [this]
         have f7:=(hv 7 12 rfl l0).trans (q7 l0)
         exact Ri.step_unwanted (b:=false) rfl rfl rfl f7 ⟨_,_,rfl,rfl,hb,q0,q1,q2,q3,q4,q5,q6,q7,q8,q9,q10,fun _=>rfl,q12,q13,q14,q15,q16,q17,q18,q19⟩
       · have l0:L 7=true:=by have:=hd _ rfl;simp [Region.binds] at this;simp [this]
         have f7:=(hv 7 12 rfl l0).trans (q7 l0)
         exact Ri.step_unwanted (b:=false) rfl rfl rfl f7 ⟨_,_,rfl,rfl,hb,q0,q1,q2,q3,q4,q5,q6,q7,q8,q9,q10,q11,fun _=>rfl,q13,q14,q15,q16,q17,q18,q19⟩
       · have l0:L 7=true:=by have:=hd _ rfl;simp [Region.binds] at this;simp [this]
         have f7:=(hv 7 12 rfl l0).trans (q7 l0)
         exact Ri.step_unwanted (b:=false) rfl rfl rfl f7 ⟨_,_,rfl,rfl,hb,q0,q1,q2,q3,q4,q5,q6,q7,q8,q9,q10,q11,q12,fun _=>rfl,q14,q15,q16,q17,q18,q19⟩
       · have l0:L 7=true:=by have:=hd _ rfl;simp [Region.binds] at this;simp [this]
         have f7:=(hv 7 12 rfl l0).trans (q7 l0)
         exact Ri.step_unwanted (b:=false) rfl rfl rfl f7 ⟨_,_,rfl,rfl,hb,q0,q1,q2,q3,q4,q5,q6,q7,q8,q9,q10,q11,q12,q13,fun _=>rfl,q15,q16,q17,q18,q19⟩
       · have l0:L 7=true:=by have:=hd _ rfl;simp [Region.binds] at this;simp [this]
         have f7:=(hv 7 12 rfl l0).trans (q7 l0)
         exact Ri.step_unwanted (b:=false) rfl rfl rfl f7 ⟨_,_,rfl,rfl,hb,q0,q1,q2,q3,q4,q5,q6,q7,q8,q9,q10,q11,q12,q13,q14,fun _=>rfl,q16,q17,q18,q19⟩
       · have l0:L 7=true:=by have:=hd _ rfl;simp [Region.binds] at this;simp [this]
         have f7:=(hv 7 12 rfl l0).trans (q7 l0)
         exact Ri.step_unwanted (b:=false) rfl rfl rfl f7 ⟨_,_,rfl,rfl,hb,q0,q1,q2,q3,q4,q5,q6,q7,q8,q9,q10,q11,q12,q13,q14,q15,fun _=>rfl,q17,q18,q19⟩
       · have l0:L 7=true:=by have:=hd _ rfl;simp [Region.binds] at this;simp [this]
         have f7:=(hv 7 12 rfl l0).trans (q7 l0)
         exact Ri.step_unwanted (b:=false) rfl rfl rfl f7 ⟨_,_,rfl,rfl,hb,q0,q1,q2,q3,q4,q5,q6,q7,q8,q9,q10,q11,q12,q13,q14,q15,q16,fun _=>rfl,q18,q19⟩
       · have l0:L 7=true∧L 17=true:=by have:=hd _ rfl;simp [Region.binds] at this;simp [this]
         have f7:=(hv 7 12 rfl l0.1).trans (q7 l0.1)
         have f17:=(hv 17 22 rfl l0.2).trans (q17 l0.2)
         refine Ri.step_plain rfl rfl (fun K' hK=>?_)
         go_simp
         exact hK _ _ ⟨_,_,rfl,rfl,hb,q0,q1,q2,q3,q4,q5,q6,q7,q8,q9,q10,q11,q12,q13,q14,q15,q16,q17,fun _=>rfl,q19⟩
       · have l0:L 18=true:=by have:=hd _ rfl;simp [Region.binds] at this;simp [this]
         have f18:=(hv 18 23 rfl l0).trans (q18 l0)
         refine Ri.step_plain rfl rfl (fun K' hK=>?_)
         go_simp
         exact hK _ _ ⟨_,_,rfl,rfl,hb,q0,q1,q2,q3,q4,q5,q6,q7,q8,q9,q10,q11,q12,q13,q14,q15,q16,q17,q18,fun _=>rfl⟩
     · rintro v w9 ⟨hb,-,-,-,-,-,-,-,-,-,-,-,-,-,-,-,-,-,-,-,q19⟩
       have q19':v 19=.bool false:=q19 rfl
       simp only [Ri.frame,List.zipIdx,List.foldl_cons,List.foldl_nil,if_true,List.setIfInBounds_toArray,List.set_cons_zero,List.set_cons_succ,Nat.reduceAdd,q19']
       clear q19 q19'
       generalize v 0=y0;generalize v 1=y1;generalize v 2=y2;generalize v 3=y3;generalize v 4=y4;generalize v 5=y5;generalize v 6=y6;generalize v 7=y7;generalize v 8=y8;generalize v 9=y9;generalize v 10=y10;generalize v 11=y11;generalize v 12=y12;generalize v 13=y13;generalize v 14=y14;generalize v 15=y15;generalize v 16=y16;generalize v 17=y17;generalize v 18=y18
       go_wp2
       go_ret
       exact ⟨rfl,HW.out.trans (hb.mono HW.out.size)⟩
   | cons a r =>
     obtain ⟨u,hu⟩:∃ u,(a :: r).getLast? = some u:=⟨_,List.getLast?_eq_some_getLast (by simp)⟩
     rw [Tr.again_last hanc hu]
     obtain ⟨m,hm⟩:∃ m:Nat,(a :: r).length=m+1:=⟨r.length,rfl⟩
     have hgu:(a :: r)[m]? = some u:=by rw [List.getLast?_eq_getElem?,hm] at hu;exact hu
     generalize a :: r=acc at *
     obtain ⟨b1,o1,s1,rfl,-,t1,sub1⟩:=hs.get hgu
     have T1:=Lib.hid (t1.keep (HW.out.block _ t1.lt))
     have LT1:=Lib.hid (show b1 < (w.alloc (.cells #[.int .i64 t.kind,.int .u64 (Oc.U t.w0),.int .u64 (Oc.U t.w1),.int .u64 (Oc.U t.w2),.int .u64 (Oc.U t.w3),.slice p l c,.int .i64 t.num,.int .i64 t.least,.int .i64 t.most,.bool t.bare] 37)).heap.size from (t1.keep (w':=w.alloc (.cells #[.int .i64 t.kind,.int .u64 (Oc.U t.w0),.int .u64 (Oc.U t.w1),.int .u64 (Oc.U t.w2),.int .u64 (Oc.U t.w3),.slice p l c,.int .i64 t.num,.int .i64 t.least,.int .i64 t.most,.bool t.bare] 37)) (HW.out.block _ t1.lt)).lt)
     have hlm:(m+1) * 96 ≤ 140737488351232:=by rw [← hm];exact hlen
     clear hlen
     rw [hm]
     have hpos:decide (((m+1:Nat):Int) > 0)=true:=decide_eq_true (by omega)
     have hsub:IntKind.i64.wrap (m:Int)=m:=IntWalk.i64_in _ (by omega)
     have hlt1:decide (0 ≤ (m:Int))=true:=decide_eq_true (by omega)
     have hlt2:(m:Int) < (m:Int)+1:=by omega
     clear hs hanc hu hgu t1 sub1 hm
     go_enter Tryd.func184,Tryd.ntmps184
     go_upto_region 1 with (fail)
     generalize w.alloc _=W at *
     refine Ri.wp_region_frame (by kernel_rfl) (by kernel_rfl) (by kernel_rfl) (by kernel_rfl)
       (fun L v w'=>Below W.heap.size W w'∧(L 0=true→v 0=.agg #[.int .i64 t.kind,.int .u64 (Oc.U t.w0),.int .u64 (Oc.U t.w1),.int .u64 (Oc.U t.w2),.int .u64 (Oc.U t.w3),.slice p l c,.int .i64 t.num,.int .i64 t.least,.int .i64 t.most,.bool t.bare])∧(L 1=true→v 1=.bool true)∧(L 2=true→v 2=.bool true)∧(L 3=true→v 3=.slice (some ⟨b1,o1,none⟩) (m+1) cap)∧(L 4=true→v 4=.int .i64 ((m+1:Nat):Int))∧(L 5=true→v 5=.bool true)∧(L 6=true→v 6=.bool true)∧(L 7=true→v 7=.bool true)∧(L 8=true→v 8=.slice (some ⟨b1,o1,none⟩) (m+1) cap)∧(L 9=true→v 9=.slice (some ⟨b1,o1,none⟩) (m+1) cap)∧(L 10=true→v 10=.int .i64 ((m+1:Nat):Int))∧(L 11=true→v 11=.int .i64 (m:Int))∧(L 12=true→v 12=.pointer (some ⟨b1,o1+m * 10,none⟩))∧(L 13=true→v 13=.pointer (some ⟨b1,o1+m * 10,none⟩))∧(L 14=true→v 14=.int .i64 u.kind)∧(L 15=true→v 15=.pointer (some ⟨w.heap.size,0,none⟩))∧(L 16=true→v 16=.int .i64 t.kind)∧(L 17=true→v 17=.bool (u.kind == t.kind))∧(L 18=true→v 18=.bool (u.kind == t.kind))∧(L 19=true→v 19=.bool (u.kind == t.kind)))
       ?_ ?_ ?_
     · exact ⟨(Below.refl _ _).drew,by simp,by simp,by simp,by simp,by simp,by simp,by simp,by simp,by simp,by simp,by simp,by simp,by simp,by simp,by simp,by simp,by simp,by simp,by simp,by simp⟩
     · intro i hi9 L v w9 xa hI hL hd hv ho
       have hi':i=0 ∨ i=1 ∨ i=2 ∨ i=3 ∨ i=4 ∨ i=5 ∨ i=6 ∨ i=7 ∨ i=8 ∨ i=9 ∨ i=10 ∨ i=11 ∨ i=12 ∨ i=13 ∨ i=14 ∨ i=15 ∨ i=16 ∨ i=17 ∨ i=18 ∨ i=19:=by simp at hi9;omega
       obtain ⟨hb,q0,q1,q2,q3,q4,q5,q6,q7,q8,q9,q10,q11,q12,q13,q14,q15,q16,q17,q18,q19⟩:=hI
       rcases hi' with rfl | rfl | rfl | rfl | rfl | rfl | rfl | rfl | rfl | rfl | rfl | rfl | rfl | rfl | rfl | rfl | rfl | rfl | rfl | rfl
       · have e3:xa.tmps.getD 3 undef=.pointer (some ⟨w.heap.size,0,none⟩):=ho 3 (by kernel_rfl)
         refine Ri.step_plain rfl rfl (fun K' hK=>?_)
         refine wp_load_row _ _ rfl _ e3 _ _ _ _ (keep_blk hb Z0.out) Tryd.underlying37 rfl (by kernel_rfl) ?_
         exact hK _ _ ⟨_,_,rfl,rfl,hb,fun _=>rfl,q1,q2,q3,q4,q5,q6,q7,q8,q9,q10,q11,q12,q13,q14,q15,q16,q17,q18,q19⟩
       · have l0:L 0=true:=by have:=hd _ rfl;simp [Region.binds] at this;simp [this]
         have f0:=(hv 0 5 rfl l0).trans (q0 l0)
         refine Ri.step_plain rfl rfl (fun K' hK=>?_)
         go_simp
         refine (HA.out w9).mono ?_
         rintro e w8 ⟨rfl,hb8⟩
         exact hK _ _ ⟨_,_,rfl,rfl,hb.trans (hb8.mono hb.size),q0,fun _=>rfl,q2,q3,q4,q5,q6,q7,q8,q9,q10,q11,q12,q13,q14,q15,q16,q17,q18,q19⟩
       · have l0:L 1=true:=by have:=hd _ rfl;simp [Region.binds] at this;simp [this]
         have f1:=(hv 1 6 rfl l0).trans (q1 l0)
         refine Ri.step_plain rfl rfl (fun K' hK=>?_)
         go_simp
         exact hK _ _ ⟨_,_,rfl,rfl,hb,q0,q1,fun _=>rfl,q3,q4,q5,q6,q7,q8,q9,q10,q11,q12,q13,q14,q15,q16,q17,q18,q19⟩
       · have l0:L 2=true:=by have:=hd _ rfl;simp [Region.binds] at this;simp [this]
         have f2:=(hv 2 7 rfl l0).trans (q2 l0)
         have e0:xa.tmps.getD 0 undef=.slice (some ⟨b1,o1,none⟩) (m+1) cap:=ho 0 (by kernel_rfl)
         refine Ri.step_wanted (b:=true) rfl rfl rfl f2 (fun K' hK=>?_)
         go_simp
         exact hK _ _ ⟨_,_,rfl,rfl,hb,q0,q1,q2,fun _=>rfl,q4,q5,q6,q7,q8,q9,q10,q11,q12,q13,q14,q15,q16,q17,q18,q19⟩
       · have l0:L 2=true∧L 3=true:=by have:=hd _ rfl;simp [Region.binds] at this;simp [this]
         have f2:=(hv 2 7 rfl l0.1).trans (q2 l0.1)
         have f3:=(hv 3 8 rfl l0.2).trans (q3 l0.2)
         refine Ri.step_wanted (b:=true) rfl rfl rfl f2 (fun K' hK=>?_)
         go_simp
         exact hK _ _ ⟨_,_,rfl,rfl,hb,q0,q1,q2,q3,fun _=>rfl,q5,q6,q7,q8,q9,q10,q11,q12,q13,q14,q15,q16,q17,q18,q19⟩
       · have l0:L 2=true∧L 4=true:=by have:=hd _ rfl;simp [Region.binds] at this;simp [this]
         have f2:=(hv 2 7 rfl l0.1).trans (q2 l0.1)
         have f4:=(hv 4 9 rfl l0.2).trans (q4 l0.2)
         refine Ri.step_wanted (b:=true) rfl rfl rfl f2 (fun K' hK=>?_)
         go_simp
         exact hK _ _ ⟨_,_,rfl,rfl,hb,q0,q1,q2,q3,q4,fun _=>rfl,q6,q7,q8,q9,q10,q11,q12,q13,q14,q15,q16,q17,q18,q19⟩
       · have l0:L 2=true∧L 5=true:=by have:=hd _ rfl;simp [Region.binds] at this;simp [this]
         have f2:=(hv 2 7 rfl l0.1).trans (q2 l0.1)
         have f5:=(hv 5 10 rfl l0.2).trans (q5 l0.2)
         refine Ri.step_plain rfl rfl (fun K' hK=>?_)
         go_simp
         exact hK _ _ ⟨_,_,rfl,rfl,hb,q0,q1,q2,q3,q4,q5,fun _=>rfl,q7,q8,q9,q10,q11,q12,q13,q14,q15,q16,q17,q18,q19⟩
       · have l0:L 6=true:=by have:=hd _ rfl;simp [Region.binds] at this;simp [this]
         have f6:=(hv 6 11 rfl l0).trans (q6 l0)
         refine Ri.step_plain rfl rfl (fun K' hK=>?_)
         go_simp
         exact hK _ _ ⟨_,_,rfl,rfl,hb,q0,q1,q2,q3,q4,q5,q6,fun _=>rfl,q8,q9,q10,q11,q12,q13,q14,q15,q16,q17,q18,q19⟩
       · have l0:L 7=true:=by have:=hd _ rfl;simp [Region.binds] at this;simp [this]
         have f7:=(hv 7 12 rfl l0).trans (q7 l0)
         have e0:xa.tmps.getD 0 undef=.slice (some ⟨b1,o1,none⟩) (m+1) cap:=ho 0 (by kernel_rfl)
         refine Ri.step_wanted (b:=true) rfl rfl rfl f7 (fun K' hK=>?_)
         go_simp
         exact hK _ _ ⟨_,_,rfl,rfl,hb,q0,q1,q2,q3,q4,q5,q6,q7,fun _=>rfl,q9,q10,q11,q12,q13,q14,q15,q16,q17,q18,q19⟩
       · have l0:L 7=true:=by have:=hd _ rfl;simp [Region.binds] at this;simp [this]
         have f7:=(hv 7 12 rfl l0).trans (q7 l0)
         have e0:xa.tmps.getD 0 undef=.slice (some ⟨b1,o1,none⟩) (m+1) cap:=ho 0 (by kernel_rfl)
         refine Ri.step_wanted (b:=true) rfl rfl rfl f7 (fun K' hK=>?_)
         go_simp
         exact hK _ _ ⟨_,_,rfl,rfl,hb,q0,q1,q2,q3,q4,q5,q6,q7,q8,fun _=>rfl,q10,q11,q12,q13,q14,q15,q16,q17,q18,q19⟩
       · have l0:L 7=true∧L 9=true:=by have:=hd _ rfl;simp [Region.binds] at this;simp [this]
         have f7:=(hv 7 12 rfl l0.1).trans (q7 l0.1)
         have f9:=(hv 9 14 rfl l0.2).trans (q9 l0.2)
         refine Ri.step_wanted (b:=true) rfl rfl rfl f7 (fun K' hK=>?_)
         go_simp
         exact hK _ _ ⟨_,_,rfl,rfl,hb,q0,q1,q2,q3,q4,q5,q6,q7,q8,q9,fun _=>rfl,q11,q12,q13,q14,q15,q16,q17,q18,q19⟩
       · have l0:L 7=true∧L 10=true:=by have:=hd _ rfl;simp [Region.binds] at this;simp [this]
         have f7:=(hv 7 12 rfl l0.1).trans (q7 l0.1)
         have f10:=(hv 10 15 rfl l0.2).trans (q10 l0.2)
         refine Ri.step_wanted (b:=true) rfl rfl rfl f7 (fun K' hK=>?_)
         go_simp
         exact hK _ _ ⟨_,_,rfl,rfl,hb,q0,q1,q2,q3,q4,q5,q6,q7,q8,q9,q10,fun _=>rfl,q12,q13,q14,q15,q16,q17,q18,q19⟩
       · have l0:L 7=true∧L 8=true∧L 11=true:=by have:=hd _ rfl;simp [Region.binds] at this;simp [this]
         have f7:=(hv 7 12 rfl l0.1).trans (q7 l0.1)
         have f8:=(hv 8 13 rfl l0.2.1).trans (q8 l0.2.1)
         have f11:=(hv 11 16 rfl l0.2.2).trans (q11 l0.2.2)
         refine Ri.step_wanted (b:=true) rfl rfl rfl f7 (fun K' hK=>?_)
         go_simp
         exact hK _ _ ⟨_,_,rfl,rfl,hb,q0,q1,q2,q3,q4,q5,q6,q7,q8,q9,q10,q11,fun _=>rfl,q13,q14,q15,q16,q17,q18,q19⟩
       · have l0:L 7=true∧L 12=true:=by have:=hd _ rfl;simp [Region.binds] at this;simp [this]
         have f7:=(hv 7 12 rfl l0.1).trans (q7 l0.1)
         have f12:=(hv 12 17 rfl l0.2).trans (q12 l0.2)
         refine Ri.step_wanted (b:=true) rfl rfl rfl f7 (fun K' hK=>?_)
         go_simp
         exact hK _ _ ⟨_,_,rfl,rfl,hb,q0,q1,q2,q3,q4,q5,q6,q7,q8,q9,q10,q11,q12,fun _=>rfl,q14,q15,q16,q17,q18,q19⟩
       · have l0:L 7=true∧L 13=true:=by have:=hd _ rfl;simp [Region.binds] at this;simp [this]
         have f7:=(hv 7 12 rfl l0.1).trans (q7 l0.1)
         have f13:=(hv 13 18 rfl l0.2).trans (q13 l0.2)
         refine Ri.step_wanted (b:=true) rfl rfl rfl f7 (fun K' hK=>?_)
         obtain ⟨d0,-⟩:=T1.out.keep (hb.block _ LT1.out)
         go_simp
         exact hK _ _ ⟨_,_,rfl,rfl,hb,q0,q1,q2,q3,q4,q5,q6,q7,q8,q9,q10,q11,q12,q13,fun _=>rfl,q15,q16,q17,q18,q19⟩
       · have l0:L 7=true:=by have:=hd _ rfl;simp [Region.binds] at this;simp [this]
         have f7:=(hv 7 12 rfl l0).trans (q7 l0)
         have e3:xa.tmps.getD 3 undef=.pointer (some ⟨w.heap.size,0,none⟩):=ho 3 (by kernel_rfl)
         refine Ri.step_wanted (b:=true) rfl rfl rfl f7 (fun K' hK=>?_)
         go_simp
         exact hK _ _ ⟨_,_,rfl,rfl,hb,q0,q1,q2,q3,q4,q5,q6,q7,q8,q9,q10,q11,q12,q13,q14,fun _=>rfl,q16,q17,q18,q19⟩
       · have l0:L 7=true∧L 15=true:=by have:=hd _ rfl;simp [Region.binds] at this;simp [this]
         have f7:=(hv 7 12 rfl l0.1).trans (q7 l0.1)
         have f15:=(hv 15 20 rfl l0.2).trans (q15 l0.2)
         refine Ri.step_wanted (b:=true) rfl rfl rfl f7 (fun K' hK=>?_)
         obtain ⟨d0,-⟩:=allTen (keep_blk hb Z0.out)
         go_simp
         exact hK _ _ ⟨_,_,rfl,rfl,hb,q0,q1,q2,q3,q4,q5,q6,q7,q8,q9,q10,q11,q12,q13,q14,q15,fun _=>rfl,q17,q18,q19⟩
       · have l0:L 7=true∧L 14=true∧L 16=true:=by have:=hd _ rfl;simp [Region.binds] at this;simp [this]
         have f7:=(hv 7 12 rfl l0.1).trans (q7 l0.1)
         have f14:=(hv 14 19 rfl l0.2.1).trans (q14 l0.2.1)
         have f16:=(hv 16 21 rfl l0.2.2).trans (q16 l0.2.2)
         refine Ri.step_wanted (b:=true) rfl rfl rfl f7 (fun K' hK=>?_)
         go_simp
         exact hK _ _ ⟨_,_,rfl,rfl,hb,q0,q1,q2,q3,q4,q5,q6,q7,q8,q9,q10,q11,q12,q13,q14,q15,q16,fun _=>rfl,q18,q19⟩
       · have l0:L 7=true∧L 17=true:=by have:=hd _ rfl;simp [Region.binds] at this;simp [this]
         have f7:=(hv 7 12 rfl l0.1).trans (q7 l0.1)
         have f17:=(hv 17 22 rfl l0.2).trans (q17 l0.2)
         refine Ri.step_plain rfl rfl (fun K' hK=>?_)
         go_simp
         exact hK _ _ ⟨_,_,rfl,rfl,hb,q0,q1,q2,q3,q4,q5,q6,q7,q8,q9,q10,q11,q12,q13,q14,q15,q16,q17,fun _=>rfl,q19⟩
       · have l0:L 18=true:=by have:=hd _ rfl;simp [Region.binds] at this;simp [this]
         have f18:=(hv 18 23 rfl l0).trans (q18 l0)
         refine Ri.step_plain rfl rfl (fun K' hK=>?_)
         go_simp
         exact hK _ _ ⟨_,_,rfl,rfl,hb,q0,q1,q2,q3,q4,q5,q6,q7,q8,q9,q10,q11,q12,q13,q14,q15,q16,q17,q18,fun _=>rfl⟩
     · rintro v w9 ⟨hb,-,-,-,-,-,-,-,-,-,-,-,-,-,-,-,-,-,-,-,q19⟩
       have q19':v 19=.bool (u.kind == t.kind):=q19 rfl
       simp only [Ri.frame,List.zipIdx,List.foldl_cons,List.foldl_nil,if_true,List.setIfInBounds_toArray,List.set_cons_zero,List.set_cons_succ,Nat.reduceAdd,q19']
       clear q19 q19'
       generalize v 0=y0;generalize v 1=y1;generalize v 2=y2;generalize v 3=y3;generalize v 4=y4;generalize v 5=y5;generalize v 6=y6;generalize v 7=y7;generalize v 8=y8;generalize v 9=y9;generalize v 10=y10;generalize v 11=y11;generalize v 12=y12;generalize v 13=y13;generalize v 14=y14;generalize v 15=y15;generalize v 16=y16;generalize v 17=y17;generalize v 18=y18
       go_wp2
       go_ret
       exact ⟨rfl,HW.out.trans (hb.mono HW.out.size)⟩
end Go.Proofs.YtllfgppjobinnaaDoor
namespace Go.Proofs.YtllfgppjobinnaaDoor
open Go.RowKit
theorem Tr.seqL_take (l:List Tr) (m:Nat) (x:Tr) (h:l[m]? = some x):Tr.seqL (l.take (m+1))=Tr.sStep (Tr.seqL (l.take m)) x:=by
 unfold Tr.seqL
 rw [List.take_add_one,h,Option.toList_some,Tr.fold_snoc]
theorem Tr.seqL_le (l:List Tr) (m:Nat):(Tr.seqL (l.take m)).length ≤ m:=Nat.le_trans (Tr.seqL_sub _).length_le (by rw [List.length_take];omega)
theorem Tr.open_form {k:Int} {fs:List Tr} (h:∀ u,u ∈ fs→u.InForm):∀ u,u ∈ Tr.openL k fs→u.InForm:=by
 intro u hu
 obtain ⟨t,ht,⟨e,hm⟩ | ⟨e,rfl⟩⟩:=Tr.openL_mem hu
 · exact (h t ht).sub hm
 · exact h u ht
theorem Tr.InForm.some56 {t:Tr} (h:t.InForm) (hk:t.kind=5 ∨ t.kind=6):t.subs ≠ []:=by
 have hf:=h.fields
 unfold Tr.fieldsOk at hf
 intro e
 have hl:t.subs.length=0:=by rw [e];rfl
 omega
theorem Tr.take_none {l:List Tr} {m:Nat} {x:Tr} (h:l[m]? = some x) (hm:∀ u,u ∈ l.take m→Tr.isNone u=false) (hx:Tr.isNone x=false):∀ u,u ∈ l.take (m+1)→Tr.isNone u=false:=by
 intro u hu
 rw [List.take_add_one,h,Option.toList_some] at hu
 rcases List.mem_append.1 hu with hu | hu
 · exact hm u hu
 · rw [List.mem_singleton.1 hu];exact hx
theorem nmseq_any (fs:List Tr) (hf:∀ u,u ∈ fs→u.InForm) (hN:(Tr.openL 5 fs).length ≤ 1000000) (w:World) (B:Nat→Prop) (v:Value) (hs:TreesAt w B v fs) :
   Calls Tryd.prog 159 #[v] w (OwnEnd (Tr.seqF fs) w):=by
 obtain ⟨p,cap,rfl,hlen⟩:=hs.slice
 obtain ⟨ie,hi0,hz0,hz1,hz2⟩:=info_parts Tryd.infoNode
 have HI:=Lib.hid hi0;have HZ0:=Lib.hid hz0;have HZ1:=Lib.hid hz1;have HZ2:=Lib.hid hz2
 have HOP:=Lib.hid (fun w9 (hb:Below w.heap.size w w9)=>nmopened_any 5 fs (fun t ht hk=>(hf t ht).some56 (.inl hk)) hN w9 B _ (hs.later hb))
 have HF:=Lib.hid (Tr.open_form (k:=5) hf)
 have hE:Tr.seqF fs=if (Tr.openL 5 fs).any Tr.isNone=true then Tr.noneT else Tr.several 5 (Tr.seqL (Tr.openL 5 fs)):=rfl
 generalize Tr.seqF fs=R at *
 generalize Tr.openL 5 fs=L at *
 have HE:=Lib.hid hE;have HN:=Lib.hid hN
 clear hi0 hz0 hz1 hz2 hs hf hE hN
 go_enter Tryd.func159,Tryd.ntmps159
 go_wp2_with fail
 have z0:=heap_alloc_new w (.cells noNode 37)
 have hb0:Below w.heap.size w (w.alloc (.cells noNode 37)):=(Below.refl _ _).alloc (Nat.le_refl _) _
 have hs0:(w.alloc (.cells noNode 37)).heap.size=w.heap.size+1:=by simp
 have Z0:=Lib.hid z0;have HB0:=Lib.hid hb0;have HS0:=Lib.hid hs0
 clear z0 hb0 hs0
 generalize w.alloc _=W0 at *
 refine (HOP.out W0 HB0.out).mono ?_
 rintro e w1 ⟨vL,pL,rfl,hRL,hPL,hb1⟩
 have hLT:=hRL.trees (by rw [len_fst hPL];have:=HN.out;omega)
 rw [hPL] at hLT
 obtain ⟨p2,c2,rfl,hl2⟩:=hLT.slice
 have HL:=Lib.hid hLT
 have ZR:=Lib.hid (keep_blk hb1 Z0.out)
 have HB1:=Lib.hid (HB0.out.trans (hb1.mono HB0.out.size))
 have HS1:=Lib.hid (show w.heap.size < w1.heap.size from by have:=hb1.size;have:=HS0.out;omega)
 clear hRL hPL hLT hb1 HOP Z0 HB0 HS0
 go_wp2
 go_loopw [9,3] (fun iv sv wr=>∃ (m:Nat) (ps:List (Tr × Value)),iv=.int .i64 m∧m ≤ L.length∧Hid (∀ u,u ∈ L.take m→Tr.isNone u=false)∧Hid (ps.map (·.1)=Tr.seqL (L.take m))∧Hid (RowIs w1.heap.size wr sv ps)∧Hid (Below w1.heap.size w1 wr)) (fun iv _ _=>L.length - (intOf iv).toNat)
 case atStart=>exact ⟨0,[],rfl,Nat.zero_le _,Lib.hid (by simp),Lib.hid rfl,Lib.hid (RowIs.nil _ _),Lib.hid (Below.refl _ _)⟩
 case round =>
   obtain ⟨m,ps,rfl,hm,HNO,HP,HR,HB⟩:=hrel
   have hN:=HN.out
   have wm:IntKind.i64.wrap ((m:Int)+1)=(m:Int)+1:=IntWalk.i64_in _ (by omega)
   by_cases hlt:m < L.length
   · obtain ⟨x,hx⟩:∃ x,L[m]? = some x:=⟨_,List.getElem?_eq_getElem hlt⟩
     obtain ⟨b1,o1,s1,rfl,hB1,t1,sub1⟩:=HL.out.get hx
     obtain ⟨d0,d1,d2,d3,d4,d5,d6,d7,d8,d9⟩:=t1.keep (HB.out.block _ t1.lt)
     obtain ⟨p1,c1,rfl,hl1⟩:=sub1.slice
     have HSUB:=Lib.hid sub1
     have HST:=Lib.hid (Tr.seqL_take L m x hx)
     have HTN:=Lib.hid (Tr.take_none hx HNO.out)
     have HXF:=Lib.hid (HF.out x (List.mem_of_getElem? hx))
     have HMEM:=Lib.hid (List.mem_of_getElem? hx)
     have hpl:Hid (ps.length ≤ m):=Lib.hid (by rw [len_fst HP.out];exact Tr.seqL_le L m)
     have Z1:=Lib.hid (heap_alloc_new wr (.cells (x.cells (.slice p1 x.subs.length c1)) 37))
     have HBA:=Lib.hid ((Below.refl wr.heap.size wr).alloc (Nat.le_refl _) (.cells (x.cells (.slice p1 x.subs.length c1)) 37))
     clear t1 sub1 hx hB1
     have HNT:=Lib.hid (fun w9=>nmnothing_is x p1 x.subs.length c1 w9)
     have HSA:=Lib.hid (fun w9 acc B9 sv9 (h9:TreesAt w9 B9 sv9 acc)=>nmsaid_any acc x p1 x.subs.length c1 w9 B9 sv9 h9)
     unfold Tr.cells at Z1 HBA HNT HSA
     go_upto_region 5 with (fail)
     generalize hw1:wr.alloc _=w2 at *
     clear hw1 d0 d1 d2 d3 d4 d5 d6 d7 d8 d9
     go_wp2_with (first
       | (refine wpList_load_row rfl 37 (.tmp 5) rfl wr.heap.size rfl 37 _ (0,0) _ Z1.out Tryd.underlying37 rfl (by kernel_rfl) ?_)
       | fail)
     refine (HNT.out w2).mono ?_
     rintro e w3 ⟨rfl,hb3⟩
     have HB3:=Lib.hid (HBA.out.trans (hb3.mono HBA.out.size))
     have Z3:=Lib.hid (keep_blk hb3 Z1.out)
     have HB13:=Lib.hid (HB.out.trans (HB3.out.mono HB.out.size))
     have HR3:=Lib.hid (HR.out.below HB3.out)
     clear hb3 Z1 HBA HNT HR
     cases hnn:x.isNone with
     | true =>
       have HR1:Hid (R=x):=Lib.hid (by
         rw [HE.out,if_pos (List.any_eq_true.2 ⟨x,HMEM.out,hnn⟩)]
         exact (Tr.isNone_eq HXF.out.fields hnn).symm)
       have HSE:Hid (x.subs=[]):=Lib.hid (by rw [Tr.isNone_eq HXF.out.fields hnn];rfl)
       have ZR3:=Lib.hid (keep_blk (HB13.out.mono (Nat.le_refl _)) ZR.out)
       clear hnn HSA HST HTN
       go_wp2_with (first
         | (refine wpList_load_row rfl 37 (.tmp 5) rfl wr.heap.size rfl 37 _ (0,0) _ Z3.out Tryd.underlying37 rfl (by kernel_rfl) ?_)
         | (refine wpList_store_row rfl 37 (.tmp 2) (.tmp 15) rfl w.heap.size #[.int .i64 x.kind,.int .u64 (Oc.U x.w0),.int .u64 (Oc.U x.w1),.int .u64 (Oc.U x.w2),.int .u64 (Oc.U x.w3),.slice p1 x.subs.length c1,.int .i64 x.num,.int .i64 x.least,.int .i64 x.most,.bool x.bare] rfl rfl 37 _ ZR3.out (by kernel_rfl) rfl (by simp [Value.oneCell']) ?_)
         | fail)
       refine bodyPost_ret (results_cell_row rfl _ _ w.heap.size 37 #[.int .i64 x.kind,.int .u64 (Oc.U x.w0),.int .u64 (Oc.U x.w1),.int .u64 (Oc.U x.w2),.int .u64 (Oc.U x.w3),.slice p1 x.subs.length c1,.int .i64 x.num,.int .i64 x.least,.int .i64 x.most,.bool x.bare] (0,0) _ rfl (heap_setRow ZR3.out) Tryd.underlying37 rfl (by kernel_rfl)) rfl ⟨.slice p1 x.subs.length c1,[], ?_, ?_, ?_, ?_⟩
       · rw [HR1.out];rfl
       · rw [HR1.out,HSE.out];exact .nil _ _
       · intro b hb;cases hb
       · exact below_setRow (HB1.out.trans (HB13.out.mono HB1.out.size)) (Nat.le_refl _) _
     | false =>
       have HTN1:=Lib.hid (HTN.out hnn)
       have HX0:=Lib.hid (show TreesAt w1 (fun b=>b < w1.heap.size) (.slice p1 x.subs.length c1) x.subs from HSUB.out)
       have hslt:Hid (∀ k,u3.ownBlock=some k→w1.heap.size ≤ k):=Lib.hid fun k e=>(HR3.out.lt k e).1
       obtain ⟨q0,q1,q2,q3,q4,q5,q6,q7,q8,q9⟩:=allTen Z3.out
       clear hnn HTN
       by_cases hk1:x.kind=1
       · have HSQ:Hid (Tr.seqL (L.take (m+1))=Tr.seqL (L.take m)):=Lib.hid (by rw [HST.out];unfold Tr.sStep;rw [if_neg (by omega)])
         have ek:(x.kind != 1)=false:=by simp [hk1]
         clear hk1 HSA HST
         go_wp2_with fail
         refine ⟨⟨m+1,ps,by go_num,by omega,HTN1,Lib.hid (by rw [HP.out,HSQ.out]),HR3,HB13⟩,by simp [intOf];omega⟩
       · have ek:(x.kind != 1)=true:=by simpa using hk1
         have hK1:=Lib.hid hk1
         clear hk1
         have HTT:=Lib.hid (by have h9:=HR3.out.trees (by have:=hpl.out;omega);rw [HP.out] at h9;exact h9)
         have HSC:=Lib.hid (HSA.out w3 _ _ _ HTT.out)
         clear HSA HTT
         go_wp2_with fail
         refine HSC.out.mono ?_
         rintro e w4 ⟨rfl,hb4⟩
         have HB4:=Lib.hid (HB13.out.trans (hb4.mono HB13.out.size))
         have Z4:=Lib.hid (keep_blk hb4 Z3.out)
         have HR4:=Lib.hid (HR3.out.below hb4)
         clear hb4 HSC q0 q1 q2 q3 q4 q5 q6 q7 q8 q9
         cases hag:Tr.again (Tr.seqL (L.take m)) x with
         | true =>
           have HSQ:Hid (Tr.seqL (L.take (m+1))=Tr.seqL (L.take m)):=Lib.hid (by rw [HST.out];unfold Tr.sStep;rw [if_neg (by rw [hag];simp)])
           clear hag HST
           go_wp2_with fail
           refine ⟨⟨m+1,ps,by go_num,by omega,HTN1,Lib.hid (by rw [HP.out,HSQ.out]),HR4,HB4⟩,by simp [intOf];omega⟩
         | false =>
           have HSQ:Hid (Tr.seqL (L.take (m+1))=Tr.seqL (L.take m) ++ [x]):=Lib.hid (by rw [HST.out];unfold Tr.sStep;rw [if_pos ⟨hK1.out,hag⟩])
           have HOWN2:=Lib.hid (HR4.out.1.alloc (.cells (x.cells (.slice p1 x.subs.length c1)) 37))
           have HNW:=Lib.hid (news_one w4 x p1 x.subs.length c1 37)
           have HBA:Hid (w1.heap.size ≤ (w4.alloc (.cells (x.cells (.slice p1 x.subs.length c1)) 37)).heap.size):=Lib.hid (by have:=HB4.out.size;simp;omega)
           have htot:Hid (ps.length+1 ≤ 1000000):=Lib.hid (by have:=hpl.out;omega)
           have hml:ps.length+1 ≤ maxLen:=by have:=htot.out;unfold maxLen;omega
           have hbyt:(ps.length+1) * 96 ≤ 140737488355328:=by have:=htot.out;omega
           clear hag HST
           go_wp2_with (first
             | (refine wpList_load_row rfl 37 (.tmp 5) rfl wr.heap.size rfl 37 _ (0,0) _ Z4.out Tryd.underlying37 rfl (by kernel_rfl) ?_)
             | (refine wpList_node1 rfl (.tmp 26) x p1 x.subs.length c1 rfl rfl ?_)
             | (refine wpList_append_fresh _ rfl (.tmp 25) (.tmp 27) 35 rfl w1.heap.size 37 ie _ 10 96 Tryd.underlying35 HI.out HZ0.out HZ1.out HZ2.out rfl (by decide) _ _ _ rfl HOWN2.out ⟨w4.heap.size,0,none⟩ 1 1 (x.cells (.slice p1 x.subs.length c1)).toList rfl rfl HNW.out (nodeC_one _ _ _ _) (by decide) hml hbyt HBA.out ?_;intro v' w5 hown5 hgrow5 hwhere)
             | fail)
           have HG5:=Lib.hid hgrow5;have HW5:=Lib.hid hwhere
           have HSB:Hid (TreesAt w4 (fun b=>u3.ownBlock ≠ some b) (.slice p1 x.subs.length c1) x.subs):=Lib.hid ((HX0.out.keep (w':=w4) fun b hb1 hb2=>HB4.out.block b hb1).mono fun b hb1 hb2 e=>by have:=hslt.out b e;omega)
           have HR5:=Lib.hid (HR4.out.app (Below.refl w4.heap.size w4) HSB.out hown5 HG5.out HW5.out)
           have hb6:Below w4.heap.size w4 (w4.alloc (.cells (x.cells (.slice p1 x.subs.length c1)) 37)):=(Below.refl w4.heap.size w4).alloc (Nat.le_refl _) _
           have HB5:=Lib.hid ((HB4.out.trans (hb6.mono HB4.out.size)).grown HG5.out HBA.out hslt.out)
           refine ⟨⟨m+1,ps ++ [(x,.slice p1 x.subs.length c1)],by go_num,by omega,HTN1,Lib.hid (by rw [List.map_append,HP.out,HSQ.out];rfl),HR5,HB5⟩,by simp [intOf];omega⟩
   · obtain rfl:m=L.length:=by omega
     have HTT:=Lib.hid (by have h9:=HR.out.trees (by rw [len_fst HP.out];have:=Tr.seqL_le L L.length;omega);rw [HP.out,List.take_length] at h9;exact h9)
     have HSQ:=Lib.hid (fun w9 (hb:Below wr.heap.size wr w9)=>seq_any (Tr.seqL L) w9 _ _ (HTT.out.later hb))
     have hRE:R=Tr.several 5 (Tr.seqL L):=by
       rw [HE.out,if_neg]
       intro h
       obtain ⟨u,hu,hn⟩:=List.any_eq_true.1 h
       have h9:=HNO.out u (by rw [List.take_length];exact hu)
       rw [h9] at hn;cases hn
     rw [← hRE] at HSQ
     have ZR3:=Lib.hid (keep_blk (HB.out.mono (Nat.le_refl _)) ZR.out)
     clear HTT hRE HNO HE
     go_wp2_with fail
     refine (HSQ.out wr (Below.refl _ _)).mono ?_
     rintro e w2 ⟨s2,F,rfl,ho,hF,hb2⟩
     obtain ⟨p3,c3,rfl,hl3⟩:=ho.slice
     have HO:=Lib.hid ho;have HF2:=Lib.hid hF
     have Y0:=Lib.hid (keep_blk hb2 ZR3.out)
     have HB2:=Lib.hid ((HB1.out.trans (HB.out.mono HB1.out.size)).trans (hb2.mono (Nat.le_trans HB1.out.size HB.out.size)))
     have HSZ:=Lib.hid (show w.heap.size < wr.heap.size from Nat.lt_of_lt_of_le HS1.out HB.out.size)
     clear ho hF hb2 ZR3 HSQ
     unfold Tr.cells
     go_wp2_with (first
       | (refine wpList_store_row rfl 37 (.tmp 2) (.tmp 31) rfl w.heap.size #[.int .i64 R.kind,.int .u64 (Oc.U R.w0),.int .u64 (Oc.U R.w1),.int .u64 (Oc.U R.w2),.int .u64 (Oc.U R.w3),.slice p3 R.subs.length c3,.int .i64 R.num,.int .i64 R.least,.int .i64 R.most,.bool R.bare] rfl rfl 37 _ Y0.out (by kernel_rfl) rfl (by simp [Value.oneCell']) ?_)
       | fail)
     refine bodyPost_ret (results_cell_row rfl _ _ w.heap.size 37 #[.int .i64 R.kind,.int .u64 (Oc.U R.w0),.int .u64 (Oc.U R.w1),.int .u64 (Oc.U R.w2),.int .u64 (Oc.U R.w3),.slice p3 R.subs.length c3,.int .i64 R.num,.int .i64 R.least,.int .i64 R.most,.bool R.bare] (0,0) _ rfl (heap_setRow Y0.out) Tryd.underlying37 rfl (by kernel_rfl)) rfl ⟨.slice p3 R.subs.length c3,F,rfl, ?_, ?_, ?_⟩
     · exact HO.out.keep fun b hb=>by have:=HF2.out b hb;have:=HSZ.out;rw [heap_setRow_other _ _ _ (by omega)]
     · intro b hb;have:=HF2.out b hb;have:=HSZ.out;omega
     · exact below_setRow HB2.out (Nat.le_refl _) _
end Go.Proofs.YtllfgppjobinnaaDoor
namespace Go.Proofs.YtllfgppjobinnaaDoor
open Go.RowKit
theorem clear_nodes (n:Nat) (hn:0 < n):∃ ZS:List Value,ZS.length=n * 10∧∀ (w:World) (b o c:Nat) (ty:TypeId),w.there b o (n * 10)→(Builtin.clear_ #[35] ty #[.slice (some ⟨b,o,none⟩) n c]).run Tryd.prog w=.ok (.tuple #[]) (w.setCells b o ZS):=by
 have hv:∀ w,(zeroValue 37).run Tryd.prog w=.ok (.agg noNode) w:=fun w=>by kernel_rfl
 refine ⟨(Builtin.zeroCells noNode n).toList,by simp [Builtin.zeroCells],fun w b o c ty hth=>?_⟩
 have hl:(Builtin.zeroCells noNode n).toList.length=n * 10:=by simp [Builtin.zeroCells]
 have h1:∀ v ∈ (Builtin.zeroCells noNode n).toList,v.oneCell'=true:=by
   intro v hv
   simp only [Builtin.zeroCells,Array.toList_map,List.mem_map] at hv
   obtain ⟨i,-,rfl⟩:=hv
   have h10:i % noNode.size < 10:=Nat.mod_lt _ (by decide)
   generalize i % noNode.size=k at *
   have h11:k=0 ∨ k=1 ∨ k=2 ∨ k=3 ∨ k=4 ∨ k=5 ∨ k=6 ∨ k=7 ∨ k=8 ∨ k=9:=by omega
   rcases h11 with rfl | rfl | rfl | rfl | rfl | rfl | rfl | rfl | rfl | rfl <;> rfl
 have hst:=run_storeCells_cells (P:=Tryd.prog) b o (Builtin.zeroCells noNode n).toList 0 w (by rw [hl];intro j hj;exact (hth j hj).1) (by rw [hl];intro j hj;exact (hth j hj).2) h1
 simp only [Nat.add_zero] at hst
 have hzc:(Builtin.zeroCells (Value.agg noNode).cells n).toList=(Builtin.zeroCells noNode n).toList:=rfl
 generalize (Builtin.zeroCells noNode n).toList=ZS at *
 obtain ⟨m,rfl⟩:∃ m,n=m+1:=⟨n - 1,by omega⟩
 simp [Builtin.clear_,run_underlying Tryd.underlying35,hv,hzc,hst]
theorem nmindex_any (ts:List Tr) (w:World) (B:Nat→Prop) (v:Value) (hs:TreesAt w B v ts) :
   Calls Tryd.prog 207 #[v,.func (.func 183) #[] #[]] w fun e w'=>∃ r:Int,e=.returned (.int .i64 r)∧Below w.heap.size w w' ∧
     ((r = -1∧∀ u,u ∈ ts→Tr.isNone u=false) ∨ ∃ (m:Nat) (x:Tr),r=m∧ts[m]? = some x∧Tr.isNone x=true∧∀ u,u ∈ ts.take m→Tr.isNone u=false):=by
 obtain ⟨p,cap,rfl,hlen⟩:=hs.slice
 have HS:=Lib.hid hs
 clear hs
 go_enter Tryd.func207,Tryd.ntmps207
 go_wp2
 go_loopw [8] (fun iv wr=>∃ m:Nat,iv=.int .i64 m∧m ≤ ts.length∧Hid (∀ u,u ∈ ts.take m→Tr.isNone u=false)∧Hid (Below w.heap.size w wr)) (fun iv _=>ts.length - (intOf iv).toNat)
 case atStart=>exact ⟨0,rfl,Nat.zero_le _,Lib.hid (by simp),Lib.hid (Below.refl _ _)⟩
 case round =>
   obtain ⟨m,rfl,hm,HNO,HB⟩:=hrel
   have wm:IntKind.i64.wrap ((m:Int)+1)=(m:Int)+1:=IntWalk.i64_in _ (by omega)
   by_cases hlt:m < ts.length
   · obtain ⟨x,hx⟩:∃ x,ts[m]? = some x:=⟨_,List.getElem?_eq_getElem hlt⟩
     obtain ⟨b1,o1,s1,rfl,-,t1,sub1⟩:=HS.out.get hx
     obtain ⟨d0,d1,d2,d3,d4,d5,d6,d7,d8,d9⟩:=t1.keep (HB.out.block _ t1.lt)
     obtain ⟨p1,c1,rfl,hl1⟩:=sub1.slice
     have HX:=Lib.hid hx
     have HTN:=Lib.hid (Tr.take_none hx HNO.out)
     have HNT:=Lib.hid (fun w9=>nmnothing_is x p1 x.subs.length c1 w9)
     clear t1 sub1 hx
     unfold Tr.cells at HNT
     go_wp2_with fail
     clear d0 d1 d2 d3 d4 d5 d6 d7 d8 d9
     refine (HNT.out wr).mono ?_
     rintro e w2 ⟨rfl,hb2⟩
     have HB2:=Lib.hid (HB.out.trans (hb2.mono HB.out.size))
     clear hb2 HNT
     cases hnn:x.isNone with
     | true =>
       have HNN:=Lib.hid hnn
       clear hnn
       go_wp2
       go_ret
       exact ⟨m,rfl,HB2.out,.inr ⟨m,x,rfl,HX.out,HNN.out,HNO.out⟩⟩
     | false =>
       have HNN:=Lib.hid (HTN.out hnn)
       clear hnn
       go_wp2
       exact ⟨⟨m+1,by go_num,by omega,HNN,HB2⟩,by simp [intOf];omega⟩
   · obtain rfl:m=ts.length:=by omega
     go_wp2
     go_ret
     exact ⟨-1,rfl,HB.out,.inl ⟨rfl,by have:=HNO.out;rwa [List.take_length] at this⟩⟩
theorem filter_none {l:List Tr} (h:∀ u,u ∈ l→Tr.isNone u=false):l.filter (fun t=>!Tr.isNone t)=l:=List.filter_eq_self.2 fun u hu=>by rw [h u hu];rfl
theorem RowIs.front {base:Nat} {w:World} {g cap:Nat} {ps:List (Tr × Value)} {n:Nat} (h:RowIs base w (.slice (some ⟨g,0,none⟩) n cap) ps) {m:Nat} (hm:m ≤ ps.length):RowIs base w (.slice (some ⟨g,0,none⟩) m cap) (ps.take m):=by
 refine ⟨⟨by rw [rowOf_length,List.length_take,Nat.min_eq_left hm], ?_⟩,fun i t s hi=>?_⟩
 · rw [List.length_take,Nat.min_eq_left hm]
   rcases h.1.2 with ⟨h1,h2⟩ | ⟨g',cap',cur,h1,hbg,hheap,hnc,hcm,hcs,htake⟩
   · cases h1
   · cases h1
     refine .inr ⟨g,cap,cur,rfl,hbg,hheap,by omega,hcm,hcs, ?_⟩
     have e:rowOf ps=rowOf (ps.take m) ++ rowOf (ps.drop m):=by rw [← rowOf_append,List.take_append_drop]
     have e2:=congrArg (fun l:List Value=>l.take (m * 10)) htake
     simp only [List.take_take] at e2
     rw [Nat.min_eq_left (by omega),e,List.take_append_of_le_length (by rw [rowOf_length,List.length_take];omega)] at e2
     rw [e2,List.take_of_length_le (by rw [rowOf_length,List.length_take];omega)]
 · rw [List.getElem?_take] at hi
   split at hi
   · exact h.2 i t s hi
   · cases hi
theorem RowIs.there {base:Nat} {w:World} {g cap n:Nat} {ps:List (Tr × Value)} (h:RowIs base w (.slice (some ⟨g,0,none⟩) n cap) ps) {o k:Nat} (hk:o+k ≤ ps.length * 10):w.there g o k:=by
 rcases h.1.2 with ⟨h1,h2⟩ | ⟨g',cap',cur,h1,hbg,hheap,hnc,hcm,hcs,htake⟩
 · cases h1
 · cases h1
   exact there_row hheap (by omega)
theorem RowIs.cleared {base:Nat} {w:World} {g cap n:Nat} {ps:List (Tr × Value)} (h:RowIs base w (.slice (some ⟨g,0,none⟩) n cap) ps) {m:Nat} (hm:m ≤ ps.length) {ZS:List Value} (hl:ZS.length=(ps.length - m) * 10):RowIs base (w.setCells g (m * 10) ZS) (.slice (some ⟨g,0,none⟩) m cap) (ps.take m):=by
 have keep:∀ (u:Tr) (r:Value),TreesAt w (fun b=>some g ≠ some b) r u.subs→TreesAt (w.setCells g (m * 10) ZS) (fun b=>some g ≠ some b) r u.subs:=fun u r hr =>
   hr.keep fun b _ hb=>heap_setCells_other (by rintro rfl;exact hb rfl) _ _ _
 have hf:=h.front hm
 refine ⟨⟨hf.1.1, ?_⟩,fun i t s hi=>keep t s (hf.2 i t s hi)⟩
 rcases hf.1.2 with ⟨h1,h2⟩ | ⟨g',cap',cur,h1,hbg,hheap,hnc,hcm,hcs,htake⟩
 · cases h1
 · rw [List.length_take,Nat.min_eq_left hm] at h1
   cases h1
   rcases h.1.2 with ⟨h1,h2⟩ | ⟨g'',cap'',cur'',h1',-,hheap',hnc',-⟩
   · cases h1
   · cases h1'
     have hh:=setCells_heap ZS (m * 10) w cur hheap
     have hroom:m * 10+ZS.length ≤ cur.size:=by rw [hl,hcs];omega
     have hget:=fun k=>(fold_set_get ZS undef (m * 10) ZS.length cur k (Nat.le_refl _) hroom).1
     have hsize:=(fold_set_get ZS undef (m * 10) ZS.length cur 0 (Nat.le_refl _) hroom).2
     refine .inr ⟨g,cap,_,by rw [List.length_take,Nat.min_eq_left hm],hbg,hh,hnc,hcm,by rw [hsize];exact hcs, ?_⟩
     rw [← htake]
     refine List.ext_getElem? fun k=>?_
     simp only [List.getElem?_take,Array.getElem?_toList]
     rw [hget k]
     split
     · rename_i hk
       rw [List.length_take,Nat.min_eq_left hm] at hk
       rw [if_neg (by omega)]
     · rfl
theorem nmdelete_any (ps0:List (Tr × Value)) (base:Nat) (w:World) (hbase:base ≤ w.heap.size) (v:Value) (hr:RowIs base w v ps0) (hN:ps0.length ≤ 1000000) :
   Calls Tryd.prog 185 #[v,.func (.func 183) #[] #[]] w fun e w'=>∃ v' ps,e=.returned v'∧RowIs base w' v' ps∧ps.map (·.1)=(ps0.map (·.1)).filter (fun t=>!Tr.isNone t)∧Below base w w':=by
 have hts:=hr.trees (by omega)
 generalize hL:ps0.map (·.1)=L at *
 have hll:L.length=ps0.length:=by rw [← hL,List.length_map]
 have HIX:=Lib.hid (nmindex_any L w _ v hts)
 obtain ⟨p,cap,rfl,hlen⟩:=hts.slice
 have HL:=Lib.hid hL;have HR:=Lib.hid hr;have HLL:=Lib.hid hll
 clear hts hL hr hll
 go_enter Tryd.func185,Tryd.ntmps185
 go_wp2_with fail
 refine HIX.out.mono ?_
 rintro e w1 ⟨r,rfl,hb1,⟨rfl,hall⟩ | ⟨k0,x0,rfl,hx0,hn0,hpre⟩⟩
 · have HALL:=Lib.hid hall;have HB1:=Lib.hid hb1
   clear hall hb1
   go_wp2
   go_ret
   exact ⟨_,ps0,rfl,HR.out.below HB1.out,by rw [filter_none HALL.out];exact HL.out,HB1.out.mono hbase⟩
 · obtain ⟨s0,hs0⟩:=split_fst HL.out hx0
   obtain ⟨g,cp,hv,hbg,hgw,hown,-⟩:=HR.out.at hs0
   rw [← HLL.out] at hv
   cases hv
   have hk0:k0 < L.length:=by
     by_cases hl:k0 < L.length
     · exact hl
     · rw [List.getElem?_eq_none (by omega)] at hx0;cases hx0
   have ek:((k0:Int) == -1)=false:=by rw [beq_eq_false_iff_ne];omega
   have wk:IntKind.i64.wrap ((k0:Int)+1)=(k0:Int)+1:=IntWalk.i64_in _ (by omega)
   have HR1:=Lib.hid (HR.out.below hb1)
   have HB1:=Lib.hid (hb1.mono hbase)
   have HST0:Hid ((ps0.take k0).map (·.1)=(L.take (k0+1)).filter (fun t=>!Tr.isNone t)):=Lib.hid (by
     rw [List.take_add_one,hx0,Option.toList_some,List.filter_append,filter_none hpre]
     have:[x0].filter (fun t=>!Tr.isNone t)=[]:=by simp [hn0]
     rw [this,List.append_nil,← HL.out,List.map_take])
   have HBG:=Lib.hid hbg
   have HCAP:Hid (L.length ≤ cap):=Lib.hid (by
     rcases HR.out.1.2 with ⟨h1,h2⟩ | ⟨g',cap',cur,h1,-,-,hnc,-⟩
     · cases h1
     · have h3:=HLL.out
       rw [← h3] at h1 hnc
       cases h1;exact hnc)
   clear hb1 hpre hn0 hx0 hs0 hgw hbg hown HIX HR
   go_wp2
   go_loopw [5,6] (fun iv jv wr=>∃ (i j:Nat) (ps:List (Tr × Value)),iv=.int .i64 i∧jv=.int .i64 j∧i < j∧j ≤ L.length∧Hid (ps.length=L.length)∧Hid (ps.drop j=ps0.drop j)∧Hid ((ps.take i).map (·.1)=(L.take j).filter (fun t=>!Tr.isNone t))∧Hid (RowIs base wr (.slice (some ⟨g,0,none⟩) L.length cap) ps)∧Hid (Below base w wr)) (fun _ jv _=>L.length - (intOf jv).toNat)
   case atStart=>exact ⟨k0,k0+1,ps0,rfl,by go_num,by omega,by omega,Lib.hid HLL.out.symm,Lib.hid rfl,HST0,HR1,HB1⟩
   case round =>
     obtain ⟨i,j,ps,rfl,rfl,hij,hjn,HPL,HPD,HPT,HR,HB⟩:=hrel
     have wj:IntKind.i64.wrap ((j:Int)+1)=(j:Int)+1:=IntWalk.i64_in _ (by omega)
     have wi:IntKind.i64.wrap ((i:Int)+1)=(i:Int)+1:=IntWalk.i64_in _ (by omega)
     by_cases hlt:j < L.length
     · obtain ⟨x,hx⟩:∃ x,L[j]? = some x:=⟨_,List.getElem?_eq_getElem hlt⟩
       obtain ⟨s1,hp0⟩:=split_fst HL.out hx
       have hpj:ps[j]? = some (x,s1):=by
         have h1:=congrArg (fun l:List (Tr × Value)=>l[0]?) HPD.out
         simp only [List.getElem?_drop,Nat.add_zero] at h1
         rw [h1,hp0]
       obtain ⟨g2,cp2,hv2,-,hgw,hown,t1⟩:=HR.out.at hpj
       cases hown
       have sub1:=HR.out.2 j x s1 hpj
       obtain ⟨p1,c1,rfl,hl1⟩:=sub1.slice
       obtain ⟨d0,d1,d2,d3,d4,d5,d6,d7,d8,d9⟩:=t1
       have HNT:=Lib.hid (fun w9=>nmnothing_is x p1 x.subs.length c1 w9)
       have Z1:=Lib.hid (heap_alloc_new wr (.cells (x.cells (.slice p1 x.subs.length c1)) 37))
       have HBA:=Lib.hid ((Below.refl wr.heap.size wr).alloc (Nat.le_refl _) (.cells (x.cells (.slice p1 x.subs.length c1)) 37))
       have HX:=Lib.hid hx;have HSUB:=Lib.hid sub1
       have HBW:Hid (base ≤ wr.heap.size):=Lib.hid (Nat.le_trans hbase HB.out.size)
       have HPD2:Hid (ps.drop (j+1)=ps0.drop (j+1)):=Lib.hid (by rw [← List.drop_drop,HPD.out,List.drop_drop])
       clear hx hp0 hpj hgw sub1 hv2
       unfold Tr.cells at HNT Z1 HBA
       go_upto_region 8 with (fail)
       generalize hw1:wr.alloc _=w2 at *
       clear hw1 d0 d1 d2 d3 d4 d5 d6 d7 d8 d9
       go_wp2_with (first
         | (refine wpList_load_row rfl 37 (.tmp 7) rfl wr.heap.size rfl 37 _ (0,0) _ Z1.out Tryd.underlying37 rfl (by kernel_rfl) ?_)
         | fail)
       refine (HNT.out w2).mono ?_
       rintro e w3 ⟨rfl,hb3⟩
       have HB3:=Lib.hid (HBA.out.trans (hb3.mono HBA.out.size))
       have Z3:=Lib.hid (keep_blk hb3 Z1.out)
       have HB13:=Lib.hid (HB.out.trans (HB3.out.mono HBW.out))
       have HR3:=Lib.hid (HR.out.below HB3.out)
       clear hb3 Z1 HBA HNT HR
       cases hnn:x.isNone with
       | true =>
         have HFT:Hid ((L.take (j+1)).filter (fun t=>!Tr.isNone t)=(L.take j).filter (fun t=>!Tr.isNone t)):=Lib.hid (by
           rw [List.take_add_one,HX.out,Option.toList_some,List.filter_append]
           have:[x].filter (fun t=>!Tr.isNone t)=[]:=by simp [hnn]
           rw [this,List.append_nil])
         clear hnn
         go_wp2
         exact ⟨⟨i,j+1,ps,rfl,by go_num,by omega,by omega,HPL,HPD2,Lib.hid (by rw [HPT.out,HFT.out]),HR3,HB13⟩,by simp [intOf];omega⟩
       | false =>
         have HFT:Hid ((L.take (j+1)).filter (fun t=>!Tr.isNone t)=(L.take j).filter (fun t=>!Tr.isNone t) ++ [x]):=Lib.hid (by
           rw [List.take_add_one,HX.out,Option.toList_some,List.filter_append]
           have:[x].filter (fun t=>!Tr.isNone t)=[x]:=by simp [hnn]
           rw [this])
         have hip:i < ps.length:=by rw [HPL.out];omega
         have HTH:=Lib.hid (HR3.out.there (o:=i * 10) (k:=10) (by omega))
         have HSB3:=Lib.hid (HSUB.out.later HB3.out)
         have HPUT:=Lib.hid (HR3.out.put (i:=i) (g:=g) rfl hip HSB3.out)
         have HTK:Hid (((ps.set i (x,.slice p1 x.subs.length c1)).take (i+1)).map (·.1)=(L.take (j+1)).filter (fun t=>!Tr.isNone t)):=Lib.hid (by
           rw [HFT.out,← HPT.out,List.take_add_one,List.getElem?_set_self hip,List.map_append]
           rw [List.take_set_of_le (Nat.le_refl i)];rfl)
         have HDR:Hid ((ps.set i (x,.slice p1 x.subs.length c1)).drop (j+1)=ps0.drop (j+1)):=Lib.hid (by rw [List.drop_set_of_lt (by omega)];exact HPD2.out)
         have hilt:(i:Int) < L.length:=by omega
         clear hnn
         unfold Tr.cells at HPUT
         go_wp2_with (first
           | (refine wpList_load_row rfl 37 (.tmp 7) rfl wr.heap.size rfl 37 _ (0,0) _ Z3.out Tryd.underlying37 rfl (by kernel_rfl) ?_)
           | (refine wpList_store_mid rfl 37 (.tmp 33) (.tmp 32) rfl g (i * 10) #[.int .i64 x.kind,.int .u64 (Oc.U x.w0),.int .u64 (Oc.U x.w1),.int .u64 (Oc.U x.w2),.int .u64 (Oc.U x.w3),.slice p1 x.subs.length c1,.int .i64 x.num,.int .i64 x.least,.int .i64 x.most,.bool x.bare] rfl rfl HTH.out (by kernel_rfl) (nodeC_all _ _ _ _) ?_;generalize hw4:World.setCells w3 _ _ _=w4 at HPUT;have HW4:=Lib.hid hw4;clear hw4)
           | fail)
         have HB4:Hid (Below base w w4):=Lib.hid (by rw [← HW4.out];exact setCells_below HB13.out HBG.out _ _)
         exact ⟨⟨i+1,j+1,_,by go_num,by go_num,by omega,by omega,Lib.hid (by rw [List.length_set];exact HPL.out),HDR,HTK,HPUT,HB4⟩,by simp [intOf];omega⟩
     · obtain rfl:j=L.length:=by omega
       obtain ⟨ZS,hzl,hcl0⟩:=clear_nodes (L.length - i) (by omega)
       have hth:=HR.out.there (o:=i * 10) (k:=(L.length - i) * 10) (by rw [HPL.out];omega)
       have hcl:=fun ty=>hcl0 wr g (i * 10) (cap - i) ty hth
       have HCL:=Lib.hid (HR.out.cleared (m:=i) (ZS:=ZS) (by rw [HPL.out];omega) (by rw [HPL.out];exact hzl))
       have hic1:i < cap:=by have:=HCAP.out;omega
       have hic2:¬ cap=i:=by omega
       have hic3:¬ i=cap:=by omega
       have hic:(i:Int) ≤ cap:=by omega
       have hin:(i:Int) ≤ L.length:=by omega
       clear hcl0 hth
       go_wp2
       go_ret
       exact ⟨_,ps.take i,rfl,HCL.out,by rw [HPT.out,List.take_length],setCells_below HB.out HBG.out _ _⟩
end Go.Proofs.YtllfgppjobinnaaDoor
namespace Go.Proofs.YtllfgppjobinnaaDoor
open Go.RowKit
def part (p:Nat→Bool) (q n:Nat):BitVec 64:=BitVec.ofNat 64 (Oc.wn p q (min 64 (n - 64 * q)))
end Go.Proofs.YtllfgppjobinnaaDoor
namespace Go.Proofs.YtllfgppjobinnaaDoor
open Go.RowKit
def Sl2 (w:World) (v:Value) (a b c d a' b' c' d':BitVec 64):Prop:=∃ g,v=.slice (some ⟨g,0,none⟩) 2 2∧w.heap[g]? = some (.cells #[.int .u64 (Oc.U a),.int .u64 (Oc.U b),.int .u64 (Oc.U c),.int .u64 (Oc.U d),.int .u64 (Oc.U a'),.int .u64 (Oc.U b'),.int .u64 (Oc.U c'),.int .u64 (Oc.U d')] 24)
theorem Sl2.below {w w':World} {v:Value} {a b c d a' b' c' d':BitVec 64} (h:Sl2 w v a b c d a' b' c' d') (hb:Below w.heap.size w w'):Sl2 w' v a b c d a' b' c' d':=by
 obtain ⟨g,e,hg⟩:=h;exact ⟨g,e,keep_blk hb hg⟩
def two {T:Type} (x y:T) (i:Nat):T:=if i=0 then x else y
theorem join2_any {w:World} {v:Value} {a b c d a' b' c' d':BitVec 64} (h:Sl2 w v a b c d a' b' c' d'):Calls Tryd.prog 209 #[v] w fun e w'=>e=.returned (.agg #[.int .u64 (Oc.U (a ||| a')),.int .u64 (Oc.U (b ||| b')),.int .u64 (Oc.U (c ||| c')),.int .u64 (Oc.U (d ||| d'))])∧Below w.heap.size w w':=by
 obtain ⟨g,rfl,hg⟩:=h
 refine (join_any (some ⟨g,0,none⟩) 2 2 (two a a') (two b b') (two c c') (two d d') (by omega) w ?_).mono ?_
 · intro i hi
   refine ⟨g,0,rfl,(Array.getElem?_eq_some_iff.1 hg).1, ?_⟩
   rcases (show i=0 ∨ i=1 by omega) with rfl | rfl <;> simp [World.cell?,hg,two]
 · rintro e w' ⟨rfl,hb⟩
   exact ⟨by simp [Oc.orAll,two],hb⟩
theorem Tryd.infoSetA:(Tryd.prog.info? 24).map (fun i=>(i.zero,i.size,i.bytes))=some (some (.agg #[.int .u64 0,.int .u64 0,.int .u64 0,.int .u64 0]),4,32):=by kernel_rfl
theorem wp_pair {o:Oper} {x:Act} {w:World} {K:Act→World→Prop} {Q:Exit→Act→World→Prop} (s t:Operand) {a b c d a' b' c' d':BitVec 64} (ho:o.op=.buildSlice 138 2 #[(0,s),(1,t)])
   (hs:x.eval s=(.agg #[.int .u64 (Oc.U a),.int .u64 (Oc.U b),.int .u64 (Oc.U c),.int .u64 (Oc.U d)])) (ht:x.eval t=(.agg #[.int .u64 (Oc.U a'),.int .u64 (Oc.U b'),.int .u64 (Oc.U c'),.int .u64 (Oc.U d')]))
   (h:K (x.put o.dst (.slice (some ⟨w.heap.size,0,none⟩) 2 2)) (w.alloc (.cells #[.int .u64 (Oc.U a),.int .u64 (Oc.U b),.int .u64 (Oc.U c),.int .u64 (Oc.U d),.int .u64 (Oc.U a'),.int .u64 (Oc.U b'),.int .u64 (Oc.U c'),.int .u64 (Oc.U d')] 24))):o.wp Tryd.prog x w K Q:=by
 obtain ⟨ie,hi,hz0,hz1,-⟩:=info_parts Tryd.infoSetA
 refine wp_buildSlice 138 24 2 _ ho _ ie _ Tryd.underlying138 hi hz0 (by rw [hz1];decide) (by rw [hz1];decide) ?_ h
 rw [hz1]
 simp only [List.map_toArray,List.map_cons,List.map_nil,hs,ht]
 kernel_rfl
end Go.Proofs.YtllfgppjobinnaaDoor
namespace Go.Proofs.YtllfgppjobinnaaDoor
open Go.RowKit
namespace Ri
variable {P:Program} {ops:Array Oper} {Q:Exit→Act→World→Prop}
def Fa (K:Nat→World→Value→Prop) (W:World) (L:Nat→Bool) (v:Nat→Value) (w:World):Prop:=Below W.heap.size W w∧∀ k,L k=true→K k w (v k)
theorem Fa.step {K:Nat→World→Value→Prop} (hK:∀ k w v w',K k w v→Below w.heap.size w w'→K k w' v) {W:World} {L:Nat→Bool} {v:Nat→Value} {w w':World} {i:Nat} {u:Value} (h:Fa K W L v w) (hb:Below w.heap.size w w') (hu:K i w' u):Fa K W (up L i true) (up v i u) w':=by
 refine ⟨h.1.trans (hb.mono h.1.size),fun k hk=>?_⟩
 by_cases e:k=i
 · subst e;rw [up_same];exact hu
 · rw [up_other _ _ _ _ e] at hk ⊢
   exact hK k w _ w' (h.2 k hk) hb
end Ri
end Go.Proofs.YtllfgppjobinnaaDoor
namespace Go.Proofs.YtllfgppjobinnaaDoor
open Go.RowKit
namespace Ri
variable {P:Program} {ops:Array Oper} {Q:Exit→Act→World→Prop}
def deps (ops:Array Oper) (i:Nat):List Nat:=match ops[i]? with
 | some o=>o.after.toList.filterMap fun e=>if Region.binds .any e then some e.on else none
 | none=>[]
def reach (ops:Array Oper):Nat→List Nat→List Nat
 | 0,l=>l
 | n+1,l=>l ++ reach ops n (l.flatMap (deps ops))
def waitsT (ops:Array Oper) (last:Nat):Bool:=(List.range last).all fun k=>(reach ops last (deps ops last)).contains k
def Closed (ops:Array Oper) (L:Nat→Bool):Prop:=∀ k,L k=true→∀ j,j ∈ deps ops k→L j=true
theorem Closed.deps {L:Nat→Bool} {i:Nat} (hd:∀ o,ops[i]? = some o→∀ e ∈ o.after,Region.binds .any e=true→L e.on=true) {j:Nat} (hj:j ∈ Ri.deps ops i):L j=true:=by
 unfold Ri.deps at hj
 cases ho:ops[i]? with
 | none=>rw [ho] at hj;cases hj
 | some o =>
   rw [ho] at hj
   obtain ⟨e,he,h2⟩:=List.mem_filterMap.1 hj
   split at h2
   · rename_i hb
     injection h2 with h2
     rw [← h2]
     exact hd o ho e (Array.mem_toList_iff.1 he) hb
   · cases h2
theorem Closed.step {L:Nat→Bool} (h:Closed ops L) {i:Nat} (hd:∀ o,ops[i]? = some o→∀ e ∈ o.after,Region.binds .any e=true→L e.on=true):Closed ops (up L i true):=by
 intro k hk j hj
 have hj2:L j=true:=by
   by_cases e:k=i
   · subst e;exact Closed.deps hd hj
   · rw [up_other _ _ _ _ e] at hk;exact h k hk j hj
 by_cases e:j=i
 · subst e;rw [up_same]
 · rw [up_other _ _ _ _ e];exact hj2
theorem Closed.reach {L:Nat→Bool} (h:Closed ops L) {n:Nat} {l:List Nat} (hl:∀ j,j ∈ l→L j=true) {k:Nat} (hk:k ∈ Ri.reach ops n l):L k=true:=by
 induction n generalizing l with
 | zero=>rw [Ri.reach] at hk;exact hl k hk
 | succ n ih =>
   rw [Ri.reach,List.mem_append] at hk
   rcases hk with hk | hk
   · exact hl k hk
   · refine ih (fun j hj=>?_) hk
     obtain ⟨a,ha,hja⟩:=List.mem_flatMap.1 hj
     exact h a (hl a ha) j hja
theorem wp_region_late {id:Nat} {a:Act} {w:World} (hm:P.follows .mixedOrders=true) (hb:backward ops=true) (hap:apart ops=true) (hsz0:(ops.toList.all fun o=>o.dst.all fun d=>decide (d < a.tmps.size))=true)
   (last:Nat) (hn:ops.size=last+1) (hw:waitsT ops last=true) (K:Nat→World→Value→Prop) (Fin:(Nat→Value)→World→Prop)
   (hK:∀ k w v w',K k w v→Below w.heap.size w w'→K k w' v)
   (step:∀ i,i < last→∀ L v w' (a':Act),Fa K w L v w'→L i=false→(∀ o,ops[i]? = some o→∀ e ∈ o.after,Region.binds .any e=true→L e.on=true) →
     (∀ j d:Nat,(ops[j]?).bind (·.dst)=some d→L j=true→a'.tmps.getD d undef=v j)→(∀ d,ops.toList.all (fun o=>o.dst != some d)=true→a'.tmps.getD d undef=a.tmps.getD d undef) →
     wpOp P ops Q i (fun b w''=>∃ (o:Oper) (u:Value),ops[i]? = some o∧b=a'.put o.dst u∧Below w'.heap.size w' w''∧K i w'' u) a' w')
   (put:∀ L v w' (a':Act),Fa K w L v w'→(∀ k,k < last→L k=true) →
     (∀ j d:Nat,(ops[j]?).bind (·.dst)=some d→L j=true→a'.tmps.getD d undef=v j)→(∀ d,ops.toList.all (fun o=>o.dst != some d)=true→a'.tmps.getD d undef=a.tmps.getD d undef) →
     wpOp P ops Q last (fun b w''=>∃ (o:Oper) (u:Value),ops[last]? = some o∧b=a'.put o.dst u∧Fin (up v last u) w'') a' w')
   (fin:∀ v w',Fin v w'→Q .normal (frame ops a (fun _=>true) v) w'):(Code.region id ops true).wp P Q a w:=by
 refine wp_region_frame hm hb hap hsz0 (fun L v w'=>(L last=false→Fa K w L v w')∧(L last=true→Fin v w'∧∀ k,k < last→L k=true)∧Closed ops L) ⟨fun _=>⟨(Below.refl _ _).drew,fun k h=>by cases h⟩,(fun h=>by cases h),fun k h=>by cases h⟩ ?_ ?_
 · intro i hi L v w' a' hI hL hd hv ho
   rw [hn] at hi
   by_cases e:i=last
   · subst e
     have hall:∀ k,k < i→L k=true:=fun k hk=>by
       unfold waitsT at hw
       have h1:=List.all_eq_true.1 hw k (List.mem_range.2 hk)
       rw [List.contains_eq_mem,decide_eq_true_eq] at h1
       exact hI.2.2.reach (fun j hj=>Closed.deps hd hj) h1
     refine wpOp_mono ?_ (put L v w' a' (hI.1 hL) hall hv ho)
     rintro b w'' ⟨o,u,h1,h2,h3⟩
     refine ⟨o,u,h1,h2,fun h=>(by rw [up_same] at h;cases h),(fun _=>⟨h3,fun k hk=>?_⟩),hI.2.2.step hd⟩
     rw [up_other _ _ _ _ (by omega)];exact hall k hk
   · have hl:L last=false:=by
       cases h:L last with
       | false=>rfl
       | true=>have:=(hI.2.1 h).2 i (by omega);rw [hL] at this;cases this
     refine wpOp_mono ?_ (step i (by omega) L v w' a' (hI.1 hl) hL hd hv ho)
     rintro b w'' ⟨o,u,h1,h2,h3,h4⟩
     refine ⟨o,u,h1,h2,(fun _=>(hI.1 hl).step hK h3 h4),(fun h=>?_),hI.2.2.step hd⟩
     rw [up_other _ _ _ _ (Ne.symm e),hl] at h
     cases h
 · intro v w' hI
   exact fin v w' (hI.2.1 (by rw [hn];simp)).1
end Ri
end Go.Proofs.YtllfgppjobinnaaDoor
namespace Go.Proofs.YtllfgppjobinnaaDoor
open Go.RowKit
theorem RowIs.write {base:Nat} {w:World} {v:Value} {ps ps':List (Tr × Value)} (h:RowIs base w v ps) {g:Nat} (hg:v.ownBlock=some g) {vs:List Value} {o:Nat} (hl:ps'.length=ps.length) (ho:o+vs.length ≤ ps.length * 10)
   (hrow:∀ k,k < ps.length * 10→(rowOf ps')[k]? = if o ≤ k∧k < o+vs.length then vs[k - o]? else (rowOf ps)[k]?) (hsub:∀ (i:Nat) (t:Tr) (s:Value),ps'[i]? = some (t,s)→∃ t0,ps[i]? = some (t0,s)∧t0.subs=t.subs):RowIs base (w.setCells g o vs) v ps':=by
 have keep:∀ (u:Tr) (r:Value),TreesAt w (fun b=>v.ownBlock ≠ some b) r u.subs→TreesAt (w.setCells g o vs) (fun b=>v.ownBlock ≠ some b) r u.subs:=fun u r hr =>
   hr.keep fun b _ hb=>heap_setCells_other (by rintro rfl;exact hb hg) _ _ _
 refine ⟨⟨by rw [rowOf_length], ?_⟩,fun i t s hi=>?_⟩
 · rcases h.1.2 with ⟨rfl,hn0⟩ | ⟨g',cap,cur,rfl,hbg,hheap,hnc,hcm,hcs,htake⟩
   · simp [Value.ownBlock] at hg
   · obtain rfl:g'=g:=by simpa [Value.ownBlock] using hg
     have hh:=setCells_heap vs o w cur hheap
     have hroom:o+vs.length ≤ cur.size:=by rw [hcs];have:=Nat.mul_le_mul_right 10 hnc;omega
     have hget:=fun k=>(fold_set_get vs undef o vs.length cur k (Nat.le_refl _) hroom).1
     have hsize:=(fold_set_get vs undef o vs.length cur 0 (Nat.le_refl _) hroom).2
     refine .inr ⟨g',cap,_,by rw [hl],hbg,hh,by rw [hl];exact hnc,hcm,by rw [hsize];exact hcs, ?_⟩
     refine List.ext_getElem? fun k=>?_
     have hold:=congrArg (fun l:List Value=>l[k]?) htake
     simp only [List.getElem?_take,Array.getElem?_toList] at hold ⊢
     rw [hl]
     by_cases hk:k < ps.length * 10
     · rw [if_pos hk] at hold ⊢
       rw [hget k,hrow k hk,hold]
     · rw [if_neg hk,List.getElem?_eq_none (by rw [rowOf_length,hl];omega)]
 · obtain ⟨t0,h0,e⟩:=hsub i t s hi
   have:=keep t0 s (h.2 i t0 s h0)
   rw [e] at this;exact this
namespace Tr
def F2 (l:List Tr) (f:Int):Prop:=(f = -1∧∀ u,u ∈ l→u.kind ≠ 2) ∨ ∃ (i:Nat) (u:Tr),f=i∧l[i]? = some u∧u.kind=2∧∀ (j:Nat) (v:Tr),j < i→l[j]? = some v→v.kind ≠ 2
theorem addSet_at {t:Tr} : ∀ {l:List Tr} {i:Nat} {u:Tr},l[i]? = some u→u.kind=2→(∀ (j:Nat) (v:Tr),j < i→l[j]? = some v→v.kind ≠ 2)→addSet l t=l.set i (joinT u t)
 | [],i,u,h,_,_=>by simp at h
 | a :: l,0,u,h,hu,_=>by
   simp only [List.getElem?_cons_zero,Option.some.injEq] at h
   subst h
   rw [addSet,if_pos hu];rfl
 | a :: l,i+1,u,h,hu,hj=>by
   have ha:=hj 0 a (by omega) rfl
   rw [addSet,if_neg ha,addSet_at (l:=l) (i:=i) (by simpa using h) hu fun j v hji hv=>hj (j+1) v (by omega) (by simpa using hv)]
   rfl
theorem F2.set {l:List Tr} {i:Nat} {u t:Tr} (h:l[i]? = some u) (hu:u.kind=2) (hj:∀ (j:Nat) (v:Tr),j < i→l[j]? = some v→v.kind ≠ 2):F2 (l.set i (joinT u t)) i:=by
 have hlt:=lt_of_some h
 refine .inr ⟨i,joinT u t,rfl,List.getElem?_set_self hlt,hu,fun j v hji hv=>?_⟩
 rw [List.getElem?_set_ne (by omega)] at hv
 exact hj j v hji hv
theorem F2.snoc {l:List Tr} {f:Int} (h:F2 l f) {t:Tr} (ht:t.kind ≠ 2):F2 (l ++ [t]) f:=by
 rcases h with ⟨rfl,h⟩ | ⟨i,u,rfl,h,hu,hj⟩
 · refine .inl ⟨rfl,fun v hv=>?_⟩
   rcases List.mem_append.1 hv with hv | hv
   · exact h v hv
   · rw [List.mem_singleton.1 hv];exact ht
 · have hlt:=lt_of_some h
   refine .inr ⟨i,u,rfl,by rw [List.getElem?_append_left hlt];exact h,hu,fun j v hji hv=>?_⟩
   rw [List.getElem?_append_left (by omega)] at hv
   exact hj j v hji hv
theorem F2.first {l:List Tr} (h:∀ u,u ∈ l→u.kind ≠ 2) {t:Tr} (ht:t.kind=2):F2 (l ++ [t]) l.length:=by
 refine .inr ⟨l.length,t,rfl,by rw [List.getElem?_append_right (Nat.le_refl _),Nat.sub_self];rfl,ht,fun j v hji hv=>?_⟩
 rw [List.getElem?_append_left hji] at hv
 exact h v (List.mem_of_getElem? hv)
theorem cnt2_zero {l:List Tr} (h:∀ u,u ∈ l→u.kind ≠ 2):cnt2 l=0:=by
 unfold cnt2
 rw [List.length_eq_zero_iff,List.filter_eq_nil_iff]
 intro u hu;simpa using h u hu
theorem oneL_take (l:List Tr) (m:Nat) (x:Tr) (h:l[m]? = some x):oneL (l.take (m+1))=oStep (oneL (l.take m)) x:=by
 unfold oneL
 rw [List.take_add_one,h,Option.toList_some,fold_snoc]
theorem addSet_len (t:Tr):∀ l:List Tr,(addSet l t).length ≤ l.length+1
 | []=>Nat.le_refl _
 | u :: l=>by
   rw [addSet];split
   · simp
   · have:=addSet_len t l;simp;omega
theorem oneL_len':∀ l acc:List Tr,(l.foldl oStep acc).length ≤ acc.length+l.length
 | [],acc=>Nat.le_refl _
 | t :: l,acc=>by
   rw [List.foldl_cons]
   have h1:=oneL_len' l (oStep acc t)
   have h2:(oStep acc t).length ≤ acc.length+1:=by
     unfold oStep;split
     · exact addSet_len t acc
     · simp
   rw [List.length_cons];omega
theorem oneL_len (l:List Tr):(oneL l).length ≤ l.length:=by unfold oneL;have:=oneL_len' l [];simpa using this
end Tr
theorem lt_of_someP {ps:List (Tr × Value)} {i:Nat} {x:Tr × Value} (h:ps[i]? = some x):i < ps.length:=by
 by_cases hi:i < ps.length
 · exact hi
 · rw [List.getElem?_eq_none (by omega)] at h;cases h
theorem rowOf_join {ps:List (Tr × Value)} {i:Nat} {u x:Tr} {s:Value} (h:ps[i]? = some (u,s)) (k:Nat) (hk:k < ps.length * 10) :
   (rowOf (ps.set i (Tr.joinT u x,s)))[k]? = if i * 10+1 ≤ k∧k < i * 10+1+4 then [Value.int .u64 (Oc.U (u.w0 ||| x.w0)),.int .u64 (Oc.U (u.w1 ||| x.w1)),.int .u64 (Oc.U (u.w2 ||| x.w2)),.int .u64 (Oc.U (u.w3 ||| x.w3))][k - (i * 10+1)]? else (rowOf ps)[k]?:=by
 have hi:=lt_of_someP h
 have hkk:k / 10 * 10+k % 10=k:=by omega
 have hr:k % 10 < 10:=Nat.mod_lt _ (by omega)
 by_cases hki:k / 10=i
 · have h1:=rowOf_get (ps.set i (Tr.joinT u x,s)) i _ _ (List.getElem?_set_self hi) (k % 10) hr
   have h2:=rowOf_get ps i u s h (k % 10) hr
   rw [show i * 10+k % 10=k by omega] at h1 h2
   rw [h1,h2]
   have e:k=i * 10+k % 10:=by omega
   have h11:k % 10=0 ∨ k % 10=1 ∨ k % 10=2 ∨ k % 10=3 ∨ k % 10=4 ∨ k % 10=5 ∨ k % 10=6 ∨ k % 10=7 ∨ k % 10=8 ∨ k % 10=9:=by omega
   rcases h11 with e9 | e9 | e9 | e9 | e9 | e9 | e9 | e9 | e9 | e9 <;> rw [e9] at e ⊢
   · rw [if_neg (by omega)];rfl
   · rw [if_pos (by omega),show k - (i * 10+1)=0 by omega];rfl
   · rw [if_pos (by omega),show k - (i * 10+1)=1 by omega];rfl
   · rw [if_pos (by omega),show k - (i * 10+1)=2 by omega];rfl
   · rw [if_pos (by omega),show k - (i * 10+1)=3 by omega];rfl
   · rw [if_neg (by omega)];rfl
   · rw [if_neg (by omega)];rfl
   · rw [if_neg (by omega)];rfl
   · rw [if_neg (by omega)];rfl
   · rw [if_neg (by omega)];rfl
 · obtain ⟨⟨t,r⟩,hx⟩:∃ y,ps[k / 10]? = some y:=⟨_,List.getElem?_eq_getElem (by omega)⟩
   have h1:=rowOf_get (ps.set i (Tr.joinT u x,s)) (k / 10) t r (by rw [List.getElem?_set_ne (fun e=>hki e.symm)];exact hx) (k % 10) hr
   have h2:=rowOf_get ps (k / 10) t r hx (k % 10) hr
   rw [hkk] at h1 h2
   rw [h1,h2,if_neg (by omega)]
theorem nmone_any (L:List Tr) (hN:L.length ≤ 1000000) (w:World) (B:Nat→Prop) (v:Value) (hs:TreesAt w B v L) :
   Calls Tryd.prog 187 #[v] w (RowEnd (Tr.oneL L) w):=by
 obtain ⟨p,cap,rfl,hlen⟩:=hs.slice
 obtain ⟨ie,hi0,hz0,hz1,hz2⟩:=info_parts Tryd.infoNode
 have HI:=Lib.hid hi0;have HZ0:=Lib.hid hz0;have HZ1:=Lib.hid hz1;have HZ2:=Lib.hid hz2
 have HS:=Lib.hid hs
 clear hi0 hz0 hz1 hz2 hs
 go_enter Tryd.func187,Tryd.ntmps187
 go_wp2
 go_loopw [9,3,4] (fun iv sv fv wr=>∃ (m:Nat) (ps:List (Tr × Value)) (f:Int),iv=.int .i64 m∧fv=.int .i64 f∧m ≤ L.length∧Hid (Tr.F2 (ps.map (·.1)) f)∧Hid (ps.map (·.1)=Tr.oneL (L.take m))∧Hid (RowIs w.heap.size wr sv ps)∧Hid (Below w.heap.size w wr)) (fun iv _ _ _=>L.length - (intOf iv).toNat)
 case atStart=>exact ⟨0,[],-1,rfl,rfl,Nat.zero_le _,Lib.hid (.inl ⟨rfl,by simp⟩),Lib.hid rfl,Lib.hid (RowIs.nil _ _),Lib.hid (Below.refl _ _)⟩
 case round =>
   obtain ⟨m,ps,f,rfl,rfl,hm,HF,HP,HR,HB⟩:=hrel
   have wm:IntKind.i64.wrap ((m:Int)+1)=(m:Int)+1:=IntWalk.i64_in _ (by omega)
   by_cases hlt:m < L.length
   · obtain ⟨x,hx⟩:∃ x,L[m]? = some x:=⟨_,List.getElem?_eq_getElem hlt⟩
     obtain ⟨b1,o1,s1,rfl,-,t1,sub1⟩:=HS.out.get hx
     obtain ⟨d0,d1,d2,d3,d4,d5,d6,d7,d8,d9⟩:=t1.keep (HB.out.block _ t1.lt)
     obtain ⟨p1,c1,rfl,hl1⟩:=sub1.slice
     have HSUB:=Lib.hid (sub1.mono (B':=fun b=>b < w.heap.size) fun b hb _=>hb)
     have HST:=Lib.hid (Tr.oneL_take L m x hx)
     have hpl:Hid (ps.length ≤ m):=Lib.hid (by rw [len_fst HP.out];exact Nat.le_trans (Tr.oneL_len _) (by rw [List.length_take];omega))
     have Z1:=Lib.hid (heap_alloc_new wr (.cells (x.cells (.slice p1 x.subs.length c1)) 37))
     have HB1:=Lib.hid ((Below.refl wr.heap.size wr).alloc (Nat.le_refl _) (.cells (x.cells (.slice p1 x.subs.length c1)) 37))
     clear t1 sub1 hx
     unfold Tr.cells at Z1 HB1
     go_upto_region 6 with (fail)
     generalize hw1:wr.alloc _=w1 at *
     clear hw1 d0 d1 d2 d3 d4 d5 d6 d7 d8 d9
     have HR1:=Lib.hid (HR.out.below HB1.out)
     have HBW:=Lib.hid (HB.out.trans (HB1.out.mono HB.out.size))
     have HLT:=Lib.hid HR1.out.lt
     have HSB1:=Lib.hid ((HSUB.out.keep (w':=w1) fun b hb1 hb2=>HBW.out.block b hb2).mono (B':=fun b=>u3.ownBlock ≠ some b) fun b hb1 hb2 e=>by have:=(HLT.out b e).1;omega)
     have APP:=Lib.hid (fun (w4:World) (v':Value) (hown:w4.ownsRow w.heap.size 37 10 v' (ps.length+1) (rowOf ps ++ (x.cells (.slice p1 x.subs.length c1)).toList)) (hg:(w1.alloc (.cells (x.cells (.slice p1 x.subs.length c1)) 37)).grownBy w4 u3.ownBlock) (hw:v'.ownBlock=u3.ownBlock ∨ v'.ownBlock=some (w1.alloc (.cells (x.cells (.slice p1 x.subs.length c1)) 37)).heap.size) =>
       (⟨HR1.out.app (Below.refl w1.heap.size w1) HSB1.out hown hg hw,(HBW.out.trans (((Below.refl w1.heap.size w1).alloc (Nat.le_refl _) (.cells (x.cells (.slice p1 x.subs.length c1)) 37)).mono HBW.out.size)).grown hg (by have:=HBW.out.size;simp;omega) (fun k e=>(HLT.out k e).1)⟩:RowIs w.heap.size w4 v' (ps ++ [(x,.slice p1 x.subs.length c1)])∧Below w.heap.size w w4))
     have HOWN2:=Lib.hid (HR1.out.1.alloc (.cells (x.cells (.slice p1 x.subs.length c1)) 37))
     have HNW:=Lib.hid (news_one w1 x p1 x.subs.length c1 37)
     have HBA:Hid (w.heap.size ≤ (w1.alloc (.cells (x.cells (.slice p1 x.subs.length c1)) 37)).heap.size):=Lib.hid (by have:=HBW.out.size;simp;omega)
     have hml:ps.length+1 ≤ maxLen:=by have:=hpl.out;unfold maxLen;omega
     have hbyt:(ps.length+1) * 96 ≤ 140737488355328:=by have:=hpl.out;omega
     obtain ⟨q0,q1,q2,q3,q4,q5,q6,q7,q8,q9⟩:=allTen Z1.out
     by_cases hk:x.kind=2
     · have ek:(x.kind == 2)=true:=by simpa using hk
       rw [Tr.oStep,if_pos hk] at HST
       rcases HF.out with ⟨rfl,hno⟩ | ⟨i0,u,rfl,hu,hu2,hfst⟩
       · have HNO:Hid (Tr.oneL (L.take (m+1))=Tr.oneL (L.take m) ++ [x]):=Lib.hid (by rw [HST.out];exact Tr.addSet_none (Tr.cnt2_zero (by rw [← HP.out];exact hno)))
         have HF1:=Lib.hid (Tr.F2.first hno hk)
         have HSL:∃ qv cv,u3=.slice qv ps.length cv:=by
           rcases HR1.out.1.2 with ⟨h1,h2⟩ | ⟨g',cap',cur,h1,-⟩
           · exact ⟨_,_,by rw [h1,h2]⟩
           · exact ⟨_,_,h1⟩
         obtain ⟨qv,cv,rfl⟩:=HSL
         clear hno hk HF
         go_upto_region 10 with (fail)
         clear q0 q1 q2 q3 q4 q5 q6 q7 q8 q9
         go_wp2_with (first
           | (refine wpList_load_row rfl 37 (.tmp 6) rfl wr.heap.size rfl 37 _ (0,0) _ Z1.out Tryd.underlying37 rfl (by kernel_rfl) ?_)
           | (refine wpList_node1 rfl (.tmp 39) x p1 x.subs.length c1 rfl rfl ?_)
           | (refine wpList_append_fresh _ rfl (.tmp 38) (.tmp 40) 35 rfl w.heap.size 37 ie _ 10 96 Tryd.underlying35 HI.out HZ0.out HZ1.out HZ2.out rfl (by decide) _ _ _ rfl HOWN2.out ⟨w1.heap.size,0,none⟩ 1 1 (x.cells (.slice p1 x.subs.length c1)).toList rfl rfl HNW.out (nodeC_one _ _ _ _) (by decide) hml hbyt HBA.out ?_;intro v' w4 hown4 hgrow4 hwhere)
           | fail)
         obtain ⟨HR4,HB4⟩:=APP.out w4 v' hown4 hgrow4 hwhere
         refine ⟨⟨m+1,ps ++ [(x,.slice p1 x.subs.length c1)],ps.length,by go_num,rfl,by omega,Lib.hid (by rw [List.map_append];have:=HF1.out;rw [List.length_map] at this;exact this),Lib.hid (by rw [List.map_append,HP.out,HNO.out];rfl),Lib.hid HR4,Lib.hid HB4⟩,by simp [intOf];omega⟩
       · obtain ⟨s0,hs0⟩:=split_fst rfl hu
         obtain ⟨g,cp,hv,hbg,hgw,hown,t0⟩:=HR1.out.at hs0
         subst hv
         generalize hnn:ps.length=n at *
         have HNN:=Lib.hid hnn
         have hi0:=lt_of_someP hs0
         have TU:=Lib.hid t0;have LTG:=Lib.hid hgw
         have ILT:Hid ((i0:Int) < n):=Lib.hid (by omega)
         have HTH:=Lib.hid (HR1.out.there (o:=i0 * 10+1) (k:=4) (by omega))
         have TH:=Lib.hid (fun w9 (hb:Below w1.heap.size w1 w9)=>(fun j hj=>⟨by rw [show w9.cell? ⟨g,i0 * 10+1+j,none⟩=w1.cell? ⟨g,i0 * 10+1+j,none⟩ from by unfold World.cell?;rw [hb.block g LTG.out]];exact (HTH.out j hj).1,by rw [show w9.frozen? ⟨g,i0 * 10+1+j,none⟩=w1.frozen? ⟨g,i0 * 10+1+j,none⟩ from by unfold World.frozen?;rw [hb.block g LTG.out]];exact (HTH.out j hj).2⟩:w9.there g (i0 * 10+1) 4))
         have PUT:=Lib.hid (fun w9 (hb:Below w1.heap.size w1 w9)=>(⟨(HR1.out.below hb).write (g:=g) (o:=i0 * 10+1) (vs:=(#[.int .u64 (Oc.U (u.w0 ||| x.w0)),.int .u64 (Oc.U (u.w1 ||| x.w1)),.int .u64 (Oc.U (u.w2 ||| x.w2)),.int .u64 (Oc.U (u.w3 ||| x.w3))]).toList) (ps':=ps.set i0 (Tr.joinT u x,s0)) rfl (List.length_set) (by show i0 * 10+1+4 ≤ _;omega) (fun k hk9=>rowOf_join hs0 k hk9) (fun i t s hi=>by
             by_cases e:i0=i
             · subst e
               rw [List.getElem?_set_self (by omega)] at hi
               simp only [Option.some.injEq,Prod.mk.injEq] at hi
               obtain ⟨rfl,rfl⟩:=hi
               exact ⟨u,hs0,rfl⟩
             · rw [List.getElem?_set_ne e] at hi
               exact ⟨t,hi,rfl⟩),
           setCells_below (HBW.out.trans (hb.mono HBW.out.size)) hbg _ _⟩:RowIs w.heap.size (w9.setCells g (i0 * 10+1) (#[.int .u64 (Oc.U (u.w0 ||| x.w0)),.int .u64 (Oc.U (u.w1 ||| x.w1)),.int .u64 (Oc.U (u.w2 ||| x.w2)),.int .u64 (Oc.U (u.w3 ||| x.w3))]).toList) (.slice (some ⟨g,0,none⟩) n cp) (ps.set i0 (Tr.joinT u x,s0))∧Below w.heap.size w (w9.setCells g (i0 * 10+1) (#[.int .u64 (Oc.U (u.w0 ||| x.w0)),.int .u64 (Oc.U (u.w1 ||| x.w1)),.int .u64 (Oc.U (u.w2 ||| x.w2)),.int .u64 (Oc.U (u.w3 ||| x.w3))]).toList)))
         have HSE:Hid ((ps.set i0 (Tr.joinT u x,s0)).map (·.1)=Tr.oneL (L.take (m+1))):=Lib.hid (by rw [HST.out,← HP.out,Tr.addSet_at hu hu2 hfst,List.map_set])
         have HFS:Hid (Tr.F2 ((ps.set i0 (Tr.joinT u x,s0)).map (·.1)) i0):=Lib.hid (by rw [List.map_set];exact Tr.F2.set hu hu2 hfst)
         have hge:decide ((i0:Int) ≥ 0)=true:=decide_eq_true (by omega)
         clear hnn hu hu2 hfst hs0 hbg hgw hown t0 hk HF HTH hi0
         go_upto_region 7 with (fail)
         clear q0 q1 q2 q3 q4 q5 q6 q7 q8 q9
         refine Ri.wp_region_late (by kernel_rfl) (by kernel_rfl) (by kernel_rfl) (by kernel_rfl) 13 (by kernel_rfl) (by kernel_rfl) (fun kk ww vv=>match kk with | 0=>vv=.slice (some ⟨g,0,none⟩) n cp | 1=>vv=.int .i64 (i0:Int) | 2=>vv=.slice (some ⟨g,0,none⟩) n cp | 3=>vv=.int .i64 (i0:Int) | 4=>vv=.pointer (some ⟨g,i0 * 10,none⟩) | 5=>vv=.pointer (some ⟨g,i0 * 10+1,none⟩) | 6=>vv=.agg #[.int .u64 (Oc.U (u.w0)),.int .u64 (Oc.U (u.w1)),.int .u64 (Oc.U (u.w2)),.int .u64 (Oc.U (u.w3))] | 7=>vv=.pointer (some ⟨wr.heap.size,1,none⟩) | 8=>vv=.agg #[.int .u64 (Oc.U (x.w0)),.int .u64 (Oc.U (x.w1)),.int .u64 (Oc.U (x.w2)),.int .u64 (Oc.U (x.w3))] | 9=>Sl2 ww vv u.w0 u.w1 u.w2 u.w3 x.w0 x.w1 x.w2 x.w3 | 10=>vv=.agg #[.int .u64 (Oc.U (u.w0 ||| x.w0)),.int .u64 (Oc.U (u.w1 ||| x.w1)),.int .u64 (Oc.U (u.w2 ||| x.w2)),.int .u64 (Oc.U (u.w3 ||| x.w3))] | 11=>vv=.pointer (some ⟨g,i0 * 10,none⟩) | 12=>vv=.pointer (some ⟨g,i0 * 10+1,none⟩) | _=>True) (fun vv ww=>RowIs w.heap.size ww (.slice (some ⟨g,0,none⟩) n cp) (ps.set i0 (Tr.joinT u x,s0))∧Below w.heap.size w ww) (fun kk ww vv w8 h hb=>by
                       match kk,h with
                       | 0,h=>exact h
                       | 1,h=>exact h
                       | 2,h=>exact h
                       | 3,h=>exact h
                       | 4,h=>exact h
                       | 5,h=>exact h
                       | 6,h=>exact h
                       | 7,h=>exact h
                       | 8,h=>exact h
                       | 9,h=>exact h.below hb
                       | 10,h=>exact h
                       | 11,h=>exact h
                       | 12,h=>exact h
                       | _+13,_=>trivial) ?_ ?_ ?_
         · intro i hi9 L v w9 xa hF9 hL hd hv ho
           obtain ⟨hb,hk⟩:=hF9
           have hi':i=0 ∨ i=1 ∨ i=2 ∨ i=3 ∨ i=4 ∨ i=5 ∨ i=6 ∨ i=7 ∨ i=8 ∨ i=9 ∨ i=10 ∨ i=11 ∨ i=12:=by omega
           rcases hi' with rfl | rfl | rfl | rfl | rfl | rfl | rfl | rfl | rfl | rfl | rfl | rfl | rfl
           · have e3:xa.tmps.getD 3 undef=.slice (some ⟨g,0,none⟩) n cp:=ho 3 (by kernel_rfl)
             refine Ri.step_plain rfl rfl (fun K' hK'=>?_)
             go_simp
             exact hK' _ _ ⟨_,_,rfl,rfl,(Below.refl _ _),rfl⟩
           · have e4:xa.tmps.getD 4 undef=.int .i64 (i0:Int):=ho 4 (by kernel_rfl)
             refine Ri.step_plain rfl rfl (fun K' hK'=>?_)
             go_simp
             exact hK' _ _ ⟨_,_,rfl,rfl,(Below.refl _ _),rfl⟩
           · have e3:xa.tmps.getD 3 undef=.slice (some ⟨g,0,none⟩) n cp:=ho 3 (by kernel_rfl)
             refine Ri.step_plain rfl rfl (fun K' hK'=>?_)
             go_simp
             exact hK' _ _ ⟨_,_,rfl,rfl,(Below.refl _ _),rfl⟩
           · have e4:xa.tmps.getD 4 undef=.int .i64 (i0:Int):=ho 4 (by kernel_rfl)
             refine Ri.step_plain rfl rfl (fun K' hK'=>?_)
             go_simp
             exact hK' _ _ ⟨_,_,rfl,rfl,(Below.refl _ _),rfl⟩
           · obtain ⟨j2,j3⟩:L 2=true∧L 3=true:=by have:=hd _ rfl;simp [Region.binds] at this;simp [this]
             have f2:=(hv 2 22 rfl j2).trans (hk 2 j2)
             have f3:=(hv 3 23 rfl j3).trans (hk 3 j3)
             refine Ri.step_plain rfl rfl (fun K' hK'=>?_)
             have hlt9:=ILT.out
             go_simp
             exact hK' _ _ ⟨_,_,rfl,rfl,(Below.refl _ _),rfl⟩
           · have j4:L 4=true:=by have:=hd _ rfl;simp [Region.binds] at this;simp [this]
             have f4:=(hv 4 24 rfl j4).trans (hk 4 j4)
             refine Ri.step_plain rfl rfl (fun K' hK'=>?_)
             go_simp
             exact hK' _ _ ⟨_,_,rfl,rfl,(Below.refl _ _),rfl⟩
           · have j5:L 5=true:=by have:=hd _ rfl;simp [Region.binds] at this;simp [this]
             have f5:=(hv 5 25 rfl j5).trans (hk 5 j5)
             refine Ri.step_plain rfl rfl (fun K' hK'=>?_)
             obtain ⟨d0,d1,d2,d3,d4,d5,d6,d7,d8,d9⟩:=TU.out.keep (hb.block _ LTG.out)
             go_simp
             exact hK' _ _ ⟨_,_,rfl,rfl,(Below.refl _ _),rfl⟩
           · have e6:xa.tmps.getD 6 undef=.pointer (some ⟨wr.heap.size,0,none⟩):=ho 6 (by kernel_rfl)
             refine Ri.step_plain rfl rfl (fun K' hK'=>?_)
             go_simp
             exact hK' _ _ ⟨_,_,rfl,rfl,(Below.refl _ _),rfl⟩
           · have j7:L 7=true:=by have:=hd _ rfl;simp [Region.binds] at this;simp [this]
             have f7:=(hv 7 27 rfl j7).trans (hk 7 j7)
             refine Ri.step_plain rfl rfl (fun K' hK'=>?_)
             obtain ⟨q0,q1,q2,q3,q4,q5,q6,q7,q8,q9⟩:=allTen (keep_blk hb Z1.out)
             go_simp
             exact hK' _ _ ⟨_,_,rfl,rfl,(Below.refl _ _),rfl⟩
           · obtain ⟨j6,j8⟩:L 6=true∧L 8=true:=by have:=hd _ rfl;simp [Region.binds] at this;simp [this]
             have f6:=(hv 6 26 rfl j6).trans (hk 6 j6)
             have f8:=(hv 8 28 rfl j8).trans (hk 8 j8)
             refine Ri.step_plain rfl rfl (fun K' hK'=>?_)
             refine wp_pair _ _ rfl f6 f8 ?_
             exact hK' _ _ ⟨_,_,rfl,rfl,((Below.refl _ _).alloc (Nat.le_refl _) _),⟨_,rfl,heap_alloc_new _ _⟩⟩
           · have j9:L 9=true:=by have:=hd _ rfl;simp [Region.binds] at this;simp [this]
             have k9:Sl2 w9 (v 9) u.w0 u.w1 u.w2 u.w3 x.w0 x.w1 x.w2 x.w3:=hk 9 j9
             have f9:=hv 9 29 rfl j9
             refine Ri.step_plain rfl rfl (fun K' hK'=>?_)
             go_simp
             refine (join2_any k9).mono ?_
             rintro e w8 ⟨rfl,hb8⟩
             exact hK' _ _ ⟨_,_,rfl,rfl,hb8,rfl⟩
           · obtain ⟨j0,j1⟩:L 0=true∧L 1=true:=by have:=hd _ rfl;simp [Region.binds] at this;simp [this]
             have f0:=(hv 0 20 rfl j0).trans (hk 0 j0)
             have f1:=(hv 1 21 rfl j1).trans (hk 1 j1)
             refine Ri.step_plain rfl rfl (fun K' hK'=>?_)
             have hlt9:=ILT.out
             go_simp
             exact hK' _ _ ⟨_,_,rfl,rfl,(Below.refl _ _),rfl⟩
           · have j11:L 11=true:=by have:=hd _ rfl;simp [Region.binds] at this;simp [this]
             have f11:=(hv 11 31 rfl j11).trans (hk 11 j11)
             refine Ri.step_plain rfl rfl (fun K' hK'=>?_)
             go_simp
             exact hK' _ _ ⟨_,_,rfl,rfl,(Below.refl _ _),rfl⟩
         · intro L v w9 xa hF9 hall hv ho
           obtain ⟨hb,hk⟩:=hF9
           have f0:=(hv 0 20 rfl (hall 0 (by omega))).trans (hk 0 (hall 0 (by omega)))
           have f1:=(hv 1 21 rfl (hall 1 (by omega))).trans (hk 1 (hall 1 (by omega)))
           have f2:=(hv 2 22 rfl (hall 2 (by omega))).trans (hk 2 (hall 2 (by omega)))
           have f3:=(hv 3 23 rfl (hall 3 (by omega))).trans (hk 3 (hall 3 (by omega)))
           have f4:=(hv 4 24 rfl (hall 4 (by omega))).trans (hk 4 (hall 4 (by omega)))
           have f5:=(hv 5 25 rfl (hall 5 (by omega))).trans (hk 5 (hall 5 (by omega)))
           have f6:=(hv 6 26 rfl (hall 6 (by omega))).trans (hk 6 (hall 6 (by omega)))
           have f7:=(hv 7 27 rfl (hall 7 (by omega))).trans (hk 7 (hall 7 (by omega)))
           have f8:=(hv 8 28 rfl (hall 8 (by omega))).trans (hk 8 (hall 8 (by omega)))
           have k9:Sl2 w9 (v 9) u.w0 u.w1 u.w2 u.w3 x.w0 x.w1 x.w2 x.w3:=hk 9 (hall 9 (by omega))
           have f9:=hv 9 29 rfl (hall 9 (by omega))
           have f10:=(hv 10 30 rfl (hall 10 (by omega))).trans (hk 10 (hall 10 (by omega)))
           have f11:=(hv 11 31 rfl (hall 11 (by omega))).trans (hk 11 (hall 11 (by omega)))
           have f12:=(hv 12 32 rfl (hall 12 (by omega))).trans (hk 12 (hall 12 (by omega)))
           refine Ri.step_plain rfl rfl (fun K' hK'=>?_)
           refine wp_store_mid 24 (.tmp 32) (.tmp 30) rfl g (i0 * 10+1) #[.int .u64 (Oc.U (u.w0 ||| x.w0)),.int .u64 (Oc.U (u.w1 ||| x.w1)),.int .u64 (Oc.U (u.w2 ||| x.w2)),.int .u64 (Oc.U (u.w3 ||| x.w3))] f12 f10 (TH.out w9 hb) (by kernel_rfl) (by simp [Value.oneCell']) ?_
           exact hK' _ _ ⟨_,undef,rfl,rfl,PUT.out w9 hb⟩
         · intro v w9 hfin
           obtain ⟨hr9,hb9⟩:=hfin
           simp only [Ri.frame,List.zipIdx,List.foldl_cons,List.foldl_nil,if_true,List.setIfInBounds_toArray,List.set_cons_zero,List.set_cons_succ,Nat.reduceAdd]
           generalize v 0=z0;generalize v 1=z1;generalize v 2=z2;generalize v 3=z3;generalize v 4=z4;generalize v 5=z5;generalize v 6=z6;generalize v 7=z7;generalize v 8=z8;generalize v 9=z9;generalize v 10=z10;generalize v 11=z11;generalize v 12=z12
           have HR9:=Lib.hid hr9;have HB9:=Lib.hid hb9
           clear hr9 hb9
           go_wp2
           exact ⟨⟨m+1,_,i0,by go_num,rfl,by omega,HFS,HSE,HR9,HB9⟩,by simp [intOf];omega⟩
     · have ek:(x.kind == 2)=false:=by simpa using hk
       rw [Tr.oStep,if_neg hk] at HST
       have HF1:=Lib.hid (HF.out.snoc hk)
       clear hk HF
       go_upto_region 10 with (fail)
       clear q0 q1 q2 q3 q4 q5 q6 q7 q8 q9
       go_wp2_with (first
         | (refine wpList_load_row rfl 37 (.tmp 6) rfl wr.heap.size rfl 37 _ (0,0) _ Z1.out Tryd.underlying37 rfl (by kernel_rfl) ?_)
         | (refine wpList_node1 rfl (.tmp 39) x p1 x.subs.length c1 rfl rfl ?_)
         | (refine wpList_append_fresh _ rfl (.tmp 38) (.tmp 40) 35 rfl w.heap.size 37 ie _ 10 96 Tryd.underlying35 HI.out HZ0.out HZ1.out HZ2.out rfl (by decide) _ _ _ rfl HOWN2.out ⟨w1.heap.size,0,none⟩ 1 1 (x.cells (.slice p1 x.subs.length c1)).toList rfl rfl HNW.out (nodeC_one _ _ _ _) (by decide) hml hbyt HBA.out ?_;intro v' w4 hown4 hgrow4 hwhere)
         | fail)
       obtain ⟨HR4,HB4⟩:=APP.out w4 v' hown4 hgrow4 hwhere
       refine ⟨⟨m+1,ps ++ [(x,.slice p1 x.subs.length c1)],f,by go_num,rfl,by omega,Lib.hid (by rw [List.map_append];exact HF1.out),Lib.hid (by rw [List.map_append,HP.out,HST.out];rfl),Lib.hid HR4,Lib.hid HB4⟩,by simp [intOf];omega⟩
   · obtain rfl:m=L.length:=by omega
     go_wp2
     go_ret
     exact ⟨_,ps,rfl,HR.out,by rw [HP.out,List.take_length],HB.out⟩
end Go.Proofs.YtllfgppjobinnaaDoor
namespace Go.Proofs.YtllfgppjobinnaaDoor
open Go.RowKit
namespace Tr
theorem uniqL_take (l:List Tr) (m:Nat) (x:Tr) (h:l[m]? = some x):uniqL (l.take (m+1))=uStep (uniqL (l.take m)) x:=by
 unfold uniqL
 rw [List.take_add_one,h,Option.toList_some,fold_snoc]
theorem uniqL_le (l:List Tr) (m:Nat):(uniqL (l.take m)).length ≤ m:=Nat.le_trans (uniqL_sub _).length_le (by rw [List.length_take];omega)
theorem tell_pos (t:Tr):t.tellB ≠ []:=by
 rw [tellB_eq];unfold headB numB;simp
theorem tell_mem {acc:List Tr} {x:Tr} (ha:∀ u,u ∈ acc→u.Clear) (hx:x.Clear):x.tellB ∈ acc.map tellB ↔ x ∈ acc:=by
 constructor
 · intro h
   obtain ⟨u,hu,e⟩:=List.mem_map.1 h
   rw [← tell_inj (ha u hu) hx e];exact hu
 · intro h;exact List.mem_map.2 ⟨x,h,rfl⟩
theorem tell_len:∀ t:Tr,t.InForm→t.ndT ≤ 1000000→t.tellB.length ≤ 172 * t.ndT:=by
 intro t
 induction t using Tr.rec_subs with
 | h t ih =>
   intro hf hnd
   rw [ndT_eq] at hnd
   have part:∀ l:List Tr,(∀ u,u ∈ l→u ∈ t.subs)→ndS l ≤ 1000000→(tellsB l).length ≤ 172 * ndS l:=by
     intro l
     induction l with
     | nil=>intro _ _;simp [tellsB,ndS]
     | cons u l il =>
       intro hm hle
       have hu:=hm u List.mem_cons_self
       rw [ndS] at hle
       rw [tellsB,ndS,List.length_append]
       have a:=ih u hu (hf.sub hu) (by omega)
       have b:=il (fun v hv=>hm v (List.mem_cons_of_mem _ hv)) (by omega)
       omega
   have hp:=part t.subs (fun _ h=>h) (by omega)
   have hff:=hf.fields
   have h1:=numB_len (x:=t.kind) (by unfold fieldsOk at hff;omega) (by unfold fieldsOk at hff;omega)
   have h2:=numB_len (x:=t.least) (by unfold fieldsOk at hff;omega) (by unfold fieldsOk at hff;omega)
   have h3:=numB_len (x:=t.most) (by unfold fieldsOk at hff;omega) (by unfold fieldsOk at hff;omega)
   have hlen:t.subs.length ≤ ndS t.subs:=by
     have:∀ l:List Tr,l.length ≤ ndS l:=by
       intro l
       induction l with
       | nil=>simp
       | cons u l il=>rw [ndS,List.length_cons];have:=nd_pos u;omega
     exact this _
   rw [tellB_eq,ndT_eq,List.length_append]
   unfold headB
   simp only [List.length_append]
   have h5:=wordB_len t.w0;have h6:=wordB_len t.w1;have h7:=wordB_len t.w2;have h8:=wordB_len t.w3
   have h4:=numB_len (x:=(t.subs.length:Int)) (by omega) (by omega)
   omega
end Tr
def keysOf (acc:List Tr):List Lit:=acc.map fun t=>Lit.string t.tellB
theorem keysOf_snoc (acc:List Tr) (x:Tr):keysOf (acc ++ [x])=keysOf acc ++ [Lit.string x.tellB]:=by unfold keysOf;rw [List.map_append];rfl
theorem keysOf_has {acc:List Tr} {x:Tr} (ha:∀ u,u ∈ acc→u.Clear) (hx:x.Clear) (b:Bool) (hb:(b=true ↔ x ∈ acc)):Maps.has (Maps.setOf (H:=Unit) (.agg []) (keysOf acc)) (.string x.tellB)=b:=by
 rw [Maps.has_setOf _ _ _ (fun y hy=>by unfold keysOf at hy;obtain ⟨t,-,rfl⟩:=List.mem_map.1 hy;trivial),Bool.eq_iff_iff,hb,← Tr.tell_mem ha hx,List.any_eq_true]
 unfold keysOf
 constructor
 · rintro ⟨y,hy,e⟩
   obtain ⟨t,ht,rfl⟩:=List.mem_map.1 hy
   have:=WideAt.sameKey_eq e
   injection this with e2
   rw [← e2];exact List.mem_map.2 ⟨t,ht,rfl⟩
 · intro h
   obtain ⟨t,ht,e⟩:=List.mem_map.1 h
   exact ⟨.string x.tellB,List.mem_map.2 ⟨t,ht,by rw [e]⟩,WideAt.sameKey_self trivial⟩
theorem RowIs.down {base base':Nat} {w:World} {v:Value} {ps:List (Tr × Value)} (h:RowIs base w v ps) (hb:base' ≤ base):RowIs base' w v ps :=
 ⟨⟨h.1.1,h.1.2.imp id fun ⟨g,cap,cur,h1,h2,h3⟩=>⟨g,cap,cur,h1,Nat.le_trans hb h2,h3⟩⟩,h.2⟩
theorem strKeyed:Maps.Keyed Tryd.prog 9:=Maps.string_keyed Tryd.underlying9
theorem nmunlike_any (L : List Tr) (hS : ∀ u, u ∈ L → u.Simp) (hN : L.length ≤ 1000000) (hT : ∀ u, u ∈ L → u.tellB.length ≤ 1000000000) (w : World) (hP : Lib.TabIs Tryd.prog w "internal/strconv.uint64pow10" .u64 Lib.pow10Tab) (B : Nat → Prop) (v : Value) (hs : TreesAt w B v L) :
   Calls Tryd.prog 186 #[v] w (RowEnd (Tr.uniqL L) w):=by
 obtain ⟨p,cap,rfl,hlen⟩:=hs.slice
 obtain ⟨ie,hi0,hz0,hz1,hz2⟩:=info_parts Tryd.infoNode
 have HI:=Lib.hid hi0;have HZ0:=Lib.hid hz0;have HZ1:=Lib.hid hz1;have HZ2:=Lib.hid hz2
 have HS:=Lib.hid hs;have HSI:=Lib.hid hS;have HTL:=Lib.hid hT;have HPW:=Lib.hid (Lib.tabBelow_of_tabIs hP)
 have hmm:=@run_makeMap Tryd.prog
 clear hi0 hz0 hz1 hz2 hs hS hT hP
 go_enter Tryd.func186,Tryd.ntmps186
 go_wp2
 clear hmm
 go_loopw [13,3] (fun iv sv wr=>∃ (m:Nat) (ps:List (Tr × Value)),iv=.int .i64 m∧m ≤ L.length∧Hid (ps.map (·.1)=Tr.uniqL (L.take m))∧Hid (∀ (i:Nat) (t:Tr) (s:Value),ps[i]? = some (t,s)→TreesAt w (fun b=>b < w.heap.size) s t.subs)∧Hid (RowIs (w.heap.size+1) wr sv ps)∧Hid (Below w.heap.size w wr)∧w.heap.size+1 ≤ wr.heap.size∧Hid (wr.ownsMap Tryd.prog 9 unitElem w.heap.size m (Maps.setOf (H:=Unit) (.agg []) (keysOf (Tr.uniqL (L.take m)))))) (fun iv _ _=>L.length - (intOf iv).toNat)
 case atStart=>exact ⟨0,[],rfl,Nat.zero_le _,Lib.hid rfl,Lib.hid (fun i t s h=>by simp at h),Lib.hid (RowIs.nil _ _),Lib.hid ((Below.refl _ _).alloc (Nat.le_refl _) _),by simp,Lib.hid (World.ownsMap_made _ _ _ _)⟩
 case round =>
   obtain ⟨m,ps,rfl,hm,HP,HSS,HR,HB,hsz,HM⟩:=hrel
   have wm:IntKind.i64.wrap ((m:Int)+1)=(m:Int)+1:=IntWalk.i64_in _ (by omega)
   by_cases hlt:m < L.length
   · obtain ⟨x,hx⟩:∃ x,L[m]? = some x:=⟨_,List.getElem?_eq_getElem hlt⟩
     obtain ⟨b1,o1,s1,rfl,-,t1,sub1⟩:=HS.out.get hx
     obtain ⟨d0,d1,d2,d3,d4,d5,d6,d7,d8,d9⟩:=t1.keep (HB.out.block _ t1.lt)
     obtain ⟨p1,c1,rfl,hl1⟩:=sub1.slice
     have hmem:=List.mem_of_getElem? hx
     have HSUB:=Lib.hid (sub1.mono (B':=fun b=>b < w.heap.size) fun b hb _=>hb)
     have HST:=Lib.hid (Tr.uniqL_take L m x hx)
     have HXS:=Lib.hid (HSI.out x hmem)
     have HXT:=Lib.hid (HTL.out x hmem)
     have HAC:Hid (∀ u,u ∈ Tr.uniqL (L.take m)→u.Clear):=Lib.hid fun u hu=>(HSI.out u (List.mem_of_mem_take ((Tr.uniqL_sub _).subset hu))).clear
     have hpl:Hid (ps.length ≤ m):=Lib.hid (by rw [len_fst HP.out];exact Tr.uniqL_le L m)
     have Z1:=Lib.hid (heap_alloc_new wr (.cells (x.cells (.slice p1 x.subs.length c1)) 37))
     have HB1:=Lib.hid ((Below.refl wr.heap.size wr).alloc (Nat.le_refl _) (.cells (x.cells (.slice p1 x.subs.length c1)) 37))
     have HM1:=Lib.hid (HM.out.kept (World.grownBy_alloc wr (.cells (x.cells (.slice p1 x.subs.length c1)) 37) none) (by simp))
     clear t1 sub1 hx hmem
     unfold Tr.cells at Z1 HB1 HM1
     go_upto_region 6 with (fail)
     generalize hw1:wr.alloc _=w1 at *
     clear hw1 d0 d1 d2 d3 d4 d5 d6 d7 d8 d9
     have HR1:=Lib.hid (HR.out.below HB1.out)
     have HBW:=Lib.hid (HB.out.trans (HB1.out.mono HB.out.size))
     have hsz1:w.heap.size+1 ≤ w1.heap.size:=Nat.le_trans hsz HB1.out.size
     have HSB1:=Lib.hid (HSUB.out.keep (w':=w1) fun b hb1 hb2=>HBW.out.block b hb2)
     have HCALL:=Lib.hid (nmtell_any x HXS.out.form w1.heap.size [] w1 (.slice none 0 0) (.slice p1 x.subs.length c1) (World.ownsRow_nil _ _ _ _) (Nat.le_refl _) (Lib.tabBelow_of_tabIs (HPW.out w1 HBW.out)) (by have:=HXT.out;simpa using this) (HSB1.out.mono fun b hb1 _=>hb1))
     unfold Tr.cells at HCALL
     go_wp2_with (first
       | (refine wpList_load_row rfl 37 (.tmp 6) rfl wr.heap.size rfl 37 _ (0,0) _ Z1.out Tryd.underlying37 rfl (by kernel_rfl) ?_)
       | fail)
     refine HCALL.out.mono ?_
     rintro e w2 ⟨v2,rfl,hx2⟩
     have hrow2:=hx2.row
     rw [List.nil_append] at hrow2
     obtain ⟨g2,cp2,rfl,hc2⟩:∃ g2 cp2,v2=.slice (some ⟨g2,0,none⟩) x.tellB.length cp2∧∀ j (hj:j < x.tellB.length),w2.cell? ((⟨g2,0,none⟩:Addr).add j)=some (.int .u8 (x.tellB[j].toNat:Int)):=by
       have hcl:=fun g hv=>World.ownsRow.cells hrow2 (g:=g) hv
       rcases hrow2.2 with ⟨-,h0⟩ | ⟨g2,cp2,cur,e2,-⟩
       · exact absurd (List.length_eq_zero_iff.1 h0) (Tr.tell_pos x)
       · subst e2
         exact ⟨g2,cp2,rfl,fun j hj=>hcl g2 rfl j _ (by unfold Lib.byteCells;rw [List.getElem?_map,List.getElem?_eq_getElem hj];rfl)⟩
     have hcv:=run_convert_bytes_back (P:=Tryd.prog) w2 26 9 5 ⟨g2,0,none⟩ cp2 x.tellB Tryd.underlying26 Tryd.underlying5 Tryd.underlying9 hc2
     have HB2:=Lib.hid (hx2.below)
     have HB12:=Lib.hid (HBW.out.trans (HB2.out.mono HBW.out.size))
     have Z2:=Lib.hid (keep_blk HB2.out Z1.out)
     have HR2:=Lib.hid (HR1.out.below HB2.out)
     have HM2:=Lib.hid (HM1.out.kept (w':=w2) (row:=none) ⟨HB2.out.os,HB2.out.tape,HB2.out.output,HB2.out.size,fun k hk _=>HB2.out.block k hk⟩ (by simp))
     have HSB2:=Lib.hid (HSB1.out.keep (w':=w2) fun b hb1 hb2=>HB2.out.block b hb1)
     have hsz2:w.heap.size+1 ≤ w2.heap.size:=Nat.le_trans hsz1 HB2.out.size
     have hkey:keyOf Tryd.prog 9 (.string ⟨x.tellB.toArray⟩)=some (.string x.tellB):=by
       have h9:=WideMaps.keyOf_string_mk (P:=Tryd.prog) Tryd.underlying9 (s:=⟨x.tellB.toArray⟩) (by have:=HXT.out;unfold maxLen;simp [ByteArray.size];omega)
       simpa using h9
     have hzu:(zeroValue 235).run Tryd.prog w2=.ok (.agg #[]) w2:=by kernel_rfl
     clear hx2 hrow2 hc2 HCALL
     by_cases hin:x ∈ Tr.uniqL (L.take m)
     · have HHAS:=Lib.hid (keysOf_has HAC.out HXS.out.clear true (by simpa using hin))
       have HUQ:Hid (Tr.uniqL (L.take (m+1))=Tr.uniqL (L.take m)):=Lib.hid (by rw [HST.out];unfold Tr.uStep;rw [if_pos hin])
       clear hin
       generalize hss:(⟨x.tellB.toArray⟩:ByteArray)=ss at *
       go_wp2_with (first
         | (at_lookup;refine wpList_lookup_own_unit _ rfl _ _ 233 rfl 9 235 strKeyed Tryd.underlying233 hzu w.heap.size m _ rfl HM2.out _ _ rfl hkey ?_;rw [HHAS.out])
         | fail)
       exact ⟨⟨m+1,ps,by go_num,by omega,Lib.hid (by rw [HP.out,HUQ.out]),HSS,Lib.hid (HR2.out.below ((Below.refl _ _).alloc (Nat.le_refl _) _)),Lib.hid (HB12.out.alloc HB12.out.size _),by simp;omega,Lib.hid (by rw [HUQ.out];exact (HM2.out.alloc _).mono (by omega))⟩,by simp [intOf];omega⟩
     · have HHAS:=Lib.hid (keysOf_has HAC.out HXS.out.clear false (by simpa using hin))
       have HUQ:Hid (Tr.uniqL (L.take (m+1))=Tr.uniqL (L.take m) ++ [x]):=Lib.hid (by rw [HST.out];unfold Tr.uStep;rw [if_neg hin])
       have hb3:Below w2.heap.size w2 (w2.alloc (.cells #[] 235)):=(Below.refl _ _).alloc (Nat.le_refl _) _
       have HM3:=Lib.hid (HM2.out.alloc (.cells #[] 235))
       have HR3:=Lib.hid (HR2.out.below hb3)
       have Z3:=Lib.hid (keep_blk hb3 Z2.out)
       have HSB3:=Lib.hid (HSB2.out.keep (w':=w2.alloc (.cells #[] 235)) fun b hb1 hb2=>hb3.block b hb1)
       have HB13:=Lib.hid (HB12.out.trans (hb3.mono HB12.out.size))
       have hsz3:w.heap.size+1 ≤ (w2.alloc (.cells #[] 235)).heap.size:=Nat.le_trans hsz2 hb3.size
       have hmx:m < maxLen:=by unfold maxLen;omega
       clear hin hb3
       generalize hss:(⟨x.tellB.toArray⟩:ByteArray)=ss at *
       go_upto_region 9 with (first
         | (at_lookup;refine wpList_lookup_own_unit _ rfl _ _ 233 rfl 9 235 strKeyed Tryd.underlying233 hzu w.heap.size m _ rfl HM2.out _ _ rfl hkey ?_;rw [HHAS.out])
         | fail)
       generalize hw3:w2.alloc _=w3 at *
       clear hw3 hcv
       go_upto_region 10 with (first
         | (at_mapUpdate;refine wpList_mapUpdate_in _ rfl _ _ _ 233 rfl 9 235 strKeyed Tryd.underlying233 unitElem w.heap.size m _ rfl HM3.out hmx _ _ _ rfl rfl hkey (.agg []) [] unitElem_mk ?_;intro w4 hown4 hturn4)
         | fail)
       have HG4:=Lib.hid hturn4.grown
       have HM4:Hid (w4.ownsMap Tryd.prog 9 unitElem w.heap.size (m+1) (Maps.setOf (H:=Unit) (.agg []) (keysOf (Tr.uniqL (L.take (m+1)))))):=Lib.hid (by rw [HUQ.out,keysOf_snoc,Maps.setOf_snoc];exact hown4)
       have hoff:u3.ownBlock ≠ some w.heap.size:=fun e=>by have:=(HR3.out.lt _ e).1;omega
       have HB4:=Lib.hid (HB13.out.grown HG4.out HB13.out.size (fun k e=>by cases e;exact Nat.le_refl _))
       have HLT:=Lib.hid HR3.out.lt
       have HR4:Hid (RowIs (w.heap.size+1) w4 u3 ps):=Lib.hid ⟨HR3.out.1.kept HG4.out (.inr hoff),fun i t s hi=>((HSS.out i t s hi).later HB4.out).mono fun b hb1 hb2 e=>by have:=(HLT.out b e).1;omega⟩
       have HSB4:=Lib.hid ((HSUB.out.later HB4.out).mono (B':=fun b=>u3.ownBlock ≠ some b) fun b hb1 hb2 e=>by have:=(HLT.out b e).1;omega)
       have Z4:=Lib.hid ((HG4.out.block wr.heap.size (Array.getElem?_eq_some_iff.1 Z3.out).1 (by intro e;injection e;omega)).trans Z3.out)
       have hsz4:w.heap.size+1 ≤ w4.heap.size:=Nat.le_trans hsz3 HG4.out.size
       have HOWN2:=Lib.hid (HR4.out.1.alloc (.cells (x.cells (.slice p1 x.subs.length c1)) 37))
       have HNW:=Lib.hid (news_one w4 x p1 x.subs.length c1 37)
       have HBA:Hid (w.heap.size+1 ≤ (w4.alloc (.cells (x.cells (.slice p1 x.subs.length c1)) 37)).heap.size):=Lib.hid (by simp;omega)
       have hml:ps.length+1 ≤ maxLen:=by have:=hpl.out;unfold maxLen;omega
       have hbyt:(ps.length+1) * 96 ≤ 140737488355328:=by have:=hpl.out;omega
       have hb5:Below w4.heap.size w4 (w4.alloc (.cells (x.cells (.slice p1 x.subs.length c1)) 37)):=(Below.refl w4.heap.size w4).alloc (Nat.le_refl _) _
       have HM5:=Lib.hid (HM4.out.alloc (.cells (x.cells (.slice p1 x.subs.length c1)) 37))
       have HB5:=Lib.hid (HB4.out.trans (hb5.mono HB4.out.size))
       clear hb5 hown4 hturn4
       go_wp2_with (first
         | (refine wpList_load_row rfl 37 (.tmp 6) rfl wr.heap.size rfl 37 _ (0,0) _ Z4.out Tryd.underlying37 rfl (by kernel_rfl) ?_)
         | (refine wpList_node1 rfl (.tmp 32) x p1 x.subs.length c1 rfl rfl ?_)
         | (refine wpList_append_fresh _ rfl (.tmp 31) (.tmp 33) 35 rfl (w.heap.size+1) 37 ie _ 10 96 Tryd.underlying35 HI.out HZ0.out HZ1.out HZ2.out rfl (by decide) _ _ _ rfl HOWN2.out ⟨w4.heap.size,0,none⟩ 1 1 (x.cells (.slice p1 x.subs.length c1)).toList rfl rfl HNW.out (nodeC_one _ _ _ _) (by decide) hml hbyt HBA.out ?_;intro v' w6 hown6 hgrow6 hwhere)
         | fail)
       have HG6:=Lib.hid hgrow6;have HW6:=Lib.hid hwhere
       have HR6:=Lib.hid (HR4.out.app (Below.refl w4.heap.size w4) HSB4.out hown6 HG6.out HW6.out)
       have HB6:=Lib.hid (HB5.out.grown HG6.out HB5.out.size (fun k e=>by have:=(HLT.out k e).1;omega))
       have HM6:=Lib.hid (HM5.out.kept HG6.out (fun e=>hoff e.symm))
       have hsz6:w.heap.size+1 ≤ w6.heap.size:=Nat.le_trans HBA.out HG6.out.size
       have HSS6:Hid (∀ (i:Nat) (t:Tr) (s:Value),(ps ++ [(x,Value.slice p1 x.subs.length c1)])[i]? = some (t,s)→TreesAt w (fun b=>b < w.heap.size) s t.subs):=Lib.hid fun i t s hi=>by
         by_cases hip:i < ps.length
         · rw [List.getElem?_append_left hip] at hi;exact HSS.out i t s hi
         · rw [List.getElem?_append_right (by omega)] at hi
           have hi0:i - ps.length=0:=by
             by_cases h0:i - ps.length=0
             · exact h0
             · rw [List.getElem?_eq_none (by simp;omega)] at hi;cases hi
           rw [hi0] at hi
           simp only [List.getElem?_cons_zero,Option.some.injEq,Prod.mk.injEq] at hi
           obtain ⟨rfl,rfl⟩:=hi
           exact HSUB.out
       refine ⟨⟨m+1,ps ++ [(x,.slice p1 x.subs.length c1)],by go_num,by omega,Lib.hid (by rw [List.map_append,HP.out,HUQ.out];rfl),HSS6,HR6,HB6,hsz6,HM6⟩,by simp [intOf];omega⟩
   · obtain rfl:m=L.length:=by omega
     go_wp2
     go_ret
     exact ⟨_,ps,rfl,HR.out.down (Nat.le_succ _),by rw [HP.out,List.take_length],HB.out⟩
end Go.Proofs.YtllfgppjobinnaaDoor
namespace Go.Proofs.YtllfgppjobinnaaDoor
open Go.RowKit
def OwnFrom (F0:List Nat) (t:Tr) (w:World) (e:Ending) (w':World):Prop:=∃ s F,e=.returned (.agg (t.cells s))∧Owned w' s t.subs F∧(∀ b,b ∈ F→b ∈ F0 ∨ w.heap.size ≤ b)∧Below w.heap.size w w'
theorem three_box (w:World) (x y z:Obj):Below w.heap.size w (((w.alloc x).alloc y).alloc z)∧(((w.alloc x).alloc y).alloc z).heap.size=w.heap.size+3:=⟨by go_grown,by simp⟩
theorem Tr.rep_leaf {lo hi:Int} {x:Tr} (h:hi=0 ∨ x.kind=1):Tr.repF lo hi x=Tr.leaf 1:=by unfold Tr.repF;rw [if_pos h]
theorem Tr.rep_leaf2 {lo hi:Int} {x:Tr} (h:lo=0∧(Tr.isNone x=true ∨ Tr.isAnc x=true)):Tr.repF lo hi x=Tr.leaf 1:=by unfold Tr.repF;rw [if_pos h];split <;> rfl
theorem Tr.rep_same {lo hi:Int} {x:Tr} (h1:¬ (hi=0 ∨ x.kind=1)) (h2:lo ≠ 0) (h3:Tr.isNone x=true ∨ Tr.isAnc x=true):Tr.repF lo hi x=x:=by unfold Tr.repF;rw [if_neg h1,if_neg (fun h=>h2 h.1),if_pos h3]
theorem Tr.rep_same2 {lo hi:Int} {x:Tr} (h1:¬ (hi=0 ∨ x.kind=1)) (h3:Tr.isNone x=false) (h4:Tr.isAnc x=false) (h5:(lo=1∧hi=1) ∨ Tr.isStar x=true):Tr.repF lo hi x=x:=by
 unfold Tr.repF;rw [if_neg h1,if_neg (by rw [h3,h4];simp),if_neg (by rw [h3,h4];simp),if_pos h5]
theorem Tr.rep_rep {lo hi:Int} {x:Tr} (h1:¬ (hi=0 ∨ x.kind=1)) (h3:Tr.isNone x=false) (h4:Tr.isAnc x=false) (h5:¬ ((lo=1∧hi=1) ∨ Tr.isStar x=true)):Tr.repF lo hi x=Tr.rep lo hi x:=by
 unfold Tr.repF;rw [if_neg h1,if_neg (by rw [h3,h4];simp),if_neg (by rw [h3,h4];simp),if_neg h5]
theorem nmrep_any (t x:Tr) (w:World) (pt:Option Addr) (lt ct:Nat) (sx:Value) (F0:List Nat) (hx:Owned w sx x.subs F0) :
   Calls Tryd.prog 161 #[.agg (t.cells (.slice pt lt ct)),.agg (x.cells sx)] w (OwnFrom F0 (Tr.repF t.least t.most x) w):=by
 obtain ⟨px,cx,rfl,hlen⟩:=hx.slice
 have HN:=Lib.hid (fun w9=>nmnothing_is x px x.subs.length cx w9)
 have HA:=Lib.hid (fun w9=>nmanchor_is x px x.subs.length cx w9)
 have HT:=Lib.hid (fun w9=>nmstar_is x px x.subs.length cx w9)
 have HS:=Lib.hid (fun w9=>seq_any [] w9 (fun _=>False) (.slice none 0 0) .nil)
 have HR:=Lib.hid (fun w9 (hb:Below w.heap.size w w9)=>rep_any x t.least t.most w9 _ (.agg (x.cells (.slice px x.subs.length cx))) ⟨_,rfl,hx.trees.later hb⟩)
 have HX:=Lib.hid (fun w9 (hb:Below w.heap.size w w9)=>hx.keep (w':=w9) fun b h=>hb.block b (hx.lt b h))
 obtain ⟨z0,z1,z2⟩:=three_new w (.cells (t.cells (.slice pt lt ct)) 37) (.cells (x.cells (.slice px x.subs.length cx)) 37) (.cells noNode 37)
 obtain ⟨hb0,hs0⟩:=three_box w (.cells (t.cells (.slice pt lt ct)) 37) (.cells (x.cells (.slice px x.subs.length cx)) 37) (.cells noNode 37)
 have Z0:=Lib.hid z0;have Z1:=Lib.hid z1;have Z2:=Lib.hid z2;have HB:=Lib.hid hb0;have HSZ:=Lib.hid (Nat.le_of_eq hs0.symm)
 generalize hRR:Tr.repF t.least t.most x=R
 have HRR:=Lib.hid hRR
 clear hx z0 z1 z2 hb0 hs0 hlen hRR
 unfold Tr.cells at HN HA HT HR Z0 Z1 Z2 HB HSZ ⊢
 go_enter Tryd.func161,Tryd.ntmps161
 go_upto_region 1 with (fail)
 generalize ((w.alloc _).alloc _).alloc _=W0 at *
 by_cases h0:t.most=0
 · skip
   have HL:Hid (R=Tr.leaf 1):=Lib.hid (by rw [← HRR.out];exact Tr.rep_leaf (.inl h0))
   have e0:(t.most == 0)=true:=by simpa using h0
   clear h0
   obtain ⟨p0,p1,p2,p3,p4,p5,p6,p7,p8,p9⟩:=allTen Z0.out
   obtain ⟨q0,q1,q2,q3,q4,q5,q6,q7,q8,q9⟩:=allTen Z1.out
   go_wp2_with fail
   clear p0 p1 p2 p3 p4 p5 p6 p7 p8 p9 q0 q1 q2 q3 q4 q5 q6 q7 q8 q9
   refine (HS.out _).mono ?_
   rintro e w2 ⟨s2,F,rfl,ho,hF,hb2⟩
   obtain ⟨p2,c2,rfl,hl2⟩:=ho.slice
   have HO:=Lib.hid ho;have HF:=Lib.hid hF
   have Y2:=Lib.hid (keep_blk hb2 Z2.out)
   have HB2:=Lib.hid (HB.out.trans (hb2.mono HB.out.size))
   rw [show Tr.several 5 []=R from HL.out.symm] at *
   clear ho hF hb2
   unfold Tr.cells
   go_wp2_with (first
     | (refine wpList_store_row rfl 37 (.tmp 4) (.tmp 14) rfl (w.heap.size+1+1) #[.int .i64 R.kind,.int .u64 (Oc.U R.w0),.int .u64 (Oc.U R.w1),.int .u64 (Oc.U R.w2),.int .u64 (Oc.U R.w3),.slice p2 R.subs.length c2,.int .i64 R.num,.int .i64 R.least,.int .i64 R.most,.bool R.bare] rfl rfl 37 _ Y2.out (by kernel_rfl) rfl (by simp [Value.oneCell']) ?_)
     | fail)
   refine bodyPost_ret (results_cell_row rfl _ _ (w.heap.size+1+1) 37 #[.int .i64 R.kind,.int .u64 (Oc.U R.w0),.int .u64 (Oc.U R.w1),.int .u64 (Oc.U R.w2),.int .u64 (Oc.U R.w3),.slice p2 R.subs.length c2,.int .i64 R.num,.int .i64 R.least,.int .i64 R.most,.bool R.bare] (0,0) _ rfl (heap_setRow Y2.out) Tryd.underlying37 rfl (by kernel_rfl)) rfl ⟨.slice p2 R.subs.length c2,F,rfl, ?_, ?_, ?_⟩
   · exact HO.out.keep fun b hb=>by have:=HF.out b hb;have:=HSZ.out;rw [heap_setRow_other _ _ _ (by omega)]
   · intro b hb;have:=HF.out b hb;have:=HSZ.out;exact .inr (by omega)
   · exact below_setRow HB2.out (by omega) _
 have e0:(t.most == 0)=false:=by simpa using h0
 by_cases h1:x.kind=1
 · skip
   have HL:Hid (R=Tr.leaf 1):=Lib.hid (by rw [← HRR.out];exact Tr.rep_leaf (.inr h1))
   have e1:(x.kind == 1)=true:=by simpa using h1
   clear h0 h1
   obtain ⟨p0,p1,p2,p3,p4,p5,p6,p7,p8,p9⟩:=allTen Z0.out
   obtain ⟨q0,q1,q2,q3,q4,q5,q6,q7,q8,q9⟩:=allTen Z1.out
   go_wp2_with fail
   clear p0 p1 p2 p3 p4 p5 p6 p7 p8 p9 q0 q1 q2 q3 q4 q5 q6 q7 q8 q9
   refine (HS.out _).mono ?_
   rintro e w2 ⟨s2,F,rfl,ho,hF,hb2⟩
   obtain ⟨p2,c2,rfl,hl2⟩:=ho.slice
   have HO:=Lib.hid ho;have HF:=Lib.hid hF
   have Y2:=Lib.hid (keep_blk hb2 Z2.out)
   have HB2:=Lib.hid (HB.out.trans (hb2.mono HB.out.size))
   rw [show Tr.several 5 []=R from HL.out.symm] at *
   clear ho hF hb2
   unfold Tr.cells
   go_wp2_with (first
     | (refine wpList_store_row rfl 37 (.tmp 4) (.tmp 14) rfl (w.heap.size+1+1) #[.int .i64 R.kind,.int .u64 (Oc.U R.w0),.int .u64 (Oc.U R.w1),.int .u64 (Oc.U R.w2),.int .u64 (Oc.U R.w3),.slice p2 R.subs.length c2,.int .i64 R.num,.int .i64 R.least,.int .i64 R.most,.bool R.bare] rfl rfl 37 _ Y2.out (by kernel_rfl) rfl (by simp [Value.oneCell']) ?_)
     | fail)
   refine bodyPost_ret (results_cell_row rfl _ _ (w.heap.size+1+1) 37 #[.int .i64 R.kind,.int .u64 (Oc.U R.w0),.int .u64 (Oc.U R.w1),.int .u64 (Oc.U R.w2),.int .u64 (Oc.U R.w3),.slice p2 R.subs.length c2,.int .i64 R.num,.int .i64 R.least,.int .i64 R.most,.bool R.bare] (0,0) _ rfl (heap_setRow Y2.out) Tryd.underlying37 rfl (by kernel_rfl)) rfl ⟨.slice p2 R.subs.length c2,F,rfl, ?_, ?_, ?_⟩
   · exact HO.out.keep fun b hb=>by have:=HF.out b hb;have:=HSZ.out;rw [heap_setRow_other _ _ _ (by omega)]
   · intro b hb;have:=HF.out b hb;have:=HSZ.out;exact .inr (by omega)
   · exact below_setRow HB2.out (by omega) _
 have e1:(x.kind == 1)=false:=by simpa using h1
 have H01:=Lib.hid (show ¬ (t.most=0 ∨ x.kind=1) from fun h=>h.elim h0 h1)
 clear h0 h1
 by_cases h2:t.least=0
 · skip
   have e2:(t.least == 0)=true:=by simpa using h2
   obtain ⟨p0,p1,p2,p3,p4,p5,p6,p7,p8,p9⟩:=allTen Z0.out
   obtain ⟨q0,q1,q2,q3,q4,q5,q6,q7,q8,q9⟩:=allTen Z1.out
   go_wp2_with fail
   clear p0 p1 p2 p3 p4 p5 p6 p7 p8 p9 q0 q1 q2 q3 q4 q5 q6 q7 q8 q9
   refine (HN.out _).mono ?_
   rintro e W1 ⟨rfl,hb9⟩
   replace Z0:=Lib.hid (keep_blk hb9 Z0.out);replace Z1:=Lib.hid (keep_blk hb9 Z1.out);replace Z2:=Lib.hid (keep_blk hb9 Z2.out)
   replace HSZ:=Lib.hid (Nat.le_trans HSZ.out hb9.size)
   replace HB:=Lib.hid (HB.out.trans (hb9.mono HB.out.size))
   clear hb9
   cases hnn:x.isNone with
   | true =>
     have HL:Hid (R=Tr.leaf 1):=Lib.hid (by rw [← HRR.out];exact Tr.rep_leaf2 ⟨h2,.inl hnn⟩)
     clear hnn h2
     obtain ⟨p0,p1,p2,p3,p4,p5,p6,p7,p8,p9⟩:=allTen Z0.out
     obtain ⟨q0,q1,q2,q3,q4,q5,q6,q7,q8,q9⟩:=allTen Z1.out
     go_wp2_with fail
     clear p0 p1 p2 p3 p4 p5 p6 p7 p8 p9 q0 q1 q2 q3 q4 q5 q6 q7 q8 q9
     refine (HS.out _).mono ?_
     rintro e w2 ⟨s2,F,rfl,ho,hF,hb2⟩
     obtain ⟨p2,c2,rfl,hl2⟩:=ho.slice
     have HO:=Lib.hid ho;have HF:=Lib.hid hF
     have Y2:=Lib.hid (keep_blk hb2 Z2.out)
     have HB2:=Lib.hid (HB.out.trans (hb2.mono HB.out.size))
     rw [show Tr.several 5 []=R from HL.out.symm] at *
     clear ho hF hb2
     unfold Tr.cells
     go_wp2_with (first
       | (refine wpList_store_row rfl 37 (.tmp 4) (.tmp 27) rfl (w.heap.size+1+1) #[.int .i64 R.kind,.int .u64 (Oc.U R.w0),.int .u64 (Oc.U R.w1),.int .u64 (Oc.U R.w2),.int .u64 (Oc.U R.w3),.slice p2 R.subs.length c2,.int .i64 R.num,.int .i64 R.least,.int .i64 R.most,.bool R.bare] rfl rfl 37 _ Y2.out (by kernel_rfl) rfl (by simp [Value.oneCell']) ?_)
       | fail)
     refine bodyPost_ret (results_cell_row rfl _ _ (w.heap.size+1+1) 37 #[.int .i64 R.kind,.int .u64 (Oc.U R.w0),.int .u64 (Oc.U R.w1),.int .u64 (Oc.U R.w2),.int .u64 (Oc.U R.w3),.slice p2 R.subs.length c2,.int .i64 R.num,.int .i64 R.least,.int .i64 R.most,.bool R.bare] (0,0) _ rfl (heap_setRow Y2.out) Tryd.underlying37 rfl (by kernel_rfl)) rfl ⟨.slice p2 R.subs.length c2,F,rfl, ?_, ?_, ?_⟩
     · exact HO.out.keep fun b hb=>by have:=HF.out b hb;have:=HSZ.out;rw [heap_setRow_other _ _ _ (by omega)]
     · intro b hb;have:=HF.out b hb;have:=HSZ.out;exact .inr (by omega)
     · exact below_setRow HB2.out (by omega) _
   | false =>
     have HNN:=Lib.hid hnn
     clear hnn
     obtain ⟨p0,p1,p2,p3,p4,p5,p6,p7,p8,p9⟩:=allTen Z0.out
     obtain ⟨q0,q1,q2,q3,q4,q5,q6,q7,q8,q9⟩:=allTen Z1.out
     go_wp2_with fail
     clear p0 p1 p2 p3 p4 p5 p6 p7 p8 p9 q0 q1 q2 q3 q4 q5 q6 q7 q8 q9
     refine (HA.out _).mono ?_
     rintro e W2 ⟨rfl,hb9⟩
     replace Z0:=Lib.hid (keep_blk hb9 Z0.out);replace Z1:=Lib.hid (keep_blk hb9 Z1.out);replace Z2:=Lib.hid (keep_blk hb9 Z2.out)
     replace HSZ:=Lib.hid (Nat.le_trans HSZ.out hb9.size)
     replace HB:=Lib.hid (HB.out.trans (hb9.mono HB.out.size))
     clear hb9
     cases han:x.isAnc with
     | true =>
       have HL:Hid (R=Tr.leaf 1):=Lib.hid (by rw [← HRR.out];exact Tr.rep_leaf2 ⟨h2,.inr han⟩)
       clear han h2
       obtain ⟨p0,p1,p2,p3,p4,p5,p6,p7,p8,p9⟩:=allTen Z0.out
       obtain ⟨q0,q1,q2,q3,q4,q5,q6,q7,q8,q9⟩:=allTen Z1.out
       go_wp2_with fail
       clear p0 p1 p2 p3 p4 p5 p6 p7 p8 p9 q0 q1 q2 q3 q4 q5 q6 q7 q8 q9
       refine (HS.out _).mono ?_
       rintro e w2 ⟨s2,F,rfl,ho,hF,hb2⟩
       obtain ⟨p2,c2,rfl,hl2⟩:=ho.slice
       have HO:=Lib.hid ho;have HF:=Lib.hid hF
       have Y2:=Lib.hid (keep_blk hb2 Z2.out)
       have HB2:=Lib.hid (HB.out.trans (hb2.mono HB.out.size))
       rw [show Tr.several 5 []=R from HL.out.symm] at *
       clear ho hF hb2
       unfold Tr.cells
       go_wp2_with (first
         | (refine wpList_store_row rfl 37 (.tmp 4) (.tmp 27) rfl (w.heap.size+1+1) #[.int .i64 R.kind,.int .u64 (Oc.U R.w0),.int .u64 (Oc.U R.w1),.int .u64 (Oc.U R.w2),.int .u64 (Oc.U R.w3),.slice p2 R.subs.length c2,.int .i64 R.num,.int .i64 R.least,.int .i64 R.most,.bool R.bare] rfl rfl 37 _ Y2.out (by kernel_rfl) rfl (by simp [Value.oneCell']) ?_)
         | fail)
       refine bodyPost_ret (results_cell_row rfl _ _ (w.heap.size+1+1) 37 #[.int .i64 R.kind,.int .u64 (Oc.U R.w0),.int .u64 (Oc.U R.w1),.int .u64 (Oc.U R.w2),.int .u64 (Oc.U R.w3),.slice p2 R.subs.length c2,.int .i64 R.num,.int .i64 R.least,.int .i64 R.most,.bool R.bare] (0,0) _ rfl (heap_setRow Y2.out) Tryd.underlying37 rfl (by kernel_rfl)) rfl ⟨.slice p2 R.subs.length c2,F,rfl, ?_, ?_, ?_⟩
       · exact HO.out.keep fun b hb=>by have:=HF.out b hb;have:=HSZ.out;rw [heap_setRow_other _ _ _ (by omega)]
       · intro b hb;have:=HF.out b hb;have:=HSZ.out;exact .inr (by omega)
       · exact below_setRow HB2.out (by omega) _
     | false =>
       have HNA:=Lib.hid han
       clear han
       obtain ⟨p0,p1,p2,p3,p4,p5,p6,p7,p8,p9⟩:=allTen Z0.out
       obtain ⟨q0,q1,q2,q3,q4,q5,q6,q7,q8,q9⟩:=allTen Z1.out
       go_wp2_with fail
       clear p0 p1 p2 p3 p4 p5 p6 p7 p8 p9 q0 q1 q2 q3 q4 q5 q6 q7 q8 q9
       refine (HN.out _).mono ?_
       rintro e W3 ⟨rfl,hb9⟩
       replace Z0:=Lib.hid (keep_blk hb9 Z0.out);replace Z1:=Lib.hid (keep_blk hb9 Z1.out);replace Z2:=Lib.hid (keep_blk hb9 Z2.out)
       replace HSZ:=Lib.hid (Nat.le_trans HSZ.out hb9.size)
       replace HB:=Lib.hid (HB.out.trans (hb9.mono HB.out.size))
       clear hb9
       cases hnn:x.isNone with
       | true =>
         rw [HNN.out] at hnn;cases hnn
       | false =>
         clear hnn
         obtain ⟨p0,p1,p2,p3,p4,p5,p6,p7,p8,p9⟩:=allTen Z0.out
         obtain ⟨q0,q1,q2,q3,q4,q5,q6,q7,q8,q9⟩:=allTen Z1.out
         go_wp2_with fail
         clear p0 p1 p2 p3 p4 p5 p6 p7 p8 p9 q0 q1 q2 q3 q4 q5 q6 q7 q8 q9
         refine (HA.out _).mono ?_
         rintro e W4 ⟨rfl,hb9⟩
         replace Z0:=Lib.hid (keep_blk hb9 Z0.out);replace Z1:=Lib.hid (keep_blk hb9 Z1.out);replace Z2:=Lib.hid (keep_blk hb9 Z2.out)
         replace HSZ:=Lib.hid (Nat.le_trans HSZ.out hb9.size)
         replace HB:=Lib.hid (HB.out.trans (hb9.mono HB.out.size))
         clear hb9
         cases han:x.isAnc with
         | true =>
           rw [HNA.out] at han;cases han
         | false =>
           clear han
           have h11:¬ (t.least=1∧t.most=1):=fun h=>by omega
           have e11:(t.least == 1)=false:=by rw [beq_eq_false_iff_ne];omega
           clear h2
           have HNS:Hid (¬ (t.least=1∧t.most=1)):=Lib.hid h11
           clear h11
           obtain ⟨p0,p1,p2,p3,p4,p5,p6,p7,p8,p9⟩:=allTen Z0.out
           obtain ⟨q0,q1,q2,q3,q4,q5,q6,q7,q8,q9⟩:=allTen Z1.out
           go_wp2_with fail
           clear p0 p1 p2 p3 p4 p5 p6 p7 p8 p9 q0 q1 q2 q3 q4 q5 q6 q7 q8 q9
           refine (HT.out _).mono ?_
           rintro e W5 ⟨rfl,hb9⟩
           replace Z0:=Lib.hid (keep_blk hb9 Z0.out);replace Z1:=Lib.hid (keep_blk hb9 Z1.out);replace Z2:=Lib.hid (keep_blk hb9 Z2.out)
           replace HSZ:=Lib.hid (Nat.le_trans HSZ.out hb9.size)
           replace HB:=Lib.hid (HB.out.trans (hb9.mono HB.out.size))
           clear hb9
           cases hst:x.isStar with
           | true =>
             have HL0:x=R:=by rw [← HRR.out];exact (Tr.rep_same2 H01.out HNN.out HNA.out (.inr hst)).symm
             clear hst
             subst HL0
             go_wp2_with (first
               | (refine wpList_load_row rfl 37 (.tmp 3) rfl (w.heap.size+1) rfl 37 _ (0,0) _ Z1.out Tryd.underlying37 rfl (by kernel_rfl) ?_)
               | (refine wpList_store_row rfl 37 (.tmp 4) (.tmp 49) rfl (w.heap.size+1+1) #[.int .i64 x.kind,.int .u64 (Oc.U x.w0),.int .u64 (Oc.U x.w1),.int .u64 (Oc.U x.w2),.int .u64 (Oc.U x.w3),.slice px x.subs.length cx,.int .i64 x.num,.int .i64 x.least,.int .i64 x.most,.bool x.bare] rfl rfl 37 _ Z2.out (by kernel_rfl) rfl (by simp [Value.oneCell']) ?_)
               | fail)
             refine bodyPost_ret (results_cell_row rfl _ _ (w.heap.size+1+1) 37 #[.int .i64 x.kind,.int .u64 (Oc.U x.w0),.int .u64 (Oc.U x.w1),.int .u64 (Oc.U x.w2),.int .u64 (Oc.U x.w3),.slice px x.subs.length cx,.int .i64 x.num,.int .i64 x.least,.int .i64 x.most,.bool x.bare] (0,0) _ rfl (heap_setRow Z2.out) Tryd.underlying37 rfl (by kernel_rfl)) rfl ⟨.slice px x.subs.length cx,F0,rfl, ?_,fun b hb=>.inl hb,below_setRow HB.out (by omega) _⟩
             exact HX.out _ (below_setRow HB.out (by omega) _)
           | false =>
             have HL:Hid (R=Tr.rep t.least t.most x):=Lib.hid (by rw [← HRR.out];exact Tr.rep_rep H01.out HNN.out HNA.out (by rw [hst];exact fun h=>h.elim HNS.out (fun h=>by cases h)))
             clear hst
             obtain ⟨p0,p1,p2,p3,p4,p5,p6,p7,p8,p9⟩:=allTen Z0.out
             obtain ⟨q0,q1,q2,q3,q4,q5,q6,q7,q8,q9⟩:=allTen Z1.out
             go_wp2_with (first
               | (refine wpList_load_row rfl 37 (.tmp 3) rfl (w.heap.size+1) rfl 37 _ (0,0) _ Z1.out Tryd.underlying37 rfl (by kernel_rfl) ?_)
               | fail)
             clear p0 p1 p2 p3 p4 p5 p6 p7 p8 p9 q0 q1 q2 q3 q4 q5 q6 q7 q8 q9
             refine (HR.out _ HB.out).mono ?_
             rintro e w2 ⟨s2,F,rfl,ho,hF,hb2⟩
             obtain ⟨p2,c2,rfl,hl2⟩:=ho.slice
             have HO:=Lib.hid ho;have HF:=Lib.hid hF
             have Y2:=Lib.hid (keep_blk hb2 Z2.out)
             have HB2:=Lib.hid (HB.out.trans (hb2.mono HB.out.size))
             rw [show Tr.rep t.least t.most x=R from HL.out.symm] at *
             clear ho hF hb2
             unfold Tr.cells
             go_wp2_with (first
               | (refine wpList_store_row rfl 37 (.tmp 4) (.tmp 55) rfl (w.heap.size+1+1) #[.int .i64 R.kind,.int .u64 (Oc.U R.w0),.int .u64 (Oc.U R.w1),.int .u64 (Oc.U R.w2),.int .u64 (Oc.U R.w3),.slice p2 R.subs.length c2,.int .i64 R.num,.int .i64 R.least,.int .i64 R.most,.bool R.bare] rfl rfl 37 _ Y2.out (by kernel_rfl) rfl (by simp [Value.oneCell']) ?_)
               | fail)
             refine bodyPost_ret (results_cell_row rfl _ _ (w.heap.size+1+1) 37 #[.int .i64 R.kind,.int .u64 (Oc.U R.w0),.int .u64 (Oc.U R.w1),.int .u64 (Oc.U R.w2),.int .u64 (Oc.U R.w3),.slice p2 R.subs.length c2,.int .i64 R.num,.int .i64 R.least,.int .i64 R.most,.bool R.bare] (0,0) _ rfl (heap_setRow Y2.out) Tryd.underlying37 rfl (by kernel_rfl)) rfl ⟨.slice p2 R.subs.length c2,F,rfl, ?_, ?_, ?_⟩
             · exact HO.out.keep fun b hb=>by have:=HF.out b hb;have:=HSZ.out;rw [heap_setRow_other _ _ _ (by omega)]
             · intro b hb;have:=HF.out b hb;have:=HSZ.out;exact .inr (by omega)
             · exact below_setRow HB2.out (by omega) _
 have e2:(t.least == 0)=false:=by simpa using h2
 obtain ⟨p0,p1,p2,p3,p4,p5,p6,p7,p8,p9⟩:=allTen Z0.out
 obtain ⟨q0,q1,q2,q3,q4,q5,q6,q7,q8,q9⟩:=allTen Z1.out
 go_wp2_with fail
 clear p0 p1 p2 p3 p4 p5 p6 p7 p8 p9 q0 q1 q2 q3 q4 q5 q6 q7 q8 q9
 refine (HN.out _).mono ?_
 rintro e W1 ⟨rfl,hb9⟩
 replace Z0:=Lib.hid (keep_blk hb9 Z0.out);replace Z1:=Lib.hid (keep_blk hb9 Z1.out);replace Z2:=Lib.hid (keep_blk hb9 Z2.out)
 replace HSZ:=Lib.hid (Nat.le_trans HSZ.out hb9.size)
 replace HB:=Lib.hid (HB.out.trans (hb9.mono HB.out.size))
 clear hb9
 cases hnn:x.isNone with
 | true =>
   have HL0:x=R:=by rw [← HRR.out];exact (Tr.rep_same H01.out h2 (.inl hnn)).symm
   clear hnn h2
   obtain ⟨p0,p1,p2,p3,p4,p5,p6,p7,p8,p9⟩:=allTen Z0.out
   obtain ⟨q0,q1,q2,q3,q4,q5,q6,q7,q8,q9⟩:=allTen Z1.out
   go_upto_region 6 with (fail)
   clear p0 p1 p2 p3 p4 p5 p6 p7 p8 p9 q0 q1 q2 q3 q4 q5 q6 q7 q8 q9
   subst HL0
   go_wp2_with (first
     | (refine wpList_load_row rfl 37 (.tmp 3) rfl (w.heap.size+1) rfl 37 _ (0,0) _ Z1.out Tryd.underlying37 rfl (by kernel_rfl) ?_)
     | (refine wpList_store_row rfl 37 (.tmp 4) (.tmp 35) rfl (w.heap.size+1+1) #[.int .i64 x.kind,.int .u64 (Oc.U x.w0),.int .u64 (Oc.U x.w1),.int .u64 (Oc.U x.w2),.int .u64 (Oc.U x.w3),.slice px x.subs.length cx,.int .i64 x.num,.int .i64 x.least,.int .i64 x.most,.bool x.bare] rfl rfl 37 _ Z2.out (by kernel_rfl) rfl (by simp [Value.oneCell']) ?_)
     | fail)
   refine bodyPost_ret (results_cell_row rfl _ _ (w.heap.size+1+1) 37 #[.int .i64 x.kind,.int .u64 (Oc.U x.w0),.int .u64 (Oc.U x.w1),.int .u64 (Oc.U x.w2),.int .u64 (Oc.U x.w3),.slice px x.subs.length cx,.int .i64 x.num,.int .i64 x.least,.int .i64 x.most,.bool x.bare] (0,0) _ rfl (heap_setRow Z2.out) Tryd.underlying37 rfl (by kernel_rfl)) rfl ⟨.slice px x.subs.length cx,F0,rfl, ?_,fun b hb=>.inl hb,below_setRow HB.out (by omega) _⟩
   exact HX.out _ (below_setRow HB.out (by omega) _)
 | false =>
   have HNN:=Lib.hid hnn
   clear hnn
   obtain ⟨p0,p1,p2,p3,p4,p5,p6,p7,p8,p9⟩:=allTen Z0.out
   obtain ⟨q0,q1,q2,q3,q4,q5,q6,q7,q8,q9⟩:=allTen Z1.out
   go_wp2_with fail
   clear p0 p1 p2 p3 p4 p5 p6 p7 p8 p9 q0 q1 q2 q3 q4 q5 q6 q7 q8 q9
   refine (HA.out _).mono ?_
   rintro e W2 ⟨rfl,hb9⟩
   replace Z0:=Lib.hid (keep_blk hb9 Z0.out);replace Z1:=Lib.hid (keep_blk hb9 Z1.out);replace Z2:=Lib.hid (keep_blk hb9 Z2.out)
   replace HSZ:=Lib.hid (Nat.le_trans HSZ.out hb9.size)
   replace HB:=Lib.hid (HB.out.trans (hb9.mono HB.out.size))
   clear hb9
   cases han:x.isAnc with
   | true =>
     have HL0:x=R:=by rw [← HRR.out];exact (Tr.rep_same H01.out h2 (.inr han)).symm
     clear han h2
     obtain ⟨p0,p1,p2,p3,p4,p5,p6,p7,p8,p9⟩:=allTen Z0.out
     obtain ⟨q0,q1,q2,q3,q4,q5,q6,q7,q8,q9⟩:=allTen Z1.out
     go_upto_region 6 with (fail)
     clear p0 p1 p2 p3 p4 p5 p6 p7 p8 p9 q0 q1 q2 q3 q4 q5 q6 q7 q8 q9
     subst HL0
     go_wp2_with (first
       | (refine wpList_load_row rfl 37 (.tmp 3) rfl (w.heap.size+1) rfl 37 _ (0,0) _ Z1.out Tryd.underlying37 rfl (by kernel_rfl) ?_)
       | (refine wpList_store_row rfl 37 (.tmp 4) (.tmp 35) rfl (w.heap.size+1+1) #[.int .i64 x.kind,.int .u64 (Oc.U x.w0),.int .u64 (Oc.U x.w1),.int .u64 (Oc.U x.w2),.int .u64 (Oc.U x.w3),.slice px x.subs.length cx,.int .i64 x.num,.int .i64 x.least,.int .i64 x.most,.bool x.bare] rfl rfl 37 _ Z2.out (by kernel_rfl) rfl (by simp [Value.oneCell']) ?_)
       | fail)
     refine bodyPost_ret (results_cell_row rfl _ _ (w.heap.size+1+1) 37 #[.int .i64 x.kind,.int .u64 (Oc.U x.w0),.int .u64 (Oc.U x.w1),.int .u64 (Oc.U x.w2),.int .u64 (Oc.U x.w3),.slice px x.subs.length cx,.int .i64 x.num,.int .i64 x.least,.int .i64 x.most,.bool x.bare] (0,0) _ rfl (heap_setRow Z2.out) Tryd.underlying37 rfl (by kernel_rfl)) rfl ⟨.slice px x.subs.length cx,F0,rfl, ?_,fun b hb=>.inl hb,below_setRow HB.out (by omega) _⟩
     exact HX.out _ (below_setRow HB.out (by omega) _)
   | false =>
     have HNA:=Lib.hid han
     clear han
     clear h2
     by_cases h3:t.least=1
     · skip
       have e11:(t.least == 1)=true:=by simpa using h3
       by_cases h4:t.most=1
       · skip
         have e12:(t.most == 1)=true:=by simpa using h4
         have HL0:x=R:=by rw [← HRR.out];exact (Tr.rep_same2 H01.out HNN.out HNA.out (.inl ⟨h3,h4⟩)).symm
         clear h3 h4
         obtain ⟨p0,p1,p2,p3,p4,p5,p6,p7,p8,p9⟩:=allTen Z0.out
         obtain ⟨q0,q1,q2,q3,q4,q5,q6,q7,q8,q9⟩:=allTen Z1.out
         go_upto_region 8 with (fail)
         clear p0 p1 p2 p3 p4 p5 p6 p7 p8 p9 q0 q1 q2 q3 q4 q5 q6 q7 q8 q9
         subst HL0
         go_wp2_with (first
           | (refine wpList_load_row rfl 37 (.tmp 3) rfl (w.heap.size+1) rfl 37 _ (0,0) _ Z1.out Tryd.underlying37 rfl (by kernel_rfl) ?_)
           | (refine wpList_store_row rfl 37 (.tmp 4) (.tmp 49) rfl (w.heap.size+1+1) #[.int .i64 x.kind,.int .u64 (Oc.U x.w0),.int .u64 (Oc.U x.w1),.int .u64 (Oc.U x.w2),.int .u64 (Oc.U x.w3),.slice px x.subs.length cx,.int .i64 x.num,.int .i64 x.least,.int .i64 x.most,.bool x.bare] rfl rfl 37 _ Z2.out (by kernel_rfl) rfl (by simp [Value.oneCell']) ?_)
           | fail)
         refine bodyPost_ret (results_cell_row rfl _ _ (w.heap.size+1+1) 37 #[.int .i64 x.kind,.int .u64 (Oc.U x.w0),.int .u64 (Oc.U x.w1),.int .u64 (Oc.U x.w2),.int .u64 (Oc.U x.w3),.slice px x.subs.length cx,.int .i64 x.num,.int .i64 x.least,.int .i64 x.most,.bool x.bare] (0,0) _ rfl (heap_setRow Z2.out) Tryd.underlying37 rfl (by kernel_rfl)) rfl ⟨.slice px x.subs.length cx,F0,rfl, ?_,fun b hb=>.inl hb,below_setRow HB.out (by omega) _⟩
         exact HX.out _ (below_setRow HB.out (by omega) _)
       have e12:(t.most == 1)=false:=by simpa using h4
       have h11:¬ (t.least=1∧t.most=1):=fun h=>h4 h.2
       clear h3 h4
       have HNS:Hid (¬ (t.least=1∧t.most=1)):=Lib.hid h11
       clear h11
       obtain ⟨p0,p1,p2,p3,p4,p5,p6,p7,p8,p9⟩:=allTen Z0.out
       obtain ⟨q0,q1,q2,q3,q4,q5,q6,q7,q8,q9⟩:=allTen Z1.out
       go_wp2_with fail
       clear p0 p1 p2 p3 p4 p5 p6 p7 p8 p9 q0 q1 q2 q3 q4 q5 q6 q7 q8 q9
       refine (HT.out _).mono ?_
       rintro e W3 ⟨rfl,hb9⟩
       replace Z0:=Lib.hid (keep_blk hb9 Z0.out);replace Z1:=Lib.hid (keep_blk hb9 Z1.out);replace Z2:=Lib.hid (keep_blk hb9 Z2.out)
       replace HSZ:=Lib.hid (Nat.le_trans HSZ.out hb9.size)
       replace HB:=Lib.hid (HB.out.trans (hb9.mono HB.out.size))
       clear hb9
       cases hst:x.isStar with
       | true =>
         have HL0:x=R:=by rw [← HRR.out];exact (Tr.rep_same2 H01.out HNN.out HNA.out (.inr hst)).symm
         clear hst
         subst HL0
         go_wp2_with (first
           | (refine wpList_load_row rfl 37 (.tmp 3) rfl (w.heap.size+1) rfl 37 _ (0,0) _ Z1.out Tryd.underlying37 rfl (by kernel_rfl) ?_)
           | (refine wpList_store_row rfl 37 (.tmp 4) (.tmp 49) rfl (w.heap.size+1+1) #[.int .i64 x.kind,.int .u64 (Oc.U x.w0),.int .u64 (Oc.U x.w1),.int .u64 (Oc.U x.w2),.int .u64 (Oc.U x.w3),.slice px x.subs.length cx,.int .i64 x.num,.int .i64 x.least,.int .i64 x.most,.bool x.bare] rfl rfl 37 _ Z2.out (by kernel_rfl) rfl (by simp [Value.oneCell']) ?_)
           | fail)
         refine bodyPost_ret (results_cell_row rfl _ _ (w.heap.size+1+1) 37 #[.int .i64 x.kind,.int .u64 (Oc.U x.w0),.int .u64 (Oc.U x.w1),.int .u64 (Oc.U x.w2),.int .u64 (Oc.U x.w3),.slice px x.subs.length cx,.int .i64 x.num,.int .i64 x.least,.int .i64 x.most,.bool x.bare] (0,0) _ rfl (heap_setRow Z2.out) Tryd.underlying37 rfl (by kernel_rfl)) rfl ⟨.slice px x.subs.length cx,F0,rfl, ?_,fun b hb=>.inl hb,below_setRow HB.out (by omega) _⟩
         exact HX.out _ (below_setRow HB.out (by omega) _)
       | false =>
         have HL:Hid (R=Tr.rep t.least t.most x):=Lib.hid (by rw [← HRR.out];exact Tr.rep_rep H01.out HNN.out HNA.out (by rw [hst];exact fun h=>h.elim HNS.out (fun h=>by cases h)))
         clear hst
         obtain ⟨p0,p1,p2,p3,p4,p5,p6,p7,p8,p9⟩:=allTen Z0.out
         obtain ⟨q0,q1,q2,q3,q4,q5,q6,q7,q8,q9⟩:=allTen Z1.out
         go_wp2_with (first
           | (refine wpList_load_row rfl 37 (.tmp 3) rfl (w.heap.size+1) rfl 37 _ (0,0) _ Z1.out Tryd.underlying37 rfl (by kernel_rfl) ?_)
           | fail)
         clear p0 p1 p2 p3 p4 p5 p6 p7 p8 p9 q0 q1 q2 q3 q4 q5 q6 q7 q8 q9
         refine (HR.out _ HB.out).mono ?_
         rintro e w2 ⟨s2,F,rfl,ho,hF,hb2⟩
         obtain ⟨p2,c2,rfl,hl2⟩:=ho.slice
         have HO:=Lib.hid ho;have HF:=Lib.hid hF
         have Y2:=Lib.hid (keep_blk hb2 Z2.out)
         have HB2:=Lib.hid (HB.out.trans (hb2.mono HB.out.size))
         rw [show Tr.rep t.least t.most x=R from HL.out.symm] at *
         clear ho hF hb2
         unfold Tr.cells
         go_wp2_with (first
           | (refine wpList_store_row rfl 37 (.tmp 4) (.tmp 55) rfl (w.heap.size+1+1) #[.int .i64 R.kind,.int .u64 (Oc.U R.w0),.int .u64 (Oc.U R.w1),.int .u64 (Oc.U R.w2),.int .u64 (Oc.U R.w3),.slice p2 R.subs.length c2,.int .i64 R.num,.int .i64 R.least,.int .i64 R.most,.bool R.bare] rfl rfl 37 _ Y2.out (by kernel_rfl) rfl (by simp [Value.oneCell']) ?_)
           | fail)
         refine bodyPost_ret (results_cell_row rfl _ _ (w.heap.size+1+1) 37 #[.int .i64 R.kind,.int .u64 (Oc.U R.w0),.int .u64 (Oc.U R.w1),.int .u64 (Oc.U R.w2),.int .u64 (Oc.U R.w3),.slice p2 R.subs.length c2,.int .i64 R.num,.int .i64 R.least,.int .i64 R.most,.bool R.bare] (0,0) _ rfl (heap_setRow Y2.out) Tryd.underlying37 rfl (by kernel_rfl)) rfl ⟨.slice p2 R.subs.length c2,F,rfl, ?_, ?_, ?_⟩
         · exact HO.out.keep fun b hb=>by have:=HF.out b hb;have:=HSZ.out;rw [heap_setRow_other _ _ _ (by omega)]
         · intro b hb;have:=HF.out b hb;have:=HSZ.out;exact .inr (by omega)
         · exact below_setRow HB2.out (by omega) _
     have e11:(t.least == 1)=false:=by simpa using h3
     have h11:¬ (t.least=1∧t.most=1):=fun h=>h3 h.1
     clear h3
     have HNS:Hid (¬ (t.least=1∧t.most=1)):=Lib.hid h11
     clear h11
     obtain ⟨p0,p1,p2,p3,p4,p5,p6,p7,p8,p9⟩:=allTen Z0.out
     obtain ⟨q0,q1,q2,q3,q4,q5,q6,q7,q8,q9⟩:=allTen Z1.out
     go_wp2_with fail
     clear p0 p1 p2 p3 p4 p5 p6 p7 p8 p9 q0 q1 q2 q3 q4 q5 q6 q7 q8 q9
     refine (HT.out _).mono ?_
     rintro e W3 ⟨rfl,hb9⟩
     replace Z0:=Lib.hid (keep_blk hb9 Z0.out);replace Z1:=Lib.hid (keep_blk hb9 Z1.out);replace Z2:=Lib.hid (keep_blk hb9 Z2.out)
     replace HSZ:=Lib.hid (Nat.le_trans HSZ.out hb9.size)
     replace HB:=Lib.hid (HB.out.trans (hb9.mono HB.out.size))
     clear hb9
     cases hst:x.isStar with
     | true =>
       have HL0:x=R:=by rw [← HRR.out];exact (Tr.rep_same2 H01.out HNN.out HNA.out (.inr hst)).symm
       clear hst
       subst HL0
       go_wp2_with (first
         | (refine wpList_load_row rfl 37 (.tmp 3) rfl (w.heap.size+1) rfl 37 _ (0,0) _ Z1.out Tryd.underlying37 rfl (by kernel_rfl) ?_)
         | (refine wpList_store_row rfl 37 (.tmp 4) (.tmp 49) rfl (w.heap.size+1+1) #[.int .i64 x.kind,.int .u64 (Oc.U x.w0),.int .u64 (Oc.U x.w1),.int .u64 (Oc.U x.w2),.int .u64 (Oc.U x.w3),.slice px x.subs.length cx,.int .i64 x.num,.int .i64 x.least,.int .i64 x.most,.bool x.bare] rfl rfl 37 _ Z2.out (by kernel_rfl) rfl (by simp [Value.oneCell']) ?_)
         | fail)
       refine bodyPost_ret (results_cell_row rfl _ _ (w.heap.size+1+1) 37 #[.int .i64 x.kind,.int .u64 (Oc.U x.w0),.int .u64 (Oc.U x.w1),.int .u64 (Oc.U x.w2),.int .u64 (Oc.U x.w3),.slice px x.subs.length cx,.int .i64 x.num,.int .i64 x.least,.int .i64 x.most,.bool x.bare] (0,0) _ rfl (heap_setRow Z2.out) Tryd.underlying37 rfl (by kernel_rfl)) rfl ⟨.slice px x.subs.length cx,F0,rfl, ?_,fun b hb=>.inl hb,below_setRow HB.out (by omega) _⟩
       exact HX.out _ (below_setRow HB.out (by omega) _)
     | false =>
       have HL:Hid (R=Tr.rep t.least t.most x):=Lib.hid (by rw [← HRR.out];exact Tr.rep_rep H01.out HNN.out HNA.out (by rw [hst];exact fun h=>h.elim HNS.out (fun h=>by cases h)))
       clear hst
       obtain ⟨p0,p1,p2,p3,p4,p5,p6,p7,p8,p9⟩:=allTen Z0.out
       obtain ⟨q0,q1,q2,q3,q4,q5,q6,q7,q8,q9⟩:=allTen Z1.out
       go_wp2_with (first
         | (refine wpList_load_row rfl 37 (.tmp 3) rfl (w.heap.size+1) rfl 37 _ (0,0) _ Z1.out Tryd.underlying37 rfl (by kernel_rfl) ?_)
         | fail)
       clear p0 p1 p2 p3 p4 p5 p6 p7 p8 p9 q0 q1 q2 q3 q4 q5 q6 q7 q8 q9
       refine (HR.out _ HB.out).mono ?_
       rintro e w2 ⟨s2,F,rfl,ho,hF,hb2⟩
       obtain ⟨p2,c2,rfl,hl2⟩:=ho.slice
       have HO:=Lib.hid ho;have HF:=Lib.hid hF
       have Y2:=Lib.hid (keep_blk hb2 Z2.out)
       have HB2:=Lib.hid (HB.out.trans (hb2.mono HB.out.size))
       rw [show Tr.rep t.least t.most x=R from HL.out.symm] at *
       clear ho hF hb2
       unfold Tr.cells
       go_wp2_with (first
         | (refine wpList_store_row rfl 37 (.tmp 4) (.tmp 55) rfl (w.heap.size+1+1) #[.int .i64 R.kind,.int .u64 (Oc.U R.w0),.int .u64 (Oc.U R.w1),.int .u64 (Oc.U R.w2),.int .u64 (Oc.U R.w3),.slice p2 R.subs.length c2,.int .i64 R.num,.int .i64 R.least,.int .i64 R.most,.bool R.bare] rfl rfl 37 _ Y2.out (by kernel_rfl) rfl (by simp [Value.oneCell']) ?_)
         | fail)
       refine bodyPost_ret (results_cell_row rfl _ _ (w.heap.size+1+1) 37 #[.int .i64 R.kind,.int .u64 (Oc.U R.w0),.int .u64 (Oc.U R.w1),.int .u64 (Oc.U R.w2),.int .u64 (Oc.U R.w3),.slice p2 R.subs.length c2,.int .i64 R.num,.int .i64 R.least,.int .i64 R.most,.bool R.bare] (0,0) _ rfl (heap_setRow Y2.out) Tryd.underlying37 rfl (by kernel_rfl)) rfl ⟨.slice p2 R.subs.length c2,F,rfl, ?_, ?_, ?_⟩
       · exact HO.out.keep fun b hb=>by have:=HF.out b hb;have:=HSZ.out;rw [heap_setRow_other _ _ _ (by omega)]
       · intro b hb;have:=HF.out b hb;have:=HSZ.out;exact .inr (by omega)
       · exact below_setRow HB2.out (by omega) _
end Go.Proofs.YtllfgppjobinnaaDoor
namespace Go.Proofs.YtllfgppjobinnaaDoor
open Go.RowKit
namespace Tr
theorem len_nd:∀ l:List Tr,l.length ≤ ndS l
 | []=>Nat.le_refl _
 | u :: l=>by have:=len_nd l;have:=nd_pos u;rw [ndS,List.length_cons];omega
theorem nd_mem {l:List Tr} {u:Tr} (h:u ∈ l):u.ndT ≤ ndS l:=by
 induction l with
 | nil=>cases h
 | cons t l ih =>
   rw [ndS]
   rcases List.mem_cons.1 h with rfl | h
   · omega
   · have:=ih h;omega
theorem open_len (k:Int) (fs:List Tr):(openL k fs).length ≤ ndS fs:=Nat.le_trans (len_nd _) (nd_open k fs)
theorem open_nd {k:Int} {fs:List Tr} {u:Tr} (h:u ∈ openL k fs):u.ndT ≤ ndS fs:=Nat.le_trans (nd_mem h) (nd_open k fs)
end Tr
theorem altnil_any (w:World) (p:Option Addr) (cap:Nat):Calls Tryd.prog 24 #[.slice p 0 cap] w (OwnEnd Tr.noneT w):=by
 have HC:=Lib.hid (fun w9=>joined_nil 6 Tr.noneT w9 p cap rfl)
 have HY:=Lib.hid (fun w9=>bytes_is 0#64 0#64 0#64 0#64 w9)
 simp only [Tr.noneT,Tr.cells,Tr.kind,Tr.w0,Tr.w1,Tr.w2,Tr.w3,Tr.num,Tr.least,Tr.most,Tr.bare,u0] at HC HY
 go_enter Tryd.func24,Tryd.ntmps24
 go_wp2_with fail
 have z0:=heap_alloc_new w (.cells noNode 37)
 refine (HY.out _).mono ?_
 rintro e w1 ⟨rfl,hb1⟩
 have Z0:=Lib.hid (keep_blk hb1 z0)
 have HB1:=Lib.hid (((Below.refl w.heap.size w).alloc (Nat.le_refl _) (.cells noNode 37)).trans (hb1.mono (by simp)))
 have hs1:w.heap.size < w1.heap.size:=by have:=hb1.size;simp at this;omega
 clear z0 hb1
 go_wp2_with fail
 refine (HC.out _).mono ?_
 rintro e w2 ⟨s2,F,rfl,ho,hF,hb2⟩
 obtain ⟨p2,c2,rfl,hl2⟩:=ho.slice
 have HO:=Lib.hid ho;have HF:=Lib.hid hF
 have Y0:=Lib.hid (keep_blk hb2 Z0.out)
 have HB2:=Lib.hid (HB1.out.trans (hb2.mono HB1.out.size))
 clear ho hF hb2
 unfold Tr.cells
 simp only [Tr.kind,Tr.w0,Tr.w1,Tr.w2,Tr.w3,Tr.subs,Tr.num,Tr.least,Tr.most,Tr.bare,u0,List.length_nil] at *
 go_wp2_with (first
   | (refine wpList_store_row rfl 37 (.tmp 2) (.tmp 6) rfl w.heap.size #[.int .i64 2,.int .u64 0,.int .u64 0,.int .u64 0,.int .u64 0,.slice p2 0 c2,.int .i64 0,.int .i64 0,.int .i64 0,.bool false] rfl rfl 37 _ Y0.out (by kernel_rfl) rfl (by simp [Value.oneCell']) ?_)
   | fail)
 refine bodyPost_ret (results_cell_row rfl _ _ w.heap.size 37 #[.int .i64 2,.int .u64 0,.int .u64 0,.int .u64 0,.int .u64 0,.slice p2 0 c2,.int .i64 0,.int .i64 0,.int .i64 0,.bool false] (0,0) _ rfl (heap_setRow Y0.out) Tryd.underlying37 rfl (by kernel_rfl)) rfl ⟨.slice p2 0 c2,F,rfl, ?_, ?_, ?_⟩
 · exact HO.out.keep fun b hb=>by have:=HF.out b hb;rw [heap_setRow_other _ _ _ (by omega)]
 · intro b hb;have:=HF.out b hb;omega
 · exact below_setRow HB2.out (Nat.le_refl _) _
theorem altT_any (ts:List Tr) (w:World) (B:Nat→Prop) (v:Value) (hs:TreesAt w B v ts):Calls Tryd.prog 24 #[v] w (OwnEnd (Tr.altT ts) w):=by
 match ts,hs with
 | [],hs=>obtain ⟨p,cap,rfl,-⟩:=hs.slice;exact altnil_any w p cap
 | [t],hs=>exact alt_any [t] (by simp) w B v hs
 | a :: b :: r,hs=>exact alt_any (a :: b :: r) (by simp) w B v hs
theorem nmalt_any (fs : List Tr) (hS : ∀ u, u ∈ fs → u.Simp) (hN : Tr.ndS fs ≤ 1000000) (w : World) (hP : Lib.TabIs Tryd.prog w "internal/strconv.uint64pow10" .u64 Lib.pow10Tab) (B : Nat → Prop) (v : Value) (hs : TreesAt w B v fs) :
   Calls Tryd.prog 160 #[v] w (OwnEnd (Tr.altF fs) w):=by
 obtain ⟨p,cap,rfl,hlen⟩:=hs.slice
 have hol:=Tr.open_len 6 fs
 have HOP:=Lib.hid (fun w9 (hb:Below w.heap.size w w9)=>nmopened_any 6 fs (fun t ht hk=>(hS t ht).form.some56 (.inr hk)) (by omega) w9 B _ (hs.later hb))
 have HPW:=Lib.hid (Lib.tabBelow_of_tabIs hP)
 have HEL:Hid (∀ u,u ∈ Tr.oneL ((Tr.openL 6 fs).filter fun t=>!Tr.isNone t)→u.Simp∧u.ndT ≤ 1000000):=Lib.hid (Tr.oneL_all (P:=fun u=>u.Simp∧u.ndT ≤ 1000000) (fun u t hu ht h2 k2=>⟨hu.1.join ht.1 h2 k2,by rw [Tr.ndT_eq];have:=hu.2;rw [Tr.ndT_eq] at this;exact this⟩) fun u hu=>by
   have hu1:=(List.mem_filter.1 hu).1
   exact ⟨(Tr.open_simp (.inr rfl) hS u hu1).1,Nat.le_trans (Tr.open_nd hu1) hN⟩)
 have hE:Tr.altF fs=Tr.altT (Tr.uniqL (Tr.oneL ((Tr.openL 6 fs).filter fun t=>!Tr.isNone t))):=rfl
 generalize Tr.altF fs=R at *
 generalize Tr.openL 6 fs=L at *
 have HE:=Lib.hid hE;have HL:=Lib.hid (Nat.le_trans hol hN)
 clear hs hE hol hP hS hN
 go_enter Tryd.func160,Tryd.ntmps160
 go_wp2_with fail
 have z0:=heap_alloc_new w (.cells noNode 37)
 have hb0:Below w.heap.size w (w.alloc (.cells noNode 37)):=(Below.refl _ _).alloc (Nat.le_refl _) _
 have hs0:(w.alloc (.cells noNode 37)).heap.size=w.heap.size+1:=by simp
 have Z0:=Lib.hid z0;have HB0:=Lib.hid hb0;have HS0:=Lib.hid hs0
 clear z0 hb0 hs0
 generalize w.alloc _=W0 at *
 refine (HOP.out W0 HB0.out).mono ?_
 rintro e w1 ⟨vL,pL,rfl,hRL,hPL,hb1⟩
 have HRL:=Lib.hid hRL;have HPL:=Lib.hid hPL;have HB1:=Lib.hid hb1
 have hpl:pL.length ≤ 1000000:=by rw [len_fst hPL];exact HL.out
 have HDL:=Lib.hid (nmdelete_any pL W0.heap.size w1 hb1.size vL hRL hpl)
 clear hRL hPL hb1 HOP
 go_wp2_with fail
 refine HDL.out.mono ?_
 rintro e w2 ⟨v2,p2,rfl,hR2,hP2,hb2⟩
 rw [HPL.out] at hP2
 have hl2:p2.length ≤ 1000000:=by rw [len_fst hP2];exact Nat.le_trans (List.length_filter_le _ _) HL.out
 have hT2:=hR2.trees (by omega)
 rw [hP2] at hT2
 have HB2:=Lib.hid (HB1.out.trans hb2)
 have HON:=Lib.hid (nmone_any _ (by rw [← len_fst hP2];exact hl2) w2 _ v2 hT2)
 clear hR2 hb2 HDL hT2
 go_wp2_with fail
 refine HON.out.mono ?_
 rintro e w3 ⟨v3,p3,rfl,hR3,hP3,hb3⟩
 have hl3:p3.length ≤ 1000000:=by rw [len_fst hP3];exact Nat.le_trans (Tr.oneL_len _) (by rw [← len_fst hP2];exact hl2)
 have hT3:=hR3.trees (by omega)
 rw [hP3] at hT3
 have HB3:=Lib.hid (HB2.out.trans (hb3.mono HB2.out.size))
 have HBW3:=Lib.hid (HB0.out.trans (HB3.out.mono HB0.out.size))
 have HUN:=Lib.hid (nmunlike_any _ (fun u hu=>(HEL.out u hu).1) (by rw [← len_fst hP3];exact hl3) (fun u hu=>by have:=Tr.tell_len u (HEL.out u hu).1.form (HEL.out u hu).2;have:=(HEL.out u hu).2;omega) w3 (HPW.out w3 HBW3.out) _ v3 hT3)
 clear hR3 hb3 HON hT3 hP2
 go_wp2_with fail
 refine HUN.out.mono ?_
 rintro e w4 ⟨v4,p4,rfl,hR4,hP4,hb4⟩
 have hl4:p4.length ≤ 1000000:=by rw [len_fst hP4];exact Nat.le_trans (Tr.uniqL_sub _).length_le (by rw [← len_fst hP3];exact hl3)
 have hT4:=hR4.trees (by omega)
 rw [hP4] at hT4
 have HB4:=Lib.hid (HB3.out.trans (hb4.mono HB3.out.size))
 have HAL:=Lib.hid (altT_any _ w4 _ v4 hT4)
 rw [← HE.out] at HAL
 have Z4:=Lib.hid (keep_blk HB4.out Z0.out)
 have HBW4:=Lib.hid (HB0.out.trans (HB4.out.mono HB0.out.size))
 clear hR4 hb4 HUN hT4 hP3 hP4 HE HEL
 go_wp2_with fail
 refine HAL.out.mono ?_
 rintro e w5 ⟨s5,F,rfl,ho,hF,hb5⟩
 obtain ⟨p5,c5,rfl,hl5⟩:=ho.slice
 have HO:=Lib.hid ho;have HF2:=Lib.hid hF
 have Y0:=Lib.hid (keep_blk hb5 Z4.out)
 have HB5:=Lib.hid (HBW4.out.trans (hb5.mono HBW4.out.size))
 have HSZ:=Lib.hid (show w.heap.size < w4.heap.size from by have:=HB4.out.size;have:=HS0.out;omega)
 clear ho hF hb5 HAL
 unfold Tr.cells
 go_wp2_with (first
   | (refine wpList_store_row rfl 37 (.tmp 2) (.tmp 10) rfl w.heap.size #[.int .i64 R.kind,.int .u64 (Oc.U R.w0),.int .u64 (Oc.U R.w1),.int .u64 (Oc.U R.w2),.int .u64 (Oc.U R.w3),.slice p5 R.subs.length c5,.int .i64 R.num,.int .i64 R.least,.int .i64 R.most,.bool R.bare] rfl rfl 37 _ Y0.out (by kernel_rfl) rfl (by simp [Value.oneCell']) ?_)
   | fail)
 refine bodyPost_ret (results_cell_row rfl _ _ w.heap.size 37 #[.int .i64 R.kind,.int .u64 (Oc.U R.w0),.int .u64 (Oc.U R.w1),.int .u64 (Oc.U R.w2),.int .u64 (Oc.U R.w3),.slice p5 R.subs.length c5,.int .i64 R.num,.int .i64 R.least,.int .i64 R.most,.bool R.bare] (0,0) _ rfl (heap_setRow Y0.out) Tryd.underlying37 rfl (by kernel_rfl)) rfl ⟨.slice p5 R.subs.length c5,F,rfl, ?_, ?_, ?_⟩
 · exact HO.out.keep fun b hb=>by have:=HF2.out b hb;have:=HSZ.out;rw [heap_setRow_other _ _ _ (by omega)]
 · intro b hb;have:=HF2.out b hb;have:=HSZ.out;omega
 · exact below_setRow HB5.out (Nat.le_refl _) _
end Go.Proofs.YtllfgppjobinnaaDoor
namespace Go.Proofs.YtllfgppjobinnaaDoor
open Go.RowKit
def AnsIs (R:Tr) (F0:List Nat) (B:Nat) (w:World) (v:Value):Prop:=∃ s F,v=.agg (R.cells s)∧Owned w s R.subs F∧∀ b,b ∈ F→b ∈ F0 ∨ B ≤ b
theorem AnsIs.below {R:Tr} {F0:List Nat} {B:Nat} {w w':World} {v:Value} (h:AnsIs R F0 B w v) (hb:Below w.heap.size w w'):AnsIs R F0 B w' v:=by
 obtain ⟨s,F,h1,h2,h3⟩:=h;exact ⟨s,F,h1,h2.later hb,h3⟩
theorem Owned.one {w:World} {v:Value} {x:Tr} {F:List Nat} (h:Owned w v [x] F):∃ g o cap s F1,v=.slice (some ⟨g,o,none⟩) 1 cap∧TenAt w g o x s∧Owned w s x.subs F1∧∀ b,b ∈ F1→b ∈ F:=by
 generalize hl:[x]=l at h
 cases h with
 | nil p cap=>cases hl
 | row g o cap ts S L hlen hf hc hs hg hd =>
   subst hl
   have h0:=hc 0 x rfl
   rw [Nat.zero_mul,Nat.add_zero] at h0
   exact ⟨g,o,cap,S 0,L 0,rfl,h0,hs 0 x rfl,fun b hb=>List.mem_cons_of_mem _ (mem_range_flatMap.2 ⟨0,by simp,hb⟩)⟩
theorem nmsimple_any (t : Tr) (fs : List Tr) (hS : ∀ u, u ∈ fs → u.Simp) (hN : Tr.ndS fs ≤ 1000000) (h8 : t.kind = 8 → fs.length = 1) (w : World) (hP : Lib.TabIs Tryd.prog w "internal/strconv.uint64pow10" .u64 Lib.pow10Tab)
   (pt:Option Addr) (lt ct:Nat) (fv:Value) (F0:List Nat) (hf:Owned w fv fs F0) :
   Calls Tryd.prog 124 #[.agg (t.cells (.slice pt lt ct)),fv] w (OwnFrom F0 (Tr.simN t.kind t.w0 t.w1 t.w2 t.w3 fs t.num t.least t.most t.bare) w):=by
 have hz:=two_new w (.cells (t.cells (.slice pt lt ct)) 37) (.cells noNode 37)
 have hb0:Below w.heap.size w ((w.alloc (.cells (t.cells (.slice pt lt ct)) 37)).alloc (.cells noNode 37)):=by go_grown
 have hs0:((w.alloc (.cells (t.cells (.slice pt lt ct)) 37)).alloc (.cells noNode 37)).heap.size=w.heap.size+2:=by simp
 have Z0:=Lib.hid hz.1;have Z1:=Lib.hid hz.2;have HB0:=Lib.hid hb0;have HS0:=Lib.hid hs0
 have HPW:=Lib.hid (Lib.tabBelow_of_tabIs hP)
 have HFT:=Lib.hid (fun w9 (hb:Below w.heap.size w w9)=>hf.trees.later hb)
 have HF0:=Lib.hid hf.lt
 clear hz hb0 hs0 hP
 by_cases k5:t.kind=5
 · have e5:(t.kind == 5)=true:=by simpa using k5
   have hR:Tr.simN t.kind t.w0 t.w1 t.w2 t.w3 fs t.num t.least t.most t.bare=Tr.seqF fs:=by unfold Tr.simN;rw [if_pos k5]
   rw [hR]
   obtain ⟨p,cap,rfl,-⟩:=hf.slice
   have HC:=Lib.hid (fun w9 (hb:Below w.heap.size w w9)=>nmseq_any fs (fun u hu=>(hS u hu).form) (Nat.le_trans (Tr.open_len 5 fs) hN) w9 _ _ (HFT.out w9 hb))
   generalize Tr.seqF fs=R at *
   unfold Tr.cells at *
   clear hf hS hN h8 k5 hR HFT
   go_enter Tryd.func124,Tryd.ntmps124
   go_upto_region 1 with (fail)
   generalize (w.alloc _).alloc _=W0 at *
   obtain ⟨q0,q1,q2,q3,q4,q5,q6,q7,q8,q9⟩:=allTen Z0.out
   go_wp2_with fail
   clear q0 q1 q2 q3 q4 q5 q6 q7 q8 q9
   refine (HC.out W0 HB0.out).mono ?_
   rintro e w2 ⟨s2,F,rfl,ho,hF,hb2⟩
   obtain ⟨p2,c2,rfl,hl2⟩:=ho.slice
   have HO:=Lib.hid ho;have HF:=Lib.hid hF
   have Y1:=Lib.hid (keep_blk hb2 Z1.out)
   have HB2:=Lib.hid (HB0.out.trans (hb2.mono HB0.out.size))
   clear ho hF hb2 HC
   unfold Tr.cells
   go_wp2_with (first
     | (refine wpList_store_row rfl 37 (.tmp 4) (.tmp 10) rfl (w.heap.size+1) #[.int .i64 R.kind,.int .u64 (Oc.U R.w0),.int .u64 (Oc.U R.w1),.int .u64 (Oc.U R.w2),.int .u64 (Oc.U R.w3),.slice p2 R.subs.length c2,.int .i64 R.num,.int .i64 R.least,.int .i64 R.most,.bool R.bare] rfl rfl 37 _ Y1.out (by kernel_rfl) rfl (by simp [Value.oneCell']) ?_)
     | fail)
   refine bodyPost_ret (results_cell_row rfl _ _ (w.heap.size+1) 37 #[.int .i64 R.kind,.int .u64 (Oc.U R.w0),.int .u64 (Oc.U R.w1),.int .u64 (Oc.U R.w2),.int .u64 (Oc.U R.w3),.slice p2 R.subs.length c2,.int .i64 R.num,.int .i64 R.least,.int .i64 R.most,.bool R.bare] (0,0) _ rfl (heap_setRow Y1.out) Tryd.underlying37 rfl (by kernel_rfl)) rfl ⟨.slice p2 R.subs.length c2,F,rfl, ?_, ?_, ?_⟩
   · exact HO.out.keep fun b hb=>by have:=HF.out b hb;have:=HS0.out;rw [heap_setRow_other _ _ _ (by omega)]
   · intro b hb;have:=HF.out b hb;have:=HS0.out;exact .inr (by omega)
   · exact below_setRow HB2.out (Nat.le_succ _) _
 have e5:(t.kind == 5)=false:=by simpa using k5
 by_cases k6:t.kind=6
 · have e6:(t.kind == 6)=true:=by simpa using k6
   have hR:Tr.simN t.kind t.w0 t.w1 t.w2 t.w3 fs t.num t.least t.most t.bare=Tr.altF fs:=by unfold Tr.simN;rw [if_neg k5,if_pos k6]
   rw [hR]
   obtain ⟨p,cap,rfl,-⟩:=hf.slice
   have HC:=Lib.hid (fun w9 (hb:Below w.heap.size w w9)=>nmalt_any fs hS hN w9 (HPW.out w9 hb) _ _ (HFT.out w9 hb))
   generalize Tr.altF fs=R at *
   unfold Tr.cells at *
   clear hf hS hN h8 k5 k6 hR HFT
   go_enter Tryd.func124,Tryd.ntmps124
   go_upto_region 1 with (fail)
   generalize (w.alloc _).alloc _=W0 at *
   obtain ⟨q0,q1,q2,q3,q4,q5,q6,q7,q8,q9⟩:=allTen Z0.out
   go_wp2_with fail
   clear q0 q1 q2 q3 q4 q5 q6 q7 q8 q9
   refine (HC.out W0 HB0.out).mono ?_
   rintro e w2 ⟨s2,F,rfl,ho,hF,hb2⟩
   obtain ⟨p2,c2,rfl,hl2⟩:=ho.slice
   have HO:=Lib.hid ho;have HF:=Lib.hid hF
   have Y1:=Lib.hid (keep_blk hb2 Z1.out)
   have HB2:=Lib.hid (HB0.out.trans (hb2.mono HB0.out.size))
   clear ho hF hb2 HC
   unfold Tr.cells
   go_wp2_with (first
     | (refine wpList_store_row rfl 37 (.tmp 4) (.tmp 14) rfl (w.heap.size+1) #[.int .i64 R.kind,.int .u64 (Oc.U R.w0),.int .u64 (Oc.U R.w1),.int .u64 (Oc.U R.w2),.int .u64 (Oc.U R.w3),.slice p2 R.subs.length c2,.int .i64 R.num,.int .i64 R.least,.int .i64 R.most,.bool R.bare] rfl rfl 37 _ Y1.out (by kernel_rfl) rfl (by simp [Value.oneCell']) ?_)
     | fail)
   refine bodyPost_ret (results_cell_row rfl _ _ (w.heap.size+1) 37 #[.int .i64 R.kind,.int .u64 (Oc.U R.w0),.int .u64 (Oc.U R.w1),.int .u64 (Oc.U R.w2),.int .u64 (Oc.U R.w3),.slice p2 R.subs.length c2,.int .i64 R.num,.int .i64 R.least,.int .i64 R.most,.bool R.bare] (0,0) _ rfl (heap_setRow Y1.out) Tryd.underlying37 rfl (by kernel_rfl)) rfl ⟨.slice p2 R.subs.length c2,F,rfl, ?_, ?_, ?_⟩
   · exact HO.out.keep fun b hb=>by have:=HF.out b hb;have:=HS0.out;rw [heap_setRow_other _ _ _ (by omega)]
   · intro b hb;have:=HF.out b hb;have:=HS0.out;exact .inr (by omega)
   · exact below_setRow HB2.out (Nat.le_succ _) _
 have e6:(t.kind == 6)=false:=by simpa using k6
 by_cases k8:t.kind=8
 · obtain ⟨x,rfl⟩:=List.length_eq_one_iff.1 (h8 k8)
   have hR:Tr.simN t.kind t.w0 t.w1 t.w2 t.w3 [x] t.num t.least t.most t.bare=Tr.repF t.least t.most x:=by unfold Tr.simN;rw [if_neg k5,if_neg k6,if_pos k8];rfl
   rw [hR]
   obtain ⟨g1,o1,cf,sx,F1,rfl,tx,hox,hF1⟩:=hf.one
   obtain ⟨px,cx,rfl,-⟩:=hox.slice
   have TX:=Lib.hid (tx.keep (HB0.out.block _ tx.lt))
   have LTX:=Lib.hid (show g1 < ((w.alloc (.cells (t.cells (.slice pt lt ct)) 37)).alloc (.cells noNode 37)).heap.size by have:=tx.lt;have:=HS0.out;omega)
   have HC:=Lib.hid (fun w9 (hb:Below ((w.alloc (.cells (t.cells (.slice pt lt ct)) 37)).alloc (.cells noNode 37)).heap.size ((w.alloc (.cells (t.cells (.slice pt lt ct)) 37)).alloc (.cells noNode 37)) w9)=>(nmrep_any t x w9 pt lt ct (.slice px x.subs.length cx) F1 (hox.later (HB0.out.trans (hb.mono HB0.out.size)))).mono (R':=OwnFrom F0 (Tr.repF t.least t.most x) w9) (by
     rintro e w8 ⟨s8,F8,h1,h2,h3,h4⟩
     exact ⟨s8,F8,h1,h2,fun b h=>(h3 b h).imp (hF1 b) id,h4⟩))
   generalize Tr.repF t.least t.most x=R at *
   unfold Tr.cells at TX LTX HC Z0 Z1 HB0 HS0 ⊢
   rw [k8] at TX LTX HC Z0 Z1 HB0 HS0 ⊢
   clear hf hS hN h8 k5 k6 k8 e5 e6 hR HFT tx hox hF1
   go_enter Tryd.func124,Tryd.ntmps124
   go_upto_region 1 with (fail)
   generalize (w.alloc _).alloc _=W0 at *
   obtain ⟨q0,q1,q2,q3,q4,q5,q6,q7,q8,q9⟩:=allTen Z0.out
   go_upto_region 7 with (fail)
   clear q0 q1 q2 q3 q4 q5 q6 q7 q8 q9
   refine Ri.wp_region_late (by kernel_rfl) (by kernel_rfl) (by kernel_rfl) (by kernel_rfl) 5 (by kernel_rfl) (by kernel_rfl) (fun kk ww vv=>match kk with | 0=>vv=.agg #[.int .i64 8,.int .u64 (Oc.U t.w0),.int .u64 (Oc.U t.w1),.int .u64 (Oc.U t.w2),.int .u64 (Oc.U t.w3),.slice pt lt ct,.int .i64 t.num,.int .i64 t.least,.int .i64 t.most,.bool t.bare] | 1=>vv=.slice (some ⟨g1,o1,none⟩) 1 cf | 2=>vv=.pointer (some ⟨g1,o1,none⟩) | 3=>vv=.agg #[.int .i64 x.kind,.int .u64 (Oc.U x.w0),.int .u64 (Oc.U x.w1),.int .u64 (Oc.U x.w2),.int .u64 (Oc.U x.w3),.slice px x.subs.length cx,.int .i64 x.num,.int .i64 x.least,.int .i64 x.most,.bool x.bare] | 4=>AnsIs R F0 W0.heap.size ww vv | _=>True) (fun vv ww=>∃ p8 c8 F8,ww.heap[w.heap.size+1]? = some (.cells #[.int .i64 R.kind,.int .u64 (Oc.U R.w0),.int .u64 (Oc.U R.w1),.int .u64 (Oc.U R.w2),.int .u64 (Oc.U R.w3),.slice p8 R.subs.length c8,.int .i64 R.num,.int .i64 R.least,.int .i64 R.most,.bool R.bare] 37)∧Owned ww (.slice p8 R.subs.length c8) R.subs F8∧(∀ b,b ∈ F8→b ∈ F0 ∨ w.heap.size ≤ b)∧Below w.heap.size w ww) (fun kk ww vv w8 h hb=>by
           match kk,h with
           | 0,h=>exact h
           | 1,h=>exact h
           | 2,h=>exact h
           | 3,h=>exact h
           | 4,h=>exact h.below hb
           | _+5,_=>trivial) ?_ ?_ ?_
   · intro i hi9 L v w9 xa hF9 hL hd hv ho
     obtain ⟨hb,hk⟩:=hF9
     have hi':i=0 ∨ i=1 ∨ i=2 ∨ i=3 ∨ i=4:=by omega
     rcases hi' with rfl | rfl | rfl | rfl | rfl
     · have e2:xa.tmps.getD 2 undef=.pointer (some ⟨w.heap.size,0,none⟩):=ho 2 (by kernel_rfl)
       refine Ri.step_plain rfl rfl (fun K' hK'=>?_)
       refine wp_load_row _ _ rfl _ e2 _ _ _ _ (keep_blk hb Z0.out) Tryd.underlying37 rfl (by kernel_rfl) ?_
       exact hK' _ _ ⟨_,_,rfl,rfl,Below.refl _ _,rfl⟩
     · have e1:xa.tmps.getD 1 undef=.slice (some ⟨g1,o1,none⟩) 1 cf:=ho 1 (by kernel_rfl)
       refine Ri.step_plain rfl rfl (fun K' hK'=>?_)
       go_simp
       exact hK' _ _ ⟨_,_,rfl,rfl,(Below.refl _ _),rfl⟩
     · have j1:L 1=true:=by have:=hd _ rfl;simp [Region.binds] at this;simp [this]
       have f1:=(hv 1 18 rfl j1).trans (hk 1 j1)
       refine Ri.step_plain rfl rfl (fun K' hK'=>?_)
       go_simp
       exact hK' _ _ ⟨_,_,rfl,rfl,(Below.refl _ _),rfl⟩
     · have j2:L 2=true:=by have:=hd _ rfl;simp [Region.binds] at this;simp [this]
       have f2:=(hv 2 19 rfl j2).trans (hk 2 j2)
       refine Ri.step_plain rfl rfl (fun K' hK'=>?_)
       obtain ⟨d0,d1,d2,d3,d4,d5,d6,d7,d8,d9⟩:=TX.out.keep (hb.block _ LTX.out)
       go_simp
       exact hK' _ _ ⟨_,_,rfl,rfl,(Below.refl _ _),rfl⟩
     · obtain ⟨j0,j3⟩:L 0=true∧L 3=true:=by have:=hd _ rfl;simp [Region.binds] at this;simp [this]
       have f0:=(hv 0 17 rfl j0).trans (hk 0 j0)
       have f3:=(hv 3 20 rfl j3).trans (hk 3 j3)
       refine Ri.step_plain rfl rfl (fun K' hK'=>?_)
       go_simp
       refine (HC.out w9 hb).mono ?_
       rintro e w8 ⟨s8,F8,rfl,ho8,hF8,hb8⟩
       exact hK' _ _ ⟨_,_,rfl,rfl,hb8,⟨s8,F8,rfl,ho8,fun b h=>(hF8 b h).imp id fun h9=>Nat.le_trans hb.size h9⟩⟩
   · intro L v w9 xa hF9 hall hv ho
     obtain ⟨hb,hk⟩:=hF9
     have f0:=(hv 0 17 rfl (hall 0 (by omega))).trans (hk 0 (hall 0 (by omega)))
     have f1:=(hv 1 18 rfl (hall 1 (by omega))).trans (hk 1 (hall 1 (by omega)))
     have f2:=(hv 2 19 rfl (hall 2 (by omega))).trans (hk 2 (hall 2 (by omega)))
     have f3:=(hv 3 20 rfl (hall 3 (by omega))).trans (hk 3 (hall 3 (by omega)))
     have k4:AnsIs R F0 W0.heap.size w9 (v 4):=hk 4 (hall 4 (by omega))
     have f4:=hv 4 21 rfl (hall 4 (by omega))
     have e4:xa.tmps.getD 4 undef=.pointer (some ⟨(w.heap.size+1),0,none⟩):=ho 4 (by kernel_rfl)
     refine Ri.step_plain rfl rfl (fun K' hK'=>?_)
     obtain ⟨s8,F8,e8,ho8,hF8⟩:=k4
     obtain ⟨p8,c8,rfl,-⟩:=ho8.slice
     have f8:=f4.trans e8
     unfold Tr.cells at f8
     refine wp_store_row _ _ _ rfl (w.heap.size+1) #[.int .i64 R.kind,.int .u64 (Oc.U R.w0),.int .u64 (Oc.U R.w1),.int .u64 (Oc.U R.w2),.int .u64 (Oc.U R.w3),.slice p8 R.subs.length c8,.int .i64 R.num,.int .i64 R.least,.int .i64 R.most,.bool R.bare] e4 f8 37 _ (keep_blk hb Z1.out) (by kernel_rfl) (by kernel_rfl) (by simp [Value.oneCell']) ?_
     exact hK' _ _ ⟨_,undef,rfl,rfl,⟨p8,c8,F8,heap_setRow (keep_blk hb Z1.out),ho8.keep (fun b h=>by rw [heap_setRow_other _ _ _ (by have h1:=hF8 b h;have h2:=HS0.out;exact h1.elim (fun h1=>by have h3:=HF0.out b h1;omega) (fun h1=>by omega))]),(fun b h=>(hF8 b h).imp id fun h9=>Nat.le_trans (by have:=HS0.out;omega) h9),below_setRow (HB0.out.trans (hb.mono HB0.out.size)) (Nat.le_succ _) _⟩⟩
   · intro v w9 hfin
     obtain ⟨p8,c8,F8,hz8,ho8,hF8,hb8⟩:=hfin
     simp only [Ri.frame,List.zipIdx,List.foldl_cons,List.foldl_nil,if_true,List.setIfInBounds_toArray,List.set_cons_zero,List.set_cons_succ,Nat.reduceAdd]
     generalize v 0=z0;generalize v 1=z1;generalize v 2=z2;generalize v 3=z3;generalize v 4=z4
     have HZ8:=Lib.hid hz8;have HO8:=Lib.hid ho8;have HF8:=Lib.hid hF8;have HB8:=Lib.hid hb8
     clear hz8 ho8 hF8 hb8
     go_wp2
     exact bodyPost_ret (results_cell_row rfl _ _ (w.heap.size+1) 37 #[.int .i64 R.kind,.int .u64 (Oc.U R.w0),.int .u64 (Oc.U R.w1),.int .u64 (Oc.U R.w2),.int .u64 (Oc.U R.w3),.slice p8 R.subs.length c8,.int .i64 R.num,.int .i64 R.least,.int .i64 R.most,.bool R.bare] (0,0) _ rfl HZ8.out Tryd.underlying37 rfl (by kernel_rfl)) rfl ⟨.slice p8 R.subs.length c8,F8,rfl,HO8.out,HF8.out,HB8.out⟩
 have e8:(t.kind == 8)=false:=by simpa using k8
 have hR:Tr.simN t.kind t.w0 t.w1 t.w2 t.w3 fs t.num t.least t.most t.bare=.node t.kind t.w0 t.w1 t.w2 t.w3 [] t.num t.least t.most t.bare:=by unfold Tr.simN;rw [if_neg k5,if_neg k6,if_neg k8]
 rw [hR]
 obtain ⟨p,cap,rfl,-⟩:=hf.slice
 unfold Tr.cells at *
 clear hf hS hN h8 k5 k6 k8 hR HFT
 go_enter Tryd.func124,Tryd.ntmps124
 go_upto_region 1 with (fail)
 generalize (w.alloc _).alloc _=W0 at *
 obtain ⟨f5,g5⟩:=at5 Z0.out
 have Z0s:=Lib.hid (set5 (y:=.slice none 0 0) Z0.out)
 have Z1s:Hid ((W0.setCell ⟨w.heap.size,5,none⟩ (.slice none 0 0)).heap[w.heap.size+1]? = some (.cells noNode 37)):=Lib.hid (by rw [Below.heap_setCell _ _ _ _ (by simp)];exact Z1.out)
 obtain ⟨q0,-⟩:=allTen Z0.out
 go_wp2_with (first
   | (refine wpList_load_row rfl 37 (.tmp 2) rfl w.heap.size rfl 37 _ (0,0) _ Z0s.out Tryd.underlying37 rfl (by kernel_rfl) ?_)
   | (refine wpList_store_row rfl 37 (.tmp 4) (.tmp 23) rfl (w.heap.size+1) #[.int .i64 t.kind,.int .u64 (Oc.U t.w0),.int .u64 (Oc.U t.w1),.int .u64 (Oc.U t.w2),.int .u64 (Oc.U t.w3),.slice none 0 0,.int .i64 t.num,.int .i64 t.least,.int .i64 t.most,.bool t.bare] rfl rfl 37 _ Z1s.out (by kernel_rfl) rfl (by simp [Value.oneCell']) ?_)
   | fail)
 refine bodyPost_ret (results_cell_row rfl _ _ (w.heap.size+1) 37 #[.int .i64 t.kind,.int .u64 (Oc.U t.w0),.int .u64 (Oc.U t.w1),.int .u64 (Oc.U t.w2),.int .u64 (Oc.U t.w3),.slice none 0 0,.int .i64 t.num,.int .i64 t.least,.int .i64 t.most,.bool t.bare] (0,0) _ rfl (heap_setRow Z1s.out) Tryd.underlying37 rfl (by kernel_rfl)) rfl ⟨.slice none 0 0,[],rfl,.nil _ _,fun b hb=>(by cases hb), ?_⟩
 exact below_setRow (HB0.out.setCell (Nat.le_refl _) _) (Nat.le_succ _) _
end Go.Proofs.YtllfgppjobinnaaDoor
namespace Go.Proofs.YtllfgppjobinnaaDoor
open Go.RowKit
theorem results_row_nm {P:Program} {fn:Func} {p q:Tmp} {ty:TypeId} (h:fn.results=#[.cell p ty,.tmp q]) (tmps:Array Value) (w:World) (g:Nat) (t:TypeId) (cs:Array Value) (fr:Nat × Nat) (d:TypeDesc) (y:Value)
   (hp:tmps.getD p undef=.pointer (some ⟨g,0,none⟩)) (hy:tmps.getD q undef=y) (hg:w.heap[g]? = some (.cells cs t fr))
   (hu:P.underlying ty=some d) (hd:(match d with | .struct _ | .array _ _=>true | _=>false)=true) (hi:(P.info? ty).map (·.size)=some cs.size) :
   (results fn tmps).run P w=.ok (.tuple #[.agg cs,y]) w:=by
 have hp':tmps[p]?.getD undef=.pointer (some ⟨g,0,none⟩):=by simpa using hp
 have hy':tmps[q]?.getD undef=y:=by simpa using hy
 simp [results,h,hp',hy',asAddr,run_loadVar_row w g t ty cs fr d hg hu hd hi]
def NmEnd (t:Tr) (w:World) (e:Ending) (w':World):Prop:=∃ s F,e=.returned (.tuple #[.agg (t.nmT.cells s),.bool t.freeT])∧Owned w' s t.nmT.subs F∧(∀ b,b ∈ F→w.heap.size ≤ b)∧Below w.heap.size w w'
theorem Tr.nd_nmS {l:List Tr} (h:∀ u,u ∈ l→u.InForm):Tr.ndS (l.map Tr.nmT) ≤ Tr.ndS l:=by
 induction l with
 | nil=>exact Nat.le_refl _
 | cons u l il =>
   have hu:=h u List.mem_cons_self
   rw [List.map_cons,Tr.ndS,Tr.ndS]
   have a:=Tr.nd_nm u (fun e=>by obtain ⟨x,hx,-⟩:=hu.rep e;rw [hx];rfl) (fun v hv=>hu.sub hv)
   have b:=il fun v hv=>h v (List.mem_cons_of_mem _ hv)
   omega
theorem Tr.free_ne (t:Tr):t.freeT=((t.kind != 7) && Tr.freeL t.subs):=by
 rw [Tr.freeT_eq]
 by_cases h:t.kind=7
 · simp [h]
 · have:(t.kind != 7)=true:=by simpa using h
   rw [this,decide_eq_true h]
theorem nmnormal_any : ∀ t : Tr, t.InForm → t.ndT ≤ 1000000 → ∀ (w : World) (B : Nat → Prop) (v : Value), Lib.TabIs Tryd.prog w "internal/strconv.uint64pow10" .u64 Lib.pow10Tab → NodeV w B v t → Calls Tryd.prog 85 #[v] w (NmEnd t w) := by
 intro t
 induction t using Tr.rec_subs with
 | h t ih =>
   intro hf hnd w B v hP hv
   obtain ⟨s,rfl,hs⟩:=hv
   obtain ⟨p,cap,rfl,hlen⟩:=hs.slice
   have hz:=two_new w (.cells (t.cells (.slice p t.subs.length cap)) 37) (.cells noNode 37)
   have hb0:Below w.heap.size w ((w.alloc (.cells (t.cells (.slice p t.subs.length cap)) 37)).alloc (.cells noNode 37)):=by go_grown
   have hs0:((w.alloc (.cells (t.cells (.slice p t.subs.length cap)) 37)).alloc (.cells noNode 37)).heap.size=w.heap.size+2:=by simp
   have Z0:=Lib.hid hz.1;have Z1:=Lib.hid hz.2;have HB0:=Lib.hid hb0;have HS0:=Lib.hid hs0
   have HPW:=Lib.hid (Lib.tabBelow_of_tabIs hP)
   have hfr:=Tr.free_ne t
   rw [Tr.ndT_eq] at hnd
   have HND:=Lib.hid hnd
   have HIF:=Lib.hid hf;have IH:=Lib.hid ih;have HS:=Lib.hid hs
   have HSIM:=Lib.hid (fun (w9:World) (hb:Below w.heap.size w w9) (fv:Value) (F0:List Nat) (hfv:Owned w9 fv (t.subs.map Tr.nmT) F0) (hft:t.freeT=true)=>nmsimple_any t (t.subs.map Tr.nmT) (fun u hu=>by
       obtain ⟨y,hy,rfl⟩:=List.mem_map.1 hu
       rw [Tr.freeT_eq,Bool.and_eq_true,Tr.freeL_iff] at hft
       exact Tr.simp_nm (hf.sub hy) (hft.2 y hy)) (Nat.le_trans (Tr.nd_nmS fun u hu=>hf.sub hu) (by omega)) (fun e=>by obtain ⟨x,hx,-⟩:=hf.rep e;rw [hx];rfl) w9 (Lib.tabBelow_of_tabIs hP w9 hb) p t.subs.length cap fv F0 hfv)
   obtain ⟨CS,hCS,hmk⟩:=make_nodes t.subs.length hlen
   have HCS:=Lib.hid hCS
   clear hz hb0 hs0 hP hs hf ih hnd hCS
   generalize hts:t.subs=ts at *
   have HTS:=Lib.hid hts
   have HFR:=Lib.hid hfr
   clear hts hfr
   unfold NmEnd
   unfold Tr.cells at HSIM Z0 Z1 HB0 HS0 ⊢
   go_enter Tryd.func85,Tryd.ntmps85
   go_upto_region 1 with (fail)
   generalize (w.alloc _).alloc _=W0 at *
   obtain ⟨q0,q1,q2,q3,q4,q5,q6,q7,q8,q9⟩:=allTen Z0.out
   have hzf:=heap_alloc_new W0 (.cells CS 37)
   have hbf:Below W0.heap.size W0 (W0.alloc (.cells CS 37)):=(Below.refl _ _).alloc (Nat.le_refl _) _
   have hsf:W0.heap.size < (W0.alloc (.cells CS 37)).heap.size:=by simp
   have ZF:=Lib.hid hzf;have HBF:=Lib.hid hbf
   have QZ:=Lib.hid (keep_blk hbf Z0.out)
   clear hzf hbf q0 q1 q2 q3 q4 q5 q6 q7 q8 q9
   obtain ⟨q0,q1,q2,q3,q4,q5,q6,q7,q8,q9⟩:=allTen Z0.out
   obtain ⟨r0,r1,r2,r3,r4,r5,r6,r7,r8,r9⟩:=allTen QZ.out
   go_wp2
   generalize hwf:W0.alloc _=W1 at *
   clear hwf q0 q1 q2 q3 q4 q5 q6 q7 q8 q9 r0 r1 r2 r3 r4 r5 r6 r7 r8 r9 hmk
   go_loopw [20,4] (fun iv fv wr=>∃ (m:Nat) (bb:Bool),iv=.int .i64 m∧fv=.bool bb∧m ≤ ts.length∧Hid (bb=((t.kind != 7) && Tr.freeL (ts.take m)))∧Hid (Below W0.heap.size W0 wr)∧W0.heap.size < wr.heap.size∧Hid (∃ C:Array Value,wr.heap[W0.heap.size]? = some (.cells C 37)∧C.size=ts.length * 10)∧Hid (CopiedTo wr W0.heap.size (ts.map Tr.nmT) m)) (fun iv _ _=>ts.length - (intOf iv).toNat)
   case atStart=>exact ⟨0,_,rfl,rfl,Nat.zero_le _,Lib.hid (by simp [Tr.freeL]),HBF,hsf,Lib.hid ⟨CS,ZF.out,HCS.out⟩,Lib.hid (CopiedTo.zero _ _ _)⟩
   case round =>
     obtain ⟨m,bb,rfl,rfl,hm,HFV,HB,hsz,HC,HD⟩:=hrel
     have wm:IntKind.i64.wrap ((m:Int)+1)=(m:Int)+1:=IntWalk.i64_in _ (by omega)
     have HBW:=Lib.hid (HB0.out.trans (HB.out.mono HB0.out.size))
     by_cases hlt:m < ts.length
     · obtain ⟨x,hx⟩:∃ x,ts[m]? = some x:=⟨_,List.getElem?_eq_getElem hlt⟩
       obtain ⟨b1,o1,s1,rfl,-,t1,sub1⟩:=HS.out.get hx
       obtain ⟨d0,d1,d2,d3,d4,d5,d6,d7,d8,d9⟩:=t1.keep (HBW.out.block _ t1.lt)
       obtain ⟨p1,c1,rfl,hl1⟩:=sub1.slice
       have hmem:=List.mem_of_getElem? hx
       have HX:=Lib.hid (show (ts.map Tr.nmT)[m]? = some x.nmT by rw [List.getElem?_map,hx];rfl)
       have HFT:=Lib.hid (Tr.freeL_take ts m x hx)
       have Z5:=Lib.hid (heap_alloc_new wr (.cells (x.cells (.slice p1 x.subs.length c1)) 37))
       have HB5:=Lib.hid ((Below.refl wr.heap.size wr).alloc (Nat.le_refl _) (.cells (x.cells (.slice p1 x.subs.length c1)) 37))
       have HCALL:=Lib.hid (fun w9 (hb:Below w.heap.size w w9)=>IH.out x hmem (HIF.out.sub (by rw [HTS.out];exact hmem)) (by have h1:=Tr.nd_mem hmem;have h2:=HND.out;omega) w9 B (.agg (x.cells (.slice p1 x.subs.length c1))) (HPW.out w9 hb) ⟨_,rfl,sub1.later hb⟩)
       clear t1 sub1 hx hmem
       unfold NmEnd at HCALL
       unfold Tr.cells at Z5 HB5
       go_upto_region 6 with (fail)
       generalize hw5:wr.alloc _=w5 at *
       clear hw5 d0 d1 d2 d3 d4 d5 d6 d7 d8 d9
       have HBW5:=Lib.hid (HBW.out.trans (HB5.out.mono HBW.out.size))
       have HCC:=Lib.hid (HCALL.out w5 HBW5.out)
       unfold Tr.cells at HCC
       clear HCALL
       go_wp2_with (first
         | (refine wpList_load_row rfl 37 (.tmp 7) rfl wr.heap.size rfl 37 _ (0,0) _ Z5.out Tryd.underlying37 rfl (by kernel_rfl) ?_)
         | fail)
       refine HCC.out.mono ?_
       rintro e w6 ⟨s6,F6,rfl,ho6,hF6,hb6⟩
       clear HCC
       generalize x.nmT=y at *
       generalize x.freeT=fy at *
       obtain ⟨p6,c6,rfl,hl6⟩:=ho6.slice
       have HO6:=Lib.hid ho6;have HF6:=Lib.hid hF6
       have HB56:=Lib.hid (HB5.out.trans (hb6.mono HB5.out.size))
       have Z7:=Lib.hid (heap_alloc_new w6 (.cells (y.cells (.slice p6 y.subs.length c6)) 37))
       have HB7:=Lib.hid ((Below.refl w6.heap.size w6).alloc (Nat.le_refl _) (.cells (y.cells (.slice p6 y.subs.length c6)) 37))
       have HO7:=Lib.hid (ho6.later HB7.out)
       clear ho6 hF6 hb6
       unfold Tr.cells at Z7 HB7 HO7
       go_upto_region 7 with (fail)
       generalize hw7:w6.alloc _=w7 at *
       clear hw7
       have HB57:=Lib.hid (HB56.out.trans (HB7.out.mono HB56.out.size))
       have HST0:Hid (∀ b,b ∈ F6→wr.heap.size ≤ b):=Lib.hid fun b hb=>Nat.le_trans HB5.out.size (HF6.out b hb)
       obtain ⟨C,hC1,hC2⟩:=HC.out
       have hC3:=keep_blk HB57.out hC1
       have hth:w7.there W0.heap.size (m * 10) 10:=there_row hC3 (by omega)
       have HTH:=Lib.hid hth
       have HST:=Lib.hid (HD.out.step HX.out HB57.out hsz HO7.out HST0.out hth)
       have HB8:=Lib.hid (HB.out.trans (HB57.out.mono HB.out.size))
       have HC4:Hid (∃ C:Array Value,(w7.setCells W0.heap.size (m * 10) (y.cells (.slice p6 y.subs.length c6)).toList).heap[W0.heap.size]? = some (.cells C 37)∧C.size=ts.length * 10):=Lib.hid (row_setCells hC3 hC2)
       have hs8:W0.heap.size < w7.heap.size:=Nat.lt_of_lt_of_le hsz HB57.out.size
       have HBB:Hid ((bb && fy)=((t.kind != 7) && Tr.freeL (ts.take (m+1)))):=Lib.hid (by rw [HFT.out,HFV.out,Bool.and_assoc])
       clear hC1 hC2 hC3 hth
       unfold Tr.cells at HST HC4
       cases bb with
       | true =>
         go_wp2_with (first
           | (refine wpList_load_row rfl 37 (.tmp 8) rfl w6.heap.size rfl 37 _ (0,0) _ Z7.out Tryd.underlying37 rfl (by kernel_rfl) ?_)
           | (refine wpList_store_mid rfl 37 (.tmp 33) (.tmp 32) rfl W0.heap.size (m * 10) #[.int .i64 y.kind,.int .u64 (Oc.U y.w0),.int .u64 (Oc.U y.w1),.int .u64 (Oc.U y.w2),.int .u64 (Oc.U y.w3),.slice p6 y.subs.length c6,.int .i64 y.num,.int .i64 y.least,.int .i64 y.most,.bool y.bare] rfl rfl HTH.out (by kernel_rfl) (nodeC_all _ _ _ _) ?_;generalize hw3:World.setCells w7 _ _ _=w8 at HST HC4;have HW3:=Lib.hid hw3;clear hw3)
           | fail)
         exact ⟨⟨m+1,fy,by go_num,rfl,by omega,Lib.hid (by have:=HBB.out;simpa using this),Lib.hid (by rw [← HW3.out];exact setCells_below HB8.out (Nat.le_refl _) _ _),by rw [← HW3.out,size_setCells];exact hs8,HC4,HST⟩,by simp [intOf];omega⟩
       | false =>
         go_wp2_with (first
           | (refine wpList_load_row rfl 37 (.tmp 8) rfl w6.heap.size rfl 37 _ (0,0) _ Z7.out Tryd.underlying37 rfl (by kernel_rfl) ?_)
           | (refine wpList_store_mid rfl 37 (.tmp 33) (.tmp 32) rfl W0.heap.size (m * 10) #[.int .i64 y.kind,.int .u64 (Oc.U y.w0),.int .u64 (Oc.U y.w1),.int .u64 (Oc.U y.w2),.int .u64 (Oc.U y.w3),.slice p6 y.subs.length c6,.int .i64 y.num,.int .i64 y.least,.int .i64 y.most,.bool y.bare] rfl rfl HTH.out (by kernel_rfl) (nodeC_all _ _ _ _) ?_;generalize hw3:World.setCells w7 _ _ _=w8 at HST HC4;have HW3:=Lib.hid hw3;clear hw3)
           | fail)
         exact ⟨⟨m+1,false,by go_num,rfl,by omega,Lib.hid (by have:=HBB.out;simpa using this),Lib.hid (by rw [← HW3.out];exact setCells_below HB8.out (Nat.le_refl _) _ _),by rw [← HW3.out,size_setCells];exact hs8,HC4,HST⟩,by simp [intOf];omega⟩
     · obtain rfl:m=ts.length:=by omega
       have hfr:t.freeT=bb:=by rw [HFR.out,HFV.out,List.take_length]
       obtain ⟨C,hC1,-⟩:=HC.out
       obtain ⟨F,hF,hF2⟩:=(show CopiedTo wr W0.heap.size (ts.map Tr.nmT) (ts.map Tr.nmT).length by rw [List.length_map];exact HD.out).owned (by rw [List.length_map];exact hlen) ⟨C,_,hC1⟩ ts.length
       have hlm:(ts.map Tr.nmT).length=ts.length:=List.length_map _
       rw [hlm] at hF
       have HF:=Lib.hid hF;have HF2:=Lib.hid hF2
       have Z4:=Lib.hid (keep_blk HB.out Z0.out);have Z5:=Lib.hid (keep_blk HB.out Z1.out)
       clear hF hF2 hC1 hlm HC HD HFV HIF HND IH Z0 Z1 ZF QZ
       cases bb with
       | true =>
         have hR:Tr.simN t.kind t.w0 t.w1 t.w2 t.w3 (ts.map Tr.nmT) t.num t.least t.most t.bare=t.nmT:=by rw [← HTS.out];exact (Tr.nmT_free hfr).symm
         have HC:=Lib.hid (HSIM.out wr HBW.out _ F HF.out hfr)
         rw [hR] at HC
         obtain ⟨R,hRN⟩:∃ R,t.nmT=R:=⟨_,rfl⟩
         rw [hRN] at HC
         have HRN:=Lib.hid hRN;have HFE:=Lib.hid hfr
         clear HSIM hfr hR HFR hRN
         obtain ⟨q0,q1,q2,q3,q4,q5,q6,q7,q8,q9⟩:=allTen Z4.out
         go_upto_region 11 with (fail)
         clear q0 q1 q2 q3 q4 q5 q6 q7 q8 q9
         go_wp2_with (first
           | (refine wpList_load_row rfl 37 (.tmp 1) rfl w.heap.size rfl 37 _ (0,0) _ Z4.out Tryd.underlying37 rfl (by kernel_rfl) ?_)
           | fail)
         refine HC.out.mono ?_
         rintro e w2 ⟨s2,F2,rfl,ho,hF2,hb2⟩
         obtain ⟨p2,c2,rfl,hl2⟩:=ho.slice
         have HO:=Lib.hid ho
         have HFF:Hid (∀ b,b ∈ F2→w.heap.size+2 ≤ b):=Lib.hid fun b hb=>(hF2 b hb).elim (fun h=>by have:=HF2.out b h;have:=HS0.out;omega) (fun h=>by have:=HS0.out;omega)
         have Y1:=Lib.hid (keep_blk hb2 Z5.out)
         have HB2:=Lib.hid (HBW.out.trans (hb2.mono HBW.out.size))
         clear ho hF2 hb2 HC
         unfold Tr.cells
         go_wp2_with (first
           | (refine wpList_store_row rfl 37 (.tmp 2) (.tmp 42) rfl (w.heap.size+1) #[.int .i64 R.kind,.int .u64 (Oc.U R.w0),.int .u64 (Oc.U R.w1),.int .u64 (Oc.U R.w2),.int .u64 (Oc.U R.w3),.slice p2 R.subs.length c2,.int .i64 R.num,.int .i64 R.least,.int .i64 R.most,.bool R.bare] rfl rfl 37 _ Y1.out (by kernel_rfl) rfl (by simp [Value.oneCell']) ?_)
           | fail)
         refine bodyPost_ret (results_row_nm rfl _ _ (w.heap.size+1) 37 #[.int .i64 R.kind,.int .u64 (Oc.U R.w0),.int .u64 (Oc.U R.w1),.int .u64 (Oc.U R.w2),.int .u64 (Oc.U R.w3),.slice p2 R.subs.length c2,.int .i64 R.num,.int .i64 R.least,.int .i64 R.most,.bool R.bare] (0,0) _ _ rfl rfl (heap_setRow Y1.out) Tryd.underlying37 rfl (by kernel_rfl)) rfl ⟨.slice p2 R.subs.length c2,F2,by rw [HRN.out,HFE.out];rfl, ?_, ?_, ?_⟩
         · rw [HRN.out];exact HO.out.keep fun b hb=>by have:=HFF.out b hb;rw [heap_setRow_other _ _ _ (by omega)]
         · intro b hb;have:=HFF.out b hb;omega
         · exact below_setRow HB2.out (Nat.le_succ _) _
       | false =>
         have hR:t.nmT=.node t.kind t.w0 t.w1 t.w2 t.w3 (ts.map Tr.nmT) t.num t.least t.most t.bare:=by rw [← HTS.out];exact Tr.nmT_other hfr
         have HRN:=Lib.hid hR;have HFE:=Lib.hid hfr
         clear HSIM hfr hR HFR
         obtain ⟨f5,g5⟩:=at5 Z4.out
         have Z4s:=Lib.hid (set5 (y:=.slice (some ⟨W0.heap.size,0,none⟩) ts.length ts.length) Z4.out)
         have Z5s:Hid ((wr.setCell ⟨w.heap.size,5,none⟩ (.slice (some ⟨W0.heap.size,0,none⟩) ts.length ts.length)).heap[w.heap.size+1]? = some (.cells noNode 37)):=Lib.hid (by rw [Below.heap_setCell _ _ _ _ (by simp)];exact Z5.out)
         go_wp2_with (first
           | (refine wpList_load_row rfl 37 (.tmp 1) rfl w.heap.size rfl 37 _ (0,0) _ Z4s.out Tryd.underlying37 rfl (by kernel_rfl) ?_)
           | (refine wpList_store_row rfl 37 (.tmp 2) (.tmp 45) rfl (w.heap.size+1) #[.int .i64 t.kind,.int .u64 (Oc.U t.w0),.int .u64 (Oc.U t.w1),.int .u64 (Oc.U t.w2),.int .u64 (Oc.U t.w3),.slice (some ⟨W0.heap.size,0,none⟩) ts.length ts.length,.int .i64 t.num,.int .i64 t.least,.int .i64 t.most,.bool t.bare] rfl rfl 37 _ Z5s.out (by kernel_rfl) rfl (by simp [Value.oneCell']) ?_)
           | fail)
         refine bodyPost_ret (results_row_nm rfl _ _ (w.heap.size+1) 37 #[.int .i64 t.kind,.int .u64 (Oc.U t.w0),.int .u64 (Oc.U t.w1),.int .u64 (Oc.U t.w2),.int .u64 (Oc.U t.w3),.slice (some ⟨W0.heap.size,0,none⟩) ts.length ts.length,.int .i64 t.num,.int .i64 t.least,.int .i64 t.most,.bool t.bare] (0,0) _ _ rfl rfl (heap_setRow Z5s.out) Tryd.underlying37 rfl (by kernel_rfl)) rfl ⟨.slice (some ⟨W0.heap.size,0,none⟩) ts.length ts.length,F,by rw [HRN.out,HFE.out];rfl, ?_, ?_, ?_⟩
         · rw [HRN.out];exact HF.out.keep fun b hb=>by have:=HF2.out b hb;have:=HS0.out;rw [heap_setRow_other _ _ _ (by omega),Below.heap_setCell _ _ _ _ (by simp;omega)]
         · intro b hb;have:=HF2.out b hb;have:=HS0.out;omega
         · exact below_setRow (HBW.out.setCell (Nat.le_refl _) _) (Nat.le_succ _) _
end Go.Proofs.YtllfgppjobinnaaDoor
namespace Go.Proofs.YtllfgppjobinnaaDoor
open Go.RowKit
theorem sentN_zero (A:Nat→Addr):sentV A 0=.nilIface:=if_pos rfl
theorem nmapi_yes (A : Nat → Addr) (t : Tr) (hc : t.checkC = 0) (hnd : t.ndT ≤ 1000000) (w : World) (hE : ErrsC w A) (hP : Lib.TabIs Tryd.prog w "internal/strconv.uint64pow10" .u64 Lib.pow10Tab) (B : Nat → Prop) (v : Value) (hv : NodeV w B v t) :
   Calls Tryd.prog 43 #[v] w (fun e w'=>∃ s F,e=.returned (.tuple #[.agg (t.nmT.cells s),.nilIface])∧Owned w' s t.nmT.subs F∧(∀ b,b ∈ F→w.heap.size ≤ b)∧Below w.heap.size w w'):=by
 have hd:t.dpT ≤ 1000000:=by have:=(Tr.checkC_zero.1 hc).2.1;omega
 obtain ⟨s,rfl,hs⟩:=hv
 obtain ⟨p,cap,rfl,hlen⟩:=hs.slice
 obtain ⟨z0,z1⟩:=two_new w (.cells (t.cells (.slice p t.subs.length cap)) 37) (.cells noNode 37)
 have hb0:Below w.heap.size w ((w.alloc (.cells (t.cells (.slice p t.subs.length cap)) 37)).alloc (.cells noNode 37)):=by go_grown
 have hs0:((w.alloc (.cells (t.cells (.slice p t.subs.length cap)) 37)).alloc (.cells noNode 37)).heap.size=w.heap.size+2:=by simp
 have HK:=Lib.hid (fun w9 (hb:Below w.heap.size w w9)=>treecheckC_any A t hd w9 (hE.below hb) B (.agg (t.cells (.slice p t.subs.length cap))) ⟨_,rfl,hs.later hb⟩)
 have HX:=Lib.hid (fun w9 (hb:Below w.heap.size w w9)=>nmnormal_any t (Tr.checkC_zero.1 hc).1 hnd w9 B (.agg (t.cells (.slice p t.subs.length cap))) (Lib.tabBelow_of_tabIs hP w9 hb) ⟨_,rfl,hs.later hb⟩)
 have Z0:=Lib.hid z0;have Z1:=Lib.hid z1;have HB0:=Lib.hid hb0;have HS0:=Lib.hid hs0
 clear hs z0 z1 hb0 hs0 hlen hE hP
 unfold NmEnd at HX
 unfold Tr.cells at *
 rw [hc,sentN_zero] at HK
 clear hc hd hnd
 generalize t.nmT=R at *
 go_enter Tryd.func43,Tryd.ntmps43
 go_upto_region 1 with (fail)
 generalize (w.alloc _).alloc _=W0 at *
 go_wp2_with (first
   | (refine wpList_load_row rfl 37 (.tmp 1) rfl w.heap.size rfl 37 _ (0,0) _ Z0.out Tryd.underlying37 rfl (by kernel_rfl) ?_)
   | fail)
 refine (HK.out W0 HB0.out).mono ?_
 rintro e w1 ⟨rfl,hb1⟩
 have Y0:=Lib.hid (keep_blk hb1 Z0.out);have Y1:=Lib.hid (keep_blk hb1 Z1.out)
 have HB1:=Lib.hid (HB0.out.trans (hb1.mono HB0.out.size))
 have HS1:=Lib.hid (show w.heap.size+2 ≤ w1.heap.size from by have:=hb1.size;have:=HS0.out;omega)
 clear hb1 HK Z0 Z1 HB0 HS0
 have HX2:=Lib.hid (HX.out w1 HB1.out)
 clear HX
 go_wp2_with (first
   | (refine wpList_load_row rfl 37 (.tmp 1) rfl w.heap.size rfl 37 _ (0,0) _ Y0.out Tryd.underlying37 rfl (by kernel_rfl) ?_)
   | fail)
 refine HX2.out.mono ?_
 rintro e w2 ⟨s2,F,rfl,ho,hF,hb2⟩
 obtain ⟨p2,c2,rfl,hl2⟩:=ho.slice
 have hb3:Below w2.heap.size w2 (w2.alloc (.cells (R.cells (.slice p2 R.subs.length c2)) 37)):=(Below.refl _ _).alloc (Nat.le_refl _) _
 have V1:=Lib.hid (keep_blk hb3 (keep_blk hb2 Y1.out))
 have V2:=Lib.hid (heap_alloc_new w2 (.cells (R.cells (.slice p2 R.subs.length c2)) 37))
 have HO:=Lib.hid (ho.later hb3)
 have HF:=Lib.hid (show ∀ b,b ∈ F→w.heap.size+2 ≤ b from fun b hb=>by have:=hF b hb;have:=HS1.out;omega)
 have HB2:=Lib.hid ((HB1.out.trans (hb2.mono HB1.out.size)).trans (hb3.mono (HB1.out.trans (hb2.mono HB1.out.size)).size))
 clear ho hF hb2 hb3 HX2 Y0 Y1 HB1
 unfold Tr.cells at V1 V2 HO HB2
 go_upto_region 5 with (fail)
 generalize w2.alloc _=w3 at *
 go_wp2_with (first
   | (refine wpList_load_row rfl 37 (.tmp 5) rfl w2.heap.size rfl 37 _ (0,0) _ V2.out Tryd.underlying37 rfl (by kernel_rfl) ?_)
   | (refine wpList_store_row rfl 37 (.tmp 2) (.tmp 18) rfl (w.heap.size+1) #[.int .i64 R.kind,.int .u64 (Oc.U R.w0),.int .u64 (Oc.U R.w1),.int .u64 (Oc.U R.w2),.int .u64 (Oc.U R.w3),.slice p2 R.subs.length c2,.int .i64 R.num,.int .i64 R.least,.int .i64 R.most,.bool R.bare] rfl rfl 37 _ V1.out (by kernel_rfl) rfl (by simp [Value.oneCell']) ?_)
   | fail)
 refine bodyPost_ret (results_row_nm rfl _ _ (w.heap.size+1) 37 #[.int .i64 R.kind,.int .u64 (Oc.U R.w0),.int .u64 (Oc.U R.w1),.int .u64 (Oc.U R.w2),.int .u64 (Oc.U R.w3),.slice p2 R.subs.length c2,.int .i64 R.num,.int .i64 R.least,.int .i64 R.most,.bool R.bare] (0,0) _ _ rfl rfl (heap_setRow V1.out) Tryd.underlying37 rfl (by kernel_rfl)) rfl ⟨.slice p2 R.subs.length c2,F,rfl, ?_, ?_, ?_⟩
 · exact HO.out.keep fun b hb=>by have:=HF.out b hb;rw [heap_setRow_other _ _ _ (by omega)]
 · intro b hb;have:=HF.out b hb;omega
 · exact below_setRow HB2.out (Nat.le_succ _) _
theorem nmapi_no (A:Nat→Addr) (t:Tr) (hd:t.dpT ≤ 1000000) (hc:t.checkC ≠ 0) (w:World) (hE:ErrsC w A) (B:Nat→Prop) (v:Value) (hv:NodeV w B v t) :
   Calls Tryd.prog 43 #[v] w (fun e w'=>e=.returned (.tuple #[.agg noNode,sentV A t.checkC])∧Below w.heap.size w w'):=by
 obtain ⟨s,rfl,hs⟩:=hv
 obtain ⟨p,cap,rfl,hlen⟩:=hs.slice
 obtain ⟨z0,z1⟩:=two_new w (.cells (t.cells (.slice p t.subs.length cap)) 37) (.cells noNode 37)
 have hb0:Below w.heap.size w ((w.alloc (.cells (t.cells (.slice p t.subs.length cap)) 37)).alloc (.cells noNode 37)):=by go_grown
 have hs0:((w.alloc (.cells (t.cells (.slice p t.subs.length cap)) 37)).alloc (.cells noNode 37)).heap.size=w.heap.size+2:=by simp
 have HK:=Lib.hid (fun w9 (hb:Below w.heap.size w w9)=>treecheckC_any A t hd w9 (hE.below hb) B (.agg (t.cells (.slice p t.subs.length cap))) ⟨_,rfl,hs.later hb⟩)
 have Z0:=Lib.hid z0;have Z1:=Lib.hid z1;have HB0:=Lib.hid hb0;have HS0:=Lib.hid hs0
 clear hs z0 z1 hb0 hs0 hlen hE
 unfold Tr.cells at *
 obtain ⟨ty,ad,hn⟩:=(show ∃ ty a,sentV A t.checkC=.iface ty (.pointer (some a)) from ⟨_,_,if_neg hc⟩)
 rw [hn] at HK ⊢
 clear hc hn
 go_enter Tryd.func43,Tryd.ntmps43
 go_upto_region 1 with (fail)
 generalize (w.alloc _).alloc _=W0 at *
 go_wp2_with (first
   | (refine wpList_load_row rfl 37 (.tmp 1) rfl w.heap.size rfl 37 _ (0,0) _ Z0.out Tryd.underlying37 rfl (by kernel_rfl) ?_)
   | fail)
 refine (HK.out W0 HB0.out).mono ?_
 rintro e w1 ⟨rfl,hb1⟩
 have Y0:=Lib.hid (keep_blk hb1 Z0.out);have Y1:=Lib.hid (keep_blk hb1 Z1.out)
 have HB1:=Lib.hid (HB0.out.trans (hb1.mono HB0.out.size))
 clear hb1 HK Z0 Z1 HB0 HS0
 go_wp2_with (first
   | (refine wpList_store_row rfl 37 (.tmp 2) (.tmp 11) rfl (w.heap.size+1) noNode rfl rfl 37 _ Y1.out (by kernel_rfl) rfl (by simp [Value.oneCell']) ?_)
   | fail)
 refine bodyPost_ret (results_row_nm rfl _ _ (w.heap.size+1) 37 noNode (0,0) _ _ rfl rfl (heap_setRow Y1.out) Tryd.underlying37 rfl (by kernel_rfl)) rfl ⟨rfl,below_setRow HB1.out (Nat.le_succ _) _⟩
end Go.Proofs.YtllfgppjobinnaaDoor
namespace Go.Proofs.YtllfgppjobinnaaDoor
open Go.RowKit
def SameT (t:Tr):Prop:=∀ (u:Tr) (w:World) (B C:Nat→Prop) (va vb:Value),NodeV w B va t→NodeV w C vb u→Calls Tryd.prog 50 #[va,vb] w (SameEnd t u w)
theorem equalfunc_of (ts us:List Tr) (ih:∀ t,t ∈ ts→SameT t) (w:World) (B C:Nat→Prop) (va vb:Value) (ha:TreesAt w B va ts) (hb:TreesAt w C vb us) :
   Calls Tryd.prog 88 #[va,vb,.func (.func 50) #[] #[]] w fun e w'=>∃ b:Bool,e=.returned (.bool b)∧(b=true ↔ ts=us)∧Below w.heap.size w w':=by
 obtain ⟨p,cap,rfl,hla⟩:=ha.slice
 obtain ⟨q,cbp,rfl,hlb⟩:=hb.slice
 have IH:=Lib.hid ih;have HSA:=Lib.hid ha;have HSB:=Lib.hid hb
 clear ih ha hb
 by_cases hx:ts.length=us.length
 case neg =>
   have HN:=Lib.hid (show ts ≠ us from fun h=>hx (by rw [h]))
   have e1:((ts.length:Int) != (us.length:Int))=true:=by simp;omega
   have e2:(ts.length != us.length)=true:=by simpa using hx
   have e3:(ts.length == us.length)=false:=by simpa using hx
   clear hx
   go_enter Tryd.func88,Tryd.ntmps88
   go_wp2
   go_ret
   exact ⟨false,rfl,⟨fun h=>(by cases h),fun h=>absurd h HN.out⟩,by go_grown⟩
 have hlen:us.length=ts.length:=hx.symm
 clear hx
 rw [hlen] at HSB hlb ⊢
 go_enter Tryd.func88,Tryd.ntmps88
 go_wp2
 go_loopw [17] (fun iv wr=>∃ m:Nat,iv=.int .i64 m∧m ≤ ts.length∧Hid (∀ j,j < m→ts[j]? = us[j]?)∧Hid (Below w.heap.size w wr)) (fun iv _=>ts.length - (intOf iv).toNat)
 case atStart=>exact ⟨0,rfl,Nat.zero_le _,Lib.hid (fun j hj=>absurd hj (Nat.not_lt_zero _)),Lib.hid (Below.refl _ _)⟩
 case round =>
   obtain ⟨m,rfl,hm,HALL,HB⟩:=hrel
   have wm:IntKind.i64.wrap ((m:Int)+1)=(m:Int)+1:=IntWalk.i64_in _ (by omega)
   by_cases hlt:m < ts.length
   · obtain ⟨x,hx⟩:∃ x,ts[m]? = some x:=⟨_,List.getElem?_eq_getElem hlt⟩
     obtain ⟨y,hy⟩:∃ y,us[m]? = some y:=⟨_,List.getElem?_eq_getElem (by omega)⟩
     obtain ⟨b1,o1,s1,rfl,-,t1,sub1⟩:=HSA.out.get hx
     obtain ⟨b2,o2,s2,rfl,-,t2,sub2⟩:=HSB.out.get hy
     obtain ⟨p1,c1,rfl,hl1⟩:=sub1.slice
     obtain ⟨p2,c2,rfl,hl2⟩:=sub2.slice
     obtain ⟨d0,d1,d2,d3,d4,d5,d6,d7,d8,d9⟩:=t1.keep (HB.out.block _ t1.lt)
     have T2:=Lib.hid t2
     have l2:=t2.lt
     have HS:=Lib.hid (fun w9 (hb:Below w.heap.size w w9)=>IH.out x (List.mem_of_getElem? hx) y w9 B C (.agg (x.cells (.slice p1 x.subs.length c1))) (.agg (y.cells (.slice p2 y.subs.length c2))) ⟨_,rfl,sub1.later hb⟩ ⟨_,rfl,sub2.later hb⟩)
     have HX:=Lib.hid hx;have HY:=Lib.hid hy
     clear t1 t2 sub1 sub2 hx hy
     unfold Tr.cells at HS
     have hwz:=HB.out.size
     have hbx:Below wr.heap.size wr (wr.alloc (.cells #[.int .i64 x.kind,.int .u64 (Oc.U x.w0),.int .u64 (Oc.U x.w1),.int .u64 (Oc.U x.w2),.int .u64 (Oc.U x.w3),.slice p1 x.subs.length c1,.int .i64 x.num,.int .i64 x.least,.int .i64 x.most,.bool x.bare] 37)):=(Below.refl _ _).alloc (Nat.le_refl _) _
     have HB1:=Lib.hid (HB.out.trans (hbx.mono hwz))
     obtain ⟨e0,e1,e2,e3,e4,e5,e6,e7,e8,e9⟩:=T2.out.keep (HB1.out.block _ l2)
     clear hbx
     have HZ:=Lib.hid (heap_alloc_new wr (.cells #[.int .i64 x.kind,.int .u64 (Oc.U x.w0),.int .u64 (Oc.U x.w1),.int .u64 (Oc.U x.w2),.int .u64 (Oc.U x.w3),.slice p1 x.subs.length c1,.int .i64 x.num,.int .i64 x.least,.int .i64 x.most,.bool x.bare] 37))
     go_upto_region 6 with (fail)
     generalize wr.alloc (.cells #[.int .i64 x.kind,.int .u64 (Oc.U x.w0),.int .u64 (Oc.U x.w1),.int .u64 (Oc.U x.w2),.int .u64 (Oc.U x.w3),.slice p1 x.subs.length c1,.int .i64 x.num,.int .i64 x.least,.int .i64 x.most,.bool x.bare] 37)=w1 at *
     clear d0 d1 d2 d3 d4 d5 d6 d7 d8 d9
     have hbn:Below w1.heap.size w1 (w1.alloc (.cells #[.int .i64 y.kind,.int .u64 (Oc.U y.w0),.int .u64 (Oc.U y.w1),.int .u64 (Oc.U y.w2),.int .u64 (Oc.U y.w3),.slice p2 y.subs.length c2,.int .i64 y.num,.int .i64 y.least,.int .i64 y.most,.bool y.bare] 37)):=(Below.refl _ _).alloc (Nat.le_refl _) _
     have HB2:=Lib.hid (HB1.out.trans (hbn.mono HB1.out.size))
     have HZ2:=Lib.hid (keep_blk hbn HZ.out)
     have HY2:=Lib.hid (heap_alloc_new w1 (.cells #[.int .i64 y.kind,.int .u64 (Oc.U y.w0),.int .u64 (Oc.U y.w1),.int .u64 (Oc.U y.w2),.int .u64 (Oc.U y.w3),.slice p2 y.subs.length c2,.int .i64 y.num,.int .i64 y.least,.int .i64 y.most,.bool y.bare] 37))
     clear hbn HZ
     go_upto_region 7 with (fail)
     generalize w1.alloc (.cells #[.int .i64 y.kind,.int .u64 (Oc.U y.w0),.int .u64 (Oc.U y.w1),.int .u64 (Oc.U y.w2),.int .u64 (Oc.U y.w3),.slice p2 y.subs.length c2,.int .i64 y.num,.int .i64 y.least,.int .i64 y.most,.bool y.bare] 37)=w2 at *
     clear e0 e1 e2 e3 e4 e5 e6 e7 e8 e9
     obtain ⟨d0,d1,d2,d3,d4,d5,d6,d7,d8,d9⟩:=allTen HZ2.out
     obtain ⟨e0,e1,e2,e3,e4,e5,e6,e7,e8,e9⟩:=allTen HY2.out
     go_wp2_with fail
     refine (HS.out _ HB2.out).mono ?_
     rintro e w3 ⟨b,rfl,hbe,hb3⟩
     have HB3:=Lib.hid (HB2.out.trans (hb3.mono HB2.out.size))
     have HBE:=Lib.hid hbe
     clear hb3 hbe d0 d1 d2 d3 d4 d5 d6 d7 d8 d9 e0 e1 e2 e3 e4 e5 e6 e7 e8 e9
     cases b with
     | false =>
       go_wp2
       go_ret
       exact ⟨false,rfl,⟨fun h=>(by cases h),fun h=>by
         have h2:=HX.out;rw [h,HY.out] at h2
         have:=HBE.out.2 (Option.some.inj h2).symm
         cases this⟩,HB3.out⟩
     | true =>
       go_wp2
       refine ⟨⟨m+1,by go_num,by omega,Lib.hid ?_,HB3⟩,by simp [intOf];omega⟩
       intro j hj
       by_cases hjm:j=m
       · subst hjm;rw [HX.out,HY.out,HBE.out.1 trivial]
       · exact HALL.out j (by omega)
   · obtain rfl:m=ts.length:=by omega
     go_wp2
     go_ret
     refine ⟨true,rfl,⟨fun _=>?_,fun _=>rfl⟩,HB.out⟩
     refine List.ext_getElem? fun j=>?_
     rcases Nat.lt_or_ge j ts.length with h | h
     · exact HALL.out j h
     · rw [List.getElem?_eq_none h,List.getElem?_eq_none (by omega)]
theorem bne_int {a b:Int} (h:a ≠ b):(a != b)=true:=by simpa using h
theorem treesame_any:∀ t:Tr,SameT t:=by
 intro t
 induction t using Tr.rec_subs with
 | h t ih =>
   intro u w B C va vb ha hb
   obtain ⟨sa,rfl,hsa⟩:=ha
   obtain ⟨sb,rfl,hsb⟩:=hb
   obtain ⟨p,cap,rfl,hla⟩:=hsa.slice
   obtain ⟨q,cbp,rfl,hlb⟩:=hsb.slice
   have he:=eq4
   cases t with | node k a b c d ts n lo hi br =>
   cases u with | node k' a' b' c' d' us n' lo' hi' br' =>
   simp only [Tr.cells,Tr.kind,Tr.w0,Tr.w1,Tr.w2,Tr.w3,Tr.num,Tr.least,Tr.most,Tr.bare,Tr.subs] at *
   have HEQ:=Lib.hid (fun w9 (h9:Below w.heap.size w w9)=>equalfunc_of ts us ih w9 B C _ _ (hsa.later h9) (hsb.later h9))
   clear ih hsa hsb
   by_cases hx:k=k'
   case neg =>
     have HN:=Lib.hid (show Tr.node k a b c d ts n lo hi br ≠ .node k' a' b' c' d' us n' lo' hi' br' from fun h=>by cases h;exact hx rfl)
     have e1:=bne_int hx
     clear hx HEQ
     go_enter Tryd.func50,Tryd.ntmps50
     go_wp2
     go_ret
     exact sameEnd_no HN.out (by go_grown)
   obtain rfl:=hx
   by_cases hx:a=a'∧b=b'∧c=c'∧d=d'
   case neg =>
     have HN:=Lib.hid (show Tr.node k a b c d ts n lo hi br ≠ .node k a' b' c' d' us n' lo' hi' br' from fun h=>by cases h;exact hx ⟨rfl,rfl,rfl,rfl⟩)
     have e2:=U_ne hx
     clear hx HEQ
     go_enter Tryd.func50,Tryd.ntmps50
     go_wp2
     go_ret
     exact sameEnd_no HN.out (by go_grown)
   obtain ⟨rfl,rfl,rfl,rfl⟩:=hx
   by_cases hx:n=n'
   case neg =>
     have HN:=Lib.hid (show Tr.node k a b c d ts n lo hi br ≠ .node k a b c d us n' lo' hi' br' from fun h=>by cases h;exact hx rfl)
     have e1:=bne_int hx
     clear hx HEQ
     go_enter Tryd.func50,Tryd.ntmps50
     go_wp2
     go_ret
     exact sameEnd_no HN.out (by go_grown)
   obtain rfl:=hx
   by_cases hx:lo=lo'
   case neg =>
     have HN:=Lib.hid (show Tr.node k a b c d ts n lo hi br ≠ .node k a b c d us n lo' hi' br' from fun h=>by cases h;exact hx rfl)
     have e1:=bne_int hx
     clear hx HEQ
     go_enter Tryd.func50,Tryd.ntmps50
     go_wp2
     go_ret
     exact sameEnd_no HN.out (by go_grown)
   obtain rfl:=hx
   by_cases hx:hi=hi'
   case neg =>
     have HN:=Lib.hid (show Tr.node k a b c d ts n lo hi br ≠ .node k a b c d us n lo hi' br' from fun h=>by cases h;exact hx rfl)
     have e1:=bne_int hx
     clear hx HEQ
     go_enter Tryd.func50,Tryd.ntmps50
     go_wp2
     go_ret
     exact sameEnd_no HN.out (by go_grown)
   obtain rfl:=hx
   by_cases hx:br=br'
   case neg =>
     have HN:=Lib.hid (show Tr.node k a b c d ts n lo hi br ≠ .node k a b c d us n lo hi br' from fun h=>by cases h;exact hx rfl)
     have hbb:(br=true∧br'=false) ∨ (br=false∧br'=true):=by cases br <;> cases br' <;> simp at hx ⊢
     clear hx HEQ
     rcases hbb with ⟨rfl,rfl⟩ | ⟨rfl,rfl⟩
     all_goals
       go_enter Tryd.func50,Tryd.ntmps50
       go_wp2
       go_ret
       exact sameEnd_no HN.out (by go_grown)
   obtain rfl:=hx
   have hbw:Below w.heap.size w ((w.alloc (.cells #[.int .i64 k,.int .u64 (Oc.U a),.int .u64 (Oc.U b),.int .u64 (Oc.U c),.int .u64 (Oc.U d),.slice p ts.length cap,.int .i64 n,.int .i64 lo,.int .i64 hi,.bool br] 37)).alloc (.cells #[.int .i64 k,.int .u64 (Oc.U a),.int .u64 (Oc.U b),.int .u64 (Oc.U c),.int .u64 (Oc.U d),.slice q us.length cbp,.int .i64 n,.int .i64 lo,.int .i64 hi,.bool br] 37)):=by go_grown
   have HBW:=Lib.hid hbw
   clear hbw
   go_enter Tryd.func50,Tryd.ntmps50
   go_wp2_with fail
   refine (HEQ.out _ HBW.out).mono ?_
   rintro e w3 ⟨b1,rfl,hbe,hb3⟩
   have HB3:=Lib.hid (HBW.out.trans (hb3.mono HBW.out.size));have HBE:=Lib.hid hbe
   clear hb3 hbe
   go_wp2
   go_ret
   refine ⟨b1,rfl,⟨fun h=>by rw [HBE.out.1 h],fun h=>HBE.out.2 (by injection h)⟩,HB3.out⟩
end Go.Proofs.YtllfgppjobinnaaDoor
namespace Go.Proofs.YtllfgppjobinnaaDoor
open Go.RowKit
theorem only_any (v:Nat) (hv:v < 256) (w:World):Calls Tryd.prog 93 #[.int .u8 (v:Int)] w fun e w'=>e=.returned (.agg #[.int .u64 (Oc.U (Oc.mk (fun x=>x == v) 0)),.int .u64 (Oc.U (Oc.mk (fun x=>x == v) 1)),.int .u64 (Oc.U (Oc.mk (fun x=>x == v) 2)),.int .u64 (Oc.U (Oc.mk (fun x=>x == v) 3))])∧Below w.heap.size w w':=by
 have ht:∀ j,(fun x=>x == v) j=((fun _=>false) j || j == v):=fun j=>by simp
 have e:∀ k,Oc.mk (fun x=>x == v) k=if v / 64=k then 1#64 <<< (v % 64) else 0#64:=by
   intro k
   by_cases h:v / 64=k
   · rw [if_pos h,Oc.mk_turn ht h,Oc.mk_none,BitVec.zero_or]
   · rw [if_neg h,Oc.mk_same ht h,Oc.mk_none]
 rw [e 0,e 1,e 2,e 3]
 clear e ht
 have hq:v / 64=0 ∨ v / 64=1 ∨ v / 64=2 ∨ v / 64=3:=by omega
 rcases hq with hq | hq | hq | hq
 all_goals
   rw [hq]
   simp (config:={ decide:=true }) only [if_true,if_false]
   have z:=u0
   go_enter Tryd.func93,Tryd.ntmps93
   go_wp2
   go_returns
   refine ⟨?_,by go_grown⟩
   rw [Oc.shlBit,z]
theorem treetext_any (s:ByteArray) (hs:s.size ≤ 1000000) (w:World):Calls Tryd.prog 59 #[.string s] w (OwnEnd (.several 5 (s.data.toList.map fun c=>Tr.bytes (fun x=>x == c.toNat))) w):=by
 obtain ⟨ts,hts⟩:∃ ts,(s.data.toList.map fun c=>Tr.bytes (fun x=>x == c.toNat))=ts:=⟨_,rfl⟩
 have hl:ts.length=s.size:=by rw [← hts];simp
 obtain ⟨CS,hCS,hmk⟩:=make_nodes ts.length (by omega)
 have HTS:=Lib.hid hts;have HCS:=Lib.hid hCS
 rw [hts]
 rw [hl] at hmk
 clear hts hCS
 have HO:=Lib.hid only_any;have HBY:=Lib.hid bytes_any;have HSQ:=Lib.hid seq_any
 go_enter Tryd.func59,Tryd.ntmps59
 go_wp2
 go_loopw [10] (fun iv wr=>∃ m:Nat,iv=.int .i64 m∧m ≤ ts.length∧Hid (Below w.heap.size w wr)∧w.heap.size+1 < wr.heap.size∧Hid (∃ C:Array Value,wr.heap[w.heap.size+1]? = some (.cells C 37)∧C.size=ts.length * 10)∧Hid (CopiedTo wr (w.heap.size+1) ts m)∧Hid (wr.heap[w.heap.size]? = some (.cells noNode 37))) (fun iv _=>ts.length - (intOf iv).toNat)
 case atStart=>exact ⟨0,rfl,Nat.zero_le _,Lib.hid (by go_grown),by simp,Lib.hid ⟨CS,(two_new _ _ _).2,HCS.out⟩,Lib.hid (CopiedTo.zero _ _ _),Lib.hid (two_new _ _ _).1⟩
 case round =>
   obtain ⟨m,rfl,hm,HB,hsz,HC,HD,Z0⟩:=hrel
   have wm:IntKind.i64.wrap ((m:Int)+1)=(m:Int)+1:=IntWalk.i64_in _ (by omega)
   by_cases hlt:m < ts.length
   · have hsm:m < s.size:=by omega
     have hx:ts[m]? = some (Tr.bytes (fun x=>x == s[m].toNat)):=by
       have:s.data.toList[m]? = some s[m]:=by
         rw [List.getElem?_eq_getElem (by simpa using hsm)];rfl
       rw [← HTS.out,List.getElem?_map,this];rfl
     have hd1:decide ((m:Int) < s.size)=true:=by simp;omega
     have hd1':decide (m < s.size)=true:=by simpa using hsm
     have hc:=s[m].toNat_lt
     have HX:=Lib.hid hx
     clear hx
     go_wp2_with fail
     generalize s[m].toNat=n at *
     refine (HO.out n hc wr).mono ?_
     rintro e w1 ⟨rfl,hb1⟩
     generalize hP:(fun x=>x == n)=P at *
     have HB1:=Lib.hid hb1
     clear hb1 hP
     go_wp2_with fail
     refine (HBY.out P w1).mono ?_
     rintro e w2 ⟨s2,F2,rfl,ho2,hF2,hb2⟩
     obtain ⟨p2,c2,rfl,hl2⟩:=ho2.slice
     have hb12:Below wr.heap.size wr w2:=HB1.out.trans (hb2.mono HB1.out.size)
     obtain ⟨C,hC1,hC2⟩:=HC.out
     have hC3:=keep_blk hb12 hC1
     have hth:w2.there (w.heap.size+1) (m * 10) 10:=there_row hC3 (by omega)
     have HTH:=Lib.hid hth
     generalize hxt:Tr.bytes P=x at *
     have HST:=Lib.hid (HD.out.step HX.out hb12 hsz ho2 (fun b hb=>Nat.le_trans HB1.out.size (hF2 b hb)) hth)
     have HB2:=Lib.hid (HB.out.trans (hb12.mono HB.out.size))
     have HC4:Hid (∃ C:Array Value,(w2.setCells (w.heap.size+1) (m * 10) (x.cells (.slice p2 x.subs.length c2)).toList).heap[w.heap.size+1]? = some (.cells C 37)∧C.size=ts.length * 10):=Lib.hid (row_setCells hC3 hC2)
     have Z4:Hid ((w2.setCells (w.heap.size+1) (m * 10) (x.cells (.slice p2 x.subs.length c2)).toList).heap[w.heap.size]? = some (.cells noNode 37)):=Lib.hid (by rw [heap_setCells_other (by omega)];exact keep_blk hb12 Z0.out)
     have hs2:w.heap.size+1 < w2.heap.size:=Nat.lt_of_lt_of_le hsz hb12.size
     clear hb2 hb12 ho2 hF2 hC1 hC2 hC3 hth hxt HBY HO
     go_wp2_with (first
       | (refine wpList_store_mid rfl 37 (.tmp 20) (.tmp 19) rfl (w.heap.size+1) (m * 10) (x.cells (.slice p2 x.subs.length c2)) rfl rfl HTH.out (by kernel_rfl) (nodeC_all _ _ _ _) ?_;generalize hw3:World.setCells w2 _ _ _=w3;have HW3:=Lib.hid hw3;clear hw3)
       | fail)
     rw [← HW3.out]
     exact ⟨⟨m+1,by go_num,by omega,Lib.hid (setCells_below HB2.out (by omega) _ _),by rw [size_setCells];exact hs2,HC4,HST,Z4⟩,by simp [intOf];omega⟩
   · obtain rfl:m=ts.length:=by omega
     obtain ⟨C,hC1,-⟩:=HC.out
     obtain ⟨F,hF,hF2⟩:=HD.out.owned (by omega) ⟨C,_,hC1⟩ ts.length
     have hcall:=HSQ.out ts wr (fun b=>b ∈ F) _ hF.trees
     rw [hl] at hcall
     have HCALL:=Lib.hid hcall
     clear hcall hC1 HC HD hF2
     go_wp2_with fail
     refine HCALL.out.mono ?_
     rintro e w2 ⟨s2,F2,rfl,ho2,hF2',hb2⟩
     obtain ⟨p2,c2,rfl,hl2⟩:=ho2.slice
     have HO2:=Lib.hid ho2;have HF2:=Lib.hid hF2'
     have Y0:=Lib.hid (keep_blk hb2 Z0.out)
     have HB2:=Lib.hid (HB.out.trans (hb2.mono HB.out.size))
     generalize Tr.several 5 ts=t at *
     clear ho2 hF2' hb2 HCALL
     unfold Tr.cells
     go_wp2_with (first
       | (refine wpList_store_row rfl 37 (.tmp 2) (.tmp 23) rfl w.heap.size #[.int .i64 t.kind,.int .u64 (Oc.U t.w0),.int .u64 (Oc.U t.w1),.int .u64 (Oc.U t.w2),.int .u64 (Oc.U t.w3),.slice p2 t.subs.length c2,.int .i64 t.num,.int .i64 t.least,.int .i64 t.most,.bool t.bare] rfl rfl 37 _ Y0.out (by kernel_rfl) rfl (by simp [Value.oneCell']) ?_)
       | fail)
     refine bodyPost_ret (results_cell_row rfl _ _ w.heap.size 37 #[.int .i64 t.kind,.int .u64 (Oc.U t.w0),.int .u64 (Oc.U t.w1),.int .u64 (Oc.U t.w2),.int .u64 (Oc.U t.w3),.slice p2 t.subs.length c2,.int .i64 t.num,.int .i64 t.least,.int .i64 t.most,.bool t.bare] (0,0) _ rfl (heap_setRow Y0.out) Tryd.underlying37 rfl (by kernel_rfl)) rfl ⟨.slice p2 t.subs.length c2,F2,rfl, ?_, ?_, ?_⟩
     · exact HO2.out.keep fun b hb=>by have:=HF2.out b hb;rw [heap_setRow_other _ _ _ (by omega)]
     · intro b hb;have:=HF2.out b hb;omega
     · exact below_setRow HB2.out (Nat.le_refl _) _
end Go.Proofs.YtllfgppjobinnaaDoor
