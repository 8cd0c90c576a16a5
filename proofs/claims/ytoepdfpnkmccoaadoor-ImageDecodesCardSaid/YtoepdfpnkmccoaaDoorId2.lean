/- Part 2 of what these proofs need. -/
import Derived.Deep.CutBlock
import Derived.Test.YtoepdfpnkmccoaaDoorId1
set_option maxRecDepth 100000
set_option maxHeartbeats 16000000
namespace Go.Proofs.YtoepdfpnkmccoaaDoor
open Go.RowKit Go.Shelf
attribute [local go_sem] Oper.semAt_some
namespace Im
def foldV (n:Nat) (l:List (Nat × UInt8)):Nat:=l.foldl (fun n x=>n * 128+x.2.toNat % 128) n
theorem foldV_snoc (n:Nat) (l:List (Nat × UInt8)) (x:Nat × UInt8):foldV n (l ++ [x])=foldV n l * 128+x.2.toNat % 128:=by simp [foldV]
theorem valB_snoc:∀ (l:List UInt8) (b:UInt8),valB (l ++ [b])=valB l+b.toNat % 128 * 128 ^ l.length
 | [],b=>by simp [valB]
 | a :: l,b=>by
   rw [List.cons_append,valB,valB,valB_snoc l b,List.length_cons,Nat.pow_succ,Nat.mul_add]
   rw [show 128 * (b.toNat % 128 * 128 ^ l.length)=b.toNat % 128 * (128 ^ l.length * 128) by rw [Nat.mul_comm 128,Nat.mul_assoc]]
   omega
theorem foldV_back (l:List UInt8):∀ (k n:Nat),k ≤ l.length→foldV n (backL l k)=n * 128 ^ k+valB (l.take k)
 | 0,n,_=>by simp [backL,foldV,valB]
 | k+1,n,h=>by
   have h1:foldV n (backL l (k+1))=foldV (n * 128+(l.getD k 0).toNat % 128) (backL l k):=rfl
   have hl:(l.take k).length=k:=by rw [List.length_take];omega
   have hg:l[k]? = some (l.getD k 0):=by simp [List.getD,List.getElem?_eq_getElem (show k < l.length by omega)]
   rw [h1,foldV_back l k _ (by omega),List.take_add_one,hg,Option.toList_some,valB_snoc,hl,Nat.pow_succ,Nat.add_mul]
   rw [show n * 128 * 128 ^ k=n * (128 ^ k * 128) by rw [Nat.mul_assoc,Nat.mul_comm 128]]
   omega
theorem foldV_ge (n:Nat):∀ l:List (Nat × UInt8),n ≤ foldV n l
 | []=>Nat.le_refl _
 | x :: l=>by
   have:=foldV_ge (n * 128+x.2.toNat % 128) l
   show n ≤ foldV (n * 128+x.2.toNat % 128) l
   omega
theorem foldV_append (n:Nat) (a b:List (Nat × UInt8)):foldV n (a ++ b)=foldV (foldV n a) b:=by simp [foldV]
theorem over_of {l:List UInt8} {pre:List (Nat × UInt8)} {x:Nat × UInt8} (hp:pre ++ [x] <+: backL l l.length) (h:16777215 < foldV 0 pre):2147483647 < valB l:=by
 obtain ⟨r,hr⟩:=hp
 have h1:=foldV_back l l.length 0 (Nat.le_refl _)
 rw [← hr,foldV_append,foldV_snoc,List.take_length] at h1
 have:=foldV_ge (foldV 0 pre * 128+x.2.toNat % 128) r
 omega
end Im
def NumI (W4:World) (NB:Nat) (pre:List (Nat × UInt8)) (W:World):Prop :=
 W.heap[NB]? = some (.cells #[.int .i64 (Im.foldV 0 pre:Int)] 3)∧Im.foldV 0 pre ≤ 2147483647∧W4.grownBy W (some NB)
def NumX (W4:World) (r:Nat) (c:Code) (pre:List (Nat × UInt8)) (W:World):Prop :=
 (∃ p x,pre=p ++ [x]∧16777215 < Im.foldV 0 p)∧c=.ret∧W.heap[r]? = some (.cells #[.int .i64 0] 3)∧W.heap[r+1]? = some (.cells #[.bool false] 4)∧Below r W4 W
theorem numI_own (W4:World) (NB:Nat) (hN:NB < W4.heap.size):OwnFrom W4.heap.size (NumI W4 NB):=by
 rintro pre W W' row ⟨h1,h2,h3⟩ hg hr
 refine ⟨(hg.block _ (Array.getElem?_eq_some_iff.1 h1).1 (fun e=>by have:=(hr _ e.symm).1;omega)).trans h1,h2,⟨hg.os.trans h3.os,hg.tape.trans h3.tape,hg.output.trans h3.output,Nat.le_trans h3.size hg.size,fun k hk hne=>?_⟩⟩
 exact (hg.block k (Nat.lt_of_lt_of_le hk h3.size) (fun e=>by have:=(hr _ e.symm).1;omega)).trans (h3.block k hk hne)
theorem numX_own (W4:World) (r:Nat) (hr2:r+2 ≤ W4.heap.size) (c:Code):OwnFrom W4.heap.size (NumX W4 r c):=by
 rintro pre W W' row ⟨h1,h2,h3,h4,h5⟩ hg hr
 refine ⟨h1,h2,(hg.block _ (Array.getElem?_eq_some_iff.1 h3).1 (fun e=>by have:=(hr _ e.symm).1;omega)).trans h3,(hg.block _ (Array.getElem?_eq_some_iff.1 h4).1 (fun e=>by have:=(hr _ e.symm).1;omega)).trans h4, ?_⟩
 exact h5.grown hg (Nat.le_trans (by omega) h5.size) (fun k e=>by have:=(hr _ e).1;omega)
theorem num_frame {F:Fence} {n:Nat} {P:Program} {c:Code} {Q:Exit→Act→World→Prop} {w:World} (a:Act) (h:∀ a',a'=a→c.wpIn F n P Q a' w):c.wpIn F n P Q a w:=h a rfl
theorem keepsFrom_cells {B:Nat} {W W':World} (hs:W.heap.size ≤ W'.heap.size) (h:∀ (k:Nat) (o:Obj),W.heap[k]? = some o→o.isCells=false→W'.heap[k]? = some o):KeepsFrom B W W':=⟨hs,fun k o _ hk ho=>h k o hk ho⟩
theorem keepsFrom_set {B:Nat} {W:World} {b j:Nat} {cs:Array Value} {t:TypeId} (v:Value) (h:W.heap[b]? = some (.cells cs t)):KeepsFrom B W (W.setCell ⟨b,j,none⟩ v) :=
 keepsFrom_cells (by simp) fun k o hk ho=>by
   rw [Below.heap_setCell _ _ _ _ (fun e=>by subst e;rw [h] at hk;cases hk;cases ho)];exact hk
theorem backs_stops (n:Nat) (hn:1 ≤ n) (bs g o c:Nat) (l:List UInt8) (hl:l.length ≤ 140737488351232) (w:World) (hbs:w.heap[bs]? = some (.cells #[.slice (some ⟨g,o,none⟩) l.length c] 22)) (hc:∀ j (hj:j < l.length),w.cell? ⟨g,o+j,none⟩=some (.int .u8 (l[j].toNat:Int))) :
   SeqStopsK Fence.wide n Tryd.prog 117 #[.pointer (some ⟨bs,0,none⟩)] backArgs (Keeps2 bs g) (fun ys=>ys=backL l l.length) (fun pre=>pre <+: backL l l.length) l.length w :=
 fun q J Jx W hW _ _ hY h0=>back1_in n hn q bs g o c l hl J Jx W hY ((hW.block bs (Array.getElem?_eq_some_iff.1 hbs).1).trans hbs) (fun j hj=>(hW.cell (p:=⟨g,o+j,none⟩) (block_lt_of_cell (hc j hj))).trans (hc j hj)) h0
theorem backward_any (p:Option Addr) (n c:Nat) (w:World):Calls Tryd.prog 98 #[.slice p n c] w fun e w'=>e=.returned (.func (.func 117) #[] #[.pointer (some ⟨w.heap.size,0,none⟩)])∧w'=w.alloc (.cells #[.slice p n c] 22):=by
 have hmf:∀ fn first cap w,(Instr.makeFunc fn first cap).run Tryd.prog w=.ok (.func fn first cap) w:=fun _ _ _ _=>rfl
 go_enter Tryd.func98,Tryd.ntmps98
 go_wp2
 go_ret
 exact ⟨rfl,rfl⟩
theorem pair_st {w:World} {b:Nat} {x y:Value} {tx ty:TypeId} (h2:w.heap[b]? = some (.cells #[x] tx)) (h3:w.heap[b+1]? = some (.cells #[y] ty)) :
   w.cell? ⟨b,0,none⟩=some x∧w.frozen? ⟨b,0,none⟩=false∧w.cell? ⟨b+1,0,none⟩=some y∧w.frozen? ⟨b+1,0,none⟩=false ∧
   (∀ v,(w.setCell ⟨b,0,none⟩ v).cell? ⟨b+1,0,none⟩=some y)∧(∀ v,(w.setCell ⟨b,0,none⟩ v).frozen? ⟨b+1,0,none⟩=false) ∧
   (∀ v u,((w.setCell ⟨b,0,none⟩ v).setCell ⟨b+1,0,none⟩ u).cell? ⟨b,0,none⟩=some v)∧(∀ v u,((w.setCell ⟨b,0,none⟩ v).setCell ⟨b+1,0,none⟩ u).cell? ⟨b+1,0,none⟩=some u) ∧
   (∀ v u,((w.setCell ⟨b,0,none⟩ v).setCell ⟨b+1,0,none⟩ u).heap[b]? = some (.cells #[v] tx))∧(∀ v u,((w.setCell ⟨b,0,none⟩ v).setCell ⟨b+1,0,none⟩ u).heap[b+1]? = some (.cells #[u] ty)):=by
 have k:∀ v,(w.setCell ⟨b,0,none⟩ v).heap[b]? = some (.cells #[v] tx):=fun v=>by simp [World.setCell,Array.getElem?_modify,h2]
 have k':∀ v,(w.setCell ⟨b,0,none⟩ v).heap[b+1]? = some (.cells #[y] ty):=fun v=>by rw [Below.heap_setCell _ _ _ _ (by show b+1 ≠ b;omega)];exact h3
 have l:∀ v u,((w.setCell ⟨b,0,none⟩ v).setCell ⟨b+1,0,none⟩ u).heap[b]? = some (.cells #[v] tx):=fun v u=>by rw [Below.heap_setCell _ _ _ _ (by show b ≠ b+1;omega)];exact k v
 have l':∀ v u,((w.setCell ⟨b,0,none⟩ v).setCell ⟨b+1,0,none⟩ u).heap[b+1]? = some (.cells #[u] ty):=fun v u=>by
   have:=k' v
   generalize w.setCell ⟨b,0,none⟩ v=w' at *
   simp [World.setCell,Array.getElem?_modify,this]
 have c:∀ {w:World} {b:Nat} {x:Value} {t:TypeId},w.heap[b]? = some (.cells #[x] t)→w.cell? ⟨b,0,none⟩=some x:=fun h=>by simp [World.cell?,h]
 have f:∀ {w:World} {b:Nat} {x:Value} {t:TypeId},w.heap[b]? = some (.cells #[x] t)→w.frozen? ⟨b,0,none⟩=false:=fun h=>by simp [World.frozen?,h]
 exact ⟨c h2,f h2,c h3,f h3,fun v=>c (k' v),fun v=>f (k' v),fun v u=>c (l v u),fun v u=>c (l' v u),l,l'⟩
theorem pair_grown (w:World) (b:Nat) (x y:Value) (r:Nat) {w0:World} (h:w0.grownBy w (some r)) (h0:w0.heap.size ≤ b):w0.grownBy ((w.setCell ⟨b,0,none⟩ x).setCell ⟨b+1,0,none⟩ y) (some r):=by
 exact ⟨h.os,h.tape,h.output,by simpa using h.size,fun k hk hne=>by
   rw [Below.heap_setCell _ _ _ _ (by show k ≠ b+1;omega),Below.heap_setCell _ _ _ _ (by show k ≠ b;omega)];exact h.block k hk hne⟩
def NumEnd (W0:World) (R:Nat) (l:List UInt8) (w:World) (e:Ending) (w':World):Prop :=
 w.grownBy w' (some R)∧match Im.rdNum l with
   | some (n,r)=>e=.returned (.tuple #[.int .i64 (n:Int),.bool true])∧RdI W0 w' R r
   | none=>e=.returned (.tuple #[.int .i64 0,.bool false])
theorem number_any (W0 w:World) (R:Nat) (l:List UInt8) (hl:l.length ≤ 140737488351232) (hb:Below W0.heap.size W0 w) (hR:W0.heap.size ≤ R) (hr:RdI W0 w R l) :
   Calls Tryd.prog 59 #[.pointer (some ⟨R,0,none⟩)] w (NumEnd W0 R l w):=by
 have hRw:R < w.heap.size:=by obtain ⟨v,h,-⟩:=hr;exact (Array.getElem?_eq_some_iff.1 h).1
 obtain ⟨v,hh,hbs⟩:=hr
 have hz:=two_new w (.cells #[.int .i64 0] 3) (.cells #[.bool false] 4)
 have HW:=Lib.hid (show Below w.heap.size w ((w.alloc (.cells #[.int .i64 0] 3)).alloc (.cells #[.bool false] 4)) by go_grown)
 have Z2:=Lib.hid hz.1;have Z3:=Lib.hid hz.2
 have HB0:=Lib.hid hb;have HBS:=Lib.hid hbs;have HRR:=Lib.hid hh
 clear hz hb hbs hh
 refine (callsIn_wide (n:=9)).1 ?_
 refine callsIn_of_wp_marks Tryd.func59 rfl trivial ?_ rfl
 simp only [Tryd.ntmps59,List.size_toArray,List.length_cons,List.length_nil,Nat.reduceAdd,Nat.reduceSub,Array.replicate_succ,Array.replicate_zero,List.push_toArray,List.append_toArray,List.nil_append,List.cons_append]
 refine wpIn_wide.2 ?_
 go_upto_region 1 with (fail)
 have hz1:((w.alloc (.cells #[.int .i64 0] 3)).alloc (.cells #[.bool false] 4)).heap.size=w.heap.size+2:=by simp
 generalize (w.alloc (.cells #[.int .i64 0] 3)).alloc (.cells #[.bool false] 4)=W1 at *
 have HZ1:=Lib.hid hz1
 clear hz1
 have HB1:=Lib.hid (HB0.out.trans (HW.out.mono HB0.out.size))
 have HR1:=Lib.hid (keep_blk HW.out HRR.out)
 obtain ⟨p,c,rfl,hc⟩:=HBS.out.len
 have c0:W1.cell? ⟨R,0,none⟩=some (.slice p l.length c):=by simp [World.cell?,HR1.out]
 have HIX:=Lib.hid (index_any l hl (.slice p l.length c) W1 (HBS.out.below HB1.out))
 go_wp2_with fail
 refine HIX.out.mono ?_
 rintro e W2 ⟨rfl,rfl⟩
 obtain ⟨O,hO⟩:∃ O,Im.rdNum l=O:=⟨_,rfl⟩
 unfold Im.rdNum at hO
 cases hlb:Im.lastB l with
 | none =>
   rw [hlb] at hO
   have hi:idxV l = -1:=by unfold idxV;rw [hlb]
   rw [hi]
   obtain ⟨p0,p1,p2,p3,p4,p5,p6,p7,-,-⟩:=pair_st Z2.out Z3.out
   have HG:=Lib.hid (pair_grown W2 w.heap.size (.int .i64 0) (.bool false) R ⟨HW.out.os,HW.out.tape,HW.out.output,HW.out.size,fun k hk _=>HW.out.block k hk⟩ (Nat.le_refl _))
   have HO:=Lib.hid (show Im.rdNum l=none by unfold Im.rdNum;rw [hlb])
   clear hO hi hlb
   go_wp2
   refine ⟨.tuple #[.int .i64 0,.bool false],by simp [results,Tryd.results59,go_sem,p6,p7],HG.out, ?_⟩
   rw [HO.out]
 | some k =>
   obtain ⟨hk,-,hk3⟩:=Im.lastB_spec hlb
   rw [hlb] at hO
   have hi:idxV l=(k:Int):=by unfold idxV;rw [hlb]
   rw [hi]
   obtain ⟨p0,p1,p2,p3,p4,p5,p6,p7,-,-⟩:=pair_st Z2.out Z3.out
   rcases HBS.out with ⟨-,h2⟩ | ⟨g,o,c',he,hc',hrd⟩
   · subst h2;simp at hk
   injection he with he1 he2 he3
   subst he1
   have cb:W2.cell? ⟨g,o+k,none⟩=some (.int .u8 ((l.getD k 0).toNat:Int)):=by
     have:=hrd k hk
     rw [(HB1.out.cell (p:=⟨g,o+k,none⟩) (block_lt_of_cell this)),this]
     simp [List.getD,List.getElem?_eq_getElem hk]
   have wk:IntKind.i64.wrap ((k:Int)+1)=(k:Int)+1:=IntWalk.i64_in _ (by omega)
   have q1:decide ((k:Int) < 0)=false:=by rw [decide_eq_false_iff_not];omega
   clear hc' he2 he3 hrd hi
   rcases Nat.eq_zero_or_pos k with hk0 | hk0
   · have q2:decide ((0:Int) < k)=false:=by rw [decide_eq_false_iff_not];omega
     have q2':decide (0 < k)=false:=by rw [decide_eq_false_iff_not];omega
     have HO:=Lib.hid (show Im.rdNum l=if 2147483647 < Im.valB (l.take (k+1)) then none else some (Im.valB (l.take (k+1)),l.drop (k+1)) by unfold Im.rdNum;rw [hlb];exact if_neg (fun h=>by omega))
     have HTK:=Lib.hid (take_yes W0 W2 R l (k+1) (by omega) (by omega) hl ⟨_,HR1.out,HBS.out⟩)
     clear hO hlb hk3 hk0
     go_upto_region 4 with (fail)
     go_wp2_with fail
     refine HTK.out.mono ?_
     rintro e w3 ⟨⟨v5,rfl,hb5⟩,hr5,hg5⟩
     have hlt:(l.take (k+1)).length=k+1:=by rw [List.length_take];omega
     rcases hb5 with ⟨-,h2⟩ | ⟨g5,o5,c5,rfl,hc5,hrd5⟩
     · rw [h2] at hlt;simp at hlt
     have HD5:=Lib.hid hr5
     obtain ⟨D,hD⟩:∃ D,l.take (k+1)=D:=⟨_,rfl⟩
     obtain ⟨E,hE⟩:∃ E,l.drop (k+1)=E:=⟨_,rfl⟩
     rw [hD,hE] at HO
     rw [hE] at HD5
     have hDl:D.length ≤ 140737488351232:=by rw [← hD,hlt];omega
     have hDn:(l.take (k+1)).length=D.length:=by rw [hD]
     have hz1:=HZ1.out
     have hs3:w.heap.size+2 ≤ w3.heap.size:=by have:=hg5.size;omega
     have Y2:=Lib.hid ((hg5.block w.heap.size (by omega) (by intro e;injection e;omega)).trans Z2.out)
     have Y3:=Lib.hid ((hg5.block (w.heap.size+1) (by omega) (by intro e;injection e;omega)).trans Z3.out)
     have hgw:w.grownBy w3 (some R):=grownBy_trans (r':=some R) ⟨HW.out.os,HW.out.tape,HW.out.output,HW.out.size,fun k hk _=>HW.out.block k hk⟩ hg5 (.inl rfl)
     have hbw3:Below W0.heap.size W0 w3:=HB0.out.grown hgw HB0.out.size (fun k e=>by injection e;omega)
     have hrd6:∀ j (hj:j < D.length),w3.cell? ⟨g5,o5+j,none⟩=some (.int .u8 (D[j].toNat:Int)):=fun j hj=>by
       subst hD
       rw [(hbw3.cell (p:=⟨g5,o5+j,none⟩) (block_lt_of_cell (hrd5 j hj))),hrd5 j hj]
     have hg5w:D.length=0 ∨ g5 < w3.heap.size:=by
       rcases Nat.eq_zero_or_pos D.length with h | h
       · exact .inl h
       · exact .inr (block_lt_of_cell (hrd6 0 h))
     have hDp:0 < D.length:=by rw [← hDn,hlt];omega
     have hg5l:g5 < w3.heap.size:=by omega
     have HGW:=Lib.hid hgw
     rw [hDn] at hc5 ⊢
     clear hr5 hg5 hD hE hrd5 hDn hlt hz1 hgw hbw3 hg5w p0 p1 p2 p3 p4 p5 p6 p7 c0 cb HTK
     go_wp2_with fail
     refine (backward_any _ _ _ _).mono ?_
     rintro e w6 ⟨rfl,rfl⟩
     go_wp2_with fail
     have n5:=two_new w3 (.cells #[.int .i64 0] 3) (.cells #[.slice (some ⟨g5,o5,none⟩) D.length c5] 22)
     have hbw5:Below w3.heap.size w3 ((w3.alloc (.cells #[.int .i64 0] 3)).alloc (.cells #[.slice (some ⟨g5,o5,none⟩) D.length c5] 22)):=by go_grown
     have hz5:((w3.alloc (.cells #[.int .i64 0] 3)).alloc (.cells #[.slice (some ⟨g5,o5,none⟩) D.length c5] 22)).heap.size=w3.heap.size+2:=by simp
     generalize (w3.alloc (.cells #[.int .i64 0] 3)).alloc (.cells #[.slice (some ⟨g5,o5,none⟩) D.length c5] 22)=W5 at *
     have N5:=Lib.hid n5.1;have B5:=Lib.hid n5.2
     have X2:=Lib.hid (keep_blk hbw5 Y2.out);have X3:=Lib.hid (keep_blk hbw5 Y3.out)
     have HD55:=Lib.hid (show ∀ j (hj:j < D.length),W5.cell? ⟨g5,o5+j,none⟩=some (.int .u8 (D[j].toNat:Int)) from fun j hj=>(hbw5.cell (p:=⟨g5,o5+j,none⟩) (by exact hg5l)).trans (hrd6 j hj))
     have HG5:=Lib.hid (grownBy_trans (r':=some R) HGW.out ⟨hbw5.os,hbw5.tape,hbw5.output,hbw5.size,fun k hk _=>hbw5.block k hk⟩ (.inl rfl))
     have HRD:=Lib.hid (show RdI W0 W5 R E from by obtain ⟨vv,e1,e2⟩:=HD5.out;exact ⟨vv,keep_blk hbw5 e1,e2⟩)
     have HZ5:=Lib.hid hz5
     have hNB:w3.heap.size < W5.heap.size:=by omega
     have hr52:w.heap.size+2 ≤ W5.heap.size:=by omega
     have hBS5:w3.heap.size+1 < W5.heap.size:=by omega
     have hg55:g5 < W5.heap.size:=by omega
     have hg5n:g5 < w3.heap.size:=hg5l
     have hNBr:w.heap.size+2 ≤ w3.heap.size:=hs3
     clear n5 hbw5 hz5 hrd6 HGW HD5 Y2 Y3 hs3 hg5l
     generalize hNBe:w3.heap.size=NB at *
     refine (wpIn_wide (n:=9)).1 ?_
     refine num_frame _ (fun A hA=>?_)
     refine wpIn_rangeFunc_ownG rfl (by omega) (gf:=117) (lb:=#[.pointer (some ⟨NB+1,0,none⟩)]) (by rw [hA];rfl) trivial (enters_of Tryd.func117 (by kernel_rfl) rfl)
       (backs_stops _ (by omega) (NB+1) g5 o5 c5 D hDl W5 B5.out HD55.out) (fun h k=>Keeps2.trans h k) (keeps2_put hBS5 hg55) (Below.refl _ _) (fun _=>rfl)
       (NumI W5 NB) (NumX W5 w.heap.size) (numI_own W5 NB hNB) (numX_own W5 w.heap.size hr52) ⟨N5.out,by simp [Im.foldV],⟨rfl,rfl,rfl,Nat.le_refl _,fun _ _ _=>rfl⟩⟩
       (fun x=>{ tmps:=((A.tmps.setIfInBounds 40 (.int .i64 x.1)).setIfInBounds 41 (.int .u8 (x.2.toNat:Int))).setIfInBounds 9 (.int .u8 (x.2.toNat:Int)),defers:=[] }) ?assign ?body ?done ?stop
     case assign =>
       intro l x W K hK
       rw [hA] at hK ⊢
       dsimp only [backArgs]
       gi_wp2
       exact hK
     case body =>
       rintro lp pre x W ⟨h1,h2,h3⟩ hlt
       rw [hA]
       simp only [List.setIfInBounds_toArray,List.set_cons_zero,List.set_cons_succ]
       have c7:W.cell? ⟨NB,0,none⟩=some (.int .i64 (Im.foldV 0 pre:Int)):=by simp [World.cell?,h1]
       have f7:W.frozen? ⟨NB,0,none⟩=false:=by simp [World.frozen?,h1]
       by_cases hov:16777215 < Im.foldV 0 pre
       · have q5:decide ((16777215:Int) < Im.foldV 0 pre)=true:=by rw [decide_eq_true_eq];omega
         have q5':decide (16777215 < Im.foldV 0 pre)=true:=by rw [decide_eq_true_eq];omega
         have r2:W.heap[w.heap.size]? = some (.cells #[.int .i64 0] 3):=(h3.block w.heap.size (by omega) (by intro e;injection e;omega)).trans X2.out
         have r3:W.heap[w.heap.size+1]? = some (.cells #[.bool false] 4):=(h3.block (w.heap.size+1) (by omega) (by intro e;injection e;omega)).trans X3.out
         obtain ⟨p0,p1,p2,p3,p4,p5,-,-,p8,p9⟩:=pair_st r2 r3
         have HKF:=Lib.hid ((keepsFrom_set (B:=W5.heap.size) (j:=0) (.int .i64 0) r2).trans (keepsFrom_set (j:=0) (.bool false) (show (W.setCell ⟨w.heap.size,0,none⟩ (.int .i64 0)).heap[w.heap.size+1]? = some (.cells #[.bool false] 4) by rw [Below.heap_setCell _ _ _ _ (by show w.heap.size+1 ≠ w.heap.size;omega)];exact r3)))
         have HX:=Lib.hid (show NumX W5 w.heap.size .ret (pre ++ [x]) ((W.setCell ⟨w.heap.size,0,none⟩ (.int .i64 0)).setCell ⟨w.heap.size+1,0,none⟩ (.bool false)) from
           ⟨⟨pre,x,rfl,hov⟩,rfl,p8 _ _,p9 _ _,⟨h3.os,h3.tape,h3.output,by simpa using h3.size,fun k hk=>by
             rw [Below.heap_setCell _ _ _ _ (by show k ≠ w.heap.size+1;omega),Below.heap_setCell _ _ _ _ (by show k ≠ w.heap.size;omega)];exact h3.block k (by omega) (by intro e;injection e;omega)⟩⟩)
         clear h1 h2 h3 hov r2 r3 p8 p9
         generalize Im.foldV 0 pre=fv at *
         gi_wp2_with fail
         exact ⟨HKF.out,HX.out⟩
       · have q5:decide ((16777215:Int) < Im.foldV 0 pre)=false:=by rw [decide_eq_false_iff_not];omega
         have q5':decide (16777215 < Im.foldV 0 pre)=false:=by rw [decide_eq_false_iff_not];omega
         obtain ⟨d,hd,hdm,r1⟩:∃ d:Nat,d < 128∧d=x.2.toNat % 128∧(x.2.toNat:Int) % 128=(d:Int):=⟨x.2.toNat % 128,by omega,rfl,by omega⟩
         have hsn:=Im.foldV_snoc 0 pre x
         rw [← hdm] at hsn
         have HSN:=Lib.hid hsn
         have hu:IntKind.u8.wrap (d:Int)=(d:Int):=by rw [IntKind.wrap_u8];omega
         have w1:IntKind.i64.wrap ((Im.foldV 0 pre:Int) * 128)=(Im.foldV 0 pre:Int) * 128:=IntWalk.i64_in _ (by omega)
         have w2:IntKind.i64.wrap ((Im.foldV 0 pre:Int) * 128+d)=(Im.foldV 0 pre:Int) * 128+d:=IntWalk.i64_in _ (by omega)
         have w3':IntKind.i64.wrap (d:Int)=(d:Int):=IntWalk.i64_in _ (by omega)
         have HKF:=Lib.hid (keepsFrom_set (B:=W5.heap.size) (j:=0) (.int .i64 ((Im.foldV 0 pre:Int) * 128+d)) h1)
         have HI:=Lib.hid (show NumI W5 NB (pre ++ [x]) (W.setCell ⟨NB,0,none⟩ (.int .i64 ((Im.foldV 0 pre:Int) * 128+d))) from by
           refine ⟨?_,by rw [HSN.out];omega,h3.os,h3.tape,h3.output,by simpa using h3.size,fun k hk hne=>?_⟩
           · rw [HSN.out,show ((Im.foldV 0 pre * 128+d:Nat):Int)=(Im.foldV 0 pre:Int) * 128+d by omega]
             simp [World.setCell,Array.getElem?_modify,h1]
           · rw [Below.heap_setCell _ _ _ _ (fun e=>hne (by rw [e]))];exact h3.block k hk hne)
         have HK2:=Lib.hid (show Keeps2 (NB+1) g5 W (W.setCell ⟨NB,0,none⟩ (.int .i64 ((Im.foldV 0 pre:Int) * 128+d))) from ⟨Below.heap_setCell _ _ _ _ (by show NB+1 ≠ NB;omega),Below.heap_setCell _ _ _ _ (by show g5 ≠ NB;have:=hg5n;omega)⟩)
         have hd63:(d:Int) ≤ 255:=by omega
         clear h1 h2 h3 hov hsn hdm
         generalize Im.foldV 0 pre=fv at *
         generalize x.2.toNat=xb at *
         gi_wp2_with fail
         exact ⟨HKF.out,HK2.out,HI.out⟩
     case done =>
       rintro DD xs W hDD hxs ⟨h1,h2,h3⟩ hK
       have hval:=Im.foldV_back D D.length 0 (Nat.le_refl _)
       rw [Nat.zero_mul,Nat.zero_add,List.take_length,← hxs] at hval
       rw [hval] at h1 h2
       have hr:=HO.out
       rw [if_neg (by omega)] at hr
       have HRES:=Lib.hid hr
       have r2:W.heap[w.heap.size]? = some (.cells #[.int .i64 0] 3):=(h3.block w.heap.size (by omega) (by intro e;injection e;omega)).trans X2.out
       have r3:W.heap[w.heap.size+1]? = some (.cells #[.bool false] 4):=(h3.block (w.heap.size+1) (by omega) (by intro e;injection e;omega)).trans X3.out
       have c7:W.cell? ⟨NB,0,none⟩=some (.int .i64 (Im.valB D:Int)):=by simp [World.cell?,h1]
       obtain ⟨p0,p1,p2,p3,p4,p5,-,-,p8,p9⟩:=pair_st r2 r3
       obtain ⟨W6,hW6⟩:∃ W6,(W.setCell ⟨w.heap.size,0,none⟩ (.int .i64 (Im.valB D:Int))).setCell ⟨w.heap.size+1,0,none⟩ (.bool true)=W6:=⟨_,rfl⟩
       have k2:=p8 (.int .i64 (Im.valB D:Int)) (.bool true);have k3:=p9 (.int .i64 (Im.valB D:Int)) (.bool true)
       rw [hW6] at k2 k3
       have k6:∀ k,k ≠ w.heap.size→k ≠ w.heap.size+1→W6.heap[k]? = W.heap[k]?:=fun k e1 e2=>by
         rw [← hW6,Below.heap_setCell _ _ _ _ (by show k ≠ w.heap.size+1;exact e2),Below.heap_setCell _ _ _ _ (by show k ≠ w.heap.size;exact e1)]
       have kD:W6.heap[DD]? = some (.deferred (some [])):=(k6 DD (by omega) (by omega)).trans hK
       have s6:W6.heap.size=W.heap.size:=by rw [← hW6];simp
       have o6:W6.os=W.os∧W6.tape=W.tape∧W6.output=W.output:=by rw [← hW6];exact ⟨rfl,rfl,rfl⟩
       have t2:(W6.putObj DD (.deferred none)).cell? ⟨w.heap.size,0,none⟩=some (.int .i64 (Im.valB D:Int)):=by
         have e:=World.putObj_heap_other (w:=W6) (o:=.deferred none) (show w.heap.size ≠ DD by omega)
         simp [World.cell?,e,k2]
       have t3:(W6.putObj DD (.deferred none)).cell? ⟨w.heap.size+1,0,none⟩=some (.bool true):=by
         have e:=World.putObj_heap_other (w:=W6) (o:=.deferred none) (show w.heap.size+1 ≠ DD by omega)
         simp [World.cell?,e,k3]
       have hgp:=grownBy_putObj' W6 DD (.deferred none)
       have hfin:w.grownBy (W6.putObj DD (.deferred none)) (some R):=⟨hgp.os.trans (o6.1.trans (h3.os.trans HG5.out.os)),hgp.tape.trans (o6.2.1.trans (h3.tape.trans HG5.out.tape)),hgp.output.trans (o6.2.2.trans (h3.output.trans HG5.out.output)),
         Nat.le_trans HG5.out.size (Nat.le_trans h3.size (by rw [← s6];exact hgp.size)),fun k hk hne=>by
           rw [World.putObj_heap_other (by omega),k6 k (by omega) (by omega),h3.block k (by omega) (by intro e;injection e;omega),HG5.out.block k hk hne]⟩
       have hrdf:RdI W0 (W6.putObj DD (.deferred none)) R E:=by
         obtain ⟨vv,e1,e2⟩:=HRD.out
         exact ⟨vv,by rw [World.putObj_heap_other (by omega),k6 R (by omega) (by omega),h3.block R (by omega) (by intro e;injection e;omega),e1],e2⟩
       have T2:=Lib.hid t2;have T3:=Lib.hid t3;have HF:=Lib.hid hfin;have HRF:=Lib.hid hrdf;have KD:=Lib.hid kD;have HW6:=Lib.hid hW6
       clear h1 h2 h3 hK hval hr r2 r3 p8 p9 k2 k3 k6 kD s6 o6 t2 t3 hgp hfin hrdf hxs hW6
       generalize Im.valB D=vd at *
       rw [hA]
       go_wp2
       rw [HW6.out]
       refine ⟨by simp,.inl ⟨_,_,rfl,run_takeDeferred KD.out, ?_⟩⟩
       have t2:=T2.out;have t3:=T3.out
       refine ⟨.tuple #[.int .i64 vd,.bool true],by simp [results,Tryd.results59,go_sem,t2,t3],HF.out, ?_⟩
       rw [HRES.out]
       exact ⟨rfl,HRF.out⟩
     case stop =>
       rintro DD c pre W hDD hpre ⟨⟨pp,x,rfl,hov⟩,rfl,h3,h4,h5⟩ hK
       have hov2:=Im.over_of hpre hov
       have hr:=HO.out
       rw [if_pos hov2] at hr
       have HRES:=Lib.hid hr
       have t2:(W.putObj DD (.deferred none)).cell? ⟨w.heap.size,0,none⟩=some (.int .i64 0):=by
         have e:=World.putObj_heap_other (w:=W) (o:=.deferred none) (show w.heap.size ≠ DD by omega)
         simp [World.cell?,e,h3]
       have t3:(W.putObj DD (.deferred none)).cell? ⟨w.heap.size+1,0,none⟩=some (.bool false):=by
         have e:=World.putObj_heap_other (w:=W) (o:=.deferred none) (show w.heap.size+1 ≠ DD by omega)
         simp [World.cell?,e,h4]
       have hgp:=grownBy_putObj' W DD (.deferred none)
       have hfin:w.grownBy (W.putObj DD (.deferred none)) (some R):=⟨hgp.os.trans (h5.os.trans HG5.out.os),hgp.tape.trans (h5.tape.trans HG5.out.tape),hgp.output.trans (h5.output.trans HG5.out.output),
         Nat.le_trans HG5.out.size (Nat.le_trans h5.size hgp.size),fun k hk hne=>by
           rw [World.putObj_heap_other (by omega),h5.block k hk,HG5.out.block k hk hne]⟩
       have T2:=Lib.hid t2;have T3:=Lib.hid t3;have HF:=Lib.hid hfin;have KD:=Lib.hid hK
       clear h3 h4 h5 hK hov hov2 hr t2 t3 hgp hfin hpre
       rw [hA]
       gi_wp2_with fail
       refine ⟨by simp,.inl ⟨_,_,rfl,run_takeDeferred KD.out, ?_⟩⟩
       have t2:=T2.out;have t3:=T3.out
       refine ⟨.tuple #[.int .i64 0,.bool false],by simp [results,Tryd.results59,go_sem,t2,t3],HF.out, ?_⟩
       rw [HRES.out]
   · have q2:decide ((0:Int) < k)=true:=by rw [decide_eq_true_eq];omega
     have q2':decide (0 < k)=true:=by rw [decide_eq_true_eq];omega
     by_cases hz:(l.getD k 0).toNat=0
     · have HG:=Lib.hid (pair_grown W2 w.heap.size (.int .i64 0) (.bool false) R ⟨HW.out.os,HW.out.tape,HW.out.output,HW.out.size,fun k hk _=>HW.out.block k hk⟩ (Nat.le_refl _))
       have HO:=Lib.hid (show Im.rdNum l=none by unfold Im.rdNum;rw [hlb];exact if_pos ⟨hk0,hz⟩)
       rw [hz] at cb
       clear hO hlb hz hk3 hk0
       go_wp2
       refine ⟨.tuple #[.int .i64 0,.bool false],by simp [results,Tryd.results59,go_sem,p6,p7],HG.out, ?_⟩
       rw [HO.out]
     · have q3:(((l.getD k 0).toNat:Int) == 0)=false:=by rw [beq_eq_false_iff_ne];omega
       have q3':((l.getD k 0).toNat == 0)=false:=by rw [beq_eq_false_iff_ne];omega
       have HO:=Lib.hid (show Im.rdNum l=if 2147483647 < Im.valB (l.take (k+1)) then none else some (Im.valB (l.take (k+1)),l.drop (k+1)) by unfold Im.rdNum;rw [hlb];exact if_neg (fun h=>hz h.2))
       have HTK:=Lib.hid (take_yes W0 W2 R l (k+1) (by omega) (by omega) hl ⟨_,HR1.out,HBS.out⟩)
       clear hO hlb hz hk3
       generalize (l.getD k 0).toNat=bb at *
       go_upto_region 4 with (fail)
       go_wp2_with fail
       refine HTK.out.mono ?_
       rintro e w3 ⟨⟨v5,rfl,hb5⟩,hr5,hg5⟩
       have hlt:(l.take (k+1)).length=k+1:=by rw [List.length_take];omega
       rcases hb5 with ⟨-,h2⟩ | ⟨g5,o5,c5,rfl,hc5,hrd5⟩
       · rw [h2] at hlt;simp at hlt
       have HD5:=Lib.hid hr5
       obtain ⟨D,hD⟩:∃ D,l.take (k+1)=D:=⟨_,rfl⟩
       obtain ⟨E,hE⟩:∃ E,l.drop (k+1)=E:=⟨_,rfl⟩
       rw [hD,hE] at HO
       rw [hE] at HD5
       have hDl:D.length ≤ 140737488351232:=by rw [← hD,hlt];omega
       have hDn:(l.take (k+1)).length=D.length:=by rw [hD]
       have hz1:=HZ1.out
       have hs3:w.heap.size+2 ≤ w3.heap.size:=by have:=hg5.size;omega
       have Y2:=Lib.hid ((hg5.block w.heap.size (by omega) (by intro e;injection e;omega)).trans Z2.out)
       have Y3:=Lib.hid ((hg5.block (w.heap.size+1) (by omega) (by intro e;injection e;omega)).trans Z3.out)
       have hgw:w.grownBy w3 (some R):=grownBy_trans (r':=some R) ⟨HW.out.os,HW.out.tape,HW.out.output,HW.out.size,fun k hk _=>HW.out.block k hk⟩ hg5 (.inl rfl)
       have hbw3:Below W0.heap.size W0 w3:=HB0.out.grown hgw HB0.out.size (fun k e=>by injection e;omega)
       have hrd6:∀ j (hj:j < D.length),w3.cell? ⟨g5,o5+j,none⟩=some (.int .u8 (D[j].toNat:Int)):=fun j hj=>by
         subst hD
         rw [(hbw3.cell (p:=⟨g5,o5+j,none⟩) (block_lt_of_cell (hrd5 j hj))),hrd5 j hj]
       have hg5w:D.length=0 ∨ g5 < w3.heap.size:=by
         rcases Nat.eq_zero_or_pos D.length with h | h
         · exact .inl h
         · exact .inr (block_lt_of_cell (hrd6 0 h))
       have hDp:0 < D.length:=by rw [← hDn,hlt];omega
       have hg5l:g5 < w3.heap.size:=by omega
       have HGW:=Lib.hid hgw
       rw [hDn] at hc5 ⊢
       clear hr5 hg5 hD hE hrd5 hDn hlt hz1 hgw hbw3 hg5w p0 p1 p2 p3 p4 p5 p6 p7 c0 cb HTK
       go_wp2_with fail
       refine (backward_any _ _ _ _).mono ?_
       rintro e w6 ⟨rfl,rfl⟩
       go_wp2_with fail
       have n5:=two_new w3 (.cells #[.int .i64 0] 3) (.cells #[.slice (some ⟨g5,o5,none⟩) D.length c5] 22)
       have hbw5:Below w3.heap.size w3 ((w3.alloc (.cells #[.int .i64 0] 3)).alloc (.cells #[.slice (some ⟨g5,o5,none⟩) D.length c5] 22)):=by go_grown
       have hz5:((w3.alloc (.cells #[.int .i64 0] 3)).alloc (.cells #[.slice (some ⟨g5,o5,none⟩) D.length c5] 22)).heap.size=w3.heap.size+2:=by simp
       generalize (w3.alloc (.cells #[.int .i64 0] 3)).alloc (.cells #[.slice (some ⟨g5,o5,none⟩) D.length c5] 22)=W5 at *
       have N5:=Lib.hid n5.1;have B5:=Lib.hid n5.2
       have X2:=Lib.hid (keep_blk hbw5 Y2.out);have X3:=Lib.hid (keep_blk hbw5 Y3.out)
       have HD55:=Lib.hid (show ∀ j (hj:j < D.length),W5.cell? ⟨g5,o5+j,none⟩=some (.int .u8 (D[j].toNat:Int)) from fun j hj=>(hbw5.cell (p:=⟨g5,o5+j,none⟩) (by exact hg5l)).trans (hrd6 j hj))
       have HG5:=Lib.hid (grownBy_trans (r':=some R) HGW.out ⟨hbw5.os,hbw5.tape,hbw5.output,hbw5.size,fun k hk _=>hbw5.block k hk⟩ (.inl rfl))
       have HRD:=Lib.hid (show RdI W0 W5 R E from by obtain ⟨vv,e1,e2⟩:=HD5.out;exact ⟨vv,keep_blk hbw5 e1,e2⟩)
       have HZ5:=Lib.hid hz5
       have hNB:w3.heap.size < W5.heap.size:=by omega
       have hr52:w.heap.size+2 ≤ W5.heap.size:=by omega
       have hBS5:w3.heap.size+1 < W5.heap.size:=by omega
       have hg55:g5 < W5.heap.size:=by omega
       have hg5n:g5 < w3.heap.size:=hg5l
       have hNBr:w.heap.size+2 ≤ w3.heap.size:=hs3
       clear n5 hbw5 hz5 hrd6 HGW HD5 Y2 Y3 hs3 hg5l
       generalize hNBe:w3.heap.size=NB at *
       refine (wpIn_wide (n:=9)).1 ?_
       refine num_frame _ (fun A hA=>?_)
       refine wpIn_rangeFunc_ownG rfl (by omega) (gf:=117) (lb:=#[.pointer (some ⟨NB+1,0,none⟩)]) (by rw [hA];rfl) trivial (enters_of Tryd.func117 (by kernel_rfl) rfl)
         (backs_stops _ (by omega) (NB+1) g5 o5 c5 D hDl W5 B5.out HD55.out) (fun h k=>Keeps2.trans h k) (keeps2_put hBS5 hg55) (Below.refl _ _) (fun _=>rfl)
         (NumI W5 NB) (NumX W5 w.heap.size) (numI_own W5 NB hNB) (numX_own W5 w.heap.size hr52) ⟨N5.out,by simp [Im.foldV],⟨rfl,rfl,rfl,Nat.le_refl _,fun _ _ _=>rfl⟩⟩
         (fun x=>{ tmps:=((A.tmps.setIfInBounds 40 (.int .i64 x.1)).setIfInBounds 41 (.int .u8 (x.2.toNat:Int))).setIfInBounds 9 (.int .u8 (x.2.toNat:Int)),defers:=[] }) ?assign ?body ?done ?stop
       case assign =>
         intro l x W K hK
         rw [hA] at hK ⊢
         dsimp only [backArgs]
         gi_wp2
         exact hK
       case body =>
         rintro lp pre x W ⟨h1,h2,h3⟩ hlt
         rw [hA]
         simp only [List.setIfInBounds_toArray,List.set_cons_zero,List.set_cons_succ]
         have c7:W.cell? ⟨NB,0,none⟩=some (.int .i64 (Im.foldV 0 pre:Int)):=by simp [World.cell?,h1]
         have f7:W.frozen? ⟨NB,0,none⟩=false:=by simp [World.frozen?,h1]
         by_cases hov:16777215 < Im.foldV 0 pre
         · have q5:decide ((16777215:Int) < Im.foldV 0 pre)=true:=by rw [decide_eq_true_eq];omega
           have q5':decide (16777215 < Im.foldV 0 pre)=true:=by rw [decide_eq_true_eq];omega
           have r2:W.heap[w.heap.size]? = some (.cells #[.int .i64 0] 3):=(h3.block w.heap.size (by omega) (by intro e;injection e;omega)).trans X2.out
           have r3:W.heap[w.heap.size+1]? = some (.cells #[.bool false] 4):=(h3.block (w.heap.size+1) (by omega) (by intro e;injection e;omega)).trans X3.out
           obtain ⟨p0,p1,p2,p3,p4,p5,-,-,p8,p9⟩:=pair_st r2 r3
           have HKF:=Lib.hid ((keepsFrom_set (B:=W5.heap.size) (j:=0) (.int .i64 0) r2).trans (keepsFrom_set (j:=0) (.bool false) (show (W.setCell ⟨w.heap.size,0,none⟩ (.int .i64 0)).heap[w.heap.size+1]? = some (.cells #[.bool false] 4) by rw [Below.heap_setCell _ _ _ _ (by show w.heap.size+1 ≠ w.heap.size;omega)];exact r3)))
           have HX:=Lib.hid (show NumX W5 w.heap.size .ret (pre ++ [x]) ((W.setCell ⟨w.heap.size,0,none⟩ (.int .i64 0)).setCell ⟨w.heap.size+1,0,none⟩ (.bool false)) from
             ⟨⟨pre,x,rfl,hov⟩,rfl,p8 _ _,p9 _ _,⟨h3.os,h3.tape,h3.output,by simpa using h3.size,fun k hk=>by
               rw [Below.heap_setCell _ _ _ _ (by show k ≠ w.heap.size+1;omega),Below.heap_setCell _ _ _ _ (by show k ≠ w.heap.size;omega)];exact h3.block k (by omega) (by intro e;injection e;omega)⟩⟩)
           clear h1 h2 h3 hov r2 r3 p8 p9
           generalize Im.foldV 0 pre=fv at *
           gi_wp2_with fail
           exact ⟨HKF.out,HX.out⟩
         · have q5:decide ((16777215:Int) < Im.foldV 0 pre)=false:=by rw [decide_eq_false_iff_not];omega
           have q5':decide (16777215 < Im.foldV 0 pre)=false:=by rw [decide_eq_false_iff_not];omega
           obtain ⟨d,hd,hdm,r1⟩:∃ d:Nat,d < 128∧d=x.2.toNat % 128∧(x.2.toNat:Int) % 128=(d:Int):=⟨x.2.toNat % 128,by omega,rfl,by omega⟩
           have hsn:=Im.foldV_snoc 0 pre x
           rw [← hdm] at hsn
           have HSN:=Lib.hid hsn
           have hu:IntKind.u8.wrap (d:Int)=(d:Int):=by rw [IntKind.wrap_u8];omega
           have w1:IntKind.i64.wrap ((Im.foldV 0 pre:Int) * 128)=(Im.foldV 0 pre:Int) * 128:=IntWalk.i64_in _ (by omega)
           have w2:IntKind.i64.wrap ((Im.foldV 0 pre:Int) * 128+d)=(Im.foldV 0 pre:Int) * 128+d:=IntWalk.i64_in _ (by omega)
           have w3':IntKind.i64.wrap (d:Int)=(d:Int):=IntWalk.i64_in _ (by omega)
           have HKF:=Lib.hid (keepsFrom_set (B:=W5.heap.size) (j:=0) (.int .i64 ((Im.foldV 0 pre:Int) * 128+d)) h1)
           have HI:=Lib.hid (show NumI W5 NB (pre ++ [x]) (W.setCell ⟨NB,0,none⟩ (.int .i64 ((Im.foldV 0 pre:Int) * 128+d))) from by
             refine ⟨?_,by rw [HSN.out];omega,h3.os,h3.tape,h3.output,by simpa using h3.size,fun k hk hne=>?_⟩
             · rw [HSN.out,show ((Im.foldV 0 pre * 128+d:Nat):Int)=(Im.foldV 0 pre:Int) * 128+d by omega]
               simp [World.setCell,Array.getElem?_modify,h1]
             · rw [Below.heap_setCell _ _ _ _ (fun e=>hne (by rw [e]))];exact h3.block k hk hne)
           have HK2:=Lib.hid (show Keeps2 (NB+1) g5 W (W.setCell ⟨NB,0,none⟩ (.int .i64 ((Im.foldV 0 pre:Int) * 128+d))) from ⟨Below.heap_setCell _ _ _ _ (by show NB+1 ≠ NB;omega),Below.heap_setCell _ _ _ _ (by show g5 ≠ NB;have:=hg5n;omega)⟩)
           have hd63:(d:Int) ≤ 255:=by omega
           clear h1 h2 h3 hov hsn hdm
           generalize Im.foldV 0 pre=fv at *
           generalize x.2.toNat=xb at *
           gi_wp2_with fail
           exact ⟨HKF.out,HK2.out,HI.out⟩
       case done =>
         rintro DD xs W hDD hxs ⟨h1,h2,h3⟩ hK
         have hval:=Im.foldV_back D D.length 0 (Nat.le_refl _)
         rw [Nat.zero_mul,Nat.zero_add,List.take_length,← hxs] at hval
         rw [hval] at h1 h2
         have hr:=HO.out
         rw [if_neg (by omega)] at hr
         have HRES:=Lib.hid hr
         have r2:W.heap[w.heap.size]? = some (.cells #[.int .i64 0] 3):=(h3.block w.heap.size (by omega) (by intro e;injection e;omega)).trans X2.out
         have r3:W.heap[w.heap.size+1]? = some (.cells #[.bool false] 4):=(h3.block (w.heap.size+1) (by omega) (by intro e;injection e;omega)).trans X3.out
         have c7:W.cell? ⟨NB,0,none⟩=some (.int .i64 (Im.valB D:Int)):=by simp [World.cell?,h1]
         obtain ⟨p0,p1,p2,p3,p4,p5,-,-,p8,p9⟩:=pair_st r2 r3
         obtain ⟨W6,hW6⟩:∃ W6,(W.setCell ⟨w.heap.size,0,none⟩ (.int .i64 (Im.valB D:Int))).setCell ⟨w.heap.size+1,0,none⟩ (.bool true)=W6:=⟨_,rfl⟩
         have k2:=p8 (.int .i64 (Im.valB D:Int)) (.bool true);have k3:=p9 (.int .i64 (Im.valB D:Int)) (.bool true)
         rw [hW6] at k2 k3
         have k6:∀ k,k ≠ w.heap.size→k ≠ w.heap.size+1→W6.heap[k]? = W.heap[k]?:=fun k e1 e2=>by
           rw [← hW6,Below.heap_setCell _ _ _ _ (by show k ≠ w.heap.size+1;exact e2),Below.heap_setCell _ _ _ _ (by show k ≠ w.heap.size;exact e1)]
         have kD:W6.heap[DD]? = some (.deferred (some [])):=(k6 DD (by omega) (by omega)).trans hK
         have s6:W6.heap.size=W.heap.size:=by rw [← hW6];simp
         have o6:W6.os=W.os∧W6.tape=W.tape∧W6.output=W.output:=by rw [← hW6];exact ⟨rfl,rfl,rfl⟩
         have t2:(W6.putObj DD (.deferred none)).cell? ⟨w.heap.size,0,none⟩=some (.int .i64 (Im.valB D:Int)):=by
           have e:=World.putObj_heap_other (w:=W6) (o:=.deferred none) (show w.heap.size ≠ DD by omega)
           simp [World.cell?,e,k2]
         have t3:(W6.putObj DD (.deferred none)).cell? ⟨w.heap.size+1,0,none⟩=some (.bool true):=by
           have e:=World.putObj_heap_other (w:=W6) (o:=.deferred none) (show w.heap.size+1 ≠ DD by omega)
           simp [World.cell?,e,k3]
         have hgp:=grownBy_putObj' W6 DD (.deferred none)
         have hfin:w.grownBy (W6.putObj DD (.deferred none)) (some R):=⟨hgp.os.trans (o6.1.trans (h3.os.trans HG5.out.os)),hgp.tape.trans (o6.2.1.trans (h3.tape.trans HG5.out.tape)),hgp.output.trans (o6.2.2.trans (h3.output.trans HG5.out.output)),
           Nat.le_trans HG5.out.size (Nat.le_trans h3.size (by rw [← s6];exact hgp.size)),fun k hk hne=>by
             rw [World.putObj_heap_other (by omega),k6 k (by omega) (by omega),h3.block k (by omega) (by intro e;injection e;omega),HG5.out.block k hk hne]⟩
         have hrdf:RdI W0 (W6.putObj DD (.deferred none)) R E:=by
           obtain ⟨vv,e1,e2⟩:=HRD.out
           exact ⟨vv,by rw [World.putObj_heap_other (by omega),k6 R (by omega) (by omega),h3.block R (by omega) (by intro e;injection e;omega),e1],e2⟩
         have T2:=Lib.hid t2;have T3:=Lib.hid t3;have HF:=Lib.hid hfin;have HRF:=Lib.hid hrdf;have KD:=Lib.hid kD;have HW6:=Lib.hid hW6
         clear h1 h2 h3 hK hval hr r2 r3 p8 p9 k2 k3 k6 kD s6 o6 t2 t3 hgp hfin hrdf hxs hW6
         generalize Im.valB D=vd at *
         rw [hA]
         go_wp2
         rw [HW6.out]
         refine ⟨by simp,.inl ⟨_,_,rfl,run_takeDeferred KD.out, ?_⟩⟩
         have t2:=T2.out;have t3:=T3.out
         refine ⟨.tuple #[.int .i64 vd,.bool true],by simp [results,Tryd.results59,go_sem,t2,t3],HF.out, ?_⟩
         rw [HRES.out]
         exact ⟨rfl,HRF.out⟩
       case stop =>
         rintro DD c pre W hDD hpre ⟨⟨pp,x,rfl,hov⟩,rfl,h3,h4,h5⟩ hK
         have hov2:=Im.over_of hpre hov
         have hr:=HO.out
         rw [if_pos hov2] at hr
         have HRES:=Lib.hid hr
         have t2:(W.putObj DD (.deferred none)).cell? ⟨w.heap.size,0,none⟩=some (.int .i64 0):=by
           have e:=World.putObj_heap_other (w:=W) (o:=.deferred none) (show w.heap.size ≠ DD by omega)
           simp [World.cell?,e,h3]
         have t3:(W.putObj DD (.deferred none)).cell? ⟨w.heap.size+1,0,none⟩=some (.bool false):=by
           have e:=World.putObj_heap_other (w:=W) (o:=.deferred none) (show w.heap.size+1 ≠ DD by omega)
           simp [World.cell?,e,h4]
         have hgp:=grownBy_putObj' W DD (.deferred none)
         have hfin:w.grownBy (W.putObj DD (.deferred none)) (some R):=⟨hgp.os.trans (h5.os.trans HG5.out.os),hgp.tape.trans (h5.tape.trans HG5.out.tape),hgp.output.trans (h5.output.trans HG5.out.output),
           Nat.le_trans HG5.out.size (Nat.le_trans h5.size hgp.size),fun k hk hne=>by
             rw [World.putObj_heap_other (by omega),h5.block k hk,HG5.out.block k hk hne]⟩
         have T2:=Lib.hid t2;have T3:=Lib.hid t3;have HF:=Lib.hid hfin;have KD:=Lib.hid hK
         clear h3 h4 h5 hK hov hov2 hr t2 t3 hgp hfin hpre
         rw [hA]
         gi_wp2_with fail
         refine ⟨by simp,.inl ⟨_,_,rfl,run_takeDeferred KD.out, ?_⟩⟩
         have t2:=T2.out;have t3:=T3.out
         refine ⟨.tuple #[.int .i64 0,.bool false],by simp [results,Tryd.results59,go_sem,t2,t3],HF.out, ?_⟩
         rw [HRES.out]
end Go.Proofs.YtoepdfpnkmccoaaDoor
namespace Go.Proofs.YtoepdfpnkmccoaaDoor
open Go.RowKit
structure Gr (w w':World) (R T:Nat):Prop where
 os:w'.os=w.os
 tape:w'.tape=w.tape
 output:w'.output=w.output
 size:w.heap.size ≤ w'.heap.size
 block:∀ k,k < w.heap.size→k ≠ R→k ≠ T→w'.heap[k]? = w.heap[k]?
theorem Gr.of {w w':World} {R:Nat} (T:Nat) (h:w.grownBy w' (some R)):Gr w w' R T:=⟨h.os,h.tape,h.output,h.size,fun k hk h1 _=>h.block k hk (by intro e;injection e;omega)⟩
theorem Gr.trans {a b c:World} {R T:Nat} (h:Gr a b R T) (k:Gr b c R T):Gr a c R T:=⟨k.os.trans h.os,k.tape.trans h.tape,k.output.trans h.output,Nat.le_trans h.size k.size,fun i hi h1 h2=>(k.block i (Nat.lt_of_lt_of_le hi h.size) h1 h2).trans (h.block i hi h1 h2)⟩
theorem Gr.setCell {a b:World} {R T j:Nat} {v:Value} (h:Gr a b R T):Gr a (b.setCell ⟨T,j,none⟩ v) R T:=⟨h.os,h.tape,h.output,by simpa using h.size,fun k hk h1 h2=>(Below.heap_setCell _ _ _ _ (by exact h2)).trans (h.block k hk h1 h2)⟩
theorem Gr.below {W0 a b:World} {R T:Nat} (h:Gr a b R T) (hb:Below W0.heap.size W0 a) (hR:W0.heap.size ≤ R) (hT:W0.heap.size ≤ T):Below W0.heap.size W0 b :=
 ⟨h.os.trans hb.os,h.tape.trans hb.tape,h.output.trans hb.output,Nat.le_trans hb.size h.size,fun k hk=>(h.block k (Nat.lt_of_lt_of_le hk hb.size) (by omega) (by omega)).trans (hb.block k hk)⟩
def RepEnd (W0:World) (R T:Nat) (l:List UInt8) (k0 k1 k2 k3 k4 k5 k6:Value) (w:World) (e:Ending) (w':World):Prop :=
 Gr w w' R T∧match Im.rdRep l with
   | some (lo,hi,br,r)=>e=.returned (.bool true)∧RdI W0 w' R r∧w'.heap[T]? = some (.cells #[k0,k1,k2,k3,k4,k5,k6,.int .i64 lo,.int .i64 hi,.bool br] 29)
   | none=>e=.returned (.bool false)
theorem rdNum_len {l:List UInt8} {n:Nat} {r:List UInt8} (h:Im.rdNum l=some (n,r)):r.length < l.length∧n ≤ 2147483647:=by
 unfold Im.rdNum at h
 split at h
 · cases h
 · rename_i k hk
   have hs:=(Im.lastB_spec hk).1
   split at h
   · cases h
   · split at h
     · cases h
     · rename_i h2
       simp only [Option.some.injEq,Prod.mk.injEq] at h
       obtain ⟨rfl,rfl⟩:=h
       rw [List.length_drop]
       omega
theorem repeat_any (W0 w:World) (R T:Nat) (l:List UInt8) (hl:l.length ≤ 140737488351232) (hb:Below W0.heap.size W0 w) (hR:W0.heap.size ≤ R) (hTR:T ≠ R) (hT0:W0.heap.size ≤ T) (hr:RdI W0 w R l) (k0 k1 k2 k3 k4 k5 k6 k7 k8 k9:Value)
   (hT:w.heap[T]? = some (.cells #[k0,k1,k2,k3,k4,k5,k6,k7,k8,k9] 29)) :
   Calls Tryd.prog 60 #[.pointer (some ⟨R,0,none⟩),.pointer (some ⟨T,0,none⟩)] w (RepEnd W0 R T l k0 k1 k2 k3 k4 k5 k6 w):=by
 have hTl:T < w.heap.size:=(Array.getElem?_eq_some_iff.1 hT).1
 have H1:=Lib.hid (number_any W0 w R l hl hb hR hr)
 have HB0:=Lib.hid hb;have HT0:=Lib.hid hT
 clear hb hr hT
 go_enter Tryd.func60,Tryd.ntmps60
 go_wp2_with fail
 refine H1.out.mono ?_
 rintro e w1 ⟨hg1,he1⟩
 cases hn1:Im.rdNum l with
 | none =>
   rw [hn1] at he1
   subst he1
   have HRR:=Lib.hid (show Im.rdRep l=none by unfold Im.rdRep;rw [hn1])
   have HG:=Lib.hid (Gr.of T hg1)
   clear hg1 hn1 H1
   go_wp2
   go_ret
   refine ⟨HG.out, ?_⟩
   rw [HRR.out];rfl
 | some x =>
   obtain ⟨lo,l1⟩:=x
   rw [hn1] at he1
   obtain ⟨rfl,hr1⟩:=he1
   have hll1:=rdNum_len hn1
   have hG1:=Gr.of T hg1
   have hT1:=(hg1.block T hTl (by intro e;injection e;omega)).trans HT0.out
   have H2:=Lib.hid (number_any W0 w1 R l1 (by omega) (hG1.below HB0.out hR hT0) hR hr1)
   have HN1:=Lib.hid hn1;have HG1:=Lib.hid hG1;have HT1:=Lib.hid hT1
   clear hg1 hn1 H1 hG1 hT1 HT0 hr1
   go_wp2_with fail
   refine H2.out.mono ?_
   rintro e w2 ⟨hg2,he2⟩
   cases hn2:Im.rdNum l1 with
   | none =>
     rw [hn2] at he2
     subst he2
     have HRR:=Lib.hid (show Im.rdRep l=none by unfold Im.rdRep;rw [HN1.out];simp only [hn2])
     have HG:=Lib.hid (HG1.out.trans (Gr.of T hg2))
     clear hg2 hn2 H2
     go_wp2
     go_ret
     refine ⟨HG.out, ?_⟩
     rw [HRR.out];rfl
   | some y =>
     obtain ⟨hi,l2⟩:=y
     rw [hn2] at he2
     obtain ⟨rfl,hr2⟩:=he2
     have hll2:=rdNum_len hn2
     have hG2:=HG1.out.trans (Gr.of T hg2)
     have hT2:=(hg2.block T (Nat.lt_of_lt_of_le hTl HG1.out.size) (by intro e;injection e;omega)).trans HT1.out
     have HN2:=Lib.hid hn2;have HG2:=Lib.hid hG2;have HT2:=Lib.hid hT2
     have hB2:=hG2.below HB0.out hR hT0
     clear hg2 hn2 H2 hG2 hT2 HT1 HG1
     cases l2 with
     | nil =>
       have H3:=Lib.hid (take_no W0 w2 R [] 1 (by simp) hr2)
       have HRR:=Lib.hid (show Im.rdRep l=none by unfold Im.rdRep;rw [HN1.out];simp only [HN2.out];rfl)
       clear hr2 hB2
       go_wp2_with fail
       refine H3.out.mono ?_
       rintro e w3 ⟨rfl,rfl⟩
       go_wp2
       go_ret
       refine ⟨HG2.out, ?_⟩
       rw [HRR.out];rfl
     | cons b l3 =>
       have H3:=Lib.hid (take_yes W0 w2 R (b :: l3) 1 (by omega) (by simp) (by omega) hr2)
       have HB2:=Lib.hid hB2
       clear hr2 hB2
       go_wp2_with fail
       refine H3.out.mono ?_
       rintro e w3 ⟨⟨v3,rfl,hb3⟩,hr3,hg3⟩
       rcases hb3 with ⟨-,h2⟩ | ⟨g3,o3,c3,rfl,hc3,hrd3⟩
       · cases h2
       have hG3:=HG2.out.trans (Gr.of T hg3)
       have hT3:=(hg3.block T (Nat.lt_of_lt_of_le hTl HG2.out.size) (by intro e;injection e;omega)).trans HT2.out
       have hB3:=hG3.below HB0.out hR hT0
       have hc:=hrd3 0 (by simp)
       have cb:w3.cell? ⟨g3,o3,none⟩=some (.int .u8 (b.toNat:Int)):=by
         have:=(hB3.cell (p:=⟨g3,o3+0,none⟩) (block_lt_of_cell hc)).trans hc
         simpa using this
       have HG3:=Lib.hid hG3;have HT3:=Lib.hid hT3;have HR3:=Lib.hid hr3
       have hl1:(List.take 1 (b :: l3)).length=1:=by simp
       rw [hl1] at hc3 ⊢
       have hbl:=b.toNat_lt
       clear hg3 hG3 hT3 hB3 hc hrd3 hr3 H3 HG2 HT2 hl1
       by_cases hb1:1 < b.toNat
       · have HRR:=Lib.hid (show Im.rdRep l=none by unfold Im.rdRep;rw [HN1.out];simp only [HN2.out,Im.rdBare,if_pos hb1])
         have q1:decide ((1:Int) < b.toNat)=true:=by rw [decide_eq_true_eq];omega
         have q1':decide (1 < b.toNat)=true:=decide_eq_true hb1
         clear hb1
         generalize b.toNat=bb at *
         go_wp2
         go_ret
         refine ⟨HG3.out, ?_⟩
         rw [HRR.out];rfl
       · have HRR:=Lib.hid (show Im.rdRep l=some ((lo:Int),(hi:Int) - 1,b.toNat == 1,l3) by unfold Im.rdRep;rw [HN1.out];simp only [HN2.out,Im.rdBare,if_neg hb1])
         have q1:decide ((1:Int) < b.toNat)=false:=by rw [decide_eq_false_iff_not];omega
         have q1':decide (1 < b.toNat)=false:=decide_eq_false hb1
         have qe:((b.toNat:Int) == 1)=(b.toNat == 1):=by
           by_cases h:b.toNat=1
           · rw [h];rfl
           · rw [beq_eq_false_iff_ne.2 h,beq_eq_false_iff_ne.2 (by omega)]
         have wh:IntKind.i64.wrap ((hi:Int) - 1)=(hi:Int) - 1:=IntWalk.i64_in _ (by omega)
         obtain ⟨d0,d1,d2,d3,d4,d5,d6,d7,d8,d9⟩:=allTen HT3.out
         have f7:w3.frozen? ⟨T,7,none⟩=false:=by simp [World.frozen?,HT3.out]
         have f8:∀ v,(w3.setCell ⟨T,7,none⟩ v).frozen? ⟨T,8,none⟩=false:=fun v=>by simp [World.frozen?,World.setCell,Array.getElem?_modify,HT3.out]
         have f9:∀ v u,((w3.setCell ⟨T,7,none⟩ v).setCell ⟨T,8,none⟩ u).frozen? ⟨T,9,none⟩=false:=fun v u=>by simp [World.frozen?,World.setCell,Array.getElem?_modify,HT3.out]
         have c8:∀ v,(w3.setCell ⟨T,7,none⟩ v).cell? ⟨T,8,none⟩=some k8:=fun v=>by simp [World.cell?,World.setCell,Array.getElem?_modify,HT3.out]
         have c9:∀ v u,((w3.setCell ⟨T,7,none⟩ v).setCell ⟨T,8,none⟩ u).cell? ⟨T,9,none⟩=some k9:=fun v u=>by simp [World.cell?,World.setCell,Array.getElem?_modify,HT3.out]
         have HTF:=Lib.hid (show ∀ v u x,(((w3.setCell ⟨T,7,none⟩ v).setCell ⟨T,8,none⟩ u).setCell ⟨T,9,none⟩ x).heap[T]? = some (.cells #[k0,k1,k2,k3,k4,k5,k6,v,u,x] 29) from fun v u x=>by simp [World.setCell,Array.getElem?_modify,HT3.out])
         have HGF:=Lib.hid (fun v u x=>((HG3.out.setCell (j:=7) (v:=v)).setCell (j:=8) (v:=u)).setCell (j:=9) (v:=x))
         have HRF:=Lib.hid (show ∀ v u x,RdI W0 (((w3.setCell ⟨T,7,none⟩ v).setCell ⟨T,8,none⟩ u).setCell ⟨T,9,none⟩ x) R l3 from fun v u x=>by
           obtain ⟨vv,e1,e2⟩:=HR3.out
           exact ⟨vv,(Below.heap_setCell _ _ _ _ (by show R ≠ T;omega)).trans ((Below.heap_setCell _ _ _ _ (by show R ≠ T;omega)).trans ((Below.heap_setCell _ _ _ _ (by show R ≠ T;omega)).trans (by simpa using e1))),e2⟩)
         clear hb1 HT3 HG3 HR3
         generalize b.toNat=bb at *
         go_wp2
         go_ret
         refine ⟨HGF.out _ _ _, ?_⟩
         rw [HRR.out]
         exact ⟨rfl,HRF.out _ _ _,HTF.out _ _ _⟩
end Go.Proofs.YtoepdfpnkmccoaaDoor
namespace Go.Proofs.YtoepdfpnkmccoaaDoor
open Go.RowKit
namespace Im
theorem valW_snoc:∀ (l:List UInt8) (b:UInt8),valW (l ++ [b])=valW l+b.toNat * 256 ^ l.length
 | [],b=>by simp [valW]
 | a :: l,b=>by
   rw [List.cons_append,valW,valW,valW_snoc l b,List.length_cons,Nat.pow_succ,Nat.mul_add]
   rw [show 256 * (b.toNat * 256 ^ l.length)=b.toNat * (256 ^ l.length * 256) by rw [Nat.mul_comm 256,Nat.mul_assoc]]
   omega
theorem valW_lt:∀ l:List UInt8,valW l < 256 ^ l.length
 | []=>by simp [valW]
 | a :: l=>by
   have h1:=valW_lt l
   have h2:=a.toNat_lt
   rw [valW,List.length_cons,Nat.pow_succ]
   omega
def partW (l:List UInt8) (j i:Nat):BitVec 64:=BitVec.ofNat 64 (valW (((l.take j).drop (8 * i)).take 8))
theorem partW_zero (l:List UInt8) (i:Nat):partW l 0 i=0#64:=by simp [partW,valW]
theorem partW_end (l:List UInt8) (i:Nat) (hi:i < 4):partW l 32 i=wordOf l i:=by
 unfold partW wordOf
 congr 2
 rw [List.drop_take,List.take_take,Nat.min_eq_left (by omega)]
theorem part_other (l:List UInt8) (j i:Nat) (hj:j < l.length) (h:j / 8 ≠ i):partW l (j+1) i=partW l j i:=by
 unfold partW
 congr 2
 have hg:l[j]? = some l[j]:=List.getElem?_eq_getElem hj
 have ht:l.take (j+1)=l.take j ++ [l[j]]:=by rw [List.take_add_one,hg];rfl
 rw [ht]
 have hl:(l.take j).length=j:=by rw [List.length_take];omega
 rcases Nat.lt_or_ge j (8 * i) with h1 | h1
 · rw [List.drop_eq_nil_of_le (by rw [List.length_append,hl];simp;omega),List.drop_eq_nil_of_le (by omega)]
 · rw [List.drop_append_of_le_length (by omega),List.take_append_of_le_length (by rw [List.length_drop,hl];omega)]
theorem part_this (l:List UInt8) (j i:Nat) (hj:j < l.length) (h:j / 8=i):partW l (j+1) i=partW l j i ||| (BitVec.ofNat 64 (l.getD j 0).toNat <<< (8 * (j % 8))):=by
 have hg:l[j]? = some (l.getD j 0):=by simp [List.getD,List.getElem?_eq_getElem hj]
 have hl:(l.take j).length=j:=by rw [List.length_take];omega
 have ht:l.take (j+1)=l.take j ++ [l.getD j 0]:=by rw [List.take_add_one,hg];rfl
 unfold partW
 rw [ht,List.drop_append_of_le_length (by omega)]
 generalize hX:(l.take j).drop (8 * i)=X
 have hXl:X.length=j % 8:=by rw [← hX,List.length_drop,hl];omega
 have hb:=(l.getD j 0).toNat_lt
 generalize l.getD j 0=b at *
 rw [List.take_of_length_le (by rw [List.length_append,hXl];simp;omega),List.take_of_length_le (by omega),valW_snoc,hXl]
 have hv:=valW_lt X
 rw [hXl] at hv
 have hp:(256:Nat) ^ (j % 8)=2 ^ (8 * (j % 8)):=by rw [Nat.pow_mul]
 rw [hp] at hv ⊢
 generalize hm:8 * (j % 8)=m at *
 have hm56:m ≤ 56:=by omega
 have hbm:b.toNat * 2 ^ m < 2 ^ 64:=by
   have h1:b.toNat * 2 ^ m < 2 ^ 8 * 2 ^ m:=Nat.mul_lt_mul_of_pos_right (by omega) (Nat.two_pow_pos m)
   rw [← Nat.pow_add] at h1
   exact Nat.lt_of_lt_of_le h1 (Nat.pow_le_pow_right (by omega) (by omega))
 have hv64:valW X < 2 ^ 64:=Nat.lt_of_lt_of_le hv (Nat.pow_le_pow_right (by omega) (by omega))
 apply BitVec.eq_of_toNat_eq
 rw [BitVec.toNat_or,BitVec.toNat_shiftLeft,BitVec.toNat_ofNat,BitVec.toNat_ofNat,BitVec.toNat_ofNat,Nat.shiftLeft_eq,Nat.mod_eq_of_lt hv64,Nat.mod_eq_of_lt (show b.toNat < 2 ^ 64 by omega),Nat.mod_eq_of_lt hbm]
 have hor:=Nat.two_pow_add_eq_or_of_lt hv b.toNat
 rw [Nat.mul_comm] at hor
 rw [Nat.or_comm,← hor,Nat.add_comm (valW X)]
 refine Nat.mod_eq_of_lt ?_
 rw [hor]
 exact Nat.or_lt_two_pow hbm hv64
end Im
theorem shl_byte (b m:Nat) (hb:b < 256):IntKind.u64.wrap ((b:Int) * 2 ^ (m * 8))=Oc.U (BitVec.ofNat 64 b <<< (8 * m)):=by
 rw [IntKind.wrap_u64]
 unfold Oc.U
 rw [BitVec.toNat_shiftLeft,BitVec.toNat_ofNat,Nat.shiftLeft_eq,Nat.mod_eq_of_lt (show b < 2 ^ 64 by omega),Nat.mul_comm 8 m]
 rw [Int.natCast_emod,Int.natCast_mul,Int.natCast_pow]
 rfl
theorem four_put {w:World} {b:Nat} {x0 x1 x2 x3:Value} {t:TypeId} (h:w.heap[b]? = some (.cells #[x0,x1,x2,x3] t)) :
   (∀ v,(w.setCell ⟨b,0,none⟩ v).heap[b]? = some (.cells #[v,x1,x2,x3] t))∧(∀ v,(w.setCell ⟨b,1,none⟩ v).heap[b]? = some (.cells #[x0,v,x2,x3] t)) ∧
   (∀ v,(w.setCell ⟨b,2,none⟩ v).heap[b]? = some (.cells #[x0,x1,v,x3] t))∧(∀ v,(w.setCell ⟨b,3,none⟩ v).heap[b]? = some (.cells #[x0,x1,x2,v] t)):=by
 refine ⟨fun v=>?_,fun v=>?_,fun v=>?_,fun v=>?_⟩ <;> simp [World.setCell,Array.getElem?_modify,h]
theorem set_yes (W0 w:World) (R:Nat) (l:List UInt8) (hl:l.length ≤ 140737488351232) (h32:32 ≤ l.length) (hb:Below W0.heap.size W0 w) (hR:W0.heap.size ≤ R) (hr:RdI W0 w R l) :
   Calls Tryd.prog 58 #[.pointer (some ⟨R,0,none⟩)] w fun e w'=>e=.returned (.tuple #[(.agg #[.int .u64 (Oc.U (Im.wordOf l 0)),.int .u64 (Oc.U (Im.wordOf l 1)),.int .u64 (Oc.U (Im.wordOf l 2)),.int .u64 (Oc.U (Im.wordOf l 3))]),.bool true])∧RdI W0 w' R (l.drop 32)∧w.grownBy w' (some R):=by
 have hRw:R < w.heap.size:=by obtain ⟨v,h,-⟩:=hr;exact (Array.getElem?_eq_some_iff.1 h).1
 have HW:=Lib.hid (fun o=>(Below.refl w.heap.size w).alloc (Nat.le_refl _) o)
 have HRI:=Lib.hid (fun o=>show RdI W0 (w.alloc o) R l from by obtain ⟨v,h,h2⟩:=hr;exact ⟨v,heap_alloc_lt h,h2⟩)
 have HB0:=Lib.hid hb
 clear hb hr
 go_enter Tryd.func58,Tryd.ntmps58
 go_upto_region 1 with (fail)
 have Z1':=Lib.hid (heap_alloc_new w (.cells #[.int .u64 0,.int .u64 0,.int .u64 0,.int .u64 0] 26))
 generalize hW1:World.alloc w _=W1 at *
 have HB1:=Lib.hid (show Below w.heap.size w W1 from hW1 ▸ HW.out _)
 have HR1:=Lib.hid (show RdI W0 W1 R l from hW1 ▸ HRI.out _)
 have hz1:W1.heap.size=w.heap.size+1:=by rw [← hW1];simp
 have HZ1:=Lib.hid hz1
 clear hW1 HW HRI hz1
 have HTK:=Lib.hid (take_yes W0 W1 R l 32 (by omega) h32 hl HR1.out)
 go_wp2_with fail
 refine HTK.out.mono ?_
 rintro e w3 ⟨⟨v5,rfl,hb5⟩,hr5,hg5⟩
 have hlt:(l.take 32).length=32:=by rw [List.length_take];omega
 rcases hb5 with ⟨-,h2⟩ | ⟨g5,o5,c5,rfl,hc5,hrd5⟩
 · rw [h2] at hlt;simp at hlt
 have hz1:=HZ1.out
 have hs3:w.heap.size+1 ≤ w3.heap.size:=by have:=hg5.size;omega
 have Y1:=Lib.hid ((hg5.block w.heap.size (by omega) (by intro e;injection e;omega)).trans Z1'.out)
 have hgw:w.grownBy w3 (some R):=grownBy_trans (r':=some R) ⟨HB1.out.os,HB1.out.tape,HB1.out.output,HB1.out.size,fun k hk _=>HB1.out.block k hk⟩ hg5 (.inl rfl)
 have hbw3:Below W0.heap.size W0 w3:=HB0.out.grown hgw HB0.out.size (fun k e=>by injection e;omega)
 have HRD:=Lib.hid (show ∀ j,j < 32→w3.cell? ⟨g5,o5+j,none⟩=some (.int .u8 ((l.getD j 0).toNat:Int))∧g5 < w3.heap.size from fun j hj=>by
   have h:=hrd5 j (by rw [hlt];exact hj)
   have h2:=(hbw3.cell (p:=⟨g5,o5+j,none⟩) (block_lt_of_cell h)).trans h
   refine ⟨?_,block_lt_of_cell h2⟩
   rw [h2]
   simp [List.getD,List.getElem?_eq_getElem (show j < l.length by omega)])
 have HGW:=Lib.hid hgw;have HR5:=Lib.hid hr5
 rw [hlt] at hc5 ⊢
 clear hg5 hlt hrd5 hgw hbw3 HTK hr5 hz1
 go_upto_region 5 with (fail)
 have N5':=Lib.hid (heap_alloc_new w3 (.cells #[.int .u64 0,.int .u64 0,.int .u64 0,.int .u64 0] 26))
 have hbx:=Lib.hid (fun o=>(Below.refl w3.heap.size w3).alloc (Nat.le_refl _) o)
 generalize hW5:World.alloc w3 _=W5 at *
 have HB5:=Lib.hid (show Below w3.heap.size w3 W5 from hW5 ▸ hbx.out _)
 have HZ5:=Lib.hid (show W5.heap.size=w3.heap.size+1 by rw [← hW5];simp)
 clear hW5 hbx
 go_wp2
 go_loopw [19] (fun iv wr=>∃ j:Nat,iv=.int .i64 j∧j ≤ 32∧Hid (wr.heap[w3.heap.size]? = some (.cells #[.int .u64 (Oc.U (Im.partW l j 0)),.int .u64 (Oc.U (Im.partW l j 1)),.int .u64 (Oc.U (Im.partW l j 2)),.int .u64 (Oc.U (Im.partW l j 3))] 26))∧Hid (W5.grownBy wr (some w3.heap.size))) (fun iv _=>32 - (intOf iv).toNat)
 case atStart=>exact ⟨0,rfl,by omega,Lib.hid (by simp only [Im.partW_zero];exact N5'.out),Lib.hid ⟨rfl,rfl,rfl,Nat.le_refl _,fun _ _ _=>rfl⟩⟩
 case round =>
   obtain ⟨j,rfl,hj,HP,HG⟩:=hrel
   have wj:IntKind.i64.wrap ((j:Int)+1)=(j:Int)+1:=IntWalk.i64_in _ (by omega)
   by_cases hlt:j < 32
   · have hz5:=HZ5.out
     obtain ⟨hcl,hgl⟩:=HRD.out j hlt
     have cj:wr.cell? ⟨g5,o5+j,none⟩=some (.int .u8 ((l.getD j 0).toNat:Int)):=by
       have e1:W5.heap[g5]? = w3.heap[g5]?:=HB5.out.block g5 hgl
       have e2:wr.heap[g5]? = W5.heap[g5]?:=HG.out.block g5 (by omega) (by intro e;injection e;omega)
       rw [← hcl];unfold World.cell?;rw [e2,e1]
     have hjl:j < l.length:=by omega
     have q8:=Im.part_other l j
     have q9:=Im.part_this l j
     have hb8:=(l.getD j 0).toNat_lt
     obtain ⟨m,hm,hmm⟩:∃ m:Nat,m < 8∧j % 8=m:=⟨j % 8,by omega,rfl⟩
     rw [hmm] at q9
     have rm:(j:Int) % 8=(m:Int):=by omega
     obtain ⟨hp0,hp1,hp2,hp3⟩:=four_put HP.out
     obtain ⟨c0,c1,c2,c3,f0,f1,f2,f3⟩:=four HP.out
     generalize l.getD j 0=b at *
     have hq:j / 8=0 ∨ j / 8=1 ∨ j / 8=2 ∨ j / 8=3:=by omega
     rcases hq with hq | hq | hq | hq
     · have rq:(j:Int) / 8=0:=by omega
       have HN:=Lib.hid (q9 0 hjl hq)
       have HO1:=Lib.hid (q8 1 hjl (by omega));have HO2:=Lib.hid (q8 2 hjl (by omega));have HO3:=Lib.hid (q8 3 hjl (by omega))
       have HSH:=Lib.hid (show bits .or .u64 (Oc.U (Im.partW l j 0)) (IntKind.u64.wrap ((b.toNat:Int) * 2 ^ (m * 8)))=Oc.U (Im.partW l (j+1) 0) by rw [shl_byte b.toNat m hb8,Oc.orU,← HN.out])
       clear q8 q9 HN hq rm
       go_upto_region 8 with (fail)
       go_region
       rw [HSH.out]
       go_wp2
       exact ⟨⟨j+1,by go_num,by omega,Lib.hid (by rw [HO1.out,HO2.out,HO3.out];exact hp0 _),Lib.hid ⟨HG.out.os,HG.out.tape,HG.out.output,by simpa using HG.out.size,fun k hk hne=>(Below.heap_setCell _ _ _ _ (fun e=>hne (by rw [e]))).trans (HG.out.block k hk hne)⟩⟩,by simp [intOf];omega⟩
     · have rq:(j:Int) / 8=1:=by omega
       have HN:=Lib.hid (q9 1 hjl hq)
       have HO0:=Lib.hid (q8 0 hjl (by omega));have HO2:=Lib.hid (q8 2 hjl (by omega));have HO3:=Lib.hid (q8 3 hjl (by omega))
       have HSH:=Lib.hid (show bits .or .u64 (Oc.U (Im.partW l j 1)) (IntKind.u64.wrap ((b.toNat:Int) * 2 ^ (m * 8)))=Oc.U (Im.partW l (j+1) 1) by rw [shl_byte b.toNat m hb8,Oc.orU,← HN.out])
       clear q8 q9 HN hq rm
       go_upto_region 8 with (fail)
       go_region
       rw [HSH.out]
       go_wp2
       exact ⟨⟨j+1,by go_num,by omega,Lib.hid (by rw [HO0.out,HO2.out,HO3.out];exact hp1 _),Lib.hid ⟨HG.out.os,HG.out.tape,HG.out.output,by simpa using HG.out.size,fun k hk hne=>(Below.heap_setCell _ _ _ _ (fun e=>hne (by rw [e]))).trans (HG.out.block k hk hne)⟩⟩,by simp [intOf];omega⟩
     · have rq:(j:Int) / 8=2:=by omega
       have HN:=Lib.hid (q9 2 hjl hq)
       have HO0:=Lib.hid (q8 0 hjl (by omega));have HO1:=Lib.hid (q8 1 hjl (by omega));have HO3:=Lib.hid (q8 3 hjl (by omega))
       have HSH:=Lib.hid (show bits .or .u64 (Oc.U (Im.partW l j 2)) (IntKind.u64.wrap ((b.toNat:Int) * 2 ^ (m * 8)))=Oc.U (Im.partW l (j+1) 2) by rw [shl_byte b.toNat m hb8,Oc.orU,← HN.out])
       clear q8 q9 HN hq rm
       go_upto_region 8 with (fail)
       go_region
       rw [HSH.out]
       go_wp2
       exact ⟨⟨j+1,by go_num,by omega,Lib.hid (by rw [HO0.out,HO1.out,HO3.out];exact hp2 _),Lib.hid ⟨HG.out.os,HG.out.tape,HG.out.output,by simpa using HG.out.size,fun k hk hne=>(Below.heap_setCell _ _ _ _ (fun e=>hne (by rw [e]))).trans (HG.out.block k hk hne)⟩⟩,by simp [intOf];omega⟩
     · have rq:(j:Int) / 8=3:=by omega
       have HN:=Lib.hid (q9 3 hjl hq)
       have HO0:=Lib.hid (q8 0 hjl (by omega));have HO1:=Lib.hid (q8 1 hjl (by omega));have HO2:=Lib.hid (q8 2 hjl (by omega))
       have HSH:=Lib.hid (show bits .or .u64 (Oc.U (Im.partW l j 3)) (IntKind.u64.wrap ((b.toNat:Int) * 2 ^ (m * 8)))=Oc.U (Im.partW l (j+1) 3) by rw [shl_byte b.toNat m hb8,Oc.orU,← HN.out])
       clear q8 q9 HN hq rm
       go_upto_region 8 with (fail)
       go_region
       rw [HSH.out]
       go_wp2
       exact ⟨⟨j+1,by go_num,by omega,Lib.hid (by rw [HO0.out,HO1.out,HO2.out];exact hp3 _),Lib.hid ⟨HG.out.os,HG.out.tape,HG.out.output,by simpa using HG.out.size,fun k hk hne=>(Below.heap_setCell _ _ _ _ (fun e=>hne (by rw [e]))).trans (HG.out.block k hk hne)⟩⟩,by simp [intOf];omega⟩
   · obtain rfl:j=32:=by omega
     have hz1:=HZ1.out;have hz5:=HZ5.out
     have hp:=HP.out
     rw [Im.partW_end l 0 (by omega),Im.partW_end l 1 (by omega),Im.partW_end l 2 (by omega),Im.partW_end l 3 (by omega)] at hp
     have HPN:=Lib.hid hp
     have HY:=Lib.hid ((HG.out.block w.heap.size (by omega) (by intro e;injection e;omega)).trans ((HB5.out.block w.heap.size (by omega)).trans Y1.out))
     have k5:∀ k,k < w.heap.size→wr.heap[k]? = w3.heap[k]?:=fun k hk=>(HG.out.block k (by omega) (by intro e;injection e;omega)).trans (HB5.out.block k (by omega))
     have HGF:=Lib.hid (show ∀ cs,w.grownBy (wr.setRow w.heap.size cs) (some R) from fun cs=>⟨HG.out.os.trans (HB5.out.os.trans HGW.out.os),HG.out.tape.trans (HB5.out.tape.trans HGW.out.tape),HG.out.output.trans (HB5.out.output.trans HGW.out.output),
       by simp;exact Nat.le_trans HGW.out.size (Nat.le_trans HB5.out.size HG.out.size),fun k hk hne=>(heap_setRow_other _ _ _ (by omega)).trans ((k5 k hk).trans (HGW.out.block k hk hne))⟩)
     have HRF:=Lib.hid (show ∀ cs,RdI W0 (wr.setRow w.heap.size cs) R (l.drop 32) from fun cs=>by
       obtain ⟨vv,e1,e2⟩:=HR5.out
       exact ⟨vv,(heap_setRow_other _ _ _ (by omega)).trans ((k5 R hRw).trans e1),e2⟩)
     clear hp HP HG HB5 Y1 HGW HR5 k5 hz1 hz5 HRD
     go_wp2_with (first
       | (refine wpList_load_row rfl 26 (.tmp 6) rfl w3.heap.size rfl 26 _ (0,0) _ HPN.out Tryd.underlying26 rfl (by kernel_rfl) ?_)
       | (refine wpList_store_row rfl 26 (.tmp 2) (.tmp 37) rfl w.heap.size #[.int .u64 (Oc.U (Im.wordOf l 0)),.int .u64 (Oc.U (Im.wordOf l 1)),.int .u64 (Oc.U (Im.wordOf l 2)),.int .u64 (Oc.U (Im.wordOf l 3))] rfl rfl 26 _ HY.out (by kernel_rfl) (by kernel_rfl) (by simp [Value.oneCell']) ?_)
       | fail)
     exact bodyPost_ret (results_row_one rfl _ _ w.heap.size 26 #[.int .u64 (Oc.U (Im.wordOf l 0)),.int .u64 (Oc.U (Im.wordOf l 1)),.int .u64 (Oc.U (Im.wordOf l 2)),.int .u64 (Oc.U (Im.wordOf l 3))] (0,0) _ (.bool true) rfl rfl (heap_setRow HY.out) Tryd.underlying26 rfl (by kernel_rfl)) rfl ⟨rfl,HRF.out _,HGF.out _⟩
theorem set_no (W0 w:World) (R:Nat) (l:List UInt8) (h32:l.length < 32) (hr:RdI W0 w R l) :
   Calls Tryd.prog 58 #[.pointer (some ⟨R,0,none⟩)] w fun e w'=>e=.returned (.tuple #[.agg #[.int .u64 0,.int .u64 0,.int .u64 0,.int .u64 0],.bool false])∧w.grownBy w' (some R):=by
 have HRI:=Lib.hid (fun o=>show RdI W0 (w.alloc o) R l from by obtain ⟨v,h,h2⟩:=hr;exact ⟨v,heap_alloc_lt h,h2⟩)
 clear hr
 go_enter Tryd.func58,Tryd.ntmps58
 go_upto_region 1 with (fail)
 have Z1':=Lib.hid (heap_alloc_new w (.cells #[.int .u64 0,.int .u64 0,.int .u64 0,.int .u64 0] 26))
 have hgf:∀ o cs,w.grownBy ((w.alloc o).setRow w.heap.size cs) (some R):=fun o cs=>⟨rfl,rfl,rfl,by simp,fun k hk hne=>(heap_setRow_other _ _ _ (by omega)).trans ((World.grownBy_alloc w o none).block k hk (by simp))⟩
 have HGF:=Lib.hid hgf
 clear hgf
 have HR1:=Lib.hid (HRI.out (.cells #[.int .u64 0,.int .u64 0,.int .u64 0,.int .u64 0] 26))
 have HGX:=Lib.hid (HGF.out (.cells #[.int .u64 0,.int .u64 0,.int .u64 0,.int .u64 0] 26) #[.int .u64 0,.int .u64 0,.int .u64 0,.int .u64 0])
 clear HRI HGF
 generalize hW1:World.alloc w _=W1 at *
 have HTK:=Lib.hid (take_no W0 W1 R l 32 h32 HR1.out)
 clear hW1
 go_wp2_with fail
 refine HTK.out.mono ?_
 rintro e w3 ⟨rfl,rfl⟩
 go_wp2_with (first
   | (refine wpList_store_row rfl 26 (.tmp 2) (.tmp 16) rfl w.heap.size #[.int .u64 0,.int .u64 0,.int .u64 0,.int .u64 0] rfl rfl 26 _ Z1'.out (by kernel_rfl) (by kernel_rfl) (by simp [Value.oneCell']) ?_)
   | fail)
 exact bodyPost_ret (results_row_one rfl _ _ w.heap.size 26 #[.int .u64 0,.int .u64 0,.int .u64 0,.int .u64 0] (0,0) _ (.bool false) rfl rfl (heap_setRow Z1'.out) Tryd.underlying26 rfl (by kernel_rfl)) rfl ⟨rfl,HGX.out⟩
end Go.Proofs.YtoepdfpnkmccoaaDoor
namespace Go.Proofs.YtoepdfpnkmccoaaDoor
open Go.RowKit
theorem wp_append_op {P:Program} (w:World) {o:Oper} {a:Act} {K:Act→World→Prop} {Q:Exit→Act→World→Prop} (s x:Operand) (t:TypeId)
   (ho:o.op=.call { callee:=.builtin .append,args:=#[s,x],argTypes:=#[t,t] })
   (base:Nat) (e:TypeId) (i:TypeInfo) (z:Value) (size bytes:Nat) (ht:P.underlying t=some (.slice e)) (hi:P.info? e=some i) (hz:i.zero=some z)
   (hsize:i.size=size) (hby:i.bytes=bytes) (hzs:z.cells.size=size) (hsz:0 < size)
   (v:Value) (n:Nat) (xs:List Value) (hs:a.eval s=v) (hown:w.ownsRow base e size v n xs)
   (ad:Addr) (m c:Nat) (news:List Value) (hx:a.eval x=.slice (some ad) m c) (hl:news.length=m * size) (hnews:∀ j u,news[j]? = some u→w.cell? (ad.add j)=some u) (h1:∀ u ∈ news,u.oneCell'=true) (hm:0 < m)
   (h63:n+m ≤ maxLen) (hbytes:(n+m) * bytes ≤ 140737488355328) (hbase:base ≤ w.heap.size)
   (h:∀ v' w',w'.ownsRow base e size v' (n+m) (xs ++ news)→w.grownBy w' v.ownBlock→(v'.ownBlock=v.ownBlock ∨ v'.ownBlock=some w.heap.size)→K (a.put o.dst v') w'):o.wp P a w K Q:=by
 obtain ⟨v',w',hr,h2,h3,-⟩:=run_append_own (P:=P) w base t o.type e i z size bytes ht hi hz hsize hby hzs hsz v n xs hown ad m c news hl hnews h1 h63 hbytes hbase
 have h4:=append_block base t o.type e i z size bytes ht hi hz hsize hby v v' n xs hown ad m c news hl hnews h1 hm h63 hbytes hr
 unfold Oper.wp execOp
 simp only [ho,resolve,invoke,builtin,Sem.run_bind,Sem.run_pure,Result.andThen_ok,List.map_toArray,List.map_cons,List.map_nil,hs,hx,hr]
 exact h v' w' h2 h3 h4
theorem row_last {w:World} {base:Nat} {e:TypeId} {g i c:Nat} {A zs ys:List Value} (hA:A.length=i * 10) (_hz:zs.length=10) (hy:ys.length=10)
   (h:w.ownsRow base e 10 (.slice (some ⟨g,0,none⟩) (i+1) c) (i+1) (A ++ zs)) :
   w.there g (i * 10) 10∧(w.setCells g (i * 10) ys).ownsRow base e 10 (.slice (some ⟨g,0,none⟩) (i+1) c) (i+1) (A ++ ys)∧base ≤ g:=by
 rcases h.2 with ⟨e1,-⟩ | ⟨g',cap,cur,e1,hb,hg,hnc,hcm,hcs,ht⟩
 · cases e1
 · injection e1 with e1 e2 e3
   injection e1 with e1
   injection e1 with e1
   subst e1;subst e3
   have hsz:i * 10+10 ≤ cur.size:=by rw [hcs];have:=Nat.mul_le_mul_right 10 hnc;omega
   have hset:∀ (ys:List Value) (o:Nat) (w:World) (cur:Array Value),w.heap[g]? = some (.cells cur e (0,0))→o+ys.length ≤ cur.size→(w.setCells g o ys).heap[g]? = some (.cells (cur.toList.take o ++ ys ++ cur.toList.drop (o+ys.length)).toArray e (0,0)):=by
     intro ys
     induction ys with
     | nil=>intro o w cur h _;rw [World.setCells];simp [h]
     | cons y ys ih =>
       intro o w cur h hl
       have hlo:o < cur.size:=by simp at hl;omega
       have h2:(w.setCell ⟨g,o,none⟩ y).heap[g]? = some (.cells (cur.setIfInBounds o y) e (0,0)):=by simp [World.setCell,Array.getElem?_modify,h]
       rw [World.setCells,ih (o+1) _ _ h2 (by simp at hl ⊢;omega)]
       congr 3
       have e2:=list_seg_step cur.toList o y ys (by simp at hl ⊢;omega)
       simpa [Array.toList_setIfInBounds,Nat.add_assoc] using e2
   refine ⟨fun j hj=>?_,⟨by rw [List.length_append];omega,.inr ⟨g,c,_,rfl,hb,hset ys (i * 10) w cur hg (by omega),hnc,hcm, ?_, ?_⟩⟩,hb⟩
   · have hj2:i * 10+j < cur.size:=by omega
     simp [World.cell?,World.frozen?,hg,hj2]
   · simp only [List.size_toArray,List.length_append,List.length_take,List.length_drop,Array.length_toList]
     omega
   · have hta:cur.toList.take (i * 10)=A:=by
       have h1:(cur.toList.take ((i+1) * 10)).take (i * 10)=cur.toList.take (i * 10):=by rw [List.take_take,Nat.min_eq_left (by omega)]
       rw [← h1,ht,List.take_append_of_le_length (by omega),List.take_of_length_le (by omega)]
     rw [hta,List.take_append_of_le_length (by rw [List.length_append];omega),List.take_of_length_le (by rw [List.length_append];omega)]
structure RegI (W:World) (T:Nat) (hc:Value→Array Value) (xs zs:Array Value) (u:Value) (i:Nat) (A:List Value) (L:Nat→Bool) (v:Nat→Value) (w':World):Prop where
 os:w'.os=W.os
 tape:w'.tape=W.tape
 output:w'.output=W.output
 size:W.heap.size ≤ w'.heap.size
 blk:∀ k,k < W.heap.size→k ≠ T→u.ownBlock ≠ some k→w'.heap[k]? = W.heap[k]?
 d5:L 5=true→L 0=true∧L 1=true∧L 2=true∧L 3=true∧L 4=true
 d7:L 7=true→L 5=true
 d9:L 9=true→L 5=true
 t0:L 9=false→w'.heap[T]? = some (.cells (hc u) 29)
 t1:L 9=true→w'.heap[T]? = some (.cells (hc (v 5)) 29)
 r0:L 5=false→w'.ownsRow (T+1) 29 10 u i A
 r1:L 5=true→L 7=false→w'.ownsRow (T+1) 29 10 (v 5) (i+1) (A ++ zs.toList)
 r2:L 7=true→w'.ownsRow (T+1) 29 10 (v 5) (i+1) (A ++ xs.toList)
 ob:L 5=true→(v 5).ownBlock=u.ownBlock ∨ ∃ k,(v 5).ownBlock=some k∧W.heap.size ≤ k
 v0:L 0=true→v 0=.pointer (some ⟨T,5,none⟩)
 v1:L 1=true→v 1=u
 v2:L 2=true→v 2=.agg xs
 v3:L 3=true→v 3=.int .i64 (i:Int)
 v4:L 4=true→∃ z,v 4=.slice (some ⟨z,0,none⟩) 1 1∧W.heap.size ≤ z∧(L 5=false→w'.heap[z]? = some (.cells zs 29))
 v6:L 6=true→L 5=true∧∃ g c,v 5=.slice (some ⟨g,0,none⟩) (i+1) c∧v 6=.pointer (some ⟨g,i * 10,none⟩)
 v8:L 8=true→v 8=.pointer (some ⟨T,5,none⟩)
end Go.Proofs.YtoepdfpnkmccoaaDoor
namespace Go.Proofs.YtoepdfpnkmccoaaDoor
open Go.RowKit
theorem wp_node0 {o:Oper} {a:Act} {w:World} {K:Act→World→Prop} {Q:Exit→Act→World→Prop} (ho:o.op=.buildSlice 27 1 #[(0,.const (.agg #[.int .i64 0,.int .u64 0,.int .u64 0,.int .u64 0,.int .u64 0,.slice none 0 0,.int .i64 0,.int .i64 0,.int .i64 0,.bool false]))])
   (h:K (a.put o.dst (.slice (some ⟨w.heap.size,0,none⟩) 1 1)) (w.alloc (.cells #[.int .i64 0,.int .u64 0,.int .u64 0,.int .u64 0,.int .u64 0,.slice none 0 0,.int .i64 0,.int .i64 0,.int .i64 0,.bool false] 29))):o.wp Tryd.prog a w K Q:=by
 obtain ⟨ie,hi,hz0,hz1,-⟩:=info_parts Tryd.infoNode
 refine wp_buildSlice 27 29 1 _ ho _ ie _ Tryd.underlying27 hi hz0 (by rw [hz1];decide) (by rw [hz1];decide) ?_ h
 rw [hz1]
 kernel_rfl
theorem wp_append1 {o:Oper} {a:Act} {w:World} {K:Act→World→Prop} {Q:Exit→Act→World→Prop} (s x:Operand) (ho:o.op=.call { callee:=.builtin .append,args:=#[s,x],argTypes:=#[27,27] })
   (base n:Nat) (v:Value) (xs:List Value) (hs:a.eval s=v) (hown:w.ownsRow base 29 10 v n xs)
   (z:Nat) (hx:a.eval x=.slice (some ⟨z,0,none⟩) 1 1) (hz:w.heap[z]? = some (.cells #[.int .i64 0,.int .u64 0,.int .u64 0,.int .u64 0,.int .u64 0,.slice none 0 0,.int .i64 0,.int .i64 0,.int .i64 0,.bool false] 29)) (hn:n ≤ 2147483647) (hbase:base ≤ w.heap.size)
   (h:∀ v' w',w'.ownsRow base 29 10 v' (n+1) (xs ++ (#[.int .i64 0,.int .u64 0,.int .u64 0,.int .u64 0,.int .u64 0,.slice none 0 0,.int .i64 0,.int .i64 0,.int .i64 0,.bool false]:Array Value).toList)→w.grownBy w' v.ownBlock→(v'.ownBlock=v.ownBlock ∨ v'.ownBlock=some w.heap.size)→K (a.put o.dst v') w'):o.wp Tryd.prog a w K Q:=by
 obtain ⟨ie,hi,hz0,hz1,hz2⟩:=info_parts Tryd.infoNode
 refine wp_append_op w s x 27 ho base 29 ie _ 10 96 Tryd.underlying27 hi hz0 hz1 hz2 rfl (by decide) v n xs hs hown ⟨z,0,none⟩ 1 1 (#[.int .i64 0,.int .u64 0,.int .u64 0,.int .u64 0,.int .u64 0,.slice none 0 0,.int .i64 0,.int .i64 0,.int .i64 0,.bool false]:Array Value).toList hx rfl ?_ (by simp [Value.oneCell']) (by decide) (by unfold maxLen;omega) (by omega) hbase h
 intro j u hu
 have ea:(⟨z,0,none⟩:Addr).add j=⟨z,j,none⟩:=by unfold Addr.add;split <;> simp_all
 rw [ea]
 simpa [World.cell?,hz] using hu
theorem wp_index1 {o:Oper} {a:Act} {w:World} {K:Act→World→Prop} {Q:Exit→Act→World→Prop} (s i:Operand) (ho:o.op=.indexAddr 27 s i) (g n c:Nat) (hs:a.eval s=.slice (some ⟨g,0,none⟩) (n+1) c) (hi:a.eval i=.int .i64 (n:Int))
   (h:K (a.put o.dst (.pointer (some ⟨g,n * 10,none⟩))) w):o.wp Tryd.prog a w K Q:=by
 obtain ⟨ie,hie,-⟩:=info_parts Tryd.infoNode
 have he:(Instr.indexAt 27 (.slice (some ⟨g,0,none⟩) (n+1) c) (.int .i64 (n:Int))).run Tryd.prog w=.ok (.pointer (some ⟨g,n * 10,none⟩)) w:=by
   have hel:Tryd.prog.elem 27=29:=by kernel_rfl
   have hco:Tryd.prog.cellsOf 29=10:=by kernel_rfl
   have hun:Tryd.prog.underlying 27=some (.slice (Tryd.prog.elem 27)):=by kernel_rfl
   rw [run_indexAt_slice (t:=27) (h:=hun),if_pos ⟨by omega,by omega⟩,hel,run_sizeOf (h:=hie),hco]
   simp only [Result.andThen_ok,Int.toNat_natCast]
   have ea:(⟨g,0,none⟩:Addr).add (n * 10)=⟨g,n * 10,none⟩:=by unfold Addr.add;split <;> simp_all
   rw [ea]
 unfold Oper.wp execOp
 simp only [ho,hs,hi,Sem.run_bind,he,Result.andThen_ok]
 exact h
theorem owns_slice {w:World} {base:Nat} {e:TypeId} {n:Nat} {v:Value} {xs:List Value} (h:w.ownsRow base e 10 v (n+1) xs):∃ g c,v=.slice (some ⟨g,0,none⟩) (n+1) c:=by
 rcases h.2 with ⟨-,h0⟩ | ⟨g,cap,cur,e,-⟩
 · cases h0
 · exact ⟨g,_,e⟩
theorem owns_setCell {w:World} {base:Nat} {e:TypeId} {n T o:Nat} {v y:Value} {xs:List Value} (h:w.ownsRow base e 10 v n xs) (hT:T < base):(w.setCell ⟨T,o,none⟩ y).ownsRow base e 10 v n xs:=by
 refine World.ownsRow.kept h (row:=some T) ⟨rfl,rfl,rfl,by simp,fun k _ hne=>Below.heap_setCell _ _ _ _ (fun e=>hne (by rw [e]))⟩ ?_
 cases hv:Value.ownBlock v with
 | none=>exact .inl rfl
 | some g=>exact .inr (by have:=h.lt g hv;intro e;injection e with e;omega)
end Go.Proofs.YtoepdfpnkmccoaaDoor
namespace Go.Proofs.YtoepdfpnkmccoaaDoor
open Go.RowKit
theorem node_nil (W0 w:World) (R:Nat) (room:Nat) (hr:RdI W0 w R []) :
   Calls Tryd.prog 34 #[.pointer (some ⟨R,0,none⟩),.int .i64 room] w fun e w'=>e=.returned (.tuple #[.agg #[.int .i64 0,.int .u64 0,.int .u64 0,.int .u64 0,.int .u64 0,.slice none 0 0,.int .i64 0,.int .i64 0,.int .i64 0,.bool false],.bool false])∧w.grownBy w' (some R):=by
 have HRI:=Lib.hid (fun o=>show RdI W0 (w.alloc o) R [] from by obtain ⟨v,h,h2⟩:=hr;exact ⟨v,heap_alloc_lt h,h2⟩)
 clear hr
 go_enter Tryd.func34,Tryd.ntmps34
 go_upto_region 1 with (fail)
 have Z1':=Lib.hid (heap_alloc_new w (.cells #[.int .i64 0,.int .u64 0,.int .u64 0,.int .u64 0,.int .u64 0,.slice none 0 0,.int .i64 0,.int .i64 0,.int .i64 0,.bool false] 29))
 have hgf:∀ o cs,w.grownBy ((w.alloc o).setRow w.heap.size cs) (some R):=fun o cs=>⟨rfl,rfl,rfl,by simp,fun k hk hne=>(heap_setRow_other _ _ _ (by omega)).trans ((World.grownBy_alloc w o none).block k hk (by simp))⟩
 have HGF:=Lib.hid hgf
 clear hgf
 have HR1:=Lib.hid (HRI.out (.cells #[.int .i64 0,.int .u64 0,.int .u64 0,.int .u64 0,.int .u64 0,.slice none 0 0,.int .i64 0,.int .i64 0,.int .i64 0,.bool false] 29))
 have HGX:=Lib.hid (HGF.out (.cells #[.int .i64 0,.int .u64 0,.int .u64 0,.int .u64 0,.int .u64 0,.slice none 0 0,.int .i64 0,.int .i64 0,.int .i64 0,.bool false] 29) #[.int .i64 0,.int .u64 0,.int .u64 0,.int .u64 0,.int .u64 0,.slice none 0 0,.int .i64 0,.int .i64 0,.int .i64 0,.bool false])
 clear HRI HGF
 generalize hW1:World.alloc w _=W1 at *
 have HTK:=Lib.hid (take_no W0 W1 R [] 1 (by simp) HR1.out)
 clear hW1
 go_wp2_with fail
 refine HTK.out.mono ?_
 rintro e w3 ⟨rfl,rfl⟩
 go_wp2_with (first
   | (refine wpList_store_row rfl 29 (.tmp 4) (.tmp 23) rfl w.heap.size #[.int .i64 0,.int .u64 0,.int .u64 0,.int .u64 0,.int .u64 0,.slice none 0 0,.int .i64 0,.int .i64 0,.int .i64 0,.bool false] rfl rfl 29 _ Z1'.out (by kernel_rfl) (by kernel_rfl) (by simp [Value.oneCell']) ?_)
   | fail)
 exact bodyPost_ret (results_row_one rfl _ _ w.heap.size 29 #[.int .i64 0,.int .u64 0,.int .u64 0,.int .u64 0,.int .u64 0,.slice none 0 0,.int .i64 0,.int .i64 0,.int .i64 0,.bool false] (0,0) _ (.bool false) rfl rfl (heap_setRow Z1'.out) Tryd.underlying29 rfl (by kernel_rfl)) rfl ⟨rfl,HGX.out⟩
theorem node_room (W0 w:World) (R:Nat) (k:UInt8) (l:List UInt8) (hl:(k :: l).length ≤ 140737488351232) (hR:R < w.heap.size) (hr:RdI W0 w R (k :: l)) :
   Calls Tryd.prog 34 #[.pointer (some ⟨R,0,none⟩),.int .i64 0] w fun e w'=>e=.returned (.tuple #[.agg #[.int .i64 0,.int .u64 0,.int .u64 0,.int .u64 0,.int .u64 0,.slice none 0 0,.int .i64 0,.int .i64 0,.int .i64 0,.bool false],.bool false])∧w.grownBy w' (some R):=by
 have HRI:=Lib.hid (fun o=>show RdI W0 (w.alloc o) R (k :: l) from by obtain ⟨v,h,h2⟩:=hr;exact ⟨v,heap_alloc_lt h,h2⟩)
 have HWB:=Lib.hid (fun o=>(Below.refl w.heap.size w).alloc (Nat.le_refl _) o)
 clear hr
 go_enter Tryd.func34,Tryd.ntmps34
 go_upto_region 1 with (fail)
 have Z1':=Lib.hid (heap_alloc_new w (.cells #[.int .i64 0,.int .u64 0,.int .u64 0,.int .u64 0,.int .u64 0,.slice none 0 0,.int .i64 0,.int .i64 0,.int .i64 0,.bool false] 29))
 generalize hW1:World.alloc w _=W1 at *
 have HB1:=Lib.hid (show Below w.heap.size w W1 from hW1 ▸ HWB.out _)
 have HR1:=Lib.hid (show RdI W0 W1 R (k :: l) from hW1 ▸ HRI.out _)
 have HZ1:=Lib.hid (show W1.heap.size=w.heap.size+1 by rw [← hW1];simp)
 clear hW1 HWB HRI
 have HTK:=Lib.hid (take_yes W0 W1 R (k :: l) 1 (by omega) (by simp) hl HR1.out)
 go_wp2_with fail
 refine HTK.out.mono ?_
 rintro e w3 ⟨⟨v5,rfl,-⟩,-,hg5⟩
 have hz1:=HZ1.out
 have HY:=Lib.hid ((hg5.block w.heap.size (by omega) (by intro e;injection e;omega)).trans Z1'.out)
 have HGF:=Lib.hid (show ∀ cs,w.grownBy (w3.setRow w.heap.size cs) (some R) from fun cs=>⟨hg5.os.trans HB1.out.os,hg5.tape.trans HB1.out.tape,hg5.output.trans HB1.out.output,
   by simp;have:=hg5.size;omega,fun k hk hne=>(heap_setRow_other _ _ _ (by omega)).trans ((hg5.block k (by omega) hne).trans (HB1.out.block k hk))⟩)
 clear hg5 hz1 HTK Z1'
 go_wp2_with (first
   | (refine wpList_store_row rfl 29 (.tmp 4) (.tmp 23) rfl w.heap.size #[.int .i64 0,.int .u64 0,.int .u64 0,.int .u64 0,.int .u64 0,.slice none 0 0,.int .i64 0,.int .i64 0,.int .i64 0,.bool false] rfl rfl 29 _ HY.out (by kernel_rfl) (by kernel_rfl) (by simp [Value.oneCell']) ?_)
   | fail)
 exact bodyPost_ret (results_row_one rfl _ _ w.heap.size 29 #[.int .i64 0,.int .u64 0,.int .u64 0,.int .u64 0,.int .u64 0,.slice none 0 0,.int .i64 0,.int .i64 0,.int .i64 0,.bool false] (0,0) _ (.bool false) rfl rfl (heap_setRow HY.out) Tryd.underlying29 rfl (by kernel_rfl)) rfl ⟨rfl,HGF.out _⟩
end Go.Proofs.YtoepdfpnkmccoaaDoor
namespace Go.Proofs.YtoepdfpnkmccoaaDoor
open Go.RowKit
def HeadP (W0 W4:World) (R T:Nat) (k:Int) (l:List UInt8) (v7 v9:Value) (w:World):Prop :=
 Gr W4 w R T∧match Im.rdHead k l with
   | some (h,n,r)=>v7=.bool true∧v9=.int .i64 (n:Int)∧n ≤ 2147483647∧h.subs=[]∧RdI W0 w R r∧w.heap[T]? = some (.cells (h.cells (.slice none 0 0)) 29)
   | none=>v7=.bool false
theorem four_in {w:World} {b:Nat} {x0 x1 x2 x3 x4 x5 x6 x7 x8 x9:Value} {t:TypeId} (h:w.heap[b]? = some (.cells #[x0,x1,x2,x3,x4,x5,x6,x7,x8,x9] t)) (a b' c d:Value) :
   (w.setCells b 1 [a,b',c,d]).heap[b]? = some (.cells #[x0,a,b',c,d,x5,x6,x7,x8,x9] t):=by
 simp [World.setCells,World.setCell,Array.getElem?_modify,h]
theorem setCells_other (w:World) (b o:Nat) (vs:List Value) {k:Nat} (h:k ≠ b):(w.setCells b o vs).heap[k]? = w.heap[k]?:=by
 induction vs generalizing o w with
 | nil=>rfl
 | cons v vs ih=>rw [World.setCells,ih];exact Below.heap_setCell _ _ _ _ (by exact h)
theorem Gr.setCells {a b:World} {R T o:Nat} {vs:List Value} (h:Gr a b R T):Gr a (b.setCells T o vs) R T:=by
 induction vs generalizing o b with
 | nil=>exact h
 | cons v vs ih=>rw [World.setCells];exact ih h.setCell
theorem RdI.other {W0 w w':World} {R:Nat} {l:List UInt8} (h:RdI W0 w R l) (hk:w'.heap[R]? = w.heap[R]?):RdI W0 w' R l:=by
 obtain ⟨v,e1,e2⟩:=h;exact ⟨v,hk.trans e1,e2⟩
theorem there_ten {w:World} {b:Nat} {x0 x1 x2 x3 x4 x5 x6 x7 x8 x9:Value} {t:TypeId} (h:w.heap[b]? = some (.cells #[x0,x1,x2,x3,x4,x5,x6,x7,x8,x9] t)):w.there b 1 4:=by
 intro j hj
 rcases (show j=0 ∨ j=1 ∨ j=2 ∨ j=3 by omega) with rfl | rfl | rfl | rfl <;> simp [World.cell?,World.frozen?,h]
theorem rdS_len {f:List UInt8→Option (Tr × List UInt8)} (hf:∀ l t r,f l=some (t,r)→r.length < l.length):∀ (n:Nat) (l:List UInt8) (ts:List Tr) (r:List UInt8),Im.rdS f n l=some (ts,r)→ts.length+r.length ≤ l.length
 | 0,l,ts,r,h=>by
   rw [Im.rdS] at h
   simp only [Option.some.injEq,Prod.mk.injEq] at h
   obtain ⟨rfl,rfl⟩:=h;simp
 | n+1,l,ts,r,h=>by
   rw [Im.rdS] at h
   split at h
   · cases h
   · rename_i t r1 h1
     split at h
     · cases h
     · rename_i ts' r' h2
       simp only [Option.some.injEq,Prod.mk.injEq] at h
       obtain ⟨rfl,rfl⟩:=h
       have:=hf _ _ _ h1
       have:=rdS_len hf n _ _ _ h2
       simp;omega
theorem rdRep_len {l:List UInt8} {x:Int × Int × Bool × List UInt8} (h:Im.rdRep l=some x):x.2.2.2.length < l.length:=by
 unfold Im.rdRep at h
 split at h
 · cases h
 · rename_i h1
   split at h
   · cases h
   · rename_i h2
     have a1:=(rdNum_len h1).1;have a2:=(rdNum_len h2).1
     split at h
     · cases h
     · rename_i l2 br l3 h3
       simp only [Option.some.injEq] at h
       subst h
       unfold Im.rdBare at h3
       split at h3
       · cases h3
       · split at h3
         · cases h3
         · simp only [Option.some.injEq,Prod.mk.injEq] at h3
           obtain ⟨rfl,rfl⟩:=h3
           simp at a2 ⊢;omega
theorem rdHead_len {k:Int} {l:List UInt8} {h:Tr} {n:Nat} {r:List UInt8} (hh:Im.rdHead k l=some (h,n,r)):r.length ≤ l.length:=by
 unfold Im.rdHead at hh
 split at hh
 · split at hh
   · simp only [Option.some.injEq,Prod.mk.injEq] at hh
     obtain ⟨-,-,rfl⟩:=hh;rw [List.length_drop];omega
   · cases hh
 · split at hh
   · split at hh
     · cases hh
     · rename_i h1
       simp only [Option.some.injEq,Prod.mk.injEq] at hh
       obtain ⟨-,-,rfl⟩:=hh
       have:=(rdNum_len h1).1;omega
   · split at hh
     · split at hh
       · cases hh
       · rename_i h1
         simp only [Option.some.injEq,Prod.mk.injEq] at hh
         obtain ⟨-,-,rfl⟩:=hh
         have:=(rdNum_len h1).1;omega
     · split at hh
       · split at hh
         · cases hh
         · rename_i h1
           simp only [Option.some.injEq,Prod.mk.injEq] at hh
           obtain ⟨-,-,rfl⟩:=hh
           have:=rdRep_len h1
           simp at this;omega
       · simp only [Option.some.injEq,Prod.mk.injEq] at hh
         obtain ⟨-,-,rfl⟩:=hh;omega
theorem rdT_len:∀ (room:Nat) (l:List UInt8) (t:Tr) (r:List UInt8),Im.rdT room l=some (t,r)→r.length < l.length
 | 0,l,t,r,h=>by rw [Im.rdT] at h;cases h
 | room+1,[],t,r,h=>by rw [Im.rdT] at h;cases h
 | room+1,k :: l,t,r,h=>by
   rw [Im.rdT] at h
   split at h
   · cases h
   · rename_i hd n r1 h1
     split at h
     · cases h
     · rename_i ts r' h2
       simp only [Option.some.injEq,Prod.mk.injEq] at h
       obtain ⟨-,rfl⟩:=h
       have a:=rdHead_len h1
       have b:=rdS_len (rdT_len room) n r1 ts r' h2
       simp;omega
end Go.Proofs.YtoepdfpnkmccoaaDoor
namespace Go.Proofs.YtoepdfpnkmccoaaDoor
namespace Im
theorem numB_ne (n:Nat):numB n ≠ []:=by
 by_cases h:n < 128
 · rw [numB_small h];simp
 · rw [numB_big h];simp
theorem valB_numB (n:Nat):valB (numB n)=n:=by
 induction n using Nat.strongRecOn with
 | _ n ih =>
   by_cases h:n < 128
   · rw [numB_small h,valB,valB,UInt8.toNat_ofNat'];omega
   · rw [numB_big h,valB,ih (n / 128) (by omega),UInt8.toNat_ofNat'];omega
theorem lastB_numB (n:Nat) (r:List UInt8):lastB (numB n ++ r)=some ((numB n).length - 1):=by
 induction n using Nat.strongRecOn with
 | _ n ih =>
   by_cases h:n < 128
   · rw [numB_small h,List.cons_append,lastB,if_pos (by rw [UInt8.toNat_ofNat'];omega)];rfl
   · have hl:0 < (numB (n / 128)).length:=List.length_pos_iff.2 (numB_ne _)
     rw [numB_big h,List.cons_append,lastB,if_neg (by rw [UInt8.toNat_ofNat'];omega),ih (n / 128) (by omega)]
     simp only [List.length_cons,Option.some.injEq];omega
theorem last_numB (n:Nat) (h:1 ≤ n):((numB n).getD ((numB n).length - 1) 0).toNat ≠ 0:=by
 induction n using Nat.strongRecOn with
 | _ n ih =>
   by_cases h2:n < 128
   · rw [numB_small h2]
     show (UInt8.ofNat n).toNat ≠ 0
     rw [UInt8.toNat_ofNat'];omega
   · have hl:0 < (numB (n / 128)).length:=List.length_pos_iff.2 (numB_ne _)
     have:=ih (n / 128) (by omega) (by omega)
     rw [numB_big h2,List.length_cons]
     obtain ⟨m,hm⟩:∃ m,(numB (n / 128)).length=m+1:=⟨(numB (n / 128)).length - 1,by omega⟩
     rw [hm] at this ⊢
     simpa using this
theorem rdNum_numB (n:Nat) (hn:n ≤ 2147483647) (r:List UInt8):rdNum (numB n ++ r)=some (n,r):=by
 have hl:0 < (numB n).length:=List.length_pos_iff.2 (numB_ne _)
 have ht:(numB n ++ r).take ((numB n).length - 1+1)=numB n:=by rw [show (numB n).length - 1+1=(numB n).length by omega];exact List.take_left
 have hd:(numB n ++ r).drop ((numB n).length - 1+1)=r:=by rw [show (numB n).length - 1+1=(numB n).length by omega];exact List.drop_left
 have hg:(numB n ++ r).getD ((numB n).length - 1) 0=(numB n).getD ((numB n).length - 1) 0:=by simp [List.getD,List.getElem?_append_left (show (numB n).length - 1 < (numB n).length by omega)]
 unfold rdNum
 rw [lastB_numB]
 simp only [ht,hd,hg,valB_numB]
 rw [if_neg,if_neg (by omega)]
 rintro ⟨h1,h2⟩
 have h128:¬ n < 128:=fun h=>by rw [numB_small h] at h1;simp at h1
 exact last_numB n (by omega) h2
theorem numB_valB:∀ (l:List UInt8) (k:Nat),lastB l=some k→(0 < k→(l.getD k 0).toNat ≠ 0)→numB (valB (l.take (k+1)))=l.take (k+1)∧((l.getD k 0).toNat ≠ 0→1 ≤ valB (l.take (k+1)))
 | [],k,h,_=>by simp [lastB] at h
 | b :: l,k,h,hz=>by
   have hb:=b.toNat_lt
   rw [lastB] at h
   split at h
   · rename_i hs
     obtain rfl:0=k:=Option.some.inj h
     have e:UInt8.ofNat b.toNat=b:=by apply UInt8.toNat_inj.1;rw [UInt8.toNat_ofNat'];omega
     rw [show (b :: l).take (0+1)=[b] from rfl,valB,valB,Nat.mul_zero,Nat.add_zero,Nat.mod_eq_of_lt hs,numB_small hs,e]
     exact ⟨rfl,fun h=>by simp at h;omega⟩
   · rename_i hs
     split at h
     · rename_i k' hk
       obtain rfl:k'+1=k:=Option.some.inj h
       have hz':(l.getD k' 0).toNat ≠ 0:=by have:=hz (by omega);simpa using this
       obtain ⟨h1,h2⟩:=numB_valB l k' hk (fun _=>hz')
       have h3:=h2 hz'
       have e:UInt8.ofNat (128+b.toNat % 128)=b:=by apply UInt8.toNat_inj.1;rw [UInt8.toNat_ofNat'];omega
       rw [List.take_succ_cons,valB]
       have hm:(b.toNat % 128+128 * valB (l.take (k'+1))) % 128=b.toNat % 128:=by omega
       have hd:(b.toNat % 128+128 * valB (l.take (k'+1))) / 128=valB (l.take (k'+1)):=by omega
       refine ⟨?_,fun _=>by omega⟩
       rw [numB_big (by omega),hm,hd,e,h1]
     · cases h
theorem rdNum_back {l:List UInt8} {n:Nat} {r:List UInt8} (h:rdNum l=some (n,r)):l=numB n ++ r:=by
 unfold rdNum at h
 split at h
 · cases h
 · rename_i k hk
   split at h
   · cases h
   · rename_i hz
     split at h
     · cases h
     · simp only [Option.some.injEq,Prod.mk.injEq] at h
       obtain ⟨rfl,rfl⟩:=h
       rw [(numB_valB l k hk (fun h0 h1=>hz ⟨h0,h1⟩)).1,List.take_append_drop]
theorem valW_wordB (x:BitVec 64):∀ k,valW (wordB x k)=x.toNat % 256 ^ k
 | 0=>by simp [wordB,valW];omega
 | k+1=>by
   rw [wordB_succ,valW_snoc,valW_wordB x k,wordB_len,UInt8.toNat_ofNat',Nat.mod_mod,Nat.pow_succ,Nat.mod_mul]
   rw [Nat.mul_comm (x.toNat / 256 ^ k % 256)]
theorem ofNat_wordB (x:BitVec 64):BitVec.ofNat 64 (valW (wordB x 8))=x:=by
 apply BitVec.eq_of_toNat_eq
 rw [valW_wordB,BitVec.toNat_ofNat]
 have:=x.isLt
 omega
theorem setB_drop (a b c d:BitVec 64) (r:List UInt8):(setB a b c d 4 ++ r).drop 32=r∧32 ≤ (setB a b c d 4 ++ r).length:=by
 have hl:=setB_len a b c d 4
 exact ⟨by rw [List.drop_append_of_le_length (by omega),List.drop_eq_nil_of_le (by omega)];simp,by rw [List.length_append];omega⟩
theorem wordOf_setB (a b c d:BitVec 64) (r:List UInt8) (i:Nat) (hi:i < 4):wordOf (setB a b c d 4 ++ r) i=wd a b c d i:=by
 have h0:=wordB_len (wd a b c d 0) 8;have h1:=wordB_len (wd a b c d 1) 8;have h2:=wordB_len (wd a b c d 2) 8;have h3:=wordB_len (wd a b c d 3) 8
 have e:setB a b c d 4 ++ r=wordB (wd a b c d 0) 8 ++ (wordB (wd a b c d 1) 8 ++ (wordB (wd a b c d 2) 8 ++ (wordB (wd a b c d 3) 8 ++ r))):=by simp [setB,List.append_assoc]
 unfold wordOf
 rw [e]
 have d8:∀ (x y:List UInt8) (n:Nat),x.length=8→(x ++ y).drop (8+n)=y.drop n:=fun x y n hx=>by
   have h8:(x ++ y).drop 8=y:=by rw [List.drop_append_of_le_length (by omega),List.drop_eq_nil_of_le (show x.length ≤ 8 by omega),List.nil_append]
   rw [← List.drop_drop,h8]
 have t8:∀ (x y:List UInt8),x.length=8→(x ++ y).take 8=x:=fun x y hx=>by rw [List.take_append_of_le_length (by omega),List.take_of_length_le (by omega)]
 rcases (show i=0 ∨ i=1 ∨ i=2 ∨ i=3 by omega) with rfl | rfl | rfl | rfl
 · rw [show 8 * 0=0 from rfl,List.drop_zero,t8 _ _ h0,ofNat_wordB]
 · rw [show 8 * 1=8+0 from rfl,d8 _ _ _ h0,List.drop_zero,t8 _ _ h1,ofNat_wordB]
 · rw [show 8 * 2=8+(8+0) from rfl,d8 _ _ _ h0,d8 _ _ _ h1,List.drop_zero,t8 _ _ h2,ofNat_wordB]
 · rw [show 8 * 3=8+(8+(8+0)) from rfl,d8 _ _ _ h0,d8 _ _ _ h1,d8 _ _ _ h2,List.drop_zero,t8 _ _ h3,ofNat_wordB]
theorem wordB_valW:∀ (k:Nat) (l:List UInt8),l.length=k→k ≤ 8→wordB (BitVec.ofNat 64 (valW l)) k=l:=by
 intro k
 induction k with
 | zero=>intro l h _;rw [List.length_eq_zero_iff.1 h];rfl
 | succ k ih =>
   intro l h hk
   obtain ⟨m,b,rfl⟩:∃ m b,l=m ++ [b]:=⟨l.dropLast,l.getLast (by intro e;rw [e] at h;simp at h),(List.dropLast_concat_getLast _).symm⟩
   have hm:m.length=k:=by simpa using h
   have hv:=valW_lt m
   rw [hm] at hv
   have hb:=b.toNat_lt
   have h256:(256:Nat) ^ (k+1) ≤ 2 ^ 64:=by
     rw [show (256:Nat)=2 ^ 8 from rfl,← Nat.pow_mul];exact Nat.pow_le_pow_right (by omega) (by omega)
   have hp:0 < 256 ^ k:=Nat.pow_pos (by omega)
   have htot:valW m+b.toNat * 256 ^ k < 256 ^ (k+1):=by
     rw [Nat.pow_succ]
     have:b.toNat * 256 ^ k ≤ 255 * 256 ^ k:=Nat.mul_le_mul_right _ (by omega)
     omega
   have e1:(BitVec.ofNat 64 (valW (m ++ [b]))).toNat=valW m+b.toNat * 256 ^ k:=by
     rw [valW_snoc,hm,BitVec.toNat_ofNat,Nat.mod_eq_of_lt (by omega)]
   have e2:(valW m+b.toNat * 256 ^ k) / 256 ^ k=b.toNat:=by rw [Nat.add_mul_div_right _ _ hp,Nat.div_eq_of_lt hv,Nat.zero_add]
   have e3:wordB (BitVec.ofNat 64 (valW (m ++ [b]))) k=wordB (BitVec.ofNat 64 (valW m)) k:=by
     unfold wordB
     refine List.map_congr_left fun j hj=>?_
     have hjk:j < k:=List.mem_range.1 hj
     rw [e1,BitVec.toNat_ofNat,Nat.mod_eq_of_lt (show valW m < 2 ^ 64 by omega)]
     congr 1
     obtain ⟨i,hi⟩:∃ i,k=j+1+i:=⟨k - (j+1),by omega⟩
     rw [show b.toNat * 256 ^ k=256 ^ j * (256 * (256 ^ i * b.toNat)) by rw [hi,Nat.pow_add,Nat.pow_succ];simp only [Nat.mul_comm,Nat.mul_left_comm,Nat.mul_assoc]]
     rw [Nat.add_mul_div_left _ _ (Nat.pow_pos (by omega)),Nat.add_mul_mod_self_left]
   rw [wordB_succ,e3,ih m hm (by omega),e1,e2,Nat.mod_eq_of_lt (by omega)]
   congr 1
   simp
theorem setB_wordOf (l:List UInt8) (h:32 ≤ l.length):setB (wordOf l 0) (wordOf l 1) (wordOf l 2) (wordOf l 3) 4 ++ l.drop 32=l:=by
 have key:∀ i,i < 4→wordB (wordOf l i) 8=(l.drop (8 * i)).take 8:=fun i hi=>wordB_valW 8 _ (by rw [List.length_take,List.length_drop];omega) (by omega)
 have e:setB (wordOf l 0) (wordOf l 1) (wordOf l 2) (wordOf l 3) 4=wordB (wordOf l 0) 8 ++ wordB (wordOf l 1) 8 ++ wordB (wordOf l 2) 8 ++ wordB (wordOf l 3) 8:=by simp [setB,wd]
 rw [e,key 0 (by omega),key 1 (by omega),key 2 (by omega),key 3 (by omega)]
 have step:∀ n,(l.drop n).take 8 ++ l.drop (n+8)=l.drop n:=fun n=>by rw [← List.drop_drop,List.take_append_drop]
 rw [show 8 * 0=0 from rfl,show 8 * 1=8 from rfl,show 8 * 2=16 from rfl,show 8 * 3=24 from rfl,List.append_assoc,List.append_assoc,List.append_assoc]
 have s24:=step 24;have s16:=step 16;have s8:=step 8;have s0:=step 0
 simp only [Nat.reduceAdd] at s24 s16 s8 s0
 rw [s24,s16,s8,s0,List.drop_zero]
end Im
end Go.Proofs.YtoepdfpnkmccoaaDoor
namespace Go.Proofs.YtoepdfpnkmccoaaDoor
namespace Im
def tailF (k:Int) (a b c d:BitVec 64) (n:Nat) (nu lo hi:Int) (br:Bool):List UInt8 :=
 if k=2 then setB a b c d 4 else if k=5 ∨ k=6 then numB n else if k=7 then numB nu.toNat else if k=8 then numB lo.toNat ++ numB (hi+1).toNat ++ [if br then 1 else 0] else []
def tailB (t:Tr):List UInt8:=tailF t.kind t.w0 t.w1 t.w2 t.w3 t.subs.length t.num t.least t.most t.bare
theorem headB_eq (t:Tr):headB t=UInt8.ofNat t.kind.toNat :: tailB t:=rfl
theorem withSubs_self (t:Tr):withSubs (withSubs t []) t.subs=t:=by cases t;rfl
theorem rdHead_tailB (t:Tr) (hf:t.fieldsOk) (hn:t.subs.length ≤ 2147483647) (r:List UInt8):rdHead t.kind (tailB t ++ r)=some (withSubs t [],t.subs.length,r):=by
 obtain ⟨k,a,b,c,d,s,nu,lo,hi,br⟩:=t
 simp only [Tr.fieldsOk,Tr.kind,Tr.w0,Tr.w1,Tr.w2,Tr.w3,Tr.num,Tr.least,Tr.most,Tr.bare,Tr.subs] at hf hn
 show rdHead k (tailF k a b c d s.length nu lo hi br ++ r)=some (.node k a b c d [] nu lo hi br,s.length,r)
 unfold rdHead tailF
 rcases hf with ⟨hk,rfl,rfl,rfl,rfl,rfl,rfl,rfl,rfl,rfl⟩ | ⟨rfl,rfl,rfl,rfl,rfl,rfl⟩ | ⟨hk,rfl,rfl,rfl,rfl,h2,rfl,rfl,rfl,rfl⟩ | ⟨rfl,rfl,rfl,rfl,rfl,h1,hn1,hn2,rfl,rfl,rfl⟩ | ⟨rfl,rfl,rfl,rfl,rfl,h1,rfl,hl0,hl1,hm,hb⟩
 · rw [if_neg (by omega),if_neg (by omega),if_neg (by omega),if_neg (by omega),if_neg (by omega),if_neg (by omega),if_neg (by omega),if_neg (by omega)];rfl
 · obtain ⟨h3,h4⟩:=setB_drop a b c d r
   rw [if_pos rfl,if_pos rfl,if_pos h4,h3,wordOf_setB a b c d r 0 (by omega),wordOf_setB a b c d r 1 (by omega),wordOf_setB a b c d r 2 (by omega),wordOf_setB a b c d r 3 (by omega)]
   rfl
 · rw [if_neg (by omega),if_pos hk,if_neg (by omega),if_pos hk,rdNum_numB _ hn]
 · rw [if_neg (by decide),if_neg (by decide),if_pos rfl,if_neg (by decide),if_neg (by decide),if_pos rfl,rdNum_numB _ (by omega),h1]
   simp only [Option.some.injEq,Prod.mk.injEq,and_true]
   rw [show ((nu.toNat:Nat):Int)=nu by omega]
 · rw [if_neg (by decide),if_neg (by decide),if_neg (by decide),if_pos rfl,if_neg (by decide),if_neg (by decide),if_neg (by decide),if_pos rfl]
   have hR:rdRep (numB lo.toNat ++ numB (hi+1).toNat ++ [if br=true then 1 else 0] ++ r)=some (lo,hi,br,r):=by
     unfold rdRep
     rw [List.append_assoc,List.append_assoc,rdNum_numB _ (by omega)]
     simp only
     rw [rdNum_numB _ (by omega)]
     simp only [List.cons_append,List.nil_append,rdBare]
     rw [show ((lo.toNat:Nat):Int)=lo by omega,show (((hi+1).toNat:Nat):Int) - 1=hi by omega]
     cases br <;> rfl
   rw [hR,h1]
theorem rdS_imS {f:List UInt8→Option (Tr × List UInt8)} : ∀ (l:List Tr) (r:List UInt8),(∀ u,u ∈ l→∀ r,f (imT u ++ r)=some (u,r))→rdS f l.length (imS l ++ r)=some (l,r)
 | [],r,_=>by simp [rdS,imS]
 | t :: l,r,h=>by
   rw [List.length_cons,rdS,imS,List.append_assoc,h t List.mem_cons_self]
   simp only
   rw [rdS_imS l r fun u hu=>h u (List.mem_cons_of_mem _ hu)]
theorem ndT_le_ndS {u:Tr} : ∀ {l:List Tr},u ∈ l→u.ndT ≤ Tr.ndS l
 | [],h=>by cases h
 | t :: l,h=>by
   rw [Tr.ndS]
   rcases List.mem_cons.1 h with rfl | h
   · omega
   · have:=ndT_le_ndS h;omega
theorem rdT_imT (t:Tr):∀ (room:Nat) (r:List UInt8),t.InForm→t.dpT ≤ room→t.ndT ≤ 2147483647→rdT room (imT t ++ r)=some (t,r):=by
 induction t using Tr.rec_subs with
 | h t ih =>
   intro room r hf hd hn
   have hnd:=Tr.ndT_eq t
   have hl:=ndS_len t.subs
   have hdp:1 ≤ t.dpT∧Tr.dpS t.subs+1 ≤ max t.dpT (Tr.dpS t.subs+1)∧(t.subs ≠ []→Tr.dpS t.subs+1 ≤ t.dpT):=by
     have he:t.dpT=if t.subs.length=0 then 1 else Tr.dpS t.subs+(if t.kind=8∧¬ (t.least=0∧(t.most=1 ∨ t.most = -1)) then 2 else 1):=by cases t;rw [Tr.dpT];rfl
     refine ⟨?_,by omega,fun hne=>?_⟩
     · rw [he];split
       · omega
       · split <;> omega
     · have:t.subs.length ≠ 0:=fun h=>hne (List.length_eq_zero_iff.1 h)
       rw [he,if_neg this];split <;> omega
   obtain ⟨m,rfl⟩:∃ m,room=m+1:=⟨room - 1,by omega⟩
   have hk:1 ≤ t.kind∧t.kind ≤ 8:=by
     rcases hf.fields with ⟨h,-⟩ | ⟨h,-⟩ | ⟨h,-⟩ | ⟨h,-⟩ | ⟨h,-⟩ <;> omega
   have hkk:((UInt8.ofNat t.kind.toNat).toNat:Int)=t.kind:=by rw [UInt8.toNat_ofNat'];omega
   rw [imT_eq,headB_eq,List.cons_append,List.cons_append,rdT,hkk,List.append_assoc,rdHead_tailB t hf.fields (by omega)]
   simp only
   rw [rdS_imS t.subs r fun u hu r=>ih u hu m r (hf.sub hu) (by
     have h1:=Tr.dpT_le_dpS hu
     have h2:=hdp.2.2 (by intro e;rw [e] at hu;cases hu)
     omega) (by have:=ndT_le_ndS hu;omega)]
   simp only [withSubs_self]
theorem rdS_back {f:List UInt8→Option (Tr × List UInt8)} (hf:∀ l t r,f l=some (t,r)→t.InForm→l=imT t ++ r):∀ (n:Nat) (l:List UInt8) (ts:List Tr) (r:List UInt8),rdS f n l=some (ts,r)→(∀ u,u ∈ ts→u.InForm)→l=imS ts ++ r∧ts.length=n
 | 0,l,ts,r,h,_=>by
   rw [rdS] at h
   simp only [Option.some.injEq,Prod.mk.injEq] at h
   obtain ⟨rfl,rfl⟩:=h;simp [imS]
 | n+1,l,ts,r,h,hu=>by
   rw [rdS] at h
   split at h
   · cases h
   · rename_i t r1 h1
     split at h
     · cases h
     · rename_i ts' r' h2
       simp only [Option.some.injEq,Prod.mk.injEq] at h
       obtain ⟨rfl,rfl⟩:=h
       have e1:=hf _ _ _ h1 (hu t List.mem_cons_self)
       obtain ⟨e2,e3⟩:=rdS_back hf n r1 ts' r' h2 fun u h=>hu u (List.mem_cons_of_mem _ h)
       exact ⟨by rw [e1,e2,imS,List.append_assoc],by rw [List.length_cons,e3]⟩
theorem rdRep_back {l:List UInt8} {lo hi:Int} {br:Bool} {r:List UInt8} (h:rdRep l=some (lo,hi,br,r)):l=numB lo.toNat ++ numB (hi+1).toNat ++ [if br then 1 else 0] ++ r:=by
 unfold rdRep at h
 split at h
 · cases h
 · rename_i n1 l1 h1
   split at h
   · cases h
   · rename_i n2 l2 h2
     split at h
     · cases h
     · rename_i b l3 h3
       simp only [Option.some.injEq,Prod.mk.injEq] at h
       obtain ⟨rfl,rfl,rfl,rfl⟩:=h
       rw [rdNum_back h1,rdNum_back h2]
       cases l2 with
       | nil=>rw [rdBare] at h3;cases h3
       | cons x l2 =>
         rw [rdBare] at h3
         split at h3
         · cases h3
         · rename_i hx
           simp only [Option.some.injEq,Prod.mk.injEq] at h3
           obtain ⟨rfl,rfl⟩:=h3
           have e:x=if (x.toNat == 1)=true then 1 else 0:=by
             by_cases h1:x.toNat=1
             · rw [if_pos (by simpa using h1)];apply UInt8.toNat_inj.1;rw [h1];rfl
             · rw [if_neg (by simpa using h1)];apply UInt8.toNat_inj.1;show x.toNat=0;omega
           rw [show ((n1:Int)).toNat=n1 by omega,show ((n2:Int) - 1+1).toNat=n2 by omega,← e]
           simp [List.append_assoc]
theorem rdHead_back {k:Int} {l:List UInt8} {h:Tr} {n:Nat} {r:List UInt8} (hh:rdHead k l=some (h,n,r)) (ts:List Tr) (hl:ts.length=n):l=tailB (withSubs h ts) ++ r∧h.kind=k:=by
 unfold rdHead at hh
 split at hh
 · rename_i hk
   subst hk
   split at hh
   · rename_i h32
     simp only [Option.some.injEq,Prod.mk.injEq] at hh
     obtain ⟨rfl,rfl,rfl⟩:=hh
     refine ⟨?_,rfl⟩
     show l=tailF 2 (wordOf l 0) (wordOf l 1) (wordOf l 2) (wordOf l 3) ts.length 0 0 0 false ++ _
     unfold tailF
     rw [if_pos rfl,setB_wordOf l h32]
   · cases hh
 · rename_i hk2
   split at hh
   · rename_i hk5
     split at hh
     · cases hh
     · rename_i h1
       simp only [Option.some.injEq,Prod.mk.injEq] at hh
       obtain ⟨rfl,rfl,rfl⟩:=hh
       refine ⟨?_,rfl⟩
       show l=tailF k 0#64 0#64 0#64 0#64 ts.length 0 0 0 false ++ _
       unfold tailF
       rw [if_neg hk2,if_pos hk5,hl];exact rdNum_back h1
   · rename_i hk5
     split at hh
     · rename_i hk7
       split at hh
       · cases hh
       · rename_i n1 l1 h1
         simp only [Option.some.injEq,Prod.mk.injEq] at hh
         obtain ⟨rfl,rfl,rfl⟩:=hh
         refine ⟨?_,rfl⟩
         show l=tailF k 0#64 0#64 0#64 0#64 ts.length n1 0 0 false ++ _
         unfold tailF
         rw [if_neg hk2,if_neg hk5,if_pos hk7,show ((n1:Int)).toNat=n1 by omega];exact rdNum_back h1
     · rename_i hk7
       split at hh
       · rename_i hk8
         split at hh
         · cases hh
         · rename_i lo hi br l1 h1
           simp only [Option.some.injEq,Prod.mk.injEq] at hh
           obtain ⟨rfl,rfl,rfl⟩:=hh
           refine ⟨?_,rfl⟩
           show l=tailF k 0#64 0#64 0#64 0#64 ts.length 0 lo hi br ++ _
           unfold tailF
           rw [if_neg hk2,if_neg hk5,if_neg hk7,if_pos hk8];exact rdRep_back h1
       · rename_i hk8
         simp only [Option.some.injEq,Prod.mk.injEq] at hh
         obtain ⟨rfl,rfl,rfl⟩:=hh
         refine ⟨?_,rfl⟩
         show l=tailF k 0#64 0#64 0#64 0#64 ts.length 0 0 0 false ++ _
         unfold tailF
         rw [if_neg hk2,if_neg hk5,if_neg hk7,if_neg hk8];rfl
theorem rdT_back:∀ (room:Nat) (l:List UInt8) (t:Tr) (r:List UInt8),rdT room l=some (t,r)→t.InForm→l=imT t ++ r
 | 0,l,t,r,h,_=>by rw [rdT] at h;cases h
 | room+1,[],t,r,h,_=>by rw [rdT] at h;cases h
 | room+1,k :: l,t,r,h,hf=>by
   rw [rdT] at h
   split at h
   · cases h
   · rename_i hd n r1 h1
     split at h
     · cases h
     · rename_i ts r' h2
       simp only [Option.some.injEq,Prod.mk.injEq] at h
       obtain ⟨rfl,rfl⟩:=h
       obtain ⟨e2,e3⟩:=rdS_back (fun l t r=>rdT_back room l t r) n r1 ts r' h2 fun u hu=>hf.sub hu
       obtain ⟨e4,e5⟩:=rdHead_back h1 ts e3
       have e6:UInt8.ofNat (withSubs hd ts).kind.toNat=k:=by
         show UInt8.ofNat hd.kind.toNat=k
         rw [e5]
         apply UInt8.toNat_inj.1
         rw [UInt8.toNat_ofNat']
         have:=k.toNat_lt
         omega
       rw [imT_eq,headB_eq,e6,List.cons_append,List.cons_append,e4,List.append_assoc]
       congr 1
       congr 1
end Im
end Go.Proofs.YtoepdfpnkmccoaaDoor
namespace Go.Proofs.YtoepdfpnkmccoaaDoor
open Go.RowKit
namespace Im
theorem rdS_dp {f:List UInt8→Option (Tr × List UInt8)} {D:Nat} (hf:∀ l t r,f l=some (t,r)→t.dpT ≤ D):∀ (n:Nat) (l:List UInt8) (ts:List Tr) (r:List UInt8),rdS f n l=some (ts,r)→Tr.dpS ts ≤ D
 | 0,l,ts,r,h=>by
   rw [rdS] at h
   simp only [Option.some.injEq,Prod.mk.injEq] at h
   obtain ⟨rfl,rfl⟩:=h;simp [Tr.dpS]
 | n+1,l,ts,r,h=>by
   rw [rdS] at h
   split at h
   · cases h
   · rename_i t r1 h1
     split at h
     · cases h
     · rename_i ts' r' h2
       simp only [Option.some.injEq,Prod.mk.injEq] at h
       obtain ⟨rfl,rfl⟩:=h
       have a:=hf _ _ _ h1
       have b:=rdS_dp hf n r1 ts' r' h2
       rw [Tr.dpS];omega
theorem rdT_dp:∀ (room:Nat) (l:List UInt8) (t:Tr) (r:List UInt8),rdT room l=some (t,r)→t.dpT ≤ 2 * room
 | 0,l,t,r,h=>by rw [rdT] at h;cases h
 | room+1,[],t,r,h=>by rw [rdT] at h;cases h
 | room+1,k :: l,t,r,h=>by
   rw [rdT] at h
   split at h
   · cases h
   · rename_i hd n r1 h1
     split at h
     · cases h
     · rename_i ts r' h2
       simp only [Option.some.injEq,Prod.mk.injEq] at h
       obtain ⟨rfl,rfl⟩:=h
       have b:=rdS_dp (rdT_dp room) n r1 ts r' h2
       unfold withSubs
       rw [Tr.dpT]
       split
       · omega
       · split <;> omega
def decB (l:List UInt8):Option Tr :=
 if isHead l=true then match rdT 200 (l.drop 5) with
   | some (t,[])=>if t.checkC=0 then some t else none
   | _=>none
 else none
end Im
theorem wpList_load_row_g {P:Program} {ops:Array Oper} {rest:List Oper} {op:Oper} {a:Act} {w:World} {Q:Exit→Act→World→Prop} {j d:Nat} {b:Bool} (hg:op.guard=some (j,b)) (hd:(ops[j]?).bind (·.dst)=some d) (hv:a.tmps.getD d undef=.bool b)
   (ty:TypeId) (x:Operand) (ho:op.op=.load ty x) (g:Nat) (hx:a.eval x=.pointer (some ⟨g,0,none⟩)) (t:TypeId) (cs:Array Value) (fr:Nat × Nat) (ds:TypeDesc) (hgx:w.heap[g]? = some (.cells cs t fr))
   (hu:P.underlying ty=some ds) (hdd:(match ds with | .struct _ | .array _ _=>true | _=>false)=true) (hi:(P.info? ty).map (·.size)=some cs.size)
   (h:wpList P ops Q rest (a.put op.dst (.agg cs)) w):wpList P ops Q (op :: rest) a w :=
 wpList_step fun K hK=>by
   rw [if_pos (by simp [Region.wanted,hg,yielded,hd,Ri.some_of_getD hv])];exact wp_load_row ty x ho g hx t cs fr ds hgx hu hdd hi (hK _ _ h)
theorem head_at (w:World):BsAt (w.alloc (.cells #[.int .u8 84,.int .u8 82,.int .u8 87,.int .u8 76,.int .u8 1] 5 (5,6))) (.slice (some ⟨w.heap.size,0,none⟩) 5 5) Im.head:=by
 have h:=heap_alloc_new w (.cells #[.int .u8 84,.int .u8 82,.int .u8 87,.int .u8 76,.int .u8 1] 5 (5,6))
 refine .inr ⟨w.heap.size,0,5,rfl,by decide,fun j hj=>?_⟩
 have hj5:j < 5:=hj
 unfold World.cell?
 simp only [Nat.zero_add,h]
 rcases (show j=0 ∨ j=1 ∨ j=2 ∨ j=3 ∨ j=4 by omega) with rfl | rfl | rfl | rfl | rfl <;> rfl
end Go.Proofs.YtoepdfpnkmccoaaDoor
namespace Go.Proofs.YtoepdfpnkmccoaaDoor
open Go.RowKit
def MemsAt (w:World) (base:Nat) (v:Value) (ps:List (Tr × Value)):Prop :=
 ∃ L:Nat→List Nat,(∀ (i:Nat) (t:Tr) (s:Value),ps[i]? = some (t,s)→Owned w s t.subs (L i))∧(∀ i b,i < ps.length→b ∈ L i→base ≤ b∧v.ownBlock ≠ some b)∧(∀ i j b,i < ps.length→j < ps.length→i ≠ j→b ∈ L i→b ∉ L j)
theorem MemsAt.nil (w:World) (base:Nat) (v:Value):MemsAt w base v []:=⟨fun _=>[],fun i t s h=>by simp at h,fun i b h=>by simp at h,fun i j b h=>by simp at h⟩
theorem owned_of_row {w:World} {base:Nat} {v:Value} {n:Nat} {ps:List (Tr × Value)} (h:w.ownsRow base 29 10 v n (rowOf ps)) (hn:ps.length * 96 ≤ 140737488351232) (hm:MemsAt w base v ps) :
   ∃ F,Owned w v (ps.map (·.1)) F∧∀ b,b ∈ F→base ≤ b:=by
 obtain ⟨L,h1,h2,h3⟩:=hm
 have hlen:ps.length=n:=by have:=h.1;rw [rowOf_length] at this;omega
 have hcells:=fun g hv=>World.ownsRow.cells h (g:=g) hv
 rcases h.2 with ⟨rfl,hn0⟩ | ⟨g,cap,cur,rfl,hbg,hheap,-⟩
 · have:ps=[]:=List.length_eq_zero_iff.1 (by omega)
   subst this
   exact ⟨[],Owned.nil _ _,fun b hb=>by cases hb⟩
 · have hc:=hcells g rfl
   have key:∀ (i:Nat) (t:Tr) (s:Value),ps[i]? = some (t,s)→TenAt w g (0+i * 10) t s:=by
     intro i t s hi
     have get:∀ j u,j < 10→(t.cells s)[j]? = some u→w.cell? ⟨g,0+i * 10+j,none⟩=some u:=by
       intro j u hj hu
       have:=hc (i * 10+j) u (by rw [rowOf_get ps i t s hi j hj];exact hu)
       have ea:(⟨g,0,none⟩:Addr).add (i * 10+j)=⟨g,0+i * 10+j,none⟩:=by unfold Addr.add;split <;> simp_all <;> omega
       rw [ea] at this;exact this
     exact ⟨get 0 _ (by omega) rfl,get 1 _ (by omega) rfl,get 2 _ (by omega) rfl,get 3 _ (by omega) rfl,get 4 _ (by omega) rfl,get 5 _ (by omega) rfl,get 6 _ (by omega) rfl,get 7 _ (by omega) rfl,get 8 _ (by omega) rfl,get 9 _ (by omega) rfl⟩
   have hl2:n=(ps.map (·.1)).length:=by rw [List.length_map];omega
   rw [hl2]
   have split:∀ (i:Nat) (t:Tr),(ps.map (·.1))[i]? = some t→∃ s,ps[i]? = some (t,s):=by
     intro i t hi
     rw [List.getElem?_map] at hi
     cases hx:ps[i]? with
     | none=>rw [hx] at hi;cases hi
     | some x=>rw [hx] at hi;cases x with | mk a b=>simp only [Option.map_some,Option.some.injEq] at hi;subst hi;exact ⟨b,rfl⟩
   refine ⟨_,.row g 0 cap (ps.map (·.1)) (fun i=>((ps[i]?).map (·.2)).getD undef) L (by rw [List.length_map];exact hn) ⟨_,_,hheap⟩ (fun i t hi=>?_) (fun i t hi=>?_) (fun i hi hgL=>?_) (fun i j b hi hj=>?_),fun b hb=>?_⟩
   · obtain ⟨s,hs'⟩:=split i t hi
     simp only [hs',Option.map_some,Option.getD_some];exact key i t s hs'
   · obtain ⟨s,hs'⟩:=split i t hi
     simp only [hs',Option.map_some,Option.getD_some]
     exact h1 i t s hs'
   · rw [List.length_map] at hi;exact (h2 i g hi hgL).2 rfl
   · rw [List.length_map] at hi hj;exact h3 i j b hi hj
   · rcases List.mem_cons.1 hb with rfl | hb
     · exact hbg
     · obtain ⟨i,hi,hb⟩:=mem_range_flatMap.1 hb
       rw [List.length_map] at hi;exact (h2 i b hi hb).1
end Go.Proofs.YtoepdfpnkmccoaaDoor
namespace Go.Proofs.YtoepdfpnkmccoaaDoor
open Go.RowKit
def OwnT (w:World) (n:Nat) (s:Value) (ts:List Tr):Prop:=∃ F,Owned w s ts F∧∀ b,b ∈ F→n ≤ b
theorem OwnT.later {w w':World} {n:Nat} {s:Value} {ts:List Tr} (h:OwnT w n s ts) (hb:Below w.heap.size w w'):OwnT w' n s ts:=by
 obtain ⟨F,h1,h2⟩:=h
 exact ⟨F,h1.later hb,h2⟩
theorem OwnT.mono {w:World} {n n':Nat} {s:Value} {ts:List Tr} (h:OwnT w n s ts) (hn:n' ≤ n):OwnT w n' s ts:=by
 obtain ⟨F,h1,h2⟩:=h
 exact ⟨F,h1,fun b hb=>Nat.le_trans hn (h2 b hb)⟩
theorem OwnT.keep {w w':World} {n:Nat} {s:Value} {ts:List Tr} (h:OwnT w n s ts) (hk:∀ b,n ≤ b→w'.heap[b]? = w.heap[b]?):OwnT w' n s ts:=by
 obtain ⟨F,h1,h2⟩:=h
 exact ⟨F,h1.keep fun b hb=>hk b (h2 b hb),h2⟩
theorem OwnT.slice {w:World} {n:Nat} {s:Value} {ts:List Tr} (h:OwnT w n s ts):∃ p cap,s=.slice p ts.length cap∧ts.length * 96 ≤ 140737488351232:=by
 obtain ⟨F,h1,h2⟩:=h
 exact h1.slice
theorem OwnT.trees {w:World} {n:Nat} {s:Value} {ts:List Tr} (h:OwnT w n s ts):TreesAt w (fun b=>n ≤ b) s ts:=by
 obtain ⟨F,h1,h2⟩:=h
 exact h1.trees.mono fun b _ hb=>h2 b hb
def MemsB (w:World) (base:Nat) (v:Value) (ps:List (Tr × Value)) (Z:Nat):Prop :=
 ∃ L:Nat→List Nat,(∀ (i:Nat) (t:Tr) (s:Value),ps[i]? = some (t,s)→Owned w s t.subs (L i))∧(∀ i b,i < ps.length→b ∈ L i→base ≤ b∧v.ownBlock ≠ some b)∧(∀ i j b,i < ps.length→j < ps.length→i ≠ j→b ∈ L i→b ∉ L j)∧(∀ i b,i < ps.length→b ∈ L i→b < Z)
theorem MemsAt.toB {w:World} {base:Nat} {v:Value} {ps:List (Tr × Value)} (h:MemsAt w base v ps):MemsB w base v ps w.heap.size:=by
 obtain ⟨L,h1,h2,h3⟩:=h
 exact ⟨L,h1,h2,h3,fun i b hi hb=>(h1 i ps[i].1 ps[i].2 (List.getElem?_eq_getElem hi)).lt b hb⟩
theorem MemsB.kept {w w':World} {base Z:Nat} {v:Value} {ps:List (Tr × Value)} (h:MemsB w base v ps Z) (hk:∀ b,b < Z→base ≤ b→w'.heap[b]? = w.heap[b]?):MemsB w' base v ps Z:=by
 obtain ⟨L,h1,h2,h3,h4⟩:=h
 exact ⟨L,fun i t s hi=>(h1 i t s hi).keep fun b hb=>hk b (h4 i b (List.getElem?_eq_some_iff.1 hi).1 hb) (h2 i b (List.getElem?_eq_some_iff.1 hi).1 hb).1,h2,h3,h4⟩
theorem MemsB.next {w w':World} {base Z:Nat} {v v':Value} {ps:List (Tr × Value)} {x:Tr} {s:Value} (h:MemsB w base v ps Z) (ho:OwnT w Z s x.subs) (hbase:base ≤ Z) (hZ:Z ≤ w.heap.size) (hv:∀ g,v.ownBlock=some g→g < Z)
   (hk:∀ k,k < w.heap.size→base ≤ k→v.ownBlock ≠ some k→w'.heap[k]? = w.heap[k]?) (hw:v'.ownBlock=v.ownBlock ∨ ∃ q,v'.ownBlock=some q∧w.heap.size ≤ q):MemsAt w' base v' (ps ++ [(x,s)]):=by
 obtain ⟨L,h1,h2,h3,h4⟩:=h
 obtain ⟨F,hO,hF⟩:=ho
 have hnew:∀ b,b < w.heap.size→v.ownBlock ≠ some b→v'.ownBlock ≠ some b:=fun b hb' hne=>by
   rcases hw with e | ⟨q,e,hq⟩
   · rw [e];exact hne
   · rw [e];intro h;have:=Option.some.inj h;omega
 have hFv:∀ b,b ∈ F→v.ownBlock ≠ some b:=fun b hb' e=>by have:=hv b e;have:=hF b hb';omega
 refine ⟨pick L ps.length F,fun i t s' hi=>?_,fun i b hi hbL=>?_,fun i j b hi hj hij h5 h6=>?_⟩
 · by_cases hip:i < ps.length
   · rw [List.getElem?_append_left hip] at hi
     rw [pick_ne _ _ _ (by omega)]
     exact (h1 i t s' hi).keep fun b hb'=>hk b (by have:=h4 i b hip hb';omega) (h2 i b hip hb').1 (h2 i b hip hb').2
   · rw [List.getElem?_append_right (by omega)] at hi
     have hi0:i - ps.length=0:=by
       by_cases h0:i - ps.length=0
       · exact h0
       · rw [List.getElem?_eq_none (by simp;omega)] at hi;cases hi
     rw [hi0] at hi
     simp only [List.getElem?_cons_zero,Option.some.injEq,Prod.mk.injEq] at hi
     obtain ⟨rfl,rfl⟩:=hi
     obtain rfl:i=ps.length:=by omega
     rw [pick_eq]
     exact hO.keep fun b hb'=>hk b (hO.lt b hb') (by have:=hF b hb';omega) (hFv b hb')
 · rw [List.length_append] at hi
   by_cases e:i=ps.length
   · subst e;rw [pick_eq] at hbL
     exact ⟨by have:=hF b hbL;omega,hnew b (hO.lt b hbL) (hFv b hbL)⟩
   · rw [pick_ne _ _ _ e] at hbL
     have hip:i < ps.length:=by simp at hi;omega
     exact ⟨(h2 i b hip hbL).1,hnew b (by have:=h4 i b hip hbL;omega) (h2 i b hip hbL).2⟩
 · rw [List.length_append] at hi hj
   simp only [List.length_cons,List.length_nil] at hi hj
   by_cases e:i=ps.length
   · subst e
     rw [pick_eq] at h5;rw [pick_ne _ _ _ (Ne.symm hij)] at h6
     have:=hF b h5;have:=h4 j b (by omega) h6;omega
   · rw [pick_ne _ _ _ e] at h5
     by_cases e2:j=ps.length
     · subst e2;rw [pick_eq] at h6
       have:=hF b h6;have:=h4 i b (by omega) h5;omega
     · rw [pick_ne _ _ _ e2] at h6;exact h3 i j b (by omega) (by omega) hij h5 h6
end Go.Proofs.YtoepdfpnkmccoaaDoor
namespace Go.Proofs.YtoepdfpnkmccoaaDoor
open Go.RowKit
def NdOwn (W0:World) (R room:Nat) (l:List UInt8) (w:World) (e:Ending) (w':World):Prop :=
 w.grownBy w' (some R)∧match Im.rdT room l with
   | some (t,r)=>(∃ s,e=.returned (.tuple #[.agg (t.cells s),.bool true])∧OwnT w' w.heap.size s t.subs)∧RdI W0 w' R r
   | none=>e=.returned (.tuple #[.agg #[.int .i64 0,.int .u64 0,.int .u64 0,.int .u64 0,.int .u64 0,.slice none 0 0,.int .i64 0,.int .i64 0,.int .i64 0,.bool false],.bool false])
structure SubsO (W0 W4:World) (R T:Nat) (room:Nat) (h:Tr) (n:Nat) (r:List UInt8) (ps:List (Tr × Value)) (rr:List UInt8) (u:Value) (w:World):Prop where
 read:Im.rdS (Im.rdT room) n r=match Im.rdS (Im.rdT room) (n - ps.length) rr with
   | none=>none
   | some (ts,r')=>some (ps.map (·.1) ++ ts,r')
 rest:RdI W0 w R rr
 len:ps.length+rr.length ≤ 140737488351232
 cell:w.heap[T]? = some (.cells (h.cells u) 29)
 row:w.ownsRow (T+1) 29 10 u ps.length (rowOf ps)
 subs:MemsAt w (T+1) u ps
 gr:Gr W4 w R T
theorem SubsO.next {W0 W4 W6 w9:World} {R T room n m Z:Nat} {r rr r1:List UInt8} {ps:List (Tr × Value)} {t:Tr} {s u vv:Value} {kd:Int} {a b c d:BitVec 64} {sb:List Tr} {nu lo hi:Int} {br:Bool} {zs:Array Value} {L:Nat→Bool} {v:Nat→Value}
   (hI:RegI W6 T (fun y=>#[.int .i64 kd,.int .u64 (Oc.U a),.int .u64 (Oc.U b),.int .u64 (Oc.U c),.int .u64 (Oc.U d),y,.int .i64 nu,.int .i64 lo,.int .i64 hi,.bool br]) (t.cells s) zs u ps.length (rowOf ps) L v w9)
   (h9:L 9=true) (h7:L 7=true) (h5:L 5=true) (hvv:v 5=vv) (hm:n - ps.length=m+1)
   (hread:Im.rdS (Im.rdT room) n r=match (match Im.rdS (Im.rdT room) m r1 with | none=>none | some (ts,r')=>some (t :: ts,r')) with | none=>none | some (ts,r')=>some (ps.map (·.1) ++ ts,r'))
   (hr:RdI W0 W6 R r1) (hRT:R < T) (hTs:T < W6.heap.size) (hlen:ps.length+rr.length ≤ 140737488351232) (hr1:r1.length < rr.length)
   (hown:∀ g,u.ownBlock=some g→T+1 ≤ g∧g < Z) (hsu:MemsB W6 (T+1) u ps Z) (hZ6:Z ≤ W6.heap.size)
   (hsn:OwnT W6 Z s t.subs) (hZ:T+1 ≤ Z) (hg:Gr W4 W6 R T) (h4:W4.heap.size=T+1) :
   SubsO W0 W4 R T room (.node kd a b c d sb nu lo hi br) n r (ps ++ [(t,s)]) r1 vv w9:=by
 subst hvv
 refine ⟨?_,hr.other (hI.blk R (by omega) (by omega) fun e=>by have:=(hown R e).1;omega), ?_,hI.t1 h9, ?_, ?_, ?_⟩
 · rw [hread,show n - (ps ++ [(t,s)]).length=m by rw [List.length_append];simp;omega]
   cases Im.rdS (Im.rdT room) m r1 with
   | none=>rfl
   | some x=>simp
 · rw [List.length_append];simp;omega
 · rw [rowOf_snoc,List.length_append];exact hI.r2 h7
 · exact hsu.next hsn hZ hZ6 (fun g hg=>(hown g hg).2) (fun k hk hk2 hu=>hI.blk k hk (by omega) hu) (hI.ob h5)
 · exact ⟨hI.os.trans hg.os,hI.tape.trans hg.tape,hI.output.trans hg.output,Nat.le_trans hg.size hI.size,fun k hk h1 h2=>(hI.blk k (Nat.lt_of_lt_of_le hk hg.size) h2 fun e=>by have:=(hown k e).1;omega).trans (hg.block k hk h1 h2)⟩
theorem node_own (W0:World) (R:Nat) (hR:W0.heap.size ≤ R):∀ (room:Nat) (l:List UInt8) (w:World),room ≤ 1000→l.length ≤ 140737488351232→Below W0.heap.size W0 w→RdI W0 w R l →
   Calls Tryd.prog 34 #[.pointer (some ⟨R,0,none⟩),.int .i64 room] w (NdOwn W0 R room l w):=by
 intro room
 induction room with
 | zero =>
   intro l w hroom hl hb hr
   have hn:Im.rdT 0 l=none:=by rw [Im.rdT]
   cases l with
   | nil =>
     refine (node_nil W0 w R 0 hr).mono ?_
     rintro e w' ⟨rfl,hg⟩
     exact ⟨hg,by rw [hn]⟩
   | cons k l =>
     have hRw:R < w.heap.size:=by obtain ⟨v,h,-⟩:=hr;exact (Array.getElem?_eq_some_iff.1 h).1
     refine (node_room W0 w R k l hl hRw hr).mono ?_
     rintro e w' ⟨rfl,hg⟩
     exact ⟨hg,by rw [hn]⟩
 | succ room ih =>
   intro l w hroom hl hb hr
   cases l with
   | nil =>
     have hn:Im.rdT (room+1) []=none:=by rw [Im.rdT]
     refine (node_nil W0 w R (room+1) hr).mono ?_
     rintro e w' ⟨rfl,hg⟩
     exact ⟨hg,by rw [hn]⟩
   | cons k l =>
     have hRw:R < w.heap.size:=by obtain ⟨v,h,-⟩:=hr;exact (Array.getElem?_eq_some_iff.1 h).1
     have hll:l.length ≤ 140737488351231:=by simp at hl;omega
     have IH:=Lib.hid ih
     have HB0:=Lib.hid hb
     have HRI:=Lib.hid (fun o=>show RdI W0 (w.alloc o) R (k :: l) from by obtain ⟨v,h,h2⟩:=hr;exact ⟨v,heap_alloc_lt h,h2⟩)
     have HWB:=Lib.hid (fun o=>(Below.refl w.heap.size w).alloc (Nat.le_refl _) o)
     clear ih hb hr
     go_enter Tryd.func34,Tryd.ntmps34
     go_upto_region 1 with (fail)
     have Z1':=Lib.hid (heap_alloc_new w (.cells #[.int .i64 0,.int .u64 0,.int .u64 0,.int .u64 0,.int .u64 0,.slice none 0 0,.int .i64 0,.int .i64 0,.int .i64 0,.bool false] 29))
     generalize hW1:World.alloc w _=W1 at *
     have HB1:=Lib.hid (show Below w.heap.size w W1 from hW1 ▸ HWB.out _)
     have HR1:=Lib.hid (show RdI W0 W1 R (k :: l) from hW1 ▸ HRI.out _)
     have HZ1:=Lib.hid (show W1.heap.size=w.heap.size+1 by rw [← hW1];simp)
     clear hW1 HWB HRI
     have HTK:=Lib.hid (take_yes W0 W1 R (k :: l) 1 (by omega) (by simp) hl HR1.out)
     go_wp2_with fail
     refine HTK.out.mono ?_
     rintro e w3 ⟨⟨v5,rfl,hb5⟩,hr5,hg5⟩
     rcases hb5 with ⟨-,h2⟩ | ⟨g5,o5,c5,rfl,hc5,hrd5⟩
     · simp at h2
     have hz1:=HZ1.out
     have hs3:w.heap.size+1 ≤ w3.heap.size:=by have:=hg5.size;omega
     have Y1:=Lib.hid ((hg5.block w.heap.size (by omega) (by intro e;injection e;omega)).trans Z1'.out)
     have hgw:w.grownBy w3 (some R):=grownBy_trans (r':=some R) ⟨HB1.out.os,HB1.out.tape,HB1.out.output,HB1.out.size,fun k hk _=>HB1.out.block k hk⟩ hg5 (.inl rfl)
     have hbw3:Below W0.heap.size W0 w3:=HB0.out.grown hgw HB0.out.size (fun k e=>by injection e;omega)
     have hc:=hrd5 0 (by simp)
     have ck:w3.cell? ⟨g5,o5,none⟩=some (.int .u8 (k.toNat:Int)):=by
       have:=(hbw3.cell (p:=⟨g5,o5+0,none⟩) (block_lt_of_cell hc)).trans hc
       simpa using this
     have HGW:=Lib.hid hgw;have HR3:=Lib.hid (show RdI W0 w3 R l from hr5);have HBW3:=Lib.hid hbw3
     have hl1:(List.take 1 (k :: l)).length=1:=by simp
     rw [hl1] at hc5 ⊢
     have hk8:=k.toNat_lt
     have q0:((room+1:Nat):Int) ≠ 0:=by omega
     have q0':((room:Int)+1 == 0)=false:=by rw [beq_eq_false_iff_ne];omega
     have wk:IntKind.i64.wrap (k.toNat:Int)=(k.toNat:Int):=IntWalk.i64_in _ (by omega)
     clear hr5 hg5 hgw hbw3 hc hrd5 hl1 HTK hz1
     have hRT:R ≠ w3.heap.size:=by omega
     have HRT:=Lib.hid (show Im.rdT (room+1) (k :: l)=match Im.rdHead (k.toNat:Int) l with
       | none=>none
       | some (h,n,r)=>match Im.rdS (Im.rdT room) n r with
         | none=>none
         | some (ts,r')=>some (Im.withSubs h ts,r') from by rw [Im.rdT];rfl)
     generalize k.toNat=kk at *
     go_upto_region 5 with (fail)
     have HT4':=Lib.hid (heap_alloc_new w3 (.cells #[.int .i64 (kk:Int),.int .u64 0,.int .u64 0,.int .u64 0,.int .u64 0,.slice none 0 0,.int .i64 0,.int .i64 0,.int .i64 0,.bool false] 29))
     have HA4:=Lib.hid (fun o=>(Below.refl w3.heap.size w3).alloc (Nat.le_refl _) o)
     have hZ4:∀ o,(w3.alloc o).heap.size=w3.heap.size+1:=fun o=>by simp
     have HZ4':=Lib.hid hZ4
     clear hZ4
     generalize hW4:World.alloc w3 _=W4 at *
     have HB4:=Lib.hid (show Below w3.heap.size w3 W4 from hW4 ▸ HA4.out _)
     have HZ4:=Lib.hid (show W4.heap.size=w3.heap.size+1 from hW4 ▸ HZ4'.out _)
     have HT4:=Lib.hid HT4'.out
     clear hW4 HA4 HZ4' HT4'
     have HR4:=Lib.hid (HR3.out.other (HB4.out.block R (by have:=HR3.out;obtain ⟨v,h,-⟩:=this;exact (Array.getElem?_eq_some_iff.1 h).1)))
     have HBW4:=Lib.hid (HBW3.out.trans (HB4.out.mono HBW3.out.size))
     have HG4:=Lib.hid (show Gr W4 W4 R w3.heap.size from ⟨rfl,rfl,rfl,Nat.le_refl _,fun _ _ _ _=>rfl⟩)
     have hW0T:W0.heap.size ≤ w3.heap.size:=HBW3.out.size
     obtain ⟨d0,d1,d2,d3,d4,d5,d6,d7,d8,d9⟩:=allTen HT4.out
     generalize hTT:w3.heap.size=T at *
     go_upto_block 0 with (fail)
     go_cut [7,9] (fun v7 v9 wx=>Hid (HeadP W0 W4 R T (kk:Int) l v7 v9 wx))
     case first =>
       by_cases k2:kk=2
       · subst k2
         by_cases h32:32 ≤ l.length
         · have hh:Im.rdHead ((2:Nat):Int) l=some (.node 2 (Im.wordOf l 0) (Im.wordOf l 1) (Im.wordOf l 2) (Im.wordOf l 3) [] 0 0 0 false,0,l.drop 32):=by unfold Im.rdHead;rw [if_pos (show ((2:Nat):Int)=2 from rfl),if_pos h32]
           have HH:=Lib.hid hh
           have HC:=Lib.hid (set_yes W0 W4 R l (by omega) h32 HBW4.out hR HR4.out)
           clear hh
           go_wp2_with fail
           refine HC.out.mono ?_
           rintro e w6 ⟨rfl,hr6,hg6⟩
           have hT6:=(hg6.block T (by have:=HZ4.out;omega) (by intro e;injection e;omega)).trans HT4.out
           have HTH:=Lib.hid (there_ten hT6)
           have HT6:=Lib.hid hT6;have HG6:=Lib.hid (HG4.out.trans (Gr.of T hg6));have HR6:=Lib.hid hr6
           clear hr6 hg6 hT6 HC
           go_wp2_with (first
             | (refine wpList_store_mid rfl 26 (.tmp 38) (.tmp 36) rfl T 1 #[.int .u64 (Oc.U (Im.wordOf l 0)),.int .u64 (Oc.U (Im.wordOf l 1)),.int .u64 (Oc.U (Im.wordOf l 2)),.int .u64 (Oc.U (Im.wordOf l 3))] rfl rfl HTH.out (by kernel_rfl) (by simp [Value.oneCell']) ?_)
             | fail)
           go_meet
           refine Lib.hid ⟨HG6.out.setCells, ?_⟩
           rw [HH.out]
           exact ⟨rfl,rfl,by omega,rfl,HR6.out.other (setCells_other _ _ _ _ hRT),four_in HT6.out _ _ _ _⟩
         · have hh:Im.rdHead ((2:Nat):Int) l=none:=by unfold Im.rdHead;rw [if_pos (show ((2:Nat):Int)=2 from rfl),if_neg h32]
           have HH:=Lib.hid hh
           have HC:=Lib.hid (set_no W0 W4 R l (by omega) HR4.out)
           clear hh
           go_wp2_with fail
           refine HC.out.mono ?_
           rintro e w6 ⟨rfl,hg6⟩
           have hT6:=(hg6.block T (by have:=HZ4.out;omega) (by intro e;injection e;omega)).trans HT4.out
           have HTH:=Lib.hid (there_ten hT6)
           have HG6:=Lib.hid (HG4.out.trans (Gr.of T hg6))
           clear hg6 hT6 HC
           go_wp2_with (first
             | (refine wpList_store_mid rfl 26 (.tmp 38) (.tmp 36) rfl T 1 #[.int .u64 0,.int .u64 0,.int .u64 0,.int .u64 0] rfl rfl HTH.out (by kernel_rfl) (by simp [Value.oneCell']) ?_)
             | fail)
           go_meet
           refine Lib.hid ⟨HG6.out.setCells, ?_⟩
           rw [HH.out]
       by_cases k5:kk=5
       · subst k5
         have HC:=Lib.hid (number_any W0 W4 R l (by omega) HBW4.out hR HR4.out)
         go_wp2_with fail
         refine HC.out.mono ?_
         rintro e w6 ⟨hg6,he6⟩
         have hT6:=(hg6.block T (by have:=HZ4.out;omega) (by intro e;injection e;omega)).trans HT4.out
         have HT6:=Lib.hid hT6;have HG6:=Lib.hid (HG4.out.trans (Gr.of T hg6))
         clear hg6 hT6 HC
         cases hn:Im.rdNum l with
         | none =>
           rw [hn] at he6
           subst he6
           have HH:=Lib.hid (show Im.rdHead ((5:Nat):Int) l=none by unfold Im.rdHead;rw [if_neg (by decide),if_pos (by decide)];simp only [hn])
           clear hn
           go_wp2
           go_meet
           refine Lib.hid ⟨HG6.out, ?_⟩
           rw [HH.out]
         | some x =>
           obtain ⟨n,r⟩:=x
           rw [hn] at he6
           obtain ⟨rfl,hr6⟩:=he6
           have hnl:=(rdNum_len hn).2
           have HH:=Lib.hid (show Im.rdHead ((5:Nat):Int) l=some (.node 5 0#64 0#64 0#64 0#64 [] 0 0 0 false,n,r) by unfold Im.rdHead;rw [if_neg (by decide),if_pos (by decide)];simp only [hn];rfl)
           have HR6:=Lib.hid hr6
           clear hn hr6
           go_wp2
           go_meet
           refine Lib.hid ⟨HG6.out, ?_⟩
           rw [HH.out]
           exact ⟨rfl,rfl,hnl,rfl,HR6.out,HT6.out⟩
       by_cases k6:kk=6
       · subst k6
         have HC:=Lib.hid (number_any W0 W4 R l (by omega) HBW4.out hR HR4.out)
         go_wp2_with fail
         refine HC.out.mono ?_
         rintro e w6 ⟨hg6,he6⟩
         have hT6:=(hg6.block T (by have:=HZ4.out;omega) (by intro e;injection e;omega)).trans HT4.out
         have HT6:=Lib.hid hT6;have HG6:=Lib.hid (HG4.out.trans (Gr.of T hg6))
         clear hg6 hT6 HC
         cases hn:Im.rdNum l with
         | none =>
           rw [hn] at he6
           subst he6
           have HH:=Lib.hid (show Im.rdHead ((6:Nat):Int) l=none by unfold Im.rdHead;rw [if_neg (by decide),if_pos (by decide)];simp only [hn])
           clear hn
           go_wp2
           go_meet
           refine Lib.hid ⟨HG6.out, ?_⟩
           rw [HH.out]
         | some x =>
           obtain ⟨n,r⟩:=x
           rw [hn] at he6
           obtain ⟨rfl,hr6⟩:=he6
           have hnl:=(rdNum_len hn).2
           have HH:=Lib.hid (show Im.rdHead ((6:Nat):Int) l=some (.node 6 0#64 0#64 0#64 0#64 [] 0 0 0 false,n,r) by unfold Im.rdHead;rw [if_neg (by decide),if_pos (by decide)];simp only [hn];rfl)
           have HR6:=Lib.hid hr6
           clear hn hr6
           go_wp2
           go_meet
           refine Lib.hid ⟨HG6.out, ?_⟩
           rw [HH.out]
           exact ⟨rfl,rfl,hnl,rfl,HR6.out,HT6.out⟩
       by_cases k7:kk=7
       · subst k7
         have HC:=Lib.hid (number_any W0 W4 R l (by omega) HBW4.out hR HR4.out)
         go_wp2_with fail
         refine HC.out.mono ?_
         rintro e w6 ⟨hg6,he6⟩
         have hT6:=(hg6.block T (by have:=HZ4.out;omega) (by intro e;injection e;omega)).trans HT4.out
         have HT6:=Lib.hid hT6;have HG6:=Lib.hid (HG4.out.trans (Gr.of T hg6))
         have c6:w6.cell? ⟨T,6,none⟩=some (.int .i64 0):=by simp [World.cell?,hT6]
         have f6:w6.frozen? ⟨T,6,none⟩=false:=by simp [World.frozen?,hT6]
         have HST:=Lib.hid (show ∀ v,(w6.setCell ⟨T,6,none⟩ v).heap[T]? = some (.cells #[.int .i64 ((7:Nat):Int),.int .u64 0,.int .u64 0,.int .u64 0,.int .u64 0,.slice none 0 0,v,.int .i64 0,.int .i64 0,.bool false] 29) from fun v=>by simp [World.setCell,Array.getElem?_modify,hT6])
         clear hg6 hT6 HC
         cases hn:Im.rdNum l with
         | none =>
           rw [hn] at he6
           subst he6
           have HH:=Lib.hid (show Im.rdHead ((7:Nat):Int) l=none by unfold Im.rdHead;rw [if_neg (by decide),if_neg (by decide),if_pos (by decide)];simp only [hn])
           clear hn
           go_wp2
           go_meet
           refine Lib.hid ⟨HG6.out.setCell, ?_⟩
           rw [HH.out]
         | some x =>
           obtain ⟨n,r⟩:=x
           rw [hn] at he6
           obtain ⟨rfl,hr6⟩:=he6
           have HH:=Lib.hid (show Im.rdHead ((7:Nat):Int) l=some (.node 7 0#64 0#64 0#64 0#64 [] n 0 0 false,1,r) by unfold Im.rdHead;rw [if_neg (by decide),if_neg (by decide),if_pos (by decide)];simp only [hn];rfl)
           have HR6:=Lib.hid hr6
           clear hn hr6
           go_wp2
           go_meet
           refine Lib.hid ⟨HG6.out.setCell, ?_⟩
           rw [HH.out]
           exact ⟨rfl,rfl,by omega,rfl,HR6.out.other (Below.heap_setCell _ _ _ _ (by exact hRT)),HST.out _⟩
       by_cases k8:kk=8
       · subst k8
         have HC:=Lib.hid (repeat_any W0 W4 R T l (by omega) HBW4.out hR (Ne.symm hRT) hW0T HR4.out _ _ _ _ _ _ _ _ _ _ HT4.out)
         go_wp2_with fail
         refine HC.out.mono ?_
         rintro e w6 ⟨hg6,he6⟩
         have HG6:=Lib.hid hg6
         clear hg6 HC
         cases hn:Im.rdRep l with
         | none =>
           rw [hn] at he6
           subst he6
           have HH:=Lib.hid (show Im.rdHead ((8:Nat):Int) l=none by unfold Im.rdHead;rw [if_neg (by decide),if_neg (by decide),if_neg (by decide),if_pos (by decide)];simp only [hn])
           clear hn
           go_wp2
           go_meet
           refine Lib.hid ⟨HG6.out, ?_⟩
           rw [HH.out]
         | some x =>
           obtain ⟨lo,hi,br,r⟩:=x
           rw [hn] at he6
           obtain ⟨rfl,hr6,ht6⟩:=he6
           have HH:=Lib.hid (show Im.rdHead ((8:Nat):Int) l=some (.node 8 0#64 0#64 0#64 0#64 [] 0 lo hi br,1,r) by unfold Im.rdHead;rw [if_neg (by decide),if_neg (by decide),if_neg (by decide),if_pos (by decide)];simp only [hn];rfl)
           have HR6:=Lib.hid hr6;have HT6:=Lib.hid ht6
           clear hn hr6 ht6
           go_wp2
           go_meet
           refine Lib.hid ⟨HG6.out, ?_⟩
           rw [HH.out]
           exact ⟨rfl,rfl,by omega,rfl,HR6.out,HT6.out⟩
       have HH:=Lib.hid (show Im.rdHead (kk:Int) l=some (.node kk 0#64 0#64 0#64 0#64 [] 0 0 0 false,0,l) by unfold Im.rdHead;rw [if_neg (by omega),if_neg (by omega),if_neg (by omega),if_neg (by omega)])
       have n2:((kk:Int) == 2)=false:=by rw [beq_eq_false_iff_ne];omega
       have n5:((kk:Int) == 5)=false:=by rw [beq_eq_false_iff_ne];omega
       have n6:((kk:Int) == 6)=false:=by rw [beq_eq_false_iff_ne];omega
       have n7:((kk:Int) == 7)=false:=by rw [beq_eq_false_iff_ne];omega
       have n8:((kk:Int) == 8)=false:=by rw [beq_eq_false_iff_ne];omega
       clear k2 k5 k6 k7 k8
       go_wp2
       go_meet
       refine Lib.hid ⟨HG4.out, ?_⟩
       rw [HH.out]
       exact ⟨rfl,rfl,by omega,rfl,HR4.out,HT4.out⟩
     case rest =>
       rename World=>wx
       have HX:=hcut
       have hz4:=HZ4.out
       have hgr:Gr W4 wx R T:=HX.out.1
       have key:∀ k,k < w.heap.size→k ≠ R→wx.heap[k]? = w.heap[k]?:=fun k hk hk2=>(hgr.block k (by omega) hk2 (by omega)).trans ((HB4.out.block k (by omega)).trans (HGW.out.block k hk (by intro e;injection e;omega)))
       have hgrw:∀ w',Gr W4 w' R T→∀ k,k < w.heap.size→k ≠ R→w'.heap[k]? = w.heap[k]?:=fun w' hg k hk hk2=>(hg.block k (by omega) hk2 (by omega)).trans ((HB4.out.block k (by omega)).trans (HGW.out.block k hk (by intro e;injection e;omega)))
       have HFIN:=Lib.hid (show ∀ w' cs,Gr W4 w' R T→w.grownBy (w'.setRow w.heap.size cs) (some R) from fun w' cs hg=>⟨hg.os.trans (HB4.out.os.trans HGW.out.os),hg.tape.trans (HB4.out.tape.trans HGW.out.tape),hg.output.trans (HB4.out.output.trans HGW.out.output),
         by simp;exact Nat.le_trans HGW.out.size (by have:=hg.size;omega),fun k hk hne=>(heap_setRow_other _ _ _ (by omega)).trans (hgrw w' hg k hk (fun e=>hne (by rw [e])))⟩)
       have HYF:=Lib.hid (show ∀ w',Gr W4 w' R T→w'.heap[w.heap.size]? = some (.cells #[.int .i64 0,.int .u64 0,.int .u64 0,.int .u64 0,.int .u64 0,.slice none 0 0,.int .i64 0,.int .i64 0,.int .i64 0,.bool false] 29) from fun w' hg=>(hg.block w.heap.size (by omega) (by omega) (by omega)).trans ((HB4.out.block w.heap.size (by omega)).trans Y1.out))
       clear key hgrw d0 d1 d2 d3 d4 d5 d6 d7 d8 d9
       cases hh:Im.rdHead (kk:Int) l with
       | none =>
         have h7:=HX.out.2
         rw [hh] at h7
         have HN:=Lib.hid (HRT.out.trans (by rw [hh]))
         have HY:=Lib.hid (HYF.out wx hgr);have HF:=Lib.hid (fun cs=>HFIN.out wx cs hgr)
         subst h7
         clear HX hgr hh hcut
         go_wp2_with (first
           | (refine wpList_store_row rfl 29 (.tmp 4) (.tmp 61) rfl w.heap.size #[.int .i64 0,.int .u64 0,.int .u64 0,.int .u64 0,.int .u64 0,.slice none 0 0,.int .i64 0,.int .i64 0,.int .i64 0,.bool false] rfl rfl 29 _ HY.out (by kernel_rfl) (by kernel_rfl) (by simp [Value.oneCell']) ?_)
           | fail)
         refine bodyPost_ret (results_row_one rfl _ _ w.heap.size 29 #[.int .i64 0,.int .u64 0,.int .u64 0,.int .u64 0,.int .u64 0,.slice none 0 0,.int .i64 0,.int .i64 0,.int .i64 0,.bool false] (0,0) _ (.bool false) rfl rfl (heap_setRow HY.out) Tryd.underlying29 rfl (by kernel_rfl)) rfl ⟨HF.out _, ?_⟩
         rw [HN.out]
       | some x =>
         obtain ⟨h,n,r⟩:=x
         have h7:=HX.out.2
         rw [hh] at h7
         obtain ⟨rfl,rfl,hn,hsub,hrx,htx⟩:=h7
         have hrl:=rdHead_len hh
         have HN:=Lib.hid (HRT.out.trans (by rw [hh]))
         have HS0:=Lib.hid (show SubsO W0 W4 R T room h n r [] r (.slice none 0 0) wx from ⟨by
             rw [show n - ([]:List (Tr × Value)).length=n from rfl]
             cases Im.rdS (Im.rdT room) n r with
             | none=>rfl
             | some x=>rfl,hrx,by simp;omega,htx,World.ownsRow_nil _ _ _ _,MemsAt.nil _ _ _,hgr⟩)
         clear HX hgr hh hcut hrx htx HG4 HR4 HT4
         obtain ⟨hk,hw0,hw1,hw2,hw3,hsb,hnum,hlo,hhi,hbr,hcells⟩:∃ a b c d e f g i j k,h=.node a b c d e f g i j k:=by cases h;exact ⟨_,_,_,_,_,_,_,_,_,_,rfl⟩
         subst hcells
         unfold Tr.cells at *
         go_wp2
         go_loopw [63] (fun iv wr=>∃ (ps:List (Tr × Value)) (rr:List UInt8) (u:Value),iv=.int .i64 (ps.length:Int)∧ps.length ≤ n∧Hid (SubsO W0 W4 R T room (.node hk hw0 hw1 hw2 hw3 hsb hnum hlo hhi hbr) n r ps rr u wr)) (fun iv _=>n - (intOf iv).toNat)
         case atStart=>exact ⟨[],r,.slice none 0 0,rfl,by simp,HS0⟩
         case round =>
           obtain ⟨ps,rr,u,rfl,hi,HSP⟩:=hrel
           clear HS0
           have wi:IntKind.i64.wrap ((ps.length:Int)+1)=(ps.length:Int)+1:=IntWalk.i64_in _ (by omega)
           have wroom:IntKind.i64.wrap ((room:Int)+1 - 1)=(room:Int):=by rw [show (room:Int)+1 - 1=(room:Int) by omega];exact IntWalk.i64_in _ (by omega)
           have wroom':(room:Int)+1 - 1=(room:Int):=by omega
           by_cases hlt:ps.length < n
           · have HCALL:=Lib.hid (IH.out rr wr (by omega) (by have:=HSP.out.len;omega) (HSP.out.gr.below HBW4.out hR hW0T) HSP.out.rest)
             have hsp:=HSP.out.read
             obtain ⟨m,hm⟩:∃ m,n - ps.length=m+1:=⟨n - ps.length - 1,by omega⟩
             rw [hm,Im.rdS] at hsp
             go_wp2_with fail
             refine HCALL.out.mono ?_
             rintro e w5 ⟨hg5,he5⟩
             cases ht:Im.rdT room rr with
             | none =>
               rw [ht] at he5 hsp
               subst he5
               have HNN:=Lib.hid (HN.out.trans (by rw [hsp]))
               have hgr5:=HSP.out.gr.trans (Gr.of T hg5)
               have hgr6:∀ o,Gr W4 (w5.alloc o) R T:=fun o=>hgr5.trans ⟨rfl,rfl,rfl,by simp,fun k hk _ _=>(World.grownBy_alloc w5 o none).block k hk (by simp)⟩
               have HY:=Lib.hid (fun o=>HYF.out (w5.alloc o) (hgr6 o));have HF:=Lib.hid (fun o cs=>HFIN.out (w5.alloc o) cs (hgr6 o))
               clear hgr5 hgr6 hg5 hsp ht HCALL
               go_wp2_with (first
                 | (refine wpList_store_row rfl 29 (.tmp 4) (.tmp 74) rfl w.heap.size #[.int .i64 0,.int .u64 0,.int .u64 0,.int .u64 0,.int .u64 0,.slice none 0 0,.int .i64 0,.int .i64 0,.int .i64 0,.bool false] rfl rfl 29 _ (HY.out _) (by kernel_rfl) (by kernel_rfl) (by simp [Value.oneCell']) ?_)
                 | fail)
               refine bodyPost_ret (results_row_one rfl _ _ w.heap.size 29 #[.int .i64 0,.int .u64 0,.int .u64 0,.int .u64 0,.int .u64 0,.slice none 0 0,.int .i64 0,.int .i64 0,.int .i64 0,.bool false] (0,0) _ (.bool false) rfl rfl (heap_setRow (HY.out _)) Tryd.underlying29 rfl (by kernel_rfl)) rfl ⟨HF.out _ _, ?_⟩
               rw [HNN.out]
             | some y =>
               obtain ⟨t,r1⟩:=y
               rw [ht] at he5 hsp
               obtain ⟨⟨s5,rfl,hs5⟩,hr5⟩:=he5
               have hlen5:=rdT_len room rr t r1 ht
               obtain ⟨p5,c5',rfl,hl5⟩:=hs5.slice
               obtain ⟨pu,cu,hu⟩:∃ p c,u=.slice p ps.length c:=by
                 rcases HSP.out.row.2 with ⟨e,h0⟩ | ⟨g,cap,cur,e,-⟩
                 · exact ⟨none,0,by rw [e,h0]⟩
                 · exact ⟨_,_,e⟩
               have hT5:w5.heap[T]? = wr.heap[T]?:=hg5.block T (Array.getElem?_eq_some_iff.1 HSP.out.cell).1 (by intro e;injection e;omega)
               have hTl:=(Array.getElem?_eq_some_iff.1 HSP.out.cell).1
               have hgT:=HSP.out.row.lt
               have hw5s:=hg5.size
               have hk5:∀ k,k < wr.heap.size→k ≠ R→w5.heap[k]? = wr.heap[k]?:=fun k hk hk2=>hg5.block k hk (by intro e;injection e;omega)
               have hrow5:w5.ownsRow (T+1) 29 10 u ps.length (rowOf ps):=HSP.out.row.kept hg5 (by
                 cases hub:Value.ownBlock u with
                 | none=>exact .inl rfl
                 | some g=>exact .inr (by intro e;injection e with e;have:=(hgT g hub).1;omega))
               have hsub5:MemsB w5 (T+1) u ps wr.heap.size:=HSP.out.subs.toB.kept fun b hb hB=>hk5 b hb (by omega)
               have HW6:=Lib.hid (show ∀ o cs,Below w5.heap.size w5 ((w5.alloc o).setRow w5.heap.size cs) from fun o cs=>⟨rfl,rfl,rfl,by simp,fun k hk=>(heap_setRow_other _ _ _ (by omega)).trans ((World.grownBy_alloc w5 o none).block k hk (by simp))⟩)
               have HZA:=Lib.hid (heap_alloc_new w5 (.cells #[.int .i64 0,.int .u64 0,.int .u64 0,.int .u64 0,.int .u64 0,.slice none 0 0,.int .i64 0,.int .i64 0,.int .i64 0,.bool false] 29))
               have hlen6:=HSP.out.len
               go_upto_region 25 with (first
                 | (refine wpList_store_row rfl 29 (.tmp 10) (.tmp 70) rfl w5.heap.size (t.cells (.slice p5 t.subs.length c5')) rfl rfl 29 _ HZA.out (by kernel_rfl) (by kernel_rfl) (by simp [Tr.cells,Value.oneCell']) ?_)
                 | fail)
               generalize hW6:World.setRow _ _ _=W6 at *
               have hb6:Below w5.heap.size w5 W6:=hW6 ▸ HW6.out _ _
               have hz6:W6.heap.size=w5.heap.size+1:=by rw [← hW6];simp
               have HX6:=Lib.hid (show W6.heap[w5.heap.size]? = some (.cells (t.cells (.slice p5 t.subs.length c5')) 29) from hW6 ▸ heap_setRow HZA.out)
               have HT6:=Lib.hid (show W6.heap[T]? = some (.cells ((fun y=>#[.int .i64 hk,.int .u64 (Oc.U hw0),.int .u64 (Oc.U hw1),.int .u64 (Oc.U hw2),.int .u64 (Oc.U hw3),y,.int .i64 hnum,.int .i64 hlo,.int .i64 hhi,.bool hbr]) u) 29) from (hb6.block T (by omega)).trans (hT5.trans HSP.out.cell))
               have HRW:=Lib.hid (show W6.ownsRow (T+1) 29 10 u ps.length (rowOf ps) from World.ownsRow.kept hrow5 (row:=none) ⟨hb6.os,hb6.tape,hb6.output,hb6.size,fun k hk _=>hb6.block k hk⟩ (by
                 cases hub:Value.ownBlock u with
                 | none=>exact .inl rfl
                 | some g=>exact .inr (by simp)))
               have HSU:=Lib.hid (hsub5.kept fun b hb _=>hb6.block b (by omega))
               have HSN:=Lib.hid (hs5.later hb6)
               have HR6:=Lib.hid (hr5.other (hb6.block R (by have:=hRw;have:=HZ4.out;have:=HSP.out.gr.size;omega)))
               have HG6:=Lib.hid (show Gr W4 W6 R T from (HSP.out.gr.trans (Gr.of T hg5)).trans ⟨hb6.os,hb6.tape,hb6.output,hb6.size,fun k hk _ _=>hb6.block k hk⟩)
               have HGT:=Lib.hid hgT
               have hX:w5.heap.size ≠ T∧u.ownBlock ≠ some w5.heap.size:=⟨by omega,fun e=>by have:=(hgT _ e).2;omega⟩
               have hspr:=HN.out
               have HREAD:=Lib.hid hsp
               clear hb6 hW6 HW6 HZA hrow5 hsub5 hs5 hr5 hg5 hT5 hk5 hgT hspr hsp ht HCALL
               obtain ⟨ie,hi0,hz0,hz1,hz2⟩:=info_parts Tryd.infoNode
               refine Ri.wp_region_frame (by kernel_rfl) (by kernel_rfl) (by kernel_rfl) (by kernel_rfl)
                 (fun L v w'=>RegI W6 T (fun y=>#[.int .i64 hk,.int .u64 (Oc.U hw0),.int .u64 (Oc.U hw1),.int .u64 (Oc.U hw2),.int .u64 (Oc.U hw3),y,.int .i64 hnum,.int .i64 hlo,.int .i64 hhi,.bool hbr]) (t.cells (.slice p5 t.subs.length c5')) #[.int .i64 0,.int .u64 0,.int .u64 0,.int .u64 0,.int .u64 0,.slice none 0 0,.int .i64 0,.int .i64 0,.int .i64 0,.bool false] u ps.length (rowOf ps) L v w') ?_ ?_ ?_
               · exact ⟨rfl,rfl,rfl,Nat.le_refl _,fun _ _ _ _=>rfl,fun h=>(by cases h),fun h=>(by cases h),fun h=>(by cases h),fun _=>HT6.out,fun h=>(by cases h),fun _=>HRW.out,fun h=>(by cases h),fun h=>(by cases h),fun h=>(by cases h),fun h=>(by cases h),fun h=>(by cases h),fun h=>(by cases h),fun h=>(by cases h),fun h=>(by cases h),fun h=>(by cases h),fun h=>(by cases h)⟩
               · intro i hi9 L v w9 xa hI hL hd hv ho
                 have hi':i=0 ∨ i=1 ∨ i=2 ∨ i=3 ∨ i=4 ∨ i=5 ∨ i=6 ∨ i=7 ∨ i=8 ∨ i=9:=by simp at hi9;omega
                 have f5:L 5=false ∨ L 5=true:=by cases L 5 <;> simp
                 rcases hi' with rfl | rfl | rfl | rfl | rfl | rfl | rfl | rfl | rfl | rfl
                 · have e8:xa.tmps.getD 8 undef=.pointer (some ⟨T,0,none⟩):=ho 8 (by kernel_rfl)
                   refine Ri.step_plain rfl rfl (fun K' hK=>?_)
                   go_simp
                   exact hK _ _ ⟨_,_,rfl,rfl,{ hI with d5:=fun h=>⟨rfl,(hI.d5 h).2⟩,v0:=fun _=>rfl }⟩
                 · have l0:L 0=true:=by have:=hd _ rfl;simp [Region.binds] at this;simp [this]
                   have h5:L 5=false:=by rcases f5 with h | h;exact h;rw [(hI.d5 h).2.1] at hL;cases hL
                   have h9:L 9=false:=by cases h:L 9 with | false=>rfl | true=>rw [hI.d9 h] at h5;cases h5
                   have f0:=(hv 0 75 rfl l0).trans (hI.v0 l0)
                   have ht0:=hI.t0 h9
                   have c5:w9.cell? ⟨T,5,none⟩=some u:=by simp [World.cell?,ht0]
                   refine Ri.step_plain rfl rfl (fun K' hK=>?_)
                   go_simp
                   exact hK _ _ ⟨_,_,rfl,rfl,{ hI with d5:=fun h=>⟨(hI.d5 h).1,rfl,(hI.d5 h).2.2⟩,v1:=fun _=>hu.symm }⟩
                 · have e10:xa.tmps.getD 10 undef=.pointer (some ⟨w5.heap.size,0,none⟩):=ho 10 (by kernel_rfl)
                   refine Ri.step_plain rfl rfl (fun K' hK=>?_)
                   refine wp_load_row _ _ rfl _ e10 _ _ _ _ ((hI.blk w5.heap.size (by omega) hX.1 hX.2).trans HX6.out) Tryd.underlying29 rfl (by kernel_rfl) ?_
                   exact hK _ _ ⟨_,_,rfl,rfl,{ hI with d5:=fun h=>⟨(hI.d5 h).1,(hI.d5 h).2.1,rfl,(hI.d5 h).2.2.2⟩,v2:=fun _=>rfl }⟩
                 · have l1:L 1=true:=by have:=hd _ rfl;simp [Region.binds] at this;simp [this]
                   have f1:=(hv 1 76 rfl l1).trans (hI.v1 l1)
                   rw [hu] at f1
                   refine Ri.step_plain rfl rfl (fun K' hK=>?_)
                   go_simp
                   exact hK _ _ ⟨_,_,rfl,rfl,{ hI with d5:=fun h=>⟨(hI.d5 h).1,(hI.d5 h).2.1,(hI.d5 h).2.2.1,rfl,(hI.d5 h).2.2.2.2⟩,v3:=fun _=>rfl }⟩
                 · have h5:L 5=false:=by rcases f5 with h | h;exact h;rw [(hI.d5 h).2.2.2.2] at hL;cases hL
                   have h7:L 7=false:=by cases h:L 7 with | false=>rfl | true=>rw [hI.d7 h] at h5;cases h5
                   have h9:L 9=false:=by cases h:L 9 with | false=>rfl | true=>rw [hI.d9 h] at h5;cases h5
                   refine Ri.step_plain rfl rfl (fun K' hK=>?_)
                   refine wp_node0 rfl ?_
                   have hal:=(World.grownBy_alloc w9 (.cells #[.int .i64 0,.int .u64 0,.int .u64 0,.int .u64 0,.int .u64 0,.slice none 0 0,.int .i64 0,.int .i64 0,.int .i64 0,.bool false] 29) none)
                   exact hK _ _ ⟨_,_,rfl,rfl,⟨hI.os,hI.tape,hI.output,Nat.le_trans hI.size hal.size,fun k hk h1 h2=>(hal.block k (Nat.lt_of_lt_of_le hk hI.size) (by simp)).trans (hI.blk k hk h1 h2),
                     fun h=>⟨(hI.d5 h).1,(hI.d5 h).2.1,(hI.d5 h).2.2.1,(hI.d5 h).2.2.2.1,rfl⟩,hI.d7,hI.d9,
                     fun h=>heap_alloc_lt (hI.t0 h),fun h=>heap_alloc_lt (hI.t1 h),fun h=>(hI.r0 h).alloc _,fun h h2=>(hI.r1 h h2).alloc _,fun h=>(hI.r2 h).alloc _,
                     hI.ob,hI.v0,hI.v1,hI.v2,hI.v3,fun _=>⟨_,rfl,hI.size,fun _=>heap_alloc_new _ _⟩,hI.v6,hI.v8⟩⟩
                 · have l1:L 1=true:=by have:=hd _ rfl;simp [Region.binds] at this;simp [this]
                   have l3:L 3=true:=by have:=hd _ rfl;simp [Region.binds] at this;simp [this]
                   have l4:L 4=true:=by have:=hd _ rfl;simp [Region.binds] at this;simp [this]
                   have l0:L 0=true:=by have:=hd _ rfl;simp [Region.binds] at this;simp [this]
                   have l2:L 2=true:=by have:=hd _ rfl;simp [Region.binds] at this;simp [this]
                   have f1:=(hv 1 76 rfl l1).trans (hI.v1 l1)
                   obtain ⟨z,hz,hzl,hzc⟩:=hI.v4 l4
                   have f4:=(hv 4 79 rfl l4).trans hz
                   have h7:L 7=false:=by cases h:L 7 with | false=>rfl | true=>have h5:=hI.d7 h;rw [hL] at h5;cases h5
                   have h9:L 9=false:=by cases h:L 9 with | false=>rfl | true=>have h5:=hI.d9 h;rw [hL] at h5;cases h5
                   have hTs:T < W6.heap.size:=by omega
                   refine Ri.step_plain rfl rfl (fun K' hK=>?_)
                   refine wp_append1 (.tmp 76) (.tmp 79) rfl (T+1) ps.length u (rowOf ps) f1 (hI.r0 hL) z f4 (hzc hL) (by omega) (by have:=hI.size;omega) ?_
                   intro v' w' h2 h3 h4
                   exact hK _ _ ⟨_,_,rfl,rfl,⟨h3.os.trans hI.os,h3.tape.trans hI.tape,h3.output.trans hI.output,Nat.le_trans hI.size h3.size,
                     fun k hk h1 h2=>(h3.block k (Nat.lt_of_lt_of_le hk hI.size) (fun e=>h2 e.symm)).trans (hI.blk k hk h1 h2),
                     fun _=>⟨l0,l1,l2,l3,l4⟩,fun _=>rfl,fun _=>rfl,
                     fun _=>(h3.block T (Nat.lt_of_lt_of_le hTs hI.size) (fun e=>by have:=(HGT.out T e.symm).1;omega)).trans (hI.t0 h9),fun h=>absurd (h9.symm.trans h) (by decide),fun h=>(by cases h),fun _ _=>h2,fun h=>absurd (h7.symm.trans h) (by decide),
                     fun _=>h4.imp id (fun e=>⟨_,e,hI.size⟩),hI.v0,hI.v1,hI.v2,hI.v3,fun _=>⟨z,hz,hzl,fun h=>(by cases h)⟩,fun h=>absurd (hL.symm.trans (hI.v6 h).1) (by decide),hI.v8⟩⟩
                 · have l5:L 5=true:=by have:=hd _ rfl;simp [Region.binds] at this;simp [this]
                   have l3:=(hI.d5 l5).2.2.2.1
                   obtain ⟨g,c,hgc⟩:∃ g c,v 5=.slice (some ⟨g,0,none⟩) (ps.length+1) c:=by
                     cases h7:L 7 with
                     | false=>exact owns_slice (hI.r1 l5 h7)
                     | true=>exact owns_slice (hI.r2 h7)
                   have f5':=(hv 5 80 rfl l5).trans hgc
                   have f3:=(hv 3 78 rfl l3).trans (hI.v3 l3)
                   refine Ri.step_plain rfl rfl (fun K' hK=>?_)
                   refine wp_index1 (.tmp 80) (.tmp 78) rfl g ps.length c f5' f3 ?_
                   exact hK _ _ ⟨_,_,rfl,rfl,{ hI with v6:=fun _=>⟨l5,g,c,hgc,rfl⟩ }⟩
                 · have l6:L 6=true:=by have:=hd _ rfl;simp [Region.binds] at this;simp [this]
                   obtain ⟨l5,g,c,hgc,hp6⟩:=hI.v6 l6
                   have l2:=(hI.d5 l5).2.2.1
                   have f6:=(hv 6 81 rfl l6).trans hp6
                   have f2:=(hv 2 77 rfl l2).trans (hI.v2 l2)
                   have hrow:=hI.r1 l5 hL
                   rw [hgc] at hrow
                   obtain ⟨hth,hrow2,hgb⟩:=row_last (rowOf_length ps) rfl (show (t.cells (.slice p5 t.subs.length c5')).toList.length=10 by simp [Tr.cells]) hrow
                   have hst:=streams_setCells g (t.cells (.slice p5 t.subs.length c5')).toList (ps.length * 10) w9
                   have hsz:=size_setCells g (t.cells (.slice p5 t.subs.length c5')).toList (ps.length * 10) w9
                   have hog:∀ k,k < W6.heap.size→u.ownBlock ≠ some k→k ≠ g:=fun k hk hne e=>by
                     rcases hI.ob l5 with h | ⟨q,h,hq⟩
                     · rw [hgc] at h;exact hne (h.symm.trans (by rw [e];rfl))
                     · rw [hgc] at h;have h2:some g=some q:=h;injection h2 with h2;omega
                   refine Ri.step_plain rfl rfl (fun K' hK=>?_)
                   refine wp_store_mid 29 (.tmp 81) (.tmp 77) rfl g (ps.length * 10) (t.cells (.slice p5 t.subs.length c5')) f6 f2 hth (by kernel_rfl) (by simp [Tr.cells,Value.oneCell']) ?_
                   exact hK _ _ ⟨_,_,rfl,rfl,⟨hst.1.trans hI.os,hst.2.1.trans hI.tape,hst.2.2.trans hI.output,by rw [hsz];exact hI.size,
                     fun k hk h1 h2=>(setCells_other _ _ _ _ (hog k hk h2)).trans (hI.blk k hk h1 h2),
                     hI.d5,fun _=>l5,hI.d9,fun h=>(setCells_other _ _ _ _ (by omega)).trans (hI.t0 h),fun h=>(setCells_other _ _ _ _ (by omega)).trans (hI.t1 h),
                     fun h=>absurd (l5.symm.trans h) (by decide),fun _ h=>(by cases h),fun _=>(show World.ownsRow _ (T+1) 29 10 (v 5) (ps.length+1) (rowOf ps ++ (t.cells (.slice p5 t.subs.length c5')).toList) by rw [hgc];exact hrow2),
                     hI.ob,hI.v0,hI.v1,hI.v2,hI.v3,fun h=>(hI.v4 h).imp fun z hz=>⟨hz.1,hz.2.1,fun h5=>absurd (l5.symm.trans h5) (by decide)⟩,hI.v6,hI.v8⟩⟩
                 · have e8:xa.tmps.getD 8 undef=.pointer (some ⟨T,0,none⟩):=ho 8 (by kernel_rfl)
                   refine Ri.step_plain rfl rfl (fun K' hK=>?_)
                   go_simp
                   exact hK _ _ ⟨_,_,rfl,rfl,{ hI with v8:=fun _=>rfl }⟩
                 · have l8:L 8=true:=by have:=hd _ rfl;simp [Region.binds] at this;simp [this]
                   have l5:L 5=true:=by have:=hd _ rfl;simp [Region.binds] at this;simp [this]
                   have f8:=(hv 8 82 rfl l8).trans (hI.v8 l8)
                   have f5':=hv 5 80 rfl l5
                   have hT0:=hI.t0 hL
                   have c5:w9.cell? ⟨T,5,none⟩=some u:=by simp [World.cell?,hT0]
                   have z5:w9.frozen? ⟨T,5,none⟩=false:=by simp [World.frozen?,hT0]
                   obtain ⟨g,c,hgc⟩:∃ g c,v 5=.slice (some ⟨g,0,none⟩) (ps.length+1) c:=by
                     cases h7:L 7 with
                     | false=>exact owns_slice (hI.r1 l5 h7)
                     | true=>exact owns_slice (hI.r2 h7)
                   have f5'':=f5'.trans hgc
                   refine Ri.step_plain rfl rfl (fun K' hK=>?_)
                   go_simp
                   exact hK _ _ ⟨_,undef,rfl,rfl,⟨hI.os,hI.tape,hI.output,by simpa using hI.size,
                     fun k hk h1 h2=>(Below.heap_setCell _ _ _ _ (by exact h1)).trans (hI.blk k hk h1 h2),
                     hI.d5,hI.d7,fun _=>l5,fun h=>(by cases h),fun _=>(by show _=some (Obj.cells ((fun y=>#[.int .i64 hk,.int .u64 (Oc.U hw0),.int .u64 (Oc.U hw1),.int .u64 (Oc.U hw2),.int .u64 (Oc.U hw3),y,.int .i64 hnum,.int .i64 hlo,.int .i64 hhi,.bool hbr]) (v 5)) 29);rw [hgc];exact set5 hT0),
                     fun h=>absurd (l5.symm.trans h) (by decide),fun h h2=>owns_setCell (hI.r1 h h2) (by omega),fun h=>owns_setCell (hI.r2 h) (by omega),
                     hI.ob,hI.v0,hI.v1,hI.v2,hI.v3,fun h=>(hI.v4 h).imp fun z hz=>⟨hz.1,hz.2.1,fun h5=>absurd (l5.symm.trans h5) (by decide)⟩,hI.v6,hI.v8⟩⟩
               · rintro v w9 hI
                 simp only [Ri.frame,List.zipIdx,List.foldl_cons,List.foldl_nil,if_true,List.setIfInBounds_toArray,List.set_cons_zero,List.set_cons_succ,Nat.reduceAdd]
                 have HIF:=Lib.hid hI
                 clear hI
                 generalize hv5:v 5=vv at *
                 generalize v 0=y0;generalize v 1=y1;generalize v 2=y2;generalize v 3=y3;generalize v 4=y4;generalize v 6=y6;generalize v 8=y8
                 go_wp2
                 exact ⟨⟨ps ++ [(t,.slice p5 t.subs.length c5')],r1,vv,by rw [List.length_append];go_num,by rw [List.length_append];simp;omega,
                   Lib.hid (SubsO.next HIF.out rfl rfl rfl hv5 hm HREAD.out HR6.out (by omega) (by omega) hlen6 hlen5 HGT.out HSU.out (by omega) HSN.out (by have:=HSP.out.gr.size;have:=HZ4.out;omega) HG6.out HZ4.out)⟩,by simp [intOf];omega⟩
           · have hin:ps.length=n:=by omega
             obtain ⟨pu,cu,hu⟩:∃ p c,u=.slice p ps.length c:=by
               rcases HSP.out.row.2 with ⟨e,h0⟩ | ⟨g,cap,cur,e,-⟩
               · exact ⟨none,0,by rw [e,h0]⟩
               · exact ⟨_,_,e⟩
             subst hu
             have hsp:=HSP.out.read
             rw [show n - ps.length=0 by omega,Im.rdS] at hsp
             have HNN:=Lib.hid (HN.out.trans (by rw [hsp]))
             have hTw:=HSP.out.cell
             have HTW:=Lib.hid hTw
             have HY:=Lib.hid (HYF.out wr HSP.out.gr);have HF:=Lib.hid (fun cs=>HFIN.out wr cs HSP.out.gr)
             have HTR:=Lib.hid (show OwnT wr (T+1) _ _ from owned_of_row HSP.out.row (by have:=HSP.out.len;omega) HSP.out.subs)
             have HRR:=Lib.hid HSP.out.rest
             have e1:decide ((ps.length:Int) < n)=false:=by rw [decide_eq_false_iff_not];omega
             have e1':decide (ps.length < n)=false:=by rw [decide_eq_false_iff_not];omega
             clear hsp hTw HSP hin
             unfold Tr.cells at *
             go_wp2_with (first
               | (refine wpList_load_row rfl 29 (.tmp 8) rfl T rfl 29 _ (0,0) _ HTW.out Tryd.underlying29 rfl (by kernel_rfl) ?_)
               | (refine wpList_store_row rfl 29 (.tmp 4) (.tmp 84) rfl w.heap.size _ rfl rfl 29 _ HY.out (by kernel_rfl) (by kernel_rfl) (by simp [Value.oneCell']) ?_)
               | fail)
             refine bodyPost_ret (results_row_one rfl _ _ w.heap.size 29 _ (0,0) _ (.bool true) rfl rfl (heap_setRow HY.out) Tryd.underlying29 rfl (by kernel_rfl)) rfl ⟨HF.out _, ?_⟩
             rw [HNN.out]
             refine ⟨⟨.slice pu ps.length cu,rfl, ?_⟩,HRR.out.other (heap_setRow_other _ _ _ (by omega))⟩
             rw [List.append_nil]
             exact (HTR.out.keep (w':=wr.setRow w.heap.size _) fun b hb=>heap_setRow_other _ _ _ (by omega)).mono (by omega)
end Go.Proofs.YtoepdfpnkmccoaaDoor
namespace Go.Proofs.YtoepdfpnkmccoaaDoor
open Go.RowKit
def DecOwn (A:Nat→Addr) (l:List UInt8) (w:World) (e:Ending) (w':World):Prop :=
 Below w.heap.size w w'∧match Im.decB l with
   | some t=>∃ s,e=.returned (.tuple #[.agg (t.cells s),.nilIface])∧OwnT w' w.heap.size s t.subs
   | none=>e=.returned (.tuple #[.agg #[.int .i64 0,.int .u64 0,.int .u64 0,.int .u64 0,.int .u64 0,.slice none 0 0,.int .i64 0,.int .i64 0,.int .i64 0,.bool false],sentV A 17])
theorem decode_own (A:Nat→Addr) (l:List UInt8) (hl:l.length ≤ 140737488351232) (w:World) (hE:Errs w A) (v:Value) (hv:BsAt w v l):Calls Tryd.prog 10 #[v] w (DecOwn A l w):=by
 have HP:=Lib.hid (fun w' (h:Below w.heap.size w w') q hq=>cutprefix_any l hl v q w' (hv.below h) hq)
 have HCK:=Lib.hid (fun t (hd:t.dpT ≤ 1000000) w' (h:Below w.heap.size w w') B v hv=>treecheck_any A t hd w' (hE.below h) B v hv)
 have HE:=Lib.hid hE
 have hcv:∀ w:World,(convert 22 22 (.slice (some ⟨w.heap.size,0,none⟩) 5 5)).run Tryd.prog (w.alloc (.cells #[.int .u8 84,.int .u8 82,.int .u8 87,.int .u8 76,.int .u8 1] 5))=.ok (.slice (some ⟨w.heap.size,0,none⟩) 5 5) (w.alloc (.cells #[.int .u8 84,.int .u8 82,.int .u8 87,.int .u8 76,.int .u8 1] 5 (5,6))) :=
   fun w=>Lib.run_convert_bytes_const w 22 5 #[.int .u8 84,.int .u8 82,.int .u8 87,.int .u8 76,.int .u8 1] 5 5 Tryd.underlying22 Tryd.underlying5
 clear hE hv
 have hb0:∀ o,Below w.heap.size w (w.alloc o):=fun o=>(Below.refl _ _).alloc (Nat.le_refl _) o
 have HB0:=Lib.hid hb0
 clear hb0
 go_enter Tryd.func10,Tryd.ntmps10
 go_upto_region 1 with (fail)
 generalize hW1:World.alloc w _=W1
 have HB1:=Lib.hid (show Below w.heap.size w W1 from hW1 ▸ HB0.out _)
 have Z1:=Lib.hid (show W1.heap[w.heap.size]? = _ from hW1 ▸ heap_alloc_new w _)
 clear hW1
 have HB2:=Lib.hid (HB1.out.alloc HB1.out.size (.cells #[.int .u8 84,.int .u8 82,.int .u8 87,.int .u8 76,.int .u8 1] 5 (5,6)))
 have Z2:=Lib.hid (heap_alloc_lt (o:=.cells #[.int .u8 84,.int .u8 82,.int .u8 87,.int .u8 76,.int .u8 1] 5 (5,6)) Z1.out)
 go_wp2_with fail
 refine (HP.out _ HB2.out _ (head_at _)).mono ?_
 rintro e w1 ⟨⟨v',rfl,hv'⟩,rfl⟩
 generalize hW2:World.alloc W1 _=W2 at *
 have G:=(HE.out 16 (by omega)).1
 have G':w.cell? ⟨0,0,none⟩=some (.iface 171 (.pointer (some (A 16)))):=G
 have HG:=Lib.hid G'
 have hs2:w.heap.size < W2.heap.size:=(Array.getElem?_eq_some_iff.1 Z2.out).1
 have HVV:=Lib.hid hv'
 clear G G' hcv hv' hW2 HP HB0 Z1 HB1
 cases hh:isHead l with
 | false =>
   have HDB:=Lib.hid (show Im.decB l=none by unfold Im.decB;rw [hh];rfl)
   clear hh HVV HCK
   go_upto_region 3 with (fail)
   refine Ri.wp_region_frame (by kernel_rfl) (by kernel_rfl) (by kernel_rfl) (by kernel_rfl)
     (fun L v w'=>Below w.heap.size w w'∧W2.heap.size ≤ w'.heap.size∧(L 2=true→w'.heap[w.heap.size]? = some (.cells #[.int .i64 0,.int .u64 0,.int .u64 0,.int .u64 0,.int .u64 0,.slice none 0 0,.int .i64 0,.int .i64 0,.int .i64 0,.bool false] 29))∧(L 2=false→w'.heap[w.heap.size]? = some (.cells #[.int .i64 0,.int .u64 0,.int .u64 0,.int .u64 0,.int .u64 0,.slice none 0 0,.int .i64 0,.int .i64 0,.int .i64 0,.bool false] 29))∧(L 0=true→v 0=.agg #[.int .i64 0,.int .u64 0,.int .u64 0,.int .u64 0,.int .u64 0,.slice none 0 0,.int .i64 0,.int .i64 0,.int .i64 0,.bool false])∧(L 1=true→v 1=.iface 171 (.pointer (some (A 16))))∧(L 3=true→v 3=.iface 171 (.pointer (some (A 16)))))
     ?_ ?_ ?_
   · exact ⟨HB2.out.drew,Nat.le_refl _,(by simp),(fun _=>Z2.out),by simp,by simp,by simp⟩
   · intro i hi9 L v w9 xa hI hL hd hv ho
     have hi':i=0 ∨ i=1 ∨ i=2 ∨ i=3:=by simp at hi9;omega
     obtain ⟨hb,hz,qn,qo,q0,q1,q3⟩:=hI
     rcases hi' with rfl | rfl | rfl | rfl
     · refine Ri.step_plain rfl rfl (fun K' hK=>?_)
       go_simp
       exact hK _ _ ⟨_,_,rfl,rfl,hb,hz,qn,qo,fun _=>rfl,q1,q3⟩
     · refine Ri.step_plain rfl rfl (fun K' hK=>?_)
       obtain g9:=(hb.cell (p:=⟨0,0,none⟩) (block_lt_of_cell HG.out)).trans HG.out
       go_simp
       exact hK _ _ ⟨_,_,rfl,rfl,hb,hz,qn,qo,q0,fun _=>rfl,q3⟩
     · have l0:L 0=true:=by have:=hd _ rfl;simp [Region.binds] at this;simp [this]
       have f0:=(hv 0 17 rfl l0).trans (q0 l0)
       have e2:xa.tmps.getD 2 undef=.pointer (some ⟨w.heap.size,0,none⟩):=ho 2 (by kernel_rfl)
       refine Ri.step_plain rfl rfl (fun K' hK=>?_)
       refine wp_store_row _ _ _ rfl w.heap.size #[.int .i64 0,.int .u64 0,.int .u64 0,.int .u64 0,.int .u64 0,.slice none 0 0,.int .i64 0,.int .i64 0,.int .i64 0,.bool false] e2 f0 29 _ (qo hL) (by kernel_rfl) (by kernel_rfl) (by simp [Value.oneCell']) ?_
       exact hK _ _ ⟨_,undef,rfl,rfl,below_setRow hb (Nat.le_refl _) _,by simpa using hz,(fun _=>heap_setRow (qo hL)),(fun h=>by cases h),q0,q1,q3⟩
     · have l0:L 1=true:=by have:=hd _ rfl;simp [Region.binds] at this;simp [this]
       have f1:=(hv 1 18 rfl l0).trans (q1 l0)
       refine Ri.step_plain rfl rfl (fun K' hK=>?_)
       go_simp
       exact hK _ _ ⟨_,_,rfl,rfl,hb,hz,qn,qo,q0,q1,fun _=>rfl⟩
   · rintro v w9 ⟨hb,hz,qn,-,-,-,q3⟩
     have zN:=qn rfl;clear qn
     have q3':v 3=.iface 171 (.pointer (some (A 16))):=q3 rfl
     simp only [Ri.frame,List.zipIdx,List.foldl_cons,List.foldl_nil,if_true,List.setIfInBounds_toArray,List.set_cons_zero,List.set_cons_succ,Nat.reduceAdd,q3']
     clear q3 q3'
     generalize v 0=y0;generalize v 1=y1
     have HBw:=Lib.hid hb
     have ZN:=Lib.hid zN
     clear hb zN
     go_wp2
     exact bodyPost_ret (results_row_one rfl _ _ w.heap.size 29 #[.int .i64 0,.int .u64 0,.int .u64 0,.int .u64 0,.int .u64 0,.slice none 0 0,.int .i64 0,.int .i64 0,.int .i64 0,.bool false] (0,0) _ _ rfl rfl ZN.out Tryd.underlying29 rfl (by kernel_rfl)) rfl ⟨HBw.out,by rw [HDB.out];rfl⟩
 | true =>
   have hv2:=HVV.out hh
   have hl5:(l.drop 5).length ≤ 140737488351232:=by rw [List.length_drop];omega
   have HRN:=Lib.hid (show Im.decB l=match Im.rdT 200 (l.drop 5) with
     | some (t,[])=>if t.checkC=0 then some t else none
     | _=>none by unfold Im.decB;rw [if_pos hh];first | done | rfl)
   obtain ⟨p',c',rfl,-⟩:=hv2.len
   have HV2:=Lib.hid hv2
   have HZR:=Lib.hid (heap_alloc_new W2 (.cells #[.slice none 0 0] 81))
   have HAR:=Lib.hid (show ∀ o cs,Below W2.heap.size W2 ((W2.alloc o).setRow W2.heap.size cs) from fun o cs=>⟨rfl,rfl,rfl,by simp,fun k hk=>(heap_setRow_other _ _ _ (by omega)).trans ((World.grownBy_alloc W2 o none).block k hk (by simp))⟩)
   clear hv2 hh HVV
   generalize l.drop 5=m at *
   go_upto_region 5 with (first
     | (refine wpList_store_row rfl 81 (.tmp 6) (.tmp 20) rfl W2.heap.size #[.slice p' m.length c'] rfl rfl 81 _ HZR.out (by kernel_rfl) (by kernel_rfl) (by simp [Value.oneCell']) ?_)
     | fail)
   generalize hW3:World.setRow _ _ _=W3 at *
   have hb3:Below W2.heap.size W2 W3:=hW3 ▸ HAR.out _ _
   have hr3:RdI W2 W3 W2.heap.size m:=⟨.slice p' m.length c',hW3 ▸ heap_setRow HZR.out,HV2.out⟩
   have hs3:W2.heap.size+1 ≤ W3.heap.size:=by rw [← hW3];simp
   have HB3:=Lib.hid (HB2.out.trans (hb3.mono HB2.out.size))
   have Z3:=Lib.hid ((hb3.block w.heap.size hs2).trans Z2.out)
   have HND:=Lib.hid (node_own W2 W2.heap.size (Nat.le_refl _) 200 m W3 (by omega) hl5 hb3 hr3)
   clear hW3 hb3 hr3 HAR HZR HV2 Z2
   go_wp2_with fail
   refine HND.out.mono ?_
   rintro e w5 ⟨hg5,he5⟩
   have hs5:=hg5.size
   have hbw5:Below w.heap.size w w5:=HB3.out.grown hg5 HB3.out.size (fun k e=>by injection e;omega)
   have HB5:=Lib.hid hbw5
   have Z5:=Lib.hid ((hg5.block w.heap.size (by omega) (by intro e;injection e;omega)).trans Z3.out)
   clear hbw5 hg5 HND HB3 Z3 HB2
   cases hd:Im.rdT 200 m with
   | none =>
     rw [hd] at he5
     subst he5
     have HDB:=Lib.hid (HRN.out.trans (by rw [hd]))
     clear hd HRN HCK
     have HZ7:=Lib.hid (heap_alloc_new w5 (.cells #[.int .i64 0,.int .u64 0,.int .u64 0,.int .u64 0,.int .u64 0,.slice none 0 0,.int .i64 0,.int .i64 0,.int .i64 0,.bool false] 29))
     have HA7:=Lib.hid (show ∀ o cs,Below w5.heap.size w5 ((w5.alloc o).setRow w5.heap.size cs) from fun o cs=>⟨rfl,rfl,rfl,by simp,fun k hk=>(heap_setRow_other _ _ _ (by omega)).trans ((World.grownBy_alloc w5 o none).block k hk (by simp))⟩)
     go_upto_region 6 with (first
       | (refine wpList_store_row rfl 29 (.tmp 7) (.tmp 23) rfl w5.heap.size #[.int .i64 0,.int .u64 0,.int .u64 0,.int .u64 0,.int .u64 0,.slice none 0 0,.int .i64 0,.int .i64 0,.int .i64 0,.bool false] rfl rfl 29 _ HZ7.out (by kernel_rfl) (by kernel_rfl) (by simp [Value.oneCell']) ?_)
       | fail)
     generalize hW7:World.setRow _ _ _=W7 at *
     have hb7:Below w5.heap.size w5 W7:=hW7 ▸ HA7.out _ _
     have HB7:=Lib.hid (HB5.out.trans (hb7.mono HB5.out.size))
     have Z7:=Lib.hid ((hb7.block w.heap.size (by omega)).trans Z5.out)
     have HT7:=Lib.hid (show W7.heap[w5.heap.size]? = some (.cells #[.int .i64 0,.int .u64 0,.int .u64 0,.int .u64 0,.int .u64 0,.slice none 0 0,.int .i64 0,.int .i64 0,.int .i64 0,.bool false] 29) from hW7 ▸ heap_setRow HZ7.out)
     clear hW7 HA7 HZ7 hb7
     go_upto_region 7 with (fail)
     refine Ri.wp_region_frame (by kernel_rfl) (by kernel_rfl) (by kernel_rfl) (by kernel_rfl)
       (fun L v w'=>Below w.heap.size w w'∧W7.heap.size ≤ w'.heap.size∧(L 2=true→w'.heap[w.heap.size]? = some (.cells #[.int .i64 0,.int .u64 0,.int .u64 0,.int .u64 0,.int .u64 0,.slice none 0 0,.int .i64 0,.int .i64 0,.int .i64 0,.bool false] 29))∧(L 2=false→w'.heap[w.heap.size]? = some (.cells #[.int .i64 0,.int .u64 0,.int .u64 0,.int .u64 0,.int .u64 0,.slice none 0 0,.int .i64 0,.int .i64 0,.int .i64 0,.bool false] 29))∧(L 0=true→v 0=.agg #[.int .i64 0,.int .u64 0,.int .u64 0,.int .u64 0,.int .u64 0,.slice none 0 0,.int .i64 0,.int .i64 0,.int .i64 0,.bool false])∧(L 1=true→v 1=.iface 171 (.pointer (some (A 16))))∧(L 3=true→v 3=.iface 171 (.pointer (some (A 16)))))
       ?_ ?_ ?_
     · exact ⟨HB7.out.drew,Nat.le_refl _,(by simp),(fun _=>Z7.out),by simp,by simp,by simp⟩
     · intro i hi9 L v w9 xa hI hL hd hv ho
       have hi':i=0 ∨ i=1 ∨ i=2 ∨ i=3:=by simp at hi9;omega
       obtain ⟨hb,hz,qn,qo,q0,q1,q3⟩:=hI
       rcases hi' with rfl | rfl | rfl | rfl
       · refine Ri.step_plain rfl rfl (fun K' hK=>?_)
         go_simp
         exact hK _ _ ⟨_,_,rfl,rfl,hb,hz,qn,qo,fun _=>rfl,q1,q3⟩
       · refine Ri.step_plain rfl rfl (fun K' hK=>?_)
         obtain g9:=(hb.cell (p:=⟨0,0,none⟩) (block_lt_of_cell HG.out)).trans HG.out
         go_simp
         exact hK _ _ ⟨_,_,rfl,rfl,hb,hz,qn,qo,q0,fun _=>rfl,q3⟩
       · have l0:L 0=true:=by have:=hd _ rfl;simp [Region.binds] at this;simp [this]
         have f0:=(hv 0 38 rfl l0).trans (q0 l0)
         have e2:xa.tmps.getD 2 undef=.pointer (some ⟨w.heap.size,0,none⟩):=ho 2 (by kernel_rfl)
         refine Ri.step_plain rfl rfl (fun K' hK=>?_)
         refine wp_store_row _ _ _ rfl w.heap.size #[.int .i64 0,.int .u64 0,.int .u64 0,.int .u64 0,.int .u64 0,.slice none 0 0,.int .i64 0,.int .i64 0,.int .i64 0,.bool false] e2 f0 29 _ (qo hL) (by kernel_rfl) (by kernel_rfl) (by simp [Value.oneCell']) ?_
         exact hK _ _ ⟨_,undef,rfl,rfl,below_setRow hb (Nat.le_refl _) _,by simpa using hz,(fun _=>heap_setRow (qo hL)),(fun h=>by cases h),q0,q1,q3⟩
       · have l0:L 1=true:=by have:=hd _ rfl;simp [Region.binds] at this;simp [this]
         have f1:=(hv 1 39 rfl l0).trans (q1 l0)
         refine Ri.step_plain rfl rfl (fun K' hK=>?_)
         go_simp
         exact hK _ _ ⟨_,_,rfl,rfl,hb,hz,qn,qo,q0,q1,fun _=>rfl⟩
     · rintro v w9 ⟨hb,hz,qn,-,-,-,q3⟩
       have zN:=qn rfl;clear qn
       have q3':v 3=.iface 171 (.pointer (some (A 16))):=q3 rfl
       simp only [Ri.frame,List.zipIdx,List.foldl_cons,List.foldl_nil,if_true,List.setIfInBounds_toArray,List.set_cons_zero,List.set_cons_succ,Nat.reduceAdd,q3']
       clear q3 q3'
       generalize v 0=y0;generalize v 1=y1
       have HBw:=Lib.hid hb
       have ZN:=Lib.hid zN
       clear hb zN
       go_wp2
       exact bodyPost_ret (results_row_one rfl _ _ w.heap.size 29 #[.int .i64 0,.int .u64 0,.int .u64 0,.int .u64 0,.int .u64 0,.slice none 0 0,.int .i64 0,.int .i64 0,.int .i64 0,.bool false] (0,0) _ _ rfl rfl ZN.out Tryd.underlying29 rfl (by kernel_rfl)) rfl ⟨HBw.out,by rw [HDB.out];rfl⟩
   | some x =>
     obtain ⟨t,r⟩:=x
     rw [hd] at he5
     obtain ⟨⟨s,rfl,hs⟩,hr5⟩:=he5
     obtain ⟨p5,c5,rfl,hlen5⟩:=hs.slice
     have hdp:=Im.rdT_dp 200 m t r hd
     have HTS:=Lib.hid hs
     obtain ⟨vr,hR5,hbr⟩:=hr5
     obtain ⟨pr,cr,rfl,-⟩:=hbr.len
     have HR5:=Lib.hid hR5
     clear hs hR5 hbr
     have HZ7:=Lib.hid (heap_alloc_new w5 (.cells #[.int .i64 0,.int .u64 0,.int .u64 0,.int .u64 0,.int .u64 0,.slice none 0 0,.int .i64 0,.int .i64 0,.int .i64 0,.bool false] 29))
     have HA7:=Lib.hid (show ∀ o cs,Below w5.heap.size w5 ((w5.alloc o).setRow w5.heap.size cs) from fun o cs=>⟨rfl,rfl,rfl,by simp,fun k hk=>(heap_setRow_other _ _ _ (by omega)).trans ((World.grownBy_alloc w5 o none).block k hk (by simp))⟩)
     go_upto_region 6 with (first
       | (refine wpList_store_row rfl 29 (.tmp 7) (.tmp 23) rfl w5.heap.size (t.cells (.slice p5 t.subs.length c5)) rfl rfl 29 _ HZ7.out (by kernel_rfl) (by kernel_rfl) (by simp [Tr.cells,Value.oneCell']) ?_)
       | fail)
     generalize hW7:World.setRow _ _ _=W7 at *
     have hb7:Below w5.heap.size w5 W7:=hW7 ▸ HA7.out _ _
     have HB7:=Lib.hid (HB5.out.trans (hb7.mono HB5.out.size))
     have Z7:=Lib.hid ((hb7.block w.heap.size (by omega)).trans Z5.out)
     have HT7:=Lib.hid (show W7.heap[w5.heap.size]? = some (.cells (t.cells (.slice p5 t.subs.length c5)) 29) from hW7 ▸ heap_setRow HZ7.out)
     have hR7:=(hb7.block W2.heap.size (by omega)).trans HR5.out
     have HTS7:=Lib.hid (HTS.out.later hb7)
     have c0:W7.cell? ⟨W2.heap.size,0,none⟩=some (.slice pr r.length cr):=by simp [World.cell?,hR7]
     clear hW7 HA7 HZ7 hb7 hR7 HTS HR5
     cases r with
     | cons b r =>
       have HDB:=Lib.hid (HRN.out.trans (by rw [hd]))
       have d1:decide ((0:Int) < ((b :: r).length:Int))=true:=decide_eq_true (by simp)
       have d2:decide (0 < (b :: r).length)=true:=decide_eq_true (by simp)
       clear hd HRN HCK
       generalize (b :: r).length=LB at *
       go_upto_region 7 with (fail)
       refine Ri.wp_region_frame (by kernel_rfl) (by kernel_rfl) (by kernel_rfl) (by kernel_rfl)
         (fun L v w'=>Below w.heap.size w w'∧W7.heap.size ≤ w'.heap.size∧(L 2=true→w'.heap[w.heap.size]? = some (.cells #[.int .i64 0,.int .u64 0,.int .u64 0,.int .u64 0,.int .u64 0,.slice none 0 0,.int .i64 0,.int .i64 0,.int .i64 0,.bool false] 29))∧(L 2=false→w'.heap[w.heap.size]? = some (.cells #[.int .i64 0,.int .u64 0,.int .u64 0,.int .u64 0,.int .u64 0,.slice none 0 0,.int .i64 0,.int .i64 0,.int .i64 0,.bool false] 29))∧(L 0=true→v 0=.agg #[.int .i64 0,.int .u64 0,.int .u64 0,.int .u64 0,.int .u64 0,.slice none 0 0,.int .i64 0,.int .i64 0,.int .i64 0,.bool false])∧(L 1=true→v 1=.iface 171 (.pointer (some (A 16))))∧(L 3=true→v 3=.iface 171 (.pointer (some (A 16)))))
         ?_ ?_ ?_
       · exact ⟨HB7.out.drew,Nat.le_refl _,(by simp),(fun _=>Z7.out),by simp,by simp,by simp⟩
       · intro i hi9 L v w9 xa hI hL hd hv ho
         have hi':i=0 ∨ i=1 ∨ i=2 ∨ i=3:=by simp at hi9;omega
         obtain ⟨hb,hz,qn,qo,q0,q1,q3⟩:=hI
         rcases hi' with rfl | rfl | rfl | rfl
         · refine Ri.step_plain rfl rfl (fun K' hK=>?_)
           go_simp
           exact hK _ _ ⟨_,_,rfl,rfl,hb,hz,qn,qo,fun _=>rfl,q1,q3⟩
         · refine Ri.step_plain rfl rfl (fun K' hK=>?_)
           obtain g9:=(hb.cell (p:=⟨0,0,none⟩) (block_lt_of_cell HG.out)).trans HG.out
           go_simp
           exact hK _ _ ⟨_,_,rfl,rfl,hb,hz,qn,qo,q0,fun _=>rfl,q3⟩
         · have l0:L 0=true:=by have:=hd _ rfl;simp [Region.binds] at this;simp [this]
           have f0:=(hv 0 38 rfl l0).trans (q0 l0)
           have e2:xa.tmps.getD 2 undef=.pointer (some ⟨w.heap.size,0,none⟩):=ho 2 (by kernel_rfl)
           refine Ri.step_plain rfl rfl (fun K' hK=>?_)
           refine wp_store_row _ _ _ rfl w.heap.size #[.int .i64 0,.int .u64 0,.int .u64 0,.int .u64 0,.int .u64 0,.slice none 0 0,.int .i64 0,.int .i64 0,.int .i64 0,.bool false] e2 f0 29 _ (qo hL) (by kernel_rfl) (by kernel_rfl) (by simp [Value.oneCell']) ?_
           exact hK _ _ ⟨_,undef,rfl,rfl,below_setRow hb (Nat.le_refl _) _,by simpa using hz,(fun _=>heap_setRow (qo hL)),(fun h=>by cases h),q0,q1,q3⟩
         · have l0:L 1=true:=by have:=hd _ rfl;simp [Region.binds] at this;simp [this]
           have f1:=(hv 1 39 rfl l0).trans (q1 l0)
           refine Ri.step_plain rfl rfl (fun K' hK=>?_)
           go_simp
           exact hK _ _ ⟨_,_,rfl,rfl,hb,hz,qn,qo,q0,q1,fun _=>rfl⟩
       · rintro v w9 ⟨hb,hz,qn,-,-,-,q3⟩
         have zN:=qn rfl;clear qn
         have q3':v 3=.iface 171 (.pointer (some (A 16))):=q3 rfl
         simp only [Ri.frame,List.zipIdx,List.foldl_cons,List.foldl_nil,if_true,List.setIfInBounds_toArray,List.set_cons_zero,List.set_cons_succ,Nat.reduceAdd,q3']
         clear q3 q3'
         generalize v 0=y0;generalize v 1=y1
         have HBw:=Lib.hid hb
         have ZN:=Lib.hid zN
         clear hb zN
         go_wp2
         exact bodyPost_ret (results_row_one rfl _ _ w.heap.size 29 #[.int .i64 0,.int .u64 0,.int .u64 0,.int .u64 0,.int .u64 0,.slice none 0 0,.int .i64 0,.int .i64 0,.int .i64 0,.bool false] (0,0) _ _ rfl rfl ZN.out Tryd.underlying29 rfl (by kernel_rfl)) rfl ⟨HBw.out,by rw [HDB.out];rfl⟩
     | nil =>
       have HDB0:=Lib.hid (HRN.out.trans (by rw [hd]))
       have HCT:=Lib.hid (HCK.out t (by omega) W7 HB7.out _ (.agg (t.cells (.slice p5 t.subs.length c5))) ⟨_,rfl,HTS7.out.trees⟩)
       clear hd HRN HCK
       go_wp2_with (first
         | (refine wpList_load_row_g rfl rfl rfl 29 (.tmp 7) rfl w5.heap.size rfl 29 _ (0,0) _ HT7.out Tryd.underlying29 rfl (by kernel_rfl) ?_)
         | fail)
       refine HCT.out.mono ?_
       rintro e w8 ⟨rfl,hb8⟩
       have hs7:w5.heap.size < W7.heap.size:=(Array.getElem?_eq_some_iff.1 HT7.out).1
       have HB8:=Lib.hid (HB7.out.trans (hb8.mono HB7.out.size))
       have Z8:=Lib.hid (keep_blk hb8 Z7.out);have HT8:=Lib.hid (keep_blk hb8 HT7.out)
       have HTS8:=Lib.hid (HTS7.out.later hb8)
       clear hb8 HB7 Z7 HT7 HTS7 HCT
       by_cases hc:t.checkC=0
       · have HDB:=Lib.hid (HDB0.out.trans (if_pos hc))
         rw [show sentV A t.checkC=.nilIface by unfold sentV;rw [if_pos hc]]
         clear hc HDB0
         go_wp2_with (first
           | (refine wpList_load_row rfl 29 (.tmp 7) rfl w5.heap.size rfl 29 _ (0,0) _ HT8.out Tryd.underlying29 rfl (by kernel_rfl) ?_)
           | (refine wpList_store_row rfl 29 (.tmp 2) (.tmp 40) rfl w.heap.size (t.cells (.slice p5 t.subs.length c5)) rfl rfl 29 _ Z8.out (by kernel_rfl) (by kernel_rfl) (by simp [Tr.cells,Value.oneCell']) ?_)
           | fail)
         refine bodyPost_ret (results_row_one rfl _ _ w.heap.size 29 (t.cells (.slice p5 t.subs.length c5)) (0,0) _ .nilIface rfl rfl (heap_setRow Z8.out) Tryd.underlying29 rfl (by kernel_rfl)) rfl ⟨below_setRow HB8.out (Nat.le_refl _) _, ?_⟩
         rw [HDB.out]
         exact ⟨_,rfl,(HTS8.out.keep (w':=w8.setRow w.heap.size _) fun b hb=>heap_setRow_other _ _ _ (by omega)).mono (by omega)⟩
       · have HDB:=Lib.hid (HDB0.out.trans (if_neg hc))
         rw [show sentV A t.checkC=.iface 171 (.pointer (some (A (t.checkC - 1)))) by unfold sentV;rw [if_neg hc]]
         generalize A (t.checkC - 1)=aa
         clear hc HDB0
         go_upto_region 7 with (fail)
         refine Ri.wp_region_frame (by kernel_rfl) (by kernel_rfl) (by kernel_rfl) (by kernel_rfl)
           (fun L v w'=>Below w.heap.size w w'∧w8.heap.size ≤ w'.heap.size∧(L 2=true→w'.heap[w.heap.size]? = some (.cells #[.int .i64 0,.int .u64 0,.int .u64 0,.int .u64 0,.int .u64 0,.slice none 0 0,.int .i64 0,.int .i64 0,.int .i64 0,.bool false] 29))∧(L 2=false→w'.heap[w.heap.size]? = some (.cells #[.int .i64 0,.int .u64 0,.int .u64 0,.int .u64 0,.int .u64 0,.slice none 0 0,.int .i64 0,.int .i64 0,.int .i64 0,.bool false] 29))∧(L 0=true→v 0=.agg #[.int .i64 0,.int .u64 0,.int .u64 0,.int .u64 0,.int .u64 0,.slice none 0 0,.int .i64 0,.int .i64 0,.int .i64 0,.bool false])∧(L 1=true→v 1=.iface 171 (.pointer (some (A 16))))∧(L 3=true→v 3=.iface 171 (.pointer (some (A 16)))))
           ?_ ?_ ?_
         · exact ⟨HB8.out.drew,Nat.le_refl _,(by simp),(fun _=>Z8.out),by simp,by simp,by simp⟩
         · intro i hi9 L v w9 xa hI hL hd hv ho
           have hi':i=0 ∨ i=1 ∨ i=2 ∨ i=3:=by simp at hi9;omega
           obtain ⟨hb,hz,qn,qo,q0,q1,q3⟩:=hI
           rcases hi' with rfl | rfl | rfl | rfl
           · refine Ri.step_plain rfl rfl (fun K' hK=>?_)
             go_simp
             exact hK _ _ ⟨_,_,rfl,rfl,hb,hz,qn,qo,fun _=>rfl,q1,q3⟩
           · refine Ri.step_plain rfl rfl (fun K' hK=>?_)
             obtain g9:=(hb.cell (p:=⟨0,0,none⟩) (block_lt_of_cell HG.out)).trans HG.out
             go_simp
             exact hK _ _ ⟨_,_,rfl,rfl,hb,hz,qn,qo,q0,fun _=>rfl,q3⟩
           · have l0:L 0=true:=by have:=hd _ rfl;simp [Region.binds] at this;simp [this]
             have f0:=(hv 0 38 rfl l0).trans (q0 l0)
             have e2:xa.tmps.getD 2 undef=.pointer (some ⟨w.heap.size,0,none⟩):=ho 2 (by kernel_rfl)
             refine Ri.step_plain rfl rfl (fun K' hK=>?_)
             refine wp_store_row _ _ _ rfl w.heap.size #[.int .i64 0,.int .u64 0,.int .u64 0,.int .u64 0,.int .u64 0,.slice none 0 0,.int .i64 0,.int .i64 0,.int .i64 0,.bool false] e2 f0 29 _ (qo hL) (by kernel_rfl) (by kernel_rfl) (by simp [Value.oneCell']) ?_
             exact hK _ _ ⟨_,undef,rfl,rfl,below_setRow hb (Nat.le_refl _) _,by simpa using hz,(fun _=>heap_setRow (qo hL)),(fun h=>by cases h),q0,q1,q3⟩
           · have l0:L 1=true:=by have:=hd _ rfl;simp [Region.binds] at this;simp [this]
             have f1:=(hv 1 39 rfl l0).trans (q1 l0)
             refine Ri.step_plain rfl rfl (fun K' hK=>?_)
             go_simp
             exact hK _ _ ⟨_,_,rfl,rfl,hb,hz,qn,qo,q0,q1,fun _=>rfl⟩
         · rintro v w9 ⟨hb,hz,qn,-,-,-,q3⟩
           have zN:=qn rfl;clear qn
           have q3':v 3=.iface 171 (.pointer (some (A 16))):=q3 rfl
           simp only [Ri.frame,List.zipIdx,List.foldl_cons,List.foldl_nil,if_true,List.setIfInBounds_toArray,List.set_cons_zero,List.set_cons_succ,Nat.reduceAdd,q3']
           clear q3 q3'
           generalize v 0=y0;generalize v 1=y1
           have HBw:=Lib.hid hb
           have ZN:=Lib.hid zN
           clear hb zN
           go_wp2
           exact bodyPost_ret (results_row_one rfl _ _ w.heap.size 29 #[.int .i64 0,.int .u64 0,.int .u64 0,.int .u64 0,.int .u64 0,.slice none 0 0,.int .i64 0,.int .i64 0,.int .i64 0,.bool false] (0,0) _ _ rfl rfl ZN.out Tryd.underlying29 rfl (by kernel_rfl)) rfl ⟨HBw.out,by rw [HDB.out];rfl⟩
end Go.Proofs.YtoepdfpnkmccoaaDoor
namespace Go.Proofs.YtoepdfpnkmccoaaDoor
open Go.RowKit
theorem appendnumber_any (n:Nat) (hn:n ≤ 9223372036854775807) (B:Nat) (w:World) (v:Value) (l:List UInt8) (hrow:BR B w v l) (hB:B ≤ w.heap.size) (hlen:l.length ≤ 70368744177664) :
   Calls Tryd.prog 93 #[v,.int .i64 n] w (AppEnd B (l ++ Im.numB n) v w):=by
 have hl9:=Im.numB_len9 hn
 have H0:=Lib.hid (ApS.refl hrow)
 clear hrow
 go_enter Tryd.func93,Tryd.ntmps93
 go_wp2
 go_loopw [0,1] (fun sv iv wr=>∃ (m:Nat) (k:List UInt8),iv=.int .i64 m∧m ≤ n∧Hid (ApS B w v wr sv (l ++ k))∧Hid (Im.numB n=k ++ Im.numB m)) (fun _ iv _=>(intOf iv).toNat)
 case atStart=>exact ⟨n,[],rfl,Nat.le_refl _,by simpa using H0,Lib.hid (by simp)⟩
 case round =>
   obtain ⟨m,k,rfl,hm,HA,HN⟩:=hrel
   have hk:=congrArg List.length HN.out
   rw [List.length_append] at hk
   by_cases hlt:m < 128
   · have e1:decide ((128:Int) ≤ m)=false:=by simp;omega
     have e1':decide (128 ≤ m)=false:=by simpa using hlt
     have hu:IntKind.u8.wrap (m:Int)=(m:Int):=by rw [IntKind.wrap_u8];omega
     have hfin:l ++ Im.numB n=l ++ k ++ [UInt8.ofNat m]:=by rw [HN.out,Im.numB_small hlt];simp
     have HF:=Lib.hid hfin;clear hfin
     have hlk:(l ++ k).length+1 ≤ 140737488355328:=by rw [List.length_append];omega
     go_wp2_with (first
       | (at_builtin;refine wp_app1 rfl _ _ rfl (UInt8.ofNat m) _ _ (by rw [UInt8.toNat_ofNat'];omega) rfl rfl ((cell_new _ _ _ 0).trans rfl) (HA.out.alloc _) hB hlk ?_;intro v' w' hap)
       | fail)
     go_ret
     exact ⟨_,rfl,by rw [HF.out];exact hap⟩
   · obtain ⟨d,hd,hdm,r1⟩:∃ d:Nat,d < 128∧d=m % 128∧(m:Int) % 128=(d:Int):=⟨m % 128,by omega,rfl,by omega⟩
     obtain ⟨q,hqm,q1⟩:∃ q:Nat,q=m / 128∧(m:Int) / 128=(q:Int):=⟨m / 128,rfl,by omega⟩
     have e1:decide ((128:Int) ≤ m)=true:=by simp;omega
     have e1':decide (128 ≤ m)=true:=by simp;omega
     have hu:IntKind.u8.wrap ((d:Int)+128)=(d:Int)+128:=by rw [IntKind.wrap_u8];omega
     have hlk:(l ++ k).length+1 ≤ 140737488355328:=by rw [List.length_append];omega
     have hst:Im.numB m=UInt8.ofNat (128+d) :: Im.numB q:=by rw [Im.numB_big hlt,hdm,hqm]
     have HS:=Lib.hid hst;have HQ:=Lib.hid hqm
     clear hst hqm hdm
     go_wp2_with (first
       | (at_builtin;refine wp_app1 rfl _ _ rfl (UInt8.ofNat (128+d)) _ _ (by rw [UInt8.toNat_ofNat'];omega) rfl rfl ((cell_new _ _ _ 0).trans rfl) (HA.out.alloc _) hB hlk ?_;intro v' w' hap)
       | fail)
     have HA2:=Lib.hid hap
     clear hap
     go_wp2
     have hq:=HQ.out
     refine ⟨⟨q,k ++ [UInt8.ofNat (128+d)],rfl,by omega,Lib.hid (by rw [← List.append_assoc];exact HA2.out),Lib.hid (by rw [HN.out,HS.out];simp)⟩,by simp [intOf];omega⟩
theorem appendbare_any (b:Bool) (B:Nat) (w:World) (v:Value) (l:List UInt8) (hrow:BR B w v l) (hB:B ≤ w.heap.size) (hlen:l.length ≤ 70368744177664) :
   Calls Tryd.prog 94 #[v,.bool b] w (AppEnd B (l ++ [if b then 1 else 0]) v w):=by
 have HA:=Lib.hid (ApS.refl hrow)
 clear hrow
 have hlk:l.length+1 ≤ 140737488355328:=by omega
 cases b with
 | true =>
   go_enter Tryd.func94,Tryd.ntmps94
   go_wp2_with (first
     | (at_builtin;refine wp_app1 rfl _ _ rfl 1 _ _ rfl rfl rfl ((cell_new _ _ _ 0).trans rfl) (HA.out.alloc _) hB hlk ?_;intro v' w' hap)
     | fail)
   go_ret
   exact ⟨_,rfl,hap⟩
 | false =>
   go_enter Tryd.func94,Tryd.ntmps94
   go_wp2_with (first
     | (at_builtin;refine wp_app1 rfl _ _ rfl 0 _ _ rfl rfl rfl ((cell_new _ _ _ 0).trans rfl) (HA.out.alloc _) hB hlk ?_;intro v' w' hap)
     | fail)
   go_ret
   exact ⟨_,rfl,hap⟩
theorem pow256 (x:BitVec 64) (j:Nat):x.toNat / 256 ^ (j+1)=x.toNat / 256 ^ j / 256:=by rw [Nat.pow_succ,Nat.div_div_eq_div_mul]
theorem appendset_any (a b c d:BitVec 64) (B:Nat) (w:World) (v:Value) (l:List UInt8) (hrow:BR B w v l) (hB:B ≤ w.heap.size) (hlen:l.length ≤ 70368744177664) :
   Calls Tryd.prog 92 #[v,(.agg #[.int .u64 (Oc.U a),.int .u64 (Oc.U b),.int .u64 (Oc.U c),.int .u64 (Oc.U d)])] w (AppEnd B (l ++ Im.setB a b c d 4) v w):=by
 have H0:=Lib.hid ((ApS.refl hrow).alloc (.cells #[.int .u64 (Oc.U a),.int .u64 (Oc.U b),.int .u64 (Oc.U c),.int .u64 (Oc.U d)] 26))
 clear hrow
 have ix0:∀ (x y z u:Value) (w:World),(Instr.index 26 (.agg #[x,y,z,u]) (.int .i64 0)).run Tryd.prog w=.ok x w:=fun _ _ _ _ _=>by kernel_rfl
 have ix1:∀ (x y z u:Value) (w:World),(Instr.index 26 (.agg #[x,y,z,u]) (.int .i64 1)).run Tryd.prog w=.ok y w:=fun _ _ _ _ _=>by kernel_rfl
 have ix2:∀ (x y z u:Value) (w:World),(Instr.index 26 (.agg #[x,y,z,u]) (.int .i64 2)).run Tryd.prog w=.ok z w:=fun _ _ _ _ _=>by kernel_rfl
 have ix3:∀ (x y z u:Value) (w:World),(Instr.index 26 (.agg #[x,y,z,u]) (.int .i64 3)).run Tryd.prog w=.ok u w:=fun _ _ _ _ _=>by kernel_rfl
 go_enter Tryd.func92,Tryd.ntmps92
 go_wp2
 go_loopw [0,8] (fun sv iv wr=>∃ i:Nat,iv=.int .i64 i∧i ≤ 4∧Hid (ApS B w v wr sv (l ++ Im.setB a b c d i))) (fun _ iv _=>4 - (intOf iv).toNat)
 case atStart=>exact ⟨0,rfl,by omega,by simpa [Im.setB] using H0⟩
 case round =>
   obtain ⟨i,rfl,hi,HA⟩:=hrel
   have hl2:=Im.setB_len a b c d i
   by_cases hlt:i < 4
   · have hi4:i=0 ∨ i=1 ∨ i=2 ∨ i=3:=by omega
     rcases hi4 with rfl | rfl | rfl | rfl
     · rw [show ((0:Nat):Int)=(0:Int) from rfl]
       go_wp2
       go_loopw [0,6,11] (fun sv wv jv wr=>∃ (j m:Nat),jv=.int .i64 j∧j ≤ 8∧wv=.int .u64 (m:Int)∧m < 18446744073709551616∧Hid (m=a.toNat / 256 ^ j)∧Hid (ApS B w v wr sv (l ++ Im.setB a b c d 0 ++ Im.wordB a j))) (fun _ _ jv _=>8 - (intOf jv).toNat)
       case atStart=>exact ⟨0,a.toNat,rfl,by omega,rfl,a.isLt,Lib.hid (by simp),by simpa [Im.wordB_zero] using HA⟩
       case round =>
         obtain ⟨j,m,rfl,hj,rfl,hm,HM,HA2⟩:=hrel
         clear HA
         by_cases hjt:j < 8
         · obtain ⟨bb,hbb,hbm,r1⟩:∃ bb:Nat,bb < 256∧bb=m % 256∧(m:Int) % 256=(bb:Int):=⟨m % 256,by omega,rfl,by omega⟩
           obtain ⟨q,hqm,q1⟩:∃ q:Nat,q=m / 256∧(m:Int) / 256=(q:Int):=⟨m / 256,rfl,by omega⟩
           have hu:IntKind.u8.wrap (m:Int)=(bb:Int):=by rw [IntKind.wrap_u8];omega
           have hlk:(l ++ Im.setB a b c d 0 ++ Im.wordB a j).length+1 ≤ 140737488355328:=by rw [List.length_append,List.length_append,hl2,Im.wordB_len];omega
           have hst:Im.wordB a (j+1)=Im.wordB a j ++ [UInt8.ofNat bb]:=by rw [Im.wordB_succ,← HM.out,← hbm]
           have HS:=Lib.hid hst;have HQ:=Lib.hid (hqm.trans (by rw [HM.out,← pow256]))
           have hq64:q < 18446744073709551616:=by omega
           clear hst hqm hbm HM
           go_wp2_with (first
             | (at_builtin;refine wp_app1 rfl _ _ rfl (UInt8.ofNat bb) _ _ (by rw [UInt8.toNat_ofNat'];omega) rfl rfl ((cell_new _ _ _ 0).trans rfl) (HA2.out.alloc _) hB hlk ?_;intro v' w' hap)
             | fail)
           have HA3:=Lib.hid hap
           clear hap
           go_wp2
           exact ⟨⟨j+1,q,by go_num,by omega,rfl,hq64,HQ,Lib.hid (by rw [HS.out,← List.append_assoc];exact HA3.out)⟩,by simp [intOf];omega⟩
         · obtain rfl:j=8:=by omega
           go_wp2
           exact ⟨⟨1,by go_num,by omega,Lib.hid (by rw [show Im.setB a b c d 1=Im.setB a b c d 0 ++ Im.wordB a 8 from rfl,← List.append_assoc];exact HA2.out)⟩,by simp [intOf]⟩
     · rw [show ((1:Nat):Int)=(1:Int) from rfl]
       go_wp2
       go_loopw [0,6,11] (fun sv wv jv wr=>∃ (j m:Nat),jv=.int .i64 j∧j ≤ 8∧wv=.int .u64 (m:Int)∧m < 18446744073709551616∧Hid (m=b.toNat / 256 ^ j)∧Hid (ApS B w v wr sv (l ++ Im.setB a b c d 1 ++ Im.wordB b j))) (fun _ _ jv _=>8 - (intOf jv).toNat)
       case atStart=>exact ⟨0,b.toNat,rfl,by omega,rfl,b.isLt,Lib.hid (by simp),by simpa [Im.wordB_zero] using HA⟩
       case round =>
         obtain ⟨j,m,rfl,hj,rfl,hm,HM,HA2⟩:=hrel
         clear HA
         by_cases hjt:j < 8
         · obtain ⟨bb,hbb,hbm,r1⟩:∃ bb:Nat,bb < 256∧bb=m % 256∧(m:Int) % 256=(bb:Int):=⟨m % 256,by omega,rfl,by omega⟩
           obtain ⟨q,hqm,q1⟩:∃ q:Nat,q=m / 256∧(m:Int) / 256=(q:Int):=⟨m / 256,rfl,by omega⟩
           have hu:IntKind.u8.wrap (m:Int)=(bb:Int):=by rw [IntKind.wrap_u8];omega
           have hlk:(l ++ Im.setB a b c d 1 ++ Im.wordB b j).length+1 ≤ 140737488355328:=by rw [List.length_append,List.length_append,hl2,Im.wordB_len];omega
           have hst:Im.wordB b (j+1)=Im.wordB b j ++ [UInt8.ofNat bb]:=by rw [Im.wordB_succ,← HM.out,← hbm]
           have HS:=Lib.hid hst;have HQ:=Lib.hid (hqm.trans (by rw [HM.out,← pow256]))
           have hq64:q < 18446744073709551616:=by omega
           clear hst hqm hbm HM
           go_wp2_with (first
             | (at_builtin;refine wp_app1 rfl _ _ rfl (UInt8.ofNat bb) _ _ (by rw [UInt8.toNat_ofNat'];omega) rfl rfl ((cell_new _ _ _ 0).trans rfl) (HA2.out.alloc _) hB hlk ?_;intro v' w' hap)
             | fail)
           have HA3:=Lib.hid hap
           clear hap
           go_wp2
           exact ⟨⟨j+1,q,by go_num,by omega,rfl,hq64,HQ,Lib.hid (by rw [HS.out,← List.append_assoc];exact HA3.out)⟩,by simp [intOf];omega⟩
         · obtain rfl:j=8:=by omega
           go_wp2
           exact ⟨⟨2,by go_num,by omega,Lib.hid (by rw [show Im.setB a b c d 2=Im.setB a b c d 1 ++ Im.wordB b 8 from rfl,← List.append_assoc];exact HA2.out)⟩,by simp [intOf]⟩
     · rw [show ((2:Nat):Int)=(2:Int) from rfl]
       go_wp2
       go_loopw [0,6,11] (fun sv wv jv wr=>∃ (j m:Nat),jv=.int .i64 j∧j ≤ 8∧wv=.int .u64 (m:Int)∧m < 18446744073709551616∧Hid (m=c.toNat / 256 ^ j)∧Hid (ApS B w v wr sv (l ++ Im.setB a b c d 2 ++ Im.wordB c j))) (fun _ _ jv _=>8 - (intOf jv).toNat)
       case atStart=>exact ⟨0,c.toNat,rfl,by omega,rfl,c.isLt,Lib.hid (by simp),by simpa [Im.wordB_zero] using HA⟩
       case round =>
         obtain ⟨j,m,rfl,hj,rfl,hm,HM,HA2⟩:=hrel
         clear HA
         by_cases hjt:j < 8
         · obtain ⟨bb,hbb,hbm,r1⟩:∃ bb:Nat,bb < 256∧bb=m % 256∧(m:Int) % 256=(bb:Int):=⟨m % 256,by omega,rfl,by omega⟩
           obtain ⟨q,hqm,q1⟩:∃ q:Nat,q=m / 256∧(m:Int) / 256=(q:Int):=⟨m / 256,rfl,by omega⟩
           have hu:IntKind.u8.wrap (m:Int)=(bb:Int):=by rw [IntKind.wrap_u8];omega
           have hlk:(l ++ Im.setB a b c d 2 ++ Im.wordB c j).length+1 ≤ 140737488355328:=by rw [List.length_append,List.length_append,hl2,Im.wordB_len];omega
           have hst:Im.wordB c (j+1)=Im.wordB c j ++ [UInt8.ofNat bb]:=by rw [Im.wordB_succ,← HM.out,← hbm]
           have HS:=Lib.hid hst;have HQ:=Lib.hid (hqm.trans (by rw [HM.out,← pow256]))
           have hq64:q < 18446744073709551616:=by omega
           clear hst hqm hbm HM
           go_wp2_with (first
             | (at_builtin;refine wp_app1 rfl _ _ rfl (UInt8.ofNat bb) _ _ (by rw [UInt8.toNat_ofNat'];omega) rfl rfl ((cell_new _ _ _ 0).trans rfl) (HA2.out.alloc _) hB hlk ?_;intro v' w' hap)
             | fail)
           have HA3:=Lib.hid hap
           clear hap
           go_wp2
           exact ⟨⟨j+1,q,by go_num,by omega,rfl,hq64,HQ,Lib.hid (by rw [HS.out,← List.append_assoc];exact HA3.out)⟩,by simp [intOf];omega⟩
         · obtain rfl:j=8:=by omega
           go_wp2
           exact ⟨⟨3,by go_num,by omega,Lib.hid (by rw [show Im.setB a b c d 3=Im.setB a b c d 2 ++ Im.wordB c 8 from rfl,← List.append_assoc];exact HA2.out)⟩,by simp [intOf]⟩
     · rw [show ((3:Nat):Int)=(3:Int) from rfl]
       go_wp2
       go_loopw [0,6,11] (fun sv wv jv wr=>∃ (j m:Nat),jv=.int .i64 j∧j ≤ 8∧wv=.int .u64 (m:Int)∧m < 18446744073709551616∧Hid (m=d.toNat / 256 ^ j)∧Hid (ApS B w v wr sv (l ++ Im.setB a b c d 3 ++ Im.wordB d j))) (fun _ _ jv _=>8 - (intOf jv).toNat)
       case atStart=>exact ⟨0,d.toNat,rfl,by omega,rfl,d.isLt,Lib.hid (by simp),by simpa [Im.wordB_zero] using HA⟩
       case round =>
         obtain ⟨j,m,rfl,hj,rfl,hm,HM,HA2⟩:=hrel
         clear HA
         by_cases hjt:j < 8
         · obtain ⟨bb,hbb,hbm,r1⟩:∃ bb:Nat,bb < 256∧bb=m % 256∧(m:Int) % 256=(bb:Int):=⟨m % 256,by omega,rfl,by omega⟩
           obtain ⟨q,hqm,q1⟩:∃ q:Nat,q=m / 256∧(m:Int) / 256=(q:Int):=⟨m / 256,rfl,by omega⟩
           have hu:IntKind.u8.wrap (m:Int)=(bb:Int):=by rw [IntKind.wrap_u8];omega
           have hlk:(l ++ Im.setB a b c d 3 ++ Im.wordB d j).length+1 ≤ 140737488355328:=by rw [List.length_append,List.length_append,hl2,Im.wordB_len];omega
           have hst:Im.wordB d (j+1)=Im.wordB d j ++ [UInt8.ofNat bb]:=by rw [Im.wordB_succ,← HM.out,← hbm]
           have HS:=Lib.hid hst;have HQ:=Lib.hid (hqm.trans (by rw [HM.out,← pow256]))
           have hq64:q < 18446744073709551616:=by omega
           clear hst hqm hbm HM
           go_wp2_with (first
             | (at_builtin;refine wp_app1 rfl _ _ rfl (UInt8.ofNat bb) _ _ (by rw [UInt8.toNat_ofNat'];omega) rfl rfl ((cell_new _ _ _ 0).trans rfl) (HA2.out.alloc _) hB hlk ?_;intro v' w' hap)
             | fail)
           have HA3:=Lib.hid hap
           clear hap
           go_wp2
           exact ⟨⟨j+1,q,by go_num,by omega,rfl,hq64,HQ,Lib.hid (by rw [HS.out,← List.append_assoc];exact HA3.out)⟩,by simp [intOf];omega⟩
         · obtain rfl:j=8:=by omega
           go_wp2
           exact ⟨⟨4,by go_num,by omega,Lib.hid (by rw [show Im.setB a b c d 4=Im.setB a b c d 3 ++ Im.wordB d 8 from rfl,← List.append_assoc];exact HA2.out)⟩,by simp [intOf]⟩
   · obtain rfl:i=4:=by omega
     go_wp2
     go_ret
     exact ⟨_,rfl,HA.out⟩
end Go.Proofs.YtoepdfpnkmccoaaDoor
namespace Go.Proofs.YtoepdfpnkmccoaaDoor
open Go.RowKit
def RdR (W0 w:World) (R:Nat) (bs:List UInt8) (p:Nat) (left:Int):Prop:=∃ v,w.heap[R]? = some (.cells #[v,.int .i64 (p:Int),.int .i64 left] 86)∧BsAt W0 v bs
theorem three {w:World} {b:Nat} {x0 x1 x2:Value} {t:TypeId} (h:w.heap[b]? = some (.cells #[x0,x1,x2] t)) :
   w.cell? ⟨b,0,none⟩=some x0∧w.cell? ⟨b,1,none⟩=some x1∧w.cell? ⟨b,2,none⟩=some x2∧w.frozen? ⟨b,0,none⟩=false∧w.frozen? ⟨b,1,none⟩=false∧w.frozen? ⟨b,2,none⟩=false:=by
 simp [World.cell?,World.frozen?,h]
theorem next_no (W0 w:World) (R:Nat) (bs:List UInt8) (p:Nat) (left:Int) (hp:bs.length ≤ p) (hr:RdR W0 w R bs p left) :
   Calls Tryd.prog 61 #[.pointer (some ⟨R,0,none⟩)] w fun e w'=>e=.returned (.int .i64 (-1))∧RdR W0 w' R bs p left∧w.grownBy w' (some R):=by
 obtain ⟨v,hh,hb⟩:=hr
 obtain ⟨q,c,rfl,hc⟩:=hb.len
 obtain ⟨c0,c1,-,-,-,-⟩:=three hh
 have hd:decide ((bs.length:Int) ≤ (p:Int))=true:=decide_eq_true (by omega)
 have hd':decide (bs.length ≤ p)=true:=decide_eq_true hp
 have HH:=Lib.hid hh;have HBS:=Lib.hid hb
 clear hh hb hp
 go_enter Tryd.func61,Tryd.ntmps61
 go_wp2_with fail
 go_quiet (fail)
 go_wp2
 go_ret
 exact ⟨rfl,⟨_,HH.out,HBS.out⟩,⟨rfl,rfl,rfl,Nat.le_refl _,fun _ _ _=>rfl⟩⟩
theorem next_yes (W0 w:World) (R:Nat) (hR:W0.heap.size ≤ R) (hb0:Below W0.heap.size W0 w) (bs:List UInt8) (p:Nat) (left:Int) (hp:p < bs.length) (hl:bs.length ≤ 140737488351232) (hr:RdR W0 w R bs p left) :
   Calls Tryd.prog 61 #[.pointer (some ⟨R,0,none⟩)] w fun e w'=>e=.returned (.int .i64 (bs[p].toNat:Int))∧RdR W0 w' R bs (p+1) left∧w.grownBy w' (some R):=by
 obtain ⟨v,hh,hb⟩:=hr
 have HBS:=Lib.hid hb
 rcases hb with ⟨rfl,rfl⟩ | ⟨g,o,c,rfl,hc,hrd⟩
 · simp at hp
 obtain ⟨c0,c1,-,-,f1,-⟩:=three hh
 have hd:decide ((bs.length:Int) ≤ (p:Int))=false:=decide_eq_false (by omega)
 have hd':decide (bs.length ≤ p)=false:=decide_eq_false (by omega)
 have wp1:wrap64 ((p:Int)+1)=(p:Int)+1:=by unfold wrap64;omega
 have hcell:=hrd p hp
 have hgW:g < W0.heap.size:=block_lt_of_cell hcell
 have hne:R ≠ g:=by omega
 have wp2:wrap64 ((p:Int)+1 - 1)=(p:Int):=by unfold wrap64;omega
 have hW1:∀ n,(((w.drewN n).setCell ⟨R,1,none⟩ (.int .i64 ((p:Int)+1))).heap[g]?)=w.heap[g]?:=fun n=>Below.heap_setCell _ _ _ _ (fun e=>hne e.symm)
 have HC:=Lib.hid (show ∀ n,((w.drewN n).setCell ⟨R,1,none⟩ (.int .i64 ((p:Int)+1))).cell? ⟨g,o+p,none⟩=some (.int .u8 (bs[p].toNat:Int)) from fun n=>by
   rw [← hcell,← hb0.cell (p:=⟨g,o+p,none⟩) hgW]
   unfold World.cell?
   rw [hW1 n])
 have HS:=Lib.hid (show ∀ n,((w.drewN n).setCell ⟨R,1,none⟩ (.int .i64 ((p:Int)+1))).heap[R]? = some (.cells #[.slice (some ⟨g,o,none⟩) bs.length c,.int .i64 ((p:Int)+1),.int .i64 left] 86) from fun n=>by
   simp [World.setCell,Array.getElem?_modify,hh])
 have HG:=Lib.hid (show ∀ n,w.grownBy ((w.drewN n).setCell ⟨R,1,none⟩ (.int .i64 ((p:Int)+1))) (some R) from fun n=>⟨rfl,rfl,rfl,by simp,fun k hk hne=>Below.heap_setCell _ _ _ _ (fun e=>hne (by rw [e]))⟩)
 clear hh hrd hcell hW1
 have hcap:p < c:=by omega
 have hp':(p:Int) < (bs.length:Int):=by omega
 go_enter Tryd.func61,Tryd.ntmps61
 go_wp2_with fail
 go_quiet (fail)
 go_wp2_with fail
 have HC1:=Lib.hid (HC.out nq);have HS1:=Lib.hid (HS.out nq);have HG1:=Lib.hid (HG.out nq)
 clear HC HS HG c0 c1 f1
 generalize World.setCell _ _ _=W4 at *
 obtain ⟨c0,c1,-,-,-,-⟩:=three HS1.out
 have cb:=HC1.out
 clear HC1
 go_quiet (fail)

 go_wp2
 go_ret
 refine ⟨?_,⟨_,HS1.out,HBS.out⟩,⟨HG1.out.os,HG1.out.tape,HG1.out.output,HG1.out.size,HG1.out.block⟩⟩
 show Ending.returned (.int .i64 (wrap64 (bs[p].toNat:Int)))=_
 exact ret_int (by unfold wrap64;have:=UInt8.toNat_lt bs[p];omega)
end Go.Proofs.YtoepdfpnkmccoaaDoor
namespace Go.Proofs.YtoepdfpnkmccoaaDoor
open Go.RowKit
namespace Im
def rcK:Nat→Nat→List UInt8→Option Nat × List UInt8
 | _,_,[]=>(none,[])
 | k,n,b :: l=>if 3 ≤ k then (none,l) else if b.toNat < 128 then (some (n+128 ^ k * (b.toNat % 128)),l) else rcK (k+1) (n+128 ^ k * (b.toNat % 128)) l
def rC (l:List UInt8):Option Nat × List UInt8:=rcK 0 0 l
theorem rcK_len:∀ (l:List UInt8) (k n:Nat),(rcK k n l).2.length ≤ l.length
 | [],k,n=>by simp [rcK]
 | b :: l,k,n=>by
   rw [rcK]
   split
   · simp
   · split
     · simp
     · have:=rcK_len l (k+1) (n+128 ^ k * (b.toNat % 128));simp;omega
theorem pow128 (k:Nat) (h:k < 3):128 ^ k ≤ 16384:=by
 rcases (show k=0 ∨ k=1 ∨ k=2 by omega) with rfl | rfl | rfl <;> decide
theorem rcK_le:∀ (l:List UInt8) (k n m:Nat),k ≤ 3→n < 128 ^ k→(rcK k n l).1=some m→m < 2097152
 | [],k,n,m,_,_,h=>by simp [rcK] at h
 | b :: l,k,n,m,hk,hn,h=>by
   rw [rcK] at h
   split at h
   · simp at h
   · rename_i hk3
     have hp:128 ^ (k+1)=128 * 128 ^ k:=by rw [Nat.pow_succ];omega
     have hlt:n+128 ^ k * (b.toNat % 128) < 128 ^ (k+1):=by
       have h1:128 ^ k * (b.toNat % 128) ≤ 128 ^ k * 127:=Nat.mul_le_mul_left _ (by omega)
       omega
     split at h
     · simp at h
       have:=pow128 k (by omega)
       omega
     · exact rcK_le l (k+1) _ m (by omega) hlt h
end Im
def CntEnd (W0:World) (R:Nat) (bs:List UInt8) (p:Nat) (left:Int) (w:World) (e:Ending) (w':World):Prop :=
 ∃ q,e=.returned (.int .i64 (match (Im.rC (bs.drop p)).1 with | some n=>(n:Int) | none=>-1))∧p ≤ q∧bs.drop q=(Im.rC (bs.drop p)).2∧RdR W0 w' R bs q left∧w.grownBy w' (some R)
theorem count_any (W0 w:World) (R:Nat) (hR:W0.heap.size ≤ R) (hb0:Below W0.heap.size W0 w) (bs:List UInt8) (p:Nat) (left:Int) (hl:bs.length ≤ 140737488351232) (hr:RdR W0 w R bs p left) :
   Calls Tryd.prog 62 #[.pointer (some ⟨R,0,none⟩)] w (CntEnd W0 R bs p left w):=by
 have HB0:=Lib.hid hb0
 have HR0:=Lib.hid hr
 have HNN:=Lib.hid (fun q w (h:bs.length ≤ q) (h2:RdR W0 w R bs q left)=>next_no W0 w R bs q left h h2)
 have HNY:=Lib.hid (fun q w (hb:Below W0.heap.size W0 w) (h:q < bs.length) (h2:RdR W0 w R bs q left)=>next_yes W0 w R hR hb bs q left h hl h2)
 clear hb0 hr
 go_enter Tryd.func62,Tryd.ntmps62
 go_wp2
 go_loopw [3,4] (fun nv uv wr=>∃ (k n q:Nat),nv=.int .i64 (n:Int)∧uv=.int .i64 ((128 ^ k:Nat):Int)∧k ≤ 3∧n < 128 ^ k∧p ≤ q∧Hid (Im.rC (bs.drop p)=Im.rcK k n (bs.drop q))∧Hid (RdR W0 wr R bs q left)∧Hid (w.grownBy wr (some R))) (fun _ uv _=>3000000 - (intOf uv).toNat)
 case atStart=>exact ⟨0,0,p,rfl,rfl,by omega,by omega,Nat.le_refl _,Lib.hid rfl,HR0,Lib.hid ⟨rfl,rfl,rfl,Nat.le_refl _,fun _ _ _=>rfl⟩⟩
 case round =>
   obtain ⟨k,n,q,rfl,rfl,hk,hn,hpq,HQ,HR,HG⟩:=hrel
   have hbw:Below W0.heap.size W0 wr:=HB0.out.grown HG.out HB0.out.size (fun k e=>by injection e;omega)
   by_cases hq:q < bs.length
   · have hc:bs[q].toNat < 256:=UInt8.toNat_lt _
     have HC:=Lib.hid (HNY.out q wr hbw hq HR.out)
     have hcons:bs.drop q=bs[q] :: bs.drop (q+1):=List.drop_eq_getElem_cons hq
     rw [hcons,Im.rcK] at HQ
     have hgtr:=fun w' (h:wr.grownBy w' (some R))=>grownBy_trans HG.out h (.inl rfl)
     have HGT:=Lib.hid hgtr
     clear hbw hgtr hcons
     generalize bs[q].toNat=cc at *
     by_cases h3:3 ≤ k
     · rw [if_pos h3] at HQ
       obtain rfl:k=3:=by omega
       have hd1:decide ((cc:Int) < 0)=false:=decide_eq_false (by omega)
       have hd2:decide ((1000000:Int) < ((128 ^ 3:Nat):Int))=true:=by decide
       generalize ((128 ^ 3:Nat):Int)=U at *
       go_wp2_with fail
       refine HC.out.mono ?_
       rintro e w1 ⟨rfl,hr1,hg1⟩
       have HG1:=Lib.hid (HGT.out _ hg1)
       have HR1:=Lib.hid hr1
       clear hr1 hg1 HGT
       go_wp2
       go_ret
       exact ⟨q+1,by rw [HQ.out];rfl,by omega,by rw [HQ.out],HR1.out,HG1.out⟩
     · rw [if_neg h3] at HQ
       have hpw:=Im.pow128 k (by omega)
       have hp1:128 ^ (k+1)=128 * 128 ^ k:=by rw [Nat.pow_succ];omega
       have hle:128 ^ k * (cc % 128) ≤ 128 ^ k * 127:=Nat.mul_le_mul_left _ (by omega)
       have hn2:n+128 ^ k * (cc % 128) < 128 ^ (k+1):=by omega
       have hpos:0 < 128 ^ k:=Nat.pow_pos (by omega)
       have hd1:decide ((cc:Int) < 0)=false:=decide_eq_false (by omega)
       have hd2:decide ((1000000:Int) < ((128 ^ k:Nat):Int))=false:=decide_eq_false (by omega)
       have ht:(cc:Int).tmod 128=((cc % 128:Nat):Int):=by rw [Int.tmod_eq_emod_of_nonneg (by omega)];omega
       have wm:((128 ^ k:Nat):Int) * ((cc % 128:Nat):Int)=((128 ^ k * (cc % 128):Nat):Int):=(Int.natCast_mul _ _).symm
       have HP1:=Lib.hid hp1;have HN2:=Lib.hid hn2
       clear hp1 hn2
       generalize hM:128 ^ k * (cc % 128)=M at *
       generalize hD:cc % 128=D at *
       generalize hU:128 ^ k=U at *
       have hnU:n < 16384:=by omega
       have hM2:M ≤ 2080768:=by omega
       have w1:IntKind.i64.wrap (M:Int)=(M:Int):=IntWalk.i64_in _ (by omega)
       have w2:IntKind.i64.wrap ((n:Int)+(M:Int))=(n:Int)+(M:Int):=IntWalk.i64_in _ (by omega)
       have w3:IntKind.i64.wrap ((U:Int) * 128)=(U:Int) * 128:=IntWalk.i64_in _ (by omega)
       by_cases hlast:cc < 128
       · rw [if_pos hlast] at HQ
         have hd3:decide ((cc:Int) < 128)=true:=decide_eq_true (by omega)
         go_wp2_with fail
         refine HC.out.mono ?_
         rintro e w4 ⟨rfl,hr1,hg1⟩
         have HG1:=Lib.hid (HGT.out _ hg1)
         have HR1:=Lib.hid hr1
         clear hr1 hg1 HGT
         go_wp2
         go_ret
         refine ⟨q+1, ?_,by omega,by rw [HQ.out],HR1.out,HG1.out⟩
         rw [HQ.out]
         show Ending.returned (.int .i64 ((n:Int)+(M:Int)))=_
         exact ret_int (Int.natCast_add n M).symm
       · rw [if_neg hlast] at HQ
         have hd3:decide ((cc:Int) < 128)=false:=decide_eq_false (by omega)
         go_wp2_with fail
         refine HC.out.mono ?_
         rintro e w4 ⟨rfl,hr1,hg1⟩
         have HG1:=Lib.hid (HGT.out _ hg1)
         have HR1:=Lib.hid hr1
         clear hr1 hg1 HGT
         go_wp2
         exact ⟨⟨k+1,n+M,q+1,congrArg (Value.int .i64) (Int.natCast_add n M).symm,by rw [HP1.out];exact congrArg (Value.int .i64) (by omega),by omega,HN2.out,by omega,HQ,HR1,HG1⟩,by simp [intOf];omega⟩
   · have hd1:decide ((-1:Int) < 0)=true:=by decide
     have HC:=Lib.hid (HNN.out q wr (by omega) HR.out)
     rw [show bs.drop q=[] from List.drop_eq_nil_of_le (by omega),Im.rcK] at HQ
     have hgtr:=fun w' (h:wr.grownBy w' (some R))=>grownBy_trans HG.out h (.inl rfl)
     have HGT:=Lib.hid hgtr
     clear hgtr
     go_wp2_with fail
     refine HC.out.mono ?_
     rintro e w1 ⟨rfl,hr1,hg1⟩
     have HG1:=Lib.hid (HGT.out _ hg1)
     have HR1:=Lib.hid hr1
     clear hr1 hg1 HGT
     go_wp2
     go_ret
     exact ⟨q,by rw [HQ.out];rfl,hpq,by rw [HQ.out];exact List.drop_eq_nil_of_le (by omega),HR1.out,HG1.out⟩
end Go.Proofs.YtoepdfpnkmccoaaDoor
namespace Go.Proofs.YtoepdfpnkmccoaaDoor
namespace Im
def cI:Option Nat→Int
 | some n=>n
 | none=>-1
def rH (k:Int) (l:List UInt8):Option (Tr × Nat × List UInt8) :=
 if k=2 then (if 32 ≤ l.length then some (.node 2 (wordOf l 0) (wordOf l 1) (wordOf l 2) (wordOf l 3) [] 0 0 0 false,0,l.drop 32) else none)
 else if k=5 ∨ k=6 then some (.node k 0#64 0#64 0#64 0#64 [] 0 0 0 false,(rC l).1.getD 0,(rC l).2)
 else if k=7 then some (.node 7 0#64 0#64 0#64 0#64 [] (cI (rC l).1) 0 0 false,1,(rC l).2)
 else if k=8 then
   match (rC l).1,(rC (rC l).2).1,(rC (rC l).2).2 with
   | some lo,some hi,b :: r=>if 1 < b.toNat then none else some (.node 8 0#64 0#64 0#64 0#64 [] 0 lo ((hi:Int) - 1) (b.toNat == 1),1,r)
   | _,_,_=>none
 else some (.node k 0#64 0#64 0#64 0#64 [] 0 0 0 false,0,l)
def rN:Nat→List UInt8→Option (Tr × List UInt8)
 | 0,_=>none
 | _+1,[]=>none
 | room+1,k :: l=>match rH (k.toNat:Int) l with
   | none=>none
   | some (h,n,r)=>match rdS (rN room) n r with
     | none=>none
     | some (ts,r')=>some (withSubs h ts,r')
theorem rC_len (l:List UInt8):(rC l).2.length ≤ l.length:=rcK_len l 0 0
theorem rH_len {k:Int} {l:List UInt8} {h:Tr} {n:Nat} {r:List UInt8} (hh:rH k l=some (h,n,r)):r.length ≤ l.length:=by
 unfold rH at hh
 split at hh
 · split at hh
   · simp only [Option.some.injEq,Prod.mk.injEq] at hh
     obtain ⟨-,-,rfl⟩:=hh
     simp
   · cases hh
 split at hh
 · simp only [Option.some.injEq,Prod.mk.injEq] at hh
   obtain ⟨-,-,rfl⟩:=hh
   exact rC_len l
 split at hh
 · simp only [Option.some.injEq,Prod.mk.injEq] at hh
   obtain ⟨-,-,rfl⟩:=hh
   exact rC_len l
 split at hh
 · have h1:=rC_len l
   have h2:=rC_len (rC l).2
   split at hh
   · rename_i b r0 _ _ h3
     split at hh
     · cases hh
     · simp only [Option.some.injEq,Prod.mk.injEq] at hh
       obtain ⟨-,-,rfl⟩:=hh
       rw [h3] at h2
       simp at h2
       omega
   · cases hh
 · simp only [Option.some.injEq,Prod.mk.injEq] at hh
   obtain ⟨-,-,rfl⟩:=hh
   exact Nat.le_refl _
theorem rN_len:∀ (room:Nat) (l:List UInt8) (t:Tr) (r:List UInt8),rN room l=some (t,r)→r.length < l.length
 | 0,l,t,r,h=>by rw [rN] at h;cases h
 | room+1,[],t,r,h=>by rw [rN] at h;cases h
 | room+1,k :: l,t,r,h=>by
   rw [rN] at h
   split at h
   · cases h
   · rename_i hd n r1 h1
     split at h
     · cases h
     · rename_i ts r' h2
       simp only [Option.some.injEq,Prod.mk.injEq] at h
       obtain ⟨-,rfl⟩:=h
       have a:=rH_len h1
       have b:=rdS_len (rN_len room) n r1 ts r' h2
       simp;omega
theorem rC_numB (n:Nat) (hn:n < 2097152) (r:List UInt8):rC (numB n ++ r)=(some n,r):=by
 have key:∀ (d k m n:Nat) (r:List UInt8),k+d=3→n < 128 ^ d→rcK k m (numB n ++ r)=(if d=0 then (none,(numB n ++ r).drop 1) else (some (m+128 ^ k * n),r)):=by
   intro d
   induction d with
   | zero =>
     intro k m n r hk hn
     have h0:n=0:=by simpa using hn
     subst h0
     rw [if_pos rfl]
     have:numB 0=[UInt8.ofNat 0]:=by rw [numB];rfl
     rw [this]
     show rcK k m (UInt8.ofNat 0 :: r)=_
     rw [rcK,if_pos (by omega)]
     rfl
   | succ d ih =>
     intro k m n r hk hn
     rw [if_neg (by omega),numB]
     split
     · rename_i h128
       show rcK k m (UInt8.ofNat n :: r)=_
       have hb:(UInt8.ofNat n).toNat=n:=by rw [UInt8.toNat_ofNat'];omega
       rw [rcK,if_neg (by omega),hb,if_pos h128,Nat.mod_eq_of_lt h128]
     · rename_i h128
       show rcK k m (UInt8.ofNat (128+n % 128) :: (numB (n / 128) ++ r))=_
       have hb:(UInt8.ofNat (128+n % 128)).toNat=128+n % 128:=by rw [UInt8.toNat_ofNat'];omega
       rw [rcK,if_neg (by omega),hb,if_neg (by omega)]
       cases d with
       | zero=>simp at hn;omega
       | succ d =>
         rw [ih (k+1) _ (n / 128) r (by omega) (by rw [Nat.pow_succ] at hn;omega),if_neg (by omega)]
         have h1:(128+n % 128) % 128=n % 128:=by omega
         have h2:n=n % 128+128 * (n / 128):=by omega
         have h3:128 ^ (k+1) * (n / 128)=128 ^ k * (128 * (n / 128)):=by rw [Nat.pow_succ,Nat.mul_assoc]
         rw [h1,h3,Nat.add_assoc,← Nat.mul_add,← h2]
 have h:=key 3 0 0 n r rfl (by simpa using hn)
 rw [if_neg (by omega)] at h
 simpa [rC] using h
end Im
end Go.Proofs.YtoepdfpnkmccoaaDoor
namespace Go.Proofs.YtoepdfpnkmccoaaDoor
open Go.RowKit
def RdQ (W0 w:World) (R:Nat) (bs rr:List UInt8) (s:Nat):Prop:=∃ (q:Nat) (left:Int),bs.drop q=rr∧RdR W0 w R bs q left∧(rr.length:Int)+s ≤ left∧left ≤ 140737488351232
theorem RdQ.other {W0 w w':World} {R s:Nat} {bs rr:List UInt8} (h:RdQ W0 w R bs rr s) (hk:w'.heap[R]? = w.heap[R]?):RdQ W0 w' R bs rr s:=by
 obtain ⟨q,left,h1,⟨v,h2,h3⟩,h4,h5⟩:=h
 exact ⟨q,left,h1,⟨v,hk.trans h2,h3⟩,h4,h5⟩
theorem RdQ.lt {W0 w:World} {R s:Nat} {bs rr:List UInt8} (h:RdQ W0 w R bs rr s):R < w.heap.size:=by
 obtain ⟨q,left,h1,⟨v,h2,h3⟩,h4,h5⟩:=h
 exact (Array.getElem?_eq_some_iff.1 h2).1
def NxEnd (W0:World) (R:Nat) (bs rr:List UInt8) (s:Nat) (w:World) (e:Ending) (w':World):Prop :=
 w.grownBy w' (some R)∧match rr with
   | []=>e=.returned (.int .i64 (-1))∧RdQ W0 w' R bs [] s
   | c :: r=>e=.returned (.int .i64 (c.toNat:Int))∧RdQ W0 w' R bs r (s+1)
theorem nextQ_any (W0 w:World) (R:Nat) (hR:W0.heap.size ≤ R) (hb:Below W0.heap.size W0 w) (bs rr:List UInt8) (s:Nat) (hl:bs.length ≤ 140737488351232) (hr:RdQ W0 w R bs rr s) :
   Calls Tryd.prog 61 #[.pointer (some ⟨R,0,none⟩)] w (NxEnd W0 R bs rr s w):=by
 obtain ⟨q,left,h1,h2,h3,h4⟩:=hr
 cases rr with
 | nil =>
   refine (next_no W0 w R bs q left (by
     by_cases h:bs.length ≤ q
     · exact h
     · rw [List.drop_eq_getElem_cons (by omega)] at h1;cases h1) h2).mono ?_
   rintro e w' ⟨rfl,h5,h6⟩
   exact ⟨h6,rfl,q,left,h1,h5,h3,h4⟩
 | cons c r =>
   have hq:q < bs.length:=by
     by_cases h:q < bs.length
     · exact h
     · rw [List.drop_eq_nil_of_le (by omega)] at h1;cases h1
   rw [List.drop_eq_getElem_cons hq] at h1
   injection h1 with h1 h1'
   refine (next_yes W0 w R hR hb bs q left hq hl h2).mono ?_
   rintro e w' ⟨rfl,h5,h6⟩
   rw [h1]
   exact ⟨h6,rfl,q+1,left,h1',h5,by simp at h3;omega,h4⟩
def CqEnd (W0:World) (R:Nat) (bs rr:List UInt8) (s:Nat) (w:World) (e:Ending) (w':World):Prop :=
 w.grownBy w' (some R)∧e=.returned (.int .i64 (Im.cI (Im.rC rr).1))∧RdQ W0 w' R bs (Im.rC rr).2 s
theorem countQ_any (W0 w:World) (R:Nat) (hR:W0.heap.size ≤ R) (hb:Below W0.heap.size W0 w) (bs rr:List UInt8) (s:Nat) (hl:bs.length ≤ 140737488351232) (hr:RdQ W0 w R bs rr s) :
   Calls Tryd.prog 62 #[.pointer (some ⟨R,0,none⟩)] w (CqEnd W0 R bs rr s w):=by
 obtain ⟨q,left,rfl,h2,h3,h4⟩:=hr
 refine (count_any W0 w R hR hb bs q left hl h2).mono ?_
 rintro e w' ⟨p,rfl,h5,h6,h7,h8⟩
 refine ⟨h8,by cases (Im.rC (bs.drop q)).1 <;> rfl,p,left,h6,h7, ?_,h4⟩
 have:=Im.rC_len (bs.drop q)
 omega
theorem cI_le (l:List UInt8) : -1 ≤ Im.cI (Im.rC l).1∧Im.cI (Im.rC l).1 < 2097152:=by
 cases h:(Im.rC l).1 with
 | none=>simp [Im.cI]
 | some n =>
   have:=Im.rcK_le l 0 0 n (by omega) (by simp) h
   simp only [Im.cI]
   omega
theorem RdQ.less {W0 w:World} {R s:Nat} {bs rr:List UInt8} (h:RdQ W0 w R bs rr (s+1)):∃ left:Int,w.cell? ⟨R,2,none⟩=some (.int .i64 left)∧w.frozen? ⟨R,2,none⟩=false∧1 ≤ left∧left ≤ 140737488351232 ∧
   RdQ W0 (w.setCell ⟨R,2,none⟩ (.int .i64 (left - 1))) R bs rr s∧(w.setCell ⟨R,2,none⟩ (.int .i64 (left - 1))).cell? ⟨R,2,none⟩=some (.int .i64 (left - 1)):=by
 obtain ⟨q,left,h1,⟨v,h2,h3⟩,h4,h5⟩:=h
 have hs:(w.setCell ⟨R,2,none⟩ (.int .i64 (left - 1))).heap[R]? = some (.cells #[v,.int .i64 (q:Int),.int .i64 (left - 1)] 86):=by simp [World.setCell,Array.getElem?_modify,h2]
 refine ⟨left,(three h2).2.2.1,(three h2).2.2.2.2.2,by omega,h5,⟨q,left - 1,h1,⟨v,hs,h3⟩,by omega,by omega⟩,(three hs).2.2.1⟩
theorem RdQ.less0 {W0 w:World} {R:Nat} {bs:List UInt8} (h:RdQ W0 w R bs [] 0):∃ left:Int,w.cell? ⟨R,2,none⟩=some (.int .i64 left)∧w.frozen? ⟨R,2,none⟩=false∧0 ≤ left∧left ≤ 140737488351232:=by
 obtain ⟨q,left,h1,⟨v,h2,h3⟩,h4,h5⟩:=h
 exact ⟨left,(three h2).2.2.1,(three h2).2.2.2.2.2,by simpa using h4,h5⟩
end Go.Proofs.YtoepdfpnkmccoaaDoor
