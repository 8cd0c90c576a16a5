/- Part 3 of what these proofs need. -/
import Derived.Test.YtedjkbmfpjmlpaaDoorPc2
set_option maxRecDepth 100000
set_option maxHeartbeats 16000000
namespace Go.Proofs.YtedjkbmfpjmlpaaDoor
open Go.RowKit
namespace Ri
variable {P:Program} {ops:Array Oper} {Q:Exit→Act→World→Prop}
def deps (ops:Array Oper) (i:Nat):List Nat:=match ops[i]? with
 | some o=>o.after.toList.filterMap fun e=>if Region.binds .any e then some e.on else none
 | none=>[]
def reach (ops:Array Oper):Nat→List Nat→List Nat
 | 0,l=>l
 | n+1,l=>l ++ reach ops n (l.flatMap (deps ops))
def waitsT (ops:Array Oper) (last:Nat):Bool:=(List.range last).all fun k=>(reach ops last (deps ops last)).contains k
def Closed (ops:Array Oper) (L:Nat→Bool):Prop:=∀ k,L k=true→∀ j,j ∈ deps ops k→L j=true
theorem Closed.deps {L:Nat→Bool} {i:Nat} (hd:∀ o,ops[i]? = some o→∀ e ∈ o.after,Region.binds .any e=true→L e.on=true) {j:Nat} (hj:j ∈ Ri.deps ops i):L j=true:=by
 unfold Ri.deps at hj
 cases ho:ops[i]? with
 | none=>rw [ho] at hj;cases hj
 | some o =>
   rw [ho] at hj
   obtain ⟨e,he,h2⟩:=List.mem_filterMap.1 hj
   split at h2
   · rename_i hb
     injection h2 with h2
     rw [← h2]
     exact hd o ho e (Array.mem_toList_iff.1 he) hb
   · cases h2
theorem Closed.step {L:Nat→Bool} (h:Closed ops L) {i:Nat} (hd:∀ o,ops[i]? = some o→∀ e ∈ o.after,Region.binds .any e=true→L e.on=true):Closed ops (up L i true):=by
 intro k hk j hj
 have hj2:L j=true:=by
   by_cases e:k=i
   · subst e;exact Closed.deps hd hj
   · rw [up_other _ _ _ _ e] at hk;exact h k hk j hj
 by_cases e:j=i
 · subst e;rw [up_same]
 · rw [up_other _ _ _ _ e];exact hj2
theorem Closed.reach {L:Nat→Bool} (h:Closed ops L) {n:Nat} {l:List Nat} (hl:∀ j,j ∈ l→L j=true) {k:Nat} (hk:k ∈ Ri.reach ops n l):L k=true:=by
 induction n generalizing l with
 | zero=>rw [Ri.reach] at hk;exact hl k hk
 | succ n ih =>
   rw [Ri.reach,List.mem_append] at hk
   rcases hk with hk | hk
   · exact hl k hk
   · refine ih (fun j hj=>?_) hk
     obtain ⟨a,ha,hja⟩:=List.mem_flatMap.1 hj
     exact h a (hl a ha) j hja
theorem wp_region_late {id:Nat} {a:Act} {w:World} (hm:P.follows .mixedOrders=true) (hb:backward ops=true) (hap:apart ops=true) (hsz0:(ops.toList.all fun o=>o.dst.all fun d=>decide (d < a.tmps.size))=true)
   (last:Nat) (hn:ops.size=last+1) (hw:waitsT ops last=true) (K:Nat→World→Value→Prop) (Fin:(Nat→Value)→World→Prop)
   (hK:∀ k w v w',K k w v→Below w.heap.size w w'→K k w' v)
   (step:∀ i,i < last→∀ L v w' (a':Act),Fa K w L v w'→L i=false→(∀ o,ops[i]? = some o→∀ e ∈ o.after,Region.binds .any e=true→L e.on=true) →
     (∀ j d:Nat,(ops[j]?).bind (·.dst)=some d→L j=true→a'.tmps.getD d undef=v j)→(∀ d,ops.toList.all (fun o=>o.dst != some d)=true→a'.tmps.getD d undef=a.tmps.getD d undef) →
     wpOp P ops Q i (fun b w''=>∃ (o:Oper) (u:Value),ops[i]? = some o∧b=a'.put o.dst u∧Below w'.heap.size w' w''∧K i w'' u) a' w')
   (put:∀ L v w' (a':Act),Fa K w L v w'→(∀ k,k < last→L k=true) →
     (∀ j d:Nat,(ops[j]?).bind (·.dst)=some d→L j=true→a'.tmps.getD d undef=v j)→(∀ d,ops.toList.all (fun o=>o.dst != some d)=true→a'.tmps.getD d undef=a.tmps.getD d undef) →
     wpOp P ops Q last (fun b w''=>∃ (o:Oper) (u:Value),ops[last]? = some o∧b=a'.put o.dst u∧Fin (up v last u) w'') a' w')
   (fin:∀ v w',Fin v w'→Q .normal (frame ops a (fun _=>true) v) w'):(Code.region id ops true).wp P Q a w:=by
 refine wp_region_frame hm hb hap hsz0 (fun L v w'=>(L last=false→Fa K w L v w')∧(L last=true→Fin v w'∧∀ k,k < last→L k=true)∧Closed ops L) ⟨fun _=>⟨(Below.refl _ _).drew,fun k h=>by cases h⟩,(fun h=>by cases h),fun k h=>by cases h⟩ ?_ ?_
 · intro i hi L v w' a' hI hL hd hv ho
   rw [hn] at hi
   by_cases e:i=last
   · subst e
     have hall:∀ k,k < i→L k=true:=fun k hk=>by
       unfold waitsT at hw
       have h1:=List.all_eq_true.1 hw k (List.mem_range.2 hk)
       rw [List.contains_eq_mem,decide_eq_true_eq] at h1
       exact hI.2.2.reach (fun j hj=>Closed.deps hd hj) h1
     refine wpOp_mono ?_ (put L v w' a' (hI.1 hL) hall hv ho)
     rintro b w'' ⟨o,u,h1,h2,h3⟩
     refine ⟨o,u,h1,h2,fun h=>(by rw [up_same] at h;cases h),(fun _=>⟨h3,fun k hk=>?_⟩),hI.2.2.step hd⟩
     rw [up_other _ _ _ _ (by omega)];exact hall k hk
   · have hl:L last=false:=by
       cases h:L last with
       | false=>rfl
       | true=>have:=(hI.2.1 h).2 i (by omega);rw [hL] at this;cases this
     refine wpOp_mono ?_ (step i (by omega) L v w' a' (hI.1 hl) hL hd hv ho)
     rintro b w'' ⟨o,u,h1,h2,h3,h4⟩
     refine ⟨o,u,h1,h2,(fun _=>(hI.1 hl).step hK h3 h4),(fun h=>?_),hI.2.2.step hd⟩
     rw [up_other _ _ _ _ (Ne.symm e),hl] at h
     cases h
 · intro v w' hI
   exact fin v w' (hI.2.1 (by rw [hn];simp)).1
end Ri
end Go.Proofs.YtedjkbmfpjmlpaaDoor
namespace Go.Proofs.YtedjkbmfpjmlpaaDoor
open Go.RowKit
namespace Ri
variable {P:Program} {ops:Array Oper} {Q:Exit→Act→World→Prop}
def midst (ops:Array Oper) (p last:Nat) (free:Nat→Bool):Bool:=(List.range last).all fun k=>k == p || free k || (reach ops last (deps ops p)).contains k
end Ri
end Go.Proofs.YtedjkbmfpjmlpaaDoor
namespace Go.Proofs.YtedjkbmfpjmlpaaDoor
open Go.RowKit
namespace Ri
variable {P:Program} {ops:Array Oper} {Q:Exit→Act→World→Prop}
def waitsQ (ops:Array Oper) (q last:Nat):Bool:=(List.range last).all fun k=>k == q || (reach ops last (deps ops q)).contains k
theorem wp_region_app2 {id:Nat} {a:Act} {w:World} (hm:P.follows .mixedOrders=true) (hb:backward ops=true) (hap:apart ops=true) (hsz0:(ops.toList.all fun o=>o.dst.all fun d=>decide (d < a.tmps.size))=true)
   (last p q:Nat) (hn:ops.size=last+1) (hp:p < last) (hq:q < last) (hpq:p ≠ q) (free:Nat→Bool) (hw:waitsT ops last=true) (hwq:waitsQ ops q last=true) (hwp:midst ops p last (fun k=>k == q || free k)=true)
   (K:Nat→World→Value→Prop) (KF:Value→Nat→Value→Prop) (Mid Mid2:Value→World→Prop) (Fin:(Nat→Value)→World→Prop)
   (hK:∀ k w v w',K k w v→Below w.heap.size w w'→K k w' v) (hKF:∀ k w v x,K k w v→KF x k v)
   (step:∀ i,i < last→i ≠ p→i ≠ q→∀ (L:Nat→Bool) (v:Nat→Value) (w':World) (a':Act),Fa K w L v w'→L i=false→L p=false→(∀ o,ops[i]? = some o→∀ e ∈ o.after,Region.binds .any e=true→L e.on=true) →
     (∀ j d:Nat,(ops[j]?).bind (·.dst)=some d→L j=true→a'.tmps.getD d undef=v j)→(∀ d,ops.toList.all (fun o=>o.dst != some d)=true→a'.tmps.getD d undef=a.tmps.getD d undef) →
     wpOp P ops Q i (fun b w''=>∃ (o:Oper) (u:Value),ops[i]? = some o∧b=a'.put o.dst u∧Below w'.heap.size w' w''∧K i w'' u) a' w')
   (stepF:∀ i,i < last→free i=true→∀ (L:Nat→Bool) (v:Nat→Value) (w':World) (a':Act),Mid (v p) w'→(∀ k,k < last→k ≠ p→L k=true→KF (v p) k (v k))→L i=false→L p=true→(∀ o,ops[i]? = some o→∀ e ∈ o.after,Region.binds .any e=true→L e.on=true) →
     (∀ j d:Nat,(ops[j]?).bind (·.dst)=some d→L j=true→a'.tmps.getD d undef=v j)→(∀ d,ops.toList.all (fun o=>o.dst != some d)=true→a'.tmps.getD d undef=a.tmps.getD d undef) →
     wpOp P ops Q i (fun b w''=>∃ (o:Oper) (u:Value),ops[i]? = some o∧b=a'.put o.dst u∧w''=w'∧KF (v p) i u) a' w')
   (app:∀ (L:Nat→Bool) (v:Nat→Value) (w':World) (a':Act),Fa K w L v w'→(∀ k,k < last→k ≠ p→k ≠ q→free k=false→L k=true) →
     (∀ j d:Nat,(ops[j]?).bind (·.dst)=some d→L j=true→a'.tmps.getD d undef=v j)→(∀ d,ops.toList.all (fun o=>o.dst != some d)=true→a'.tmps.getD d undef=a.tmps.getD d undef) →
     wpOp P ops Q p (fun b w''=>∃ (o:Oper) (u:Value),ops[p]? = some o∧b=a'.put o.dst u∧Mid u w'') a' w')
   (call:∀ (L:Nat→Bool) (v:Nat→Value) (w':World) (a':Act),Mid (v p) w'→(∀ k,k < last→k ≠ q→L k=true)→(∀ k,k < last→k ≠ p→k ≠ q→KF (v p) k (v k)) →
     (∀ j d:Nat,(ops[j]?).bind (·.dst)=some d→L j=true→a'.tmps.getD d undef=v j)→(∀ d,ops.toList.all (fun o=>o.dst != some d)=true→a'.tmps.getD d undef=a.tmps.getD d undef) →
     wpOp P ops Q q (fun b w''=>∃ (o:Oper) (u:Value),ops[q]? = some o∧b=a'.put o.dst u∧Mid2 u w'') a' w')
   (put:∀ (L:Nat→Bool) (v:Nat→Value) (w':World) (a':Act),Mid2 (v q) w'→(∀ k,k < last→L k=true) →
     (∀ j d:Nat,(ops[j]?).bind (·.dst)=some d→L j=true→a'.tmps.getD d undef=v j)→(∀ d,ops.toList.all (fun o=>o.dst != some d)=true→a'.tmps.getD d undef=a.tmps.getD d undef) →
     wpOp P ops Q last (fun b w''=>∃ (o:Oper) (u:Value),ops[last]? = some o∧b=a'.put o.dst u∧Fin (up v last u) w'') a' w')
   (fin:∀ v w',Fin v w'→Q .normal (frame ops a (fun _=>true) v) w'):(Code.region id ops true).wp P Q a w:=by
 refine wp_region_frame hm hb hap hsz0 (fun L v w'=>(L p=false→Fa K w L v w'∧L q=false∧L last=false)∧(L p=true→L q=false→Mid (v p) w'∧∀ k,k < last→k ≠ p→L k=true→KF (v p) k (v k)) ∧
   (L p=true→∀ k,k < last→k ≠ p→k ≠ q→free k=false→L k=true)∧(L q=true→L last=false→Mid2 (v q) w')∧(L q=true→∀ k,k < last→L k=true)∧(L last=true→Fin v w'∧∀ k,k < last→L k=true)∧Closed ops L)
   ⟨fun _=>⟨⟨(Below.refl _ _).drew,fun k h=>by cases h⟩,rfl,rfl⟩,(fun h=>by cases h),(fun h=>by cases h),(fun h=>by cases h),(fun h=>by cases h),(fun h=>by cases h),fun k h=>by cases h⟩ ?_ ?_
 · intro i hi L v w' a' hI hL hd hv ho
   rw [hn] at hi
   obtain ⟨h1,h2,h3,h4,h5,h6,h7⟩:=hI
   by_cases e:i=last
   · subst e
     have hall:∀ k,k < i→L k=true:=fun k hk=>by
       unfold waitsT at hw
       have h1:=List.all_eq_true.1 hw k (List.mem_range.2 hk)
       rw [List.contains_eq_mem,decide_eq_true_eq] at h1
       exact h7.reach (fun j hj=>Closed.deps hd hj) h1
     refine wpOp_mono ?_ (put L v w' a' (h4 (hall q hq) hL) hall hv ho)
     rintro b w'' ⟨o,u,g1,g2,g3⟩
     refine ⟨o,u,g1,g2,(fun h=>?_),(fun _ h=>?_),(fun _ k hk _ _ _=>?_),(fun _ h=>(by rw [up_same] at h;cases h)),(fun _ k hk=>?_),(fun _=>⟨g3,fun k hk=>?_⟩),h7.step hd⟩
     · rw [up_other _ _ _ _ (by omega),hall p hp] at h;cases h
     · rw [up_other _ _ _ _ (by omega),hall q hq] at h;cases h
     · rw [up_other _ _ _ _ (by omega)];exact hall k hk
     · rw [up_other _ _ _ _ (by omega)];exact hall k hk
     · rw [up_other _ _ _ _ (by omega)];exact hall k hk
   · have hl:L last=false:=by
       cases h:L last with
       | false=>rfl
       | true=>have:=(h6 h).2 i (by omega);rw [hL] at this;cases this
     by_cases eq:i=q
     · subst eq
       have hall:∀ k,k < last→k ≠ i→L k=true:=fun k hk hki=>by
         unfold waitsQ at hwq
         have h1:=List.all_eq_true.1 hwq k (List.mem_range.2 hk)
         rw [List.contains_eq_mem] at h1
         simp only [Bool.or_eq_true,beq_iff_eq,decide_eq_true_eq] at h1
         rcases h1 with h1 | h1
         · exact absurd h1 hki
         · exact h7.reach (fun j hj=>Closed.deps hd hj) h1
       have hLp:=hall p hp hpq
       obtain ⟨m1,m2⟩:=h2 hLp hL
       refine wpOp_mono ?_ (call L v w' a' m1 hall (fun k hk hkp hki=>m2 k hk hkp (hall k hk hki)) hv ho)
       rintro b w'' ⟨o,u,g1,g2,g3⟩
       refine ⟨o,u,g1,g2,(fun h=>?_),(fun _ h=>(by rw [up_same] at h;cases h)),(fun _ k hk hkp hki hf=>?_),(fun _ _=>(by rw [up_same];exact g3)),(fun _ k hk=>?_),(fun h=>?_),h7.step hd⟩
       · rw [up_other _ _ _ _ hpq,hLp] at h;cases h
       · rw [up_other _ _ _ _ hki];exact hall k hk hki
       · by_cases ek:k=i
         · subst ek;rw [up_same]
         · rw [up_other _ _ _ _ ek];exact hall k hk ek
       · rw [up_other _ _ _ _ (by omega),hl] at h;cases h
     · have hlq:L q=false:=by
         cases h:L q with
         | false=>rfl
         | true=>have:=h5 h i (by omega);rw [hL] at this;cases this
       by_cases ep:i=p
       · subst ep
         have hall:∀ k,k < last→k ≠ i→k ≠ q→free k=false→L k=true:=fun k hk hki hkq hf=>by
           unfold midst at hwp
           have h1:=List.all_eq_true.1 hwp k (List.mem_range.2 hk)
           simp only [hf,List.contains_eq_mem,Bool.or_false,Bool.or_eq_true,beq_iff_eq,decide_eq_true_eq] at h1
           rcases h1 with (h1 | h1) | h1
           · exact absurd h1 hki
           · exact absurd h1 hkq
           · exact h7.reach (fun j hj=>Closed.deps hd hj) h1
         have hF:=(h1 hL).1
         refine wpOp_mono ?_ (app L v w' a' hF hall hv ho)
         rintro b w'' ⟨o,u,g1,g2,g3⟩
         refine ⟨o,u,g1,g2,(fun h=>(by rw [up_same] at h;cases h)),(fun _ _=>⟨by rw [up_same];exact g3,fun k hk hki hk2=>?_⟩),(fun _ k hk hki hkq hf=>?_),(fun h=>?_),(fun h=>?_),(fun h=>?_),h7.step hd⟩
         · rw [up_same,up_other _ _ _ _ hki]
           rw [up_other _ _ _ _ hki] at hk2
           exact hKF k _ _ _ (hF.2 k hk2)
         · rw [up_other _ _ _ _ hki];exact hall k hk hki hkq hf
         · rw [up_other _ _ _ _ (Ne.symm hpq),hlq] at h;cases h
         · rw [up_other _ _ _ _ (Ne.symm hpq),hlq] at h;cases h
         · rw [up_other _ _ _ _ (by omega),hl] at h;cases h
       · cases hLp:L p with
         | false =>
           refine wpOp_mono ?_ (step i (by omega) ep eq L v w' a' (h1 hLp).1 hL hLp hd hv ho)
           rintro b w'' ⟨o,u,g1,g2,g3,g4⟩
           refine ⟨o,u,g1,g2,(fun _=>⟨(h1 hLp).1.step hK g3 g4,by rw [up_other _ _ _ _ (Ne.symm eq)];exact hlq,by rw [up_other _ _ _ _ (Ne.symm e)];exact hl⟩),(fun h=>?_),(fun h=>?_),(fun h=>?_),(fun h=>?_),(fun h=>?_),h7.step hd⟩
           · rw [up_other _ _ _ _ (Ne.symm ep),hLp] at h;cases h
           · rw [up_other _ _ _ _ (Ne.symm ep),hLp] at h;cases h
           · rw [up_other _ _ _ _ (Ne.symm eq),hlq] at h;cases h
           · rw [up_other _ _ _ _ (Ne.symm eq),hlq] at h;cases h
           · rw [up_other _ _ _ _ (Ne.symm e),hl] at h;cases h
         | true =>
           have hf:free i=true:=by
             cases h:free i with
             | true=>rfl
             | false=>have:=h3 hLp i (by omega) ep eq h;rw [hL] at this;cases this
           obtain ⟨m1,m2⟩:=h2 hLp hlq
           refine wpOp_mono ?_ (stepF i (by omega) hf L v w' a' m1 m2 hL hLp hd hv ho)
           rintro b w'' ⟨o,u,g1,g2,rfl,g4⟩
           refine ⟨o,u,g1,g2,(fun h=>?_),(fun _ _=>⟨by rw [up_other _ _ _ _ (Ne.symm ep)];exact m1,fun k hk hkp hk2=>?_⟩),(fun _ k hk hkp hkq hfk=>?_),(fun h=>?_),(fun h=>?_),(fun h=>?_),h7.step hd⟩
           · rw [up_other _ _ _ _ (Ne.symm ep),hLp] at h;cases h
           · rw [up_other _ _ _ _ (Ne.symm ep)]
             by_cases ek:k=i
             · subst ek;rw [up_same];exact g4
             · rw [up_other _ _ _ _ ek] at hk2 ⊢;exact m2 k hk hkp hk2
           · by_cases ek:k=i
             · subst ek;rw [up_same]
             · rw [up_other _ _ _ _ ek];exact h3 hLp k hk hkp hkq hfk
           · rw [up_other _ _ _ _ (Ne.symm eq),hlq] at h;cases h
           · rw [up_other _ _ _ _ (Ne.symm eq),hlq] at h;cases h
           · rw [up_other _ _ _ _ (Ne.symm e),hl] at h;cases h
 · intro v w' hI
   exact fin v w' (hI.2.2.2.2.2.1 (by rw [hn];simp)).1
end Ri
end Go.Proofs.YtedjkbmfpjmlpaaDoor
namespace Go.Proofs.YtedjkbmfpjmlpaaDoor
open Go.RowKit
def Ps.lists (x:Sc) (t:Tr) (n d i j:Nat):List (List Pa):=Ps.lsF (fun d=>Tr.wy x (t.tkSubs.getD (t.subI d) (.node 0 0#64 0#64 0#64 0#64 [] 0 0 0 false))) (t.restT x) (fun d=>(t.subs.map (Tr.al x)).getD (t.subI d) Ps.noPas) t.mustI t.nextI n d i j
def ListsDoes (x:Sc) (lo m:Nat) (t:Tr) (n:Nat):Prop:=∀ (d i j:Nat),lo ≤ i→i ≤ j→j ≤ lo+m→Ps.fuel t.mustI d i j ≤ n→d < t.restN→(t.restT x d i j ≠ 0 ∨ (t.mustI ≤ (d:Int)∧i=j))→∀ (σ:Type) (K:FuncId) (caps:Array Value) (base:Nat) (Rg:Nat→Prop) (Inv Stop:σ→World→Prop) (step:σ→Nat→List Pa→Bool × σ),Endr K caps base Rg Inv Stop step →
 ∀ (s:σ) (w:World) (B:Nat→Prop) (b tb:Nat) (v:Value) (qs:List (Pa × Value)),TkrAt x lo m w B b t→(∀ k,B k→¬ Rg k∧v.ownBlock ≠ some k∧k < w.heap.size)→base ≤ w.heap.size→tb ≤ w.heap.size→Inv s w→LeftAt base tb Rg w v qs→qs.length+n ≤ 1000000 →
   Calls Tryd.prog 161 #[.pointer (some ⟨b,0,none⟩),.int .i64 (d:Int),.int .i64 (i:Int),.int .i64 (j:Int),v,.func (.func K) #[] caps] w fun e w' =>
     e=.returned (.bool (runC (fun s l=>step s 0 (qs.map (·.1) ++ l)) s (Ps.lists x t n d i j)).1)∧Tld (fun k=>Rg k ∨ v.ownBlock=some k) (fun s w'=>Inv s w'∧LeftAt base tb Rg w' v qs) Stop (runC (fun s l=>step s 0 (qs.map (·.1) ++ l)) s (Ps.lists x t n d i j)) w w'
structure LsInv {σ:Type} (Inv:σ→World→Prop) (x:Sc) (lo m:Nat) (t:Tr) (B:Nat→Prop) (b base tb:Nat) (Rg:Nat→Prop) (vl:Value) (qs:List (Pa × Value)) (K:FuncId) (caps:Array Value) (d2 c j b6 b14 b15 b9 b10 b11:Nat) (s:σ) (w:World):Prop where
 inv:Inv s w
 left:LeftAt base tb Rg w vl qs
 tk:TkrAt x lo m w B b t
 x6:w.heap[b6]? = some (.cells #[.pointer (some ⟨b,0,none⟩)] 121)
 x14:w.heap[b14]? = some (.cells #[.int .i64 (d2:Int)] 3)
 x15:w.heap[b15]? = some (.cells #[.int .i64 (c:Int)] 3)
 x9:w.heap[b9]? = some (.cells #[.int .i64 (j:Int)] 3)
 x10:w.heap[b10]? = some (.cells #[vl] 55)
 x11:w.heap[b11]? = some (.cells #[.func (.func K) #[] caps] 219)
def Placed (w w':World) (v v':Value) (n:Nat):Prop:=(∃ g cap,v=.slice (some ⟨g,0,none⟩) n cap∧v'=.slice (some ⟨g,0,none⟩) (n+1) cap) ∨ (v'.ownBlock=some w.heap.size∧Below w.heap.size w w')
def OnePa (w:World) (cs:Array Value) (v:Value):Prop:=∃ g,v=.slice (some ⟨g,0,none⟩) 1 1∧∀ (j:Nat) (u:Value),cs.toList[j]? = some u→w.cell? ((⟨g,0,none⟩:Addr).add j)=some u
theorem OnePa.below {w w':World} {cs:Array Value} {v:Value} (h:OnePa w cs v) (hb:Below w.heap.size w w'):OnePa w' cs v:=by
 obtain ⟨g,h1,h3⟩:=h
 refine ⟨g,h1,fun j u hu=>?_⟩
 have h9:=h3 j u hu
 have ea:(⟨g,0,none⟩:Addr).add j=⟨g,0+j,none⟩:=by (unfold Addr.add;split <;> simp_all)
 rw [ea] at h9 ⊢
 rw [World.cell?,hb.block g (block_lt_of_cell h9)];exact h9
theorem OnePa.new (w:World) (p:Pa) (q:Option Addr) (l c:Nat):OnePa (w.alloc (.cells #[.int .i64 p.lo,.int .i64 p.hi,.int .i64 p.pick,.slice q l c] 57)) #[.int .i64 p.lo,.int .i64 p.hi,.int .i64 p.pick,.slice q l c] (.slice (some ⟨w.heap.size,0,none⟩) 1 1) :=
 ⟨w.heap.size,rfl,fun j u hu=>by
   have ea:(⟨w.heap.size,0,none⟩:Addr).add j=⟨w.heap.size,j,none⟩:=by unfold Addr.add;split <;> simp_all
   rw [ea,cell_new];simpa using hu⟩
theorem paC_one (p:Pa) (q:Option Addr) (l c:Nat):∀ u ∈ (#[.int .i64 p.lo,.int .i64 p.hi,.int .i64 p.pick,.slice q l c]:Array Value).toList,u.oneCell'=true:=by simp [Value.oneCell']
theorem wp_pa1 {w:World} {o:Oper} {a:Act} {K:Act→World→Prop} {Q:Exit→Act→World→Prop} (x:Operand) (t:Pa) (p:Option Addr) (len cap:Nat) (ho:o.op=.buildSlice 55 1 #[(0,x)]) (hx:a.eval x=.agg #[.int .i64 t.lo,.int .i64 t.hi,.int .i64 t.pick,.slice p len cap])
   (h:K (a.put o.dst (.slice (some ⟨w.heap.size,0,none⟩) 1 1)) (w.alloc (.cells #[.int .i64 t.lo,.int .i64 t.hi,.int .i64 t.pick,.slice p len cap] 57))):Oper.wp Tryd.prog o a w K Q:=by
 obtain ⟨ie,hi,hz0,hz1,-⟩:=info_parts Tryd.infoParse
 refine wp_buildSlice 55 57 1 _ ho _ ie _ Tryd.underlying55 hi hz0 (by rw [hz1];decide) (by rw [hz1];decide) ?_ h
 rw [hz1]
 simp only [List.map_toArray,List.map_cons,List.map_nil,hx]
 kernel_rfl
theorem box_cell {w:World} {k:Nat} {u:Value} {ty:TypeId} (h:w.heap[k]? = some (.cells #[u] ty)):w.cell? ⟨k,0,none⟩=some u:=by unfold World.cell?;rw [h];rfl
theorem box_mid {w1 w3 w9:World} {k:Nat} {u v:Value} {ty:TypeId} (hb:Below w1.heap.size w1 w3) (hg:w3.grownBy w9 v.ownBlock) (h:w1.heap[k]? = some (.cells #[u] ty)) (hne:v.ownBlock ≠ some k):w9.cell? ⟨k,0,none⟩=some u:=by
 have h3:=keep_blk hb h
 exact box_cell ((hg.block k (Array.getElem?_eq_some_iff.1 h3).1 fun e=>hne e.symm).trans h3)
theorem lists_deeper {σ:Type} {K:FuncId} {caps:Array Value} {base:Nat} {Rg:Nat→Prop} {Inv Stop:σ→World→Prop} {step:σ→Nat→List Pa→Bool × σ} (h:Endr K caps base Rg Inv Stop step) (x:Sc) (lo m:Nat) (t:Tr) (nf:Nat) (hLD:ListsDoes x lo m t nf)
   (d2 c j:Nat) (hc1:lo ≤ c) (hc2:c ≤ j) (hj:j ≤ lo+m) (hfu:Ps.fuel t.mustI d2 c j ≤ nf) (hd2:d2 < t.restN) (hrest:t.restT x d2 c j ≠ 0) (B:Nat→Prop) (b tb base2:Nat) (vl:Value) (qs:List (Pa × Value)) (hqn:qs.length+1+nf ≤ 1000000)
   (b6 b14 b15 b9 b10 b11:Nat) (hbb:base ≤ base2) (hB:∀ k,B k→¬ Rg k∧vl.ownBlock ≠ some k∧k < base2) (hbx:∀ k,k=b6 ∨ k=b14 ∨ k=b15 ∨ k=b9 ∨ k=b10 ∨ k=b11→¬ Rg k∧vl.ownBlock ≠ some k∧k < base2)
   (p:Pa) (sv:Value) (s:σ) (w w1:World) (hw:Below w.heap.size w w1) (hsz:base2 ≤ w.heap.size) (hI:LsInv Inv x lo m t B b base tb Rg vl qs K caps d2 c j b6 b14 b15 b9 b10 b11 s w)
   (w3 w9:World) (U:Value) (hb3:Below w1.heap.size w1 w3) (hg:w3.grownBy w9 vl.ownBlock) (hpl:Placed w3 w9 vl U qs.length) (hl:LeftAt base w9.heap.size Rg w9 U (qs ++ [(p,sv)])) :
   Calls Tryd.prog 161 #[.pointer (some ⟨b,0,none⟩),.int .i64 (d2:Int),.int .i64 (c:Int),.int .i64 (j:Int),U,.func (.func K) #[] caps] w9 fun e w' =>
     e=.returned (.bool (runC (fun s l=>step s 0 (qs.map (·.1) ++ [p] ++ l)) s (Ps.lists x t nf d2 c j)).1)∧Tld (fun k=>Rg k ∨ vl.ownBlock=some k) (LsInv Inv x lo m t B b base tb Rg vl qs K caps d2 c j b6 b14 b15 b9 b10 b11) Stop (runC (fun s l=>step s 0 (qs.map (·.1) ++ [p] ++ l)) s (Ps.lists x t nf d2 c j)) w1 w':=by
 have h13:Below w.heap.size w w3:=hw.trans (hb3.mono hw.size)
 have hsz3:base2 ≤ w3.heap.size:=Nat.le_trans hsz h13.size
 have up:∀ k,k < w.heap.size→vl.ownBlock ≠ some k→w9.heap[k]? = w.heap[k]?:=fun k hk hn=>(hg.block k (Nat.lt_of_lt_of_le hk h13.size) fun e=>hn e.symm).trans (h13.block k hk)
 have hI9:Inv s w9:=h.stable s w w9 hI.inv ⟨hg.os.trans h13.os,hg.tape.trans h13.tape,hg.output.trans h13.output,Nat.le_trans h13.size hg.size,fun k hk=>up k (by omega) fun e=>by have:=(hI.left.own.lt k e).1;omega⟩
 have htk9:TkrAt x lo m w9 B b t:=hI.tk.keep fun k hk hBk=>up k hk (hB k hBk).2.1
 have hU:∀ k,k < base2→vl.ownBlock ≠ some k→U.ownBlock ≠ some k:=fun k hk hn e=>by
   rcases hpl with ⟨g,cp,e1,e2⟩ | ⟨h9,-⟩
   · rw [e2] at e;rw [e1] at hn;exact hn e
   · rw [h9] at e;injection e with e3;omega
 have hl3:LeftAt base tb Rg w3 vl qs:=hI.left.keep fun k _ hk _=>h13.block k hk
 refine (hLD d2 c j hc1 hc2 hj hfu hd2 (.inl hrest) σ K caps base Rg Inv Stop step h s w9 B b w9.heap.size U (qs ++ [(p,sv)]) htk9 (fun k hk=>⟨(hB k hk).1,hU k (hB k hk).2.2 (hB k hk).2.1,by have:=(hB k hk).2.2;have:=hg.size;omega⟩) (by have:=hg.size;omega) (Nat.le_refl _) hI9 hl (by rw [List.length_append];simp;omega)).mono ?_
 rw [show (qs ++ [(p,sv)]).map (·.1)=qs.map (·.1) ++ [p] by simp]
 rintro e w5 ⟨rfl,ht⟩
 refine ⟨rfl,fun e1=>?_,ht.2⟩
 obtain ⟨⟨hI5,hl5⟩,hch⟩:=ht.1 e1
 have hc5:=chg_app hg hpl hch
 have hcw:Chg (fun k=>Rg k ∨ vl.ownBlock=some k) w w5:=(Chg.of_below h13).trans hc5
 have kb:∀ k,k < base2→¬ Rg k→vl.ownBlock ≠ some k→w5.heap[k]? = w.heap[k]?:=fun k hk h1 h2=>hcw.block k (by omega) fun e=>e.elim h1 h2
 have bx:∀ k,k=b6 ∨ k=b14 ∨ k=b15 ∨ k=b9 ∨ k=b10 ∨ k=b11→w5.heap[k]? = w.heap[k]?:=fun k hk=>kb k (hbx k hk).2.2 (hbx k hk).1 (hbx k hk).2.1
 refine ⟨⟨hI5,hl3.back hg hpl hl5 hch,hI.tk.keep fun k _ hBk=>kb k (hB k hBk).2.2 (hB k hBk).1 (hB k hBk).2.1,(bx _ (by simp)).trans hI.x6,(bx _ (by simp)).trans hI.x14,(bx _ (by simp)).trans hI.x15,(bx _ (by simp)).trans hI.x9,(bx _ (by simp)).trans hI.x10,(bx _ (by simp)).trans hI.x11⟩,(Chg.of_below hb3).trans hc5⟩
theorem fnd_lists {σ:Type} {K:FuncId} {caps:Array Value} {base:Nat} {Rg:Nat→Prop} {Inv Stop:σ→World→Prop} {step:σ→Nat→List Pa→Bool × σ} (h:Endr K caps base Rg Inv Stop step) (x:Sc) (lo m:Nat) (t:Tr) (nf:Nat) (hLD:ListsDoes x lo m t nf)
   (d2 c j:Nat) (hc1:lo ≤ c) (hc2:c ≤ j) (hj:j ≤ lo+m) (hfu:Ps.fuel t.mustI d2 c j ≤ nf) (hd2:d2 < t.restN) (hrest:t.restT x d2 c j ≠ 0) (B:Nat→Prop) (b tb base2:Nat) (vl:Value) (qs:List (Pa × Value)) (hqn:qs.length+1+nf ≤ 1000000)
   (b6 b14 b15 b9 b10 b11:Nat) (hbb:base ≤ base2) (htb:tb ≤ base2) (hown:∀ k,vl.ownBlock=some k→k < base2) (hB:∀ k,B k→¬ Rg k∧vl.ownBlock ≠ some k∧k < base2) (hbx:∀ k,k=b6 ∨ k=b14 ∨ k=b15 ∨ k=b9 ∨ k=b10 ∨ k=b11→¬ Rg k∧vl.ownBlock ≠ some k∧k < base2) :
   Fnd 178 #[.pointer (some ⟨b6,0,none⟩),.pointer (some ⟨b14,0,none⟩),.pointer (some ⟨b15,0,none⟩),.pointer (some ⟨b9,0,none⟩),.pointer (some ⟨b10,0,none⟩),.pointer (some ⟨b11,0,none⟩)] base2 (fun k=>Rg k ∨ vl.ownBlock=some k)
     (LsInv Inv x lo m t B b base tb Rg vl qs K caps d2 c j b6 b14 b15 b9 b10 b11) Stop (fun s p=>runC (fun s l=>step s 0 (qs.map (·.1) ++ [p] ++ l)) s (Ps.lists x t nf d2 c j)) where
 enter:=fun args w=>by kernel_rfl
 low:=fun k hk=>hk.elim (fun e=>by have:=h.low k e;omega) (hown k)
 stable:=fun s w w' hI hk=>⟨h.stable s w w' hI.inv (hk.mono (by omega)),hI.left.keep fun k hk2 _ _=>hk.block k (by omega),hI.tk.keep fun k _ hBk=>hk.block k (hB k hBk).2.2,(hk.block _ (hbx _ (by simp)).2.2).trans hI.x6,(hk.block _ (hbx _ (by simp)).2.2).trans hI.x14,(hk.block _ (hbx _ (by simp)).2.2).trans hI.x15,(hk.block _ (hbx _ (by simp)).2.2).trans hI.x9,(hk.block _ (hbx _ (by simp)).2.2).trans hI.x10,(hk.block _ (hbx _ (by simp)).2.2).trans hI.x11⟩
 call:=by
   intro s w v p hI hb hv
   obtain ⟨sv,rfl,hs⟩:=hv
   obtain ⟨q,cap,rfl,-⟩:=hs.slice
   obtain ⟨ie,hi,hz0,hz1,hz2⟩:=info_parts Tryd.infoParse
   have HI:=Lib.hid hi;have HZ0:=Lib.hid hz0;have HZ1:=Lib.hid hz1;have HZ2:=Lib.hid hz2
   clear hi hz0 hz1 hz2
   have hbw:Below w.heap.size w (w.alloc (.cells (p.cells (.slice q p.subs.length cap)) 57)):=(Below.refl _ _).alloc (Nat.le_refl _) _
   have HC:=Lib.hid (fun w3 w9 U=>lists_deeper h x lo m t nf hLD d2 c j hc1 hc2 hj hfu hd2 hrest B b tb base2 vl qs hqn b6 b14 b15 b9 b10 b11 hbb hB hbx p (.slice q p.subs.length cap) s w _ hbw hb hI w3 w9 U)
   have HLOW:=Lib.hid h.low
   have XP:=Lib.hid (heap_alloc_new w (.cells (p.cells (.slice q p.subs.length cap)) 57))
   have HL:=Lib.hid (hI.left.keep fun k _ hk2 _=>hbw.block k hk2)
   have HS:=Lib.hid (hs.later hbw)
   have BX6:=Lib.hid (keep_blk hbw hI.x6);have BX14:=Lib.hid (keep_blk hbw hI.x14);have BX15:=Lib.hid (keep_blk hbw hI.x15);have BX9:=Lib.hid (keep_blk hbw hI.x9);have BX10:=Lib.hid (keep_blk hbw hI.x10);have BX11:=Lib.hid (keep_blk hbw hI.x11)
   have NE6:=Lib.hid (hbx b6 (by simp)).2.1;have NE14:=Lib.hid (hbx b14 (by simp)).2.1;have NE15:=Lib.hid (hbx b15 (by simp)).2.1;have NE9:=Lib.hid (hbx b9 (by simp)).2.1;have NE11:=Lib.hid (hbx b11 (by simp)).2.1
   have HB1:=Lib.hid (Chg.of_below (Rg:=fun k=>Rg k ∨ vl.ownBlock=some k) hbw)
   have hw1:base ≤ (w.alloc (.cells (p.cells (.slice q p.subs.length cap)) 57)).heap.size:=by have:=hbw.size;omega
   clear hI hs hbw hLD h hbx hB hown
   show Calls _ _ _ w fun e w'=>e=.returned (.bool (runC (fun s l=>step s 0 (qs.map (·.1) ++ [p] ++ l)) s (Ps.lists x t nf d2 c j)).1)∧Tld (fun k=>Rg k ∨ vl.ownBlock=some k) (LsInv Inv x lo m t B b base tb Rg vl qs K caps d2 c j b6 b14 b15 b9 b10 b11) Stop (runC (fun s l=>step s 0 (qs.map (·.1) ++ [p] ++ l)) s (Ps.lists x t nf d2 c j)) w w'
   generalize runC (fun s l=>step s 0 (qs.map (·.1) ++ [p] ++ l)) s (Ps.lists x t nf d2 c j)=RR at *
   generalize LsInv Inv x lo m t B b base tb Rg vl qs K caps d2 c j b6 b14 b15 b9 b10 b11=LI at *
   clear hfu hrest
   unfold Pa.cells at XP HC HL HS BX6 BX14 BX15 BX9 BX10 BX11 HB1 hw1 ⊢
   go_enter Tryd.func178,Tryd.ntmps178
   go_upto_region 1 with (fail)
   generalize hgw:w.alloc (.cells #[.int .i64 p.lo,.int .i64 p.hi,.int .i64 p.pick,.slice q p.subs.length cap] 57)=w1 at *
   clear hgw
   refine Ri.wp_region_app2 (by kernel_rfl) (by kernel_rfl) (by kernel_rfl) (by kernel_rfl) 10 7 9 (by kernel_rfl) (by omega) (by omega) (by omega) (fun kk=>kk == 0 || kk == 1 || kk == 2 || kk == 3 || kk == 8) (by kernel_rfl) (by kernel_rfl) (by kernel_rfl) (fun kk ww vv=>match kk with | 0=>vv=.pointer (some ⟨b,0,none⟩) | 1=>vv=.int .i64 (d2:Int) | 2=>vv=.int .i64 (c:Int) | 3=>vv=.int .i64 (j:Int) | 4=>vv=vl | 5=>vv=.agg #[.int .i64 p.lo,.int .i64 p.hi,.int .i64 p.pick,.slice q p.subs.length cap] | 6=>OnePa ww #[.int .i64 p.lo,.int .i64 p.hi,.int .i64 p.pick,.slice q p.subs.length cap] vv | 8=>vv=.func (.func K) #[] caps | _=>True) (fun _ kk vv=>match kk with | 0=>vv=.pointer (some ⟨b,0,none⟩) | 1=>vv=.int .i64 (d2:Int) | 2=>vv=.int .i64 (c:Int) | 3=>vv=.int .i64 (j:Int) | 4=>vv=vl | 5=>vv=.agg #[.int .i64 p.lo,.int .i64 p.hi,.int .i64 p.pick,.slice q p.subs.length cap] | 8=>vv=.func (.func K) #[] caps | _=>True) (fun uu ww=>∃ w3,Below w1.heap.size w1 w3∧w3.grownBy ww vl.ownBlock∧Placed w3 ww vl uu qs.length∧LeftAt base ww.heap.size Rg ww uu (qs ++ [(p,.slice q p.subs.length cap)])) (fun uu ww=>uu=.bool RR.1∧Tld (fun k=>Rg k ∨ vl.ownBlock=some k) LI Stop RR w1 ww) (fun vv ww=>(vv 10)=.bool RR.1∧Tld (fun k=>Rg k ∨ vl.ownBlock=some k) LI Stop RR w1 ww) (fun kk ww vv w8 h hb=>by
         match kk,h with
         | 0,h=>exact h
         | 1,h=>exact h
         | 2,h=>exact h
         | 3,h=>exact h
         | 4,h=>exact h
         | 5,h=>exact h
         | 6,h=>exact h.below hb
         | 7,h=>exact trivial
         | 8,h=>exact h
         | 9,h=>exact trivial
         | _+10,_=>trivial) (fun kk ww vv xx h=>by
         match kk,h with
         | 0,h=>exact h
         | 1,h=>exact h
         | 2,h=>exact h
         | 3,h=>exact h
         | 4,h=>exact h
         | 5,h=>exact h
         | 6,h=>exact trivial
         | 7,h=>exact trivial
         | 8,h=>exact h
         | 9,h=>exact trivial
         | _+10,_=>trivial) ?_ ?_ ?_ ?_ ?_ ?_
   · intro i hi9 hip hiq L v w9 xa hF9 hL hLp hd hv ho
     obtain ⟨hb,hk⟩:=hF9
     have hi':i=0 ∨ i=1 ∨ i=2 ∨ i=3 ∨ i=4 ∨ i=5 ∨ i=6 ∨ i=8:=by omega
     rcases hi' with rfl | rfl | rfl | rfl | rfl | rfl | rfl | rfl
     · have e1:xa.tmps.getD 1 undef=.pointer (some ⟨b6,0,none⟩):=ho 1 (by kernel_rfl)
       refine Ri.step_plain rfl rfl (fun K' hK'=>?_)
       have cc:=box_cell (keep_blk hb BX6.out)
       go_simp
       exact hK' _ _ ⟨_,_,rfl,rfl,(Below.refl _ _),rfl⟩
     · have e2:xa.tmps.getD 2 undef=.pointer (some ⟨b14,0,none⟩):=ho 2 (by kernel_rfl)
       refine Ri.step_plain rfl rfl (fun K' hK'=>?_)
       have cc:=box_cell (keep_blk hb BX14.out)
       go_simp
       exact hK' _ _ ⟨_,_,rfl,rfl,(Below.refl _ _),rfl⟩
     · have e3:xa.tmps.getD 3 undef=.pointer (some ⟨b15,0,none⟩):=ho 3 (by kernel_rfl)
       refine Ri.step_plain rfl rfl (fun K' hK'=>?_)
       have cc:=box_cell (keep_blk hb BX15.out)
       go_simp
       exact hK' _ _ ⟨_,_,rfl,rfl,(Below.refl _ _),rfl⟩
     · have e4:xa.tmps.getD 4 undef=.pointer (some ⟨b9,0,none⟩):=ho 4 (by kernel_rfl)
       refine Ri.step_plain rfl rfl (fun K' hK'=>?_)
       have cc:=box_cell (keep_blk hb BX9.out)
       go_simp
       exact hK' _ _ ⟨_,_,rfl,rfl,(Below.refl _ _),rfl⟩
     · have e5:xa.tmps.getD 5 undef=.pointer (some ⟨b10,0,none⟩):=ho 5 (by kernel_rfl)
       refine Ri.step_plain rfl rfl (fun K' hK'=>?_)
       have cc:=box_cell (keep_blk hb BX10.out)
       go_simp
       exact hK' _ _ ⟨_,_,rfl,rfl,(Below.refl _ _),rfl⟩
     · have e7:xa.tmps.getD 7 undef=.pointer (some ⟨w.heap.size,0,none⟩):=ho 7 (by kernel_rfl)
       refine Ri.step_plain rfl rfl (fun K' hK'=>?_)
       refine wp_load_row _ _ rfl _ e7 _ _ _ _ (keep_blk hb XP.out) Tryd.underlying57 rfl (by kernel_rfl) ?_
       exact hK' _ _ ⟨_,_,rfl,rfl,Below.refl _ _,rfl⟩
     · have j5:L 5=true:=by have:=hd _ rfl;simp [Region.binds] at this;simp [this]
       have f5:=(hv 5 14 rfl j5).trans (hk 5 j5)
       refine Ri.step_plain rfl rfl (fun K' hK'=>?_)
       refine wp_pa1 (.tmp 14) p q p.subs.length cap rfl f5 ?_
       exact hK' _ _ ⟨_,_,rfl,rfl,((Below.refl _ _).alloc (Nat.le_refl _) _),OnePa.new _ _ _ _ _⟩
     · have e6:xa.tmps.getD 6 undef=.pointer (some ⟨b11,0,none⟩):=ho 6 (by kernel_rfl)
       refine Ri.step_plain rfl rfl (fun K' hK'=>?_)
       have cc:=box_cell (keep_blk hb BX11.out)
       go_simp
       exact hK' _ _ ⟨_,_,rfl,rfl,(Below.refl _ _),rfl⟩
   · intro i hi9 hfr L v w9 xa hM hk hL hLp hd hv ho
     have hi':i=0 ∨ i=1 ∨ i=2 ∨ i=3 ∨ i=8:=by (simp at hfr;omega)
     rcases hi' with rfl | rfl | rfl | rfl | rfl
     · have e1:xa.tmps.getD 1 undef=.pointer (some ⟨b6,0,none⟩):=ho 1 (by kernel_rfl)
       refine Ri.step_plain rfl rfl (fun K' hK'=>?_)
       obtain ⟨w3,hb3,hg3,-,-⟩:=hM
       have cc:=box_mid hb3 hg3 BX6.out NE6.out
       go_simp
       exact hK' _ _ ⟨_,_,rfl,rfl,rfl,rfl⟩
     · have e2:xa.tmps.getD 2 undef=.pointer (some ⟨b14,0,none⟩):=ho 2 (by kernel_rfl)
       refine Ri.step_plain rfl rfl (fun K' hK'=>?_)
       obtain ⟨w3,hb3,hg3,-,-⟩:=hM
       have cc:=box_mid hb3 hg3 BX14.out NE14.out
       go_simp
       exact hK' _ _ ⟨_,_,rfl,rfl,rfl,rfl⟩
     · have e3:xa.tmps.getD 3 undef=.pointer (some ⟨b15,0,none⟩):=ho 3 (by kernel_rfl)
       refine Ri.step_plain rfl rfl (fun K' hK'=>?_)
       obtain ⟨w3,hb3,hg3,-,-⟩:=hM
       have cc:=box_mid hb3 hg3 BX15.out NE15.out
       go_simp
       exact hK' _ _ ⟨_,_,rfl,rfl,rfl,rfl⟩
     · have e4:xa.tmps.getD 4 undef=.pointer (some ⟨b9,0,none⟩):=ho 4 (by kernel_rfl)
       refine Ri.step_plain rfl rfl (fun K' hK'=>?_)
       obtain ⟨w3,hb3,hg3,-,-⟩:=hM
       have cc:=box_mid hb3 hg3 BX9.out NE9.out
       go_simp
       exact hK' _ _ ⟨_,_,rfl,rfl,rfl,rfl⟩
     · have e6:xa.tmps.getD 6 undef=.pointer (some ⟨b11,0,none⟩):=ho 6 (by kernel_rfl)
       refine Ri.step_plain rfl rfl (fun K' hK'=>?_)
       obtain ⟨w3,hb3,hg3,-,-⟩:=hM
       have cc:=box_mid hb3 hg3 BX11.out NE11.out
       go_simp
       exact hK' _ _ ⟨_,_,rfl,rfl,rfl,rfl⟩
   · intro L v w9 xa hF9 hall hv ho
     obtain ⟨hb,hk⟩:=hF9
     have j4:=hall 4 (by omega) (by omega) (by omega) rfl
     have f4:=(hv 4 13 rfl j4).trans (hk 4 j4)
     have j5:=hall 5 (by omega) (by omega) (by omega) rfl
     have f5:=(hv 5 14 rfl j5).trans (hk 5 j5)
     have j6:=hall 6 (by omega) (by omega) (by omega) rfl
     have k6:OnePa w9 #[.int .i64 p.lo,.int .i64 p.hi,.int .i64 p.pick,.slice q p.subs.length cap] (v 6):=hk 6 j6
     have f6:=hv 6 15 rfl j6
     refine Ri.step_plain rfl rfl (fun K' hK'=>?_)
     have hleft:=HL.out.keep (w':=w9) fun k _ hk2 _=>hb.block k hk2
     have hx9:=HS.out.later hb
     have hbz:=hb.size
     obtain ⟨g,e8,hc8⟩:=k6
     replace f6:=f6.trans e8
     clear e8
     have hml:qs.length+1 ≤ maxLen:=by unfold maxLen;omega
     have hbyt:(qs.length+1) * 48 ≤ 140737488355328:=by omega
     have hba:base ≤ w9.heap.size:=by omega
     refine wp_append_pa _ (.tmp 13) (.tmp 15) 55 rfl base 57 ie _ 4 48 Tryd.underlying55 HI.out HZ0.out HZ1.out HZ2.out rfl (by decide) vl qs.length (rowPa qs) f4 hleft.own ⟨g,0,none⟩ 1 1 #[.int .i64 p.lo,.int .i64 p.hi,.int .i64 p.pick,.slice q p.subs.length cap].toList f6 rfl hc8 (paC_one p q p.subs.length cap) (by decide) hml hbyt hba ?_
     intro v' w4 hown4 hgrow4 hpl
     exact hK' _ _ ⟨_,_,rfl,rfl,⟨w9,hb,hgrow4,hpl,hleft.app hba HLOW.out hx9 hown4 hgrow4 hpl⟩⟩
   · intro L v w9 xa hM hall hk hv ho
     have f0:=(hv 0 9 rfl (hall 0 (by omega) (by omega))).trans (hk 0 (by omega) (by omega) (by omega))
     have f1:=(hv 1 10 rfl (hall 1 (by omega) (by omega))).trans (hk 1 (by omega) (by omega) (by omega))
     have f2:=(hv 2 11 rfl (hall 2 (by omega) (by omega))).trans (hk 2 (by omega) (by omega) (by omega))
     have f3:=(hv 3 12 rfl (hall 3 (by omega) (by omega))).trans (hk 3 (by omega) (by omega) (by omega))
     have f4:=(hv 4 13 rfl (hall 4 (by omega) (by omega))).trans (hk 4 (by omega) (by omega) (by omega))
     have f5:=(hv 5 14 rfl (hall 5 (by omega) (by omega))).trans (hk 5 (by omega) (by omega) (by omega))
     have f6:=hv 6 15 rfl (hall 6 (by omega) (by omega))
     have f7:=hv 7 16 rfl (hall 7 (by omega) (by omega))
     have f8:=(hv 8 17 rfl (hall 8 (by omega) (by omega))).trans (hk 8 (by omega) (by omega) (by omega))
     refine Ri.step_plain rfl rfl (fun K' hK'=>?_)
     obtain ⟨w3,hb3,hg3,hpl,hl4⟩:=hM
     have HCC:=Lib.hid (HC.out w3 w9 _ hb3 hg3 hpl hl4)
     clear hl4 hpl hg3 hb3
     generalize v 7=U at *
     go_simp
     refine HCC.out.mono ?_
     rintro e w8 ⟨rfl,ht8⟩
     exact hK' _ _ ⟨_,_,rfl,rfl,⟨rfl,ht8⟩⟩
   · intro L v w9 xa hM hall hv ho
     have f9:=hv 9 18 rfl (hall 9 (by omega))
     refine Ri.step_plain rfl rfl (fun K' hK'=>?_)
     obtain ⟨e18,ht8⟩:=hM
     replace f9:=f9.trans e18
     clear e18
     go_simp
     exact hK' _ _ ⟨_,_,rfl,rfl,⟨Ri.up_same ..,ht8⟩⟩
   · intro v w9 hfin
     obtain ⟨e8,ht8⟩:=hfin
     have HT8:=Lib.hid ht8;clear ht8
     simp only [Ri.frame,List.zipIdx,List.foldl_cons,List.foldl_nil,if_true,List.setIfInBounds_toArray,List.set_cons_zero,List.set_cons_succ,Nat.reduceAdd,e8]
     generalize v 0=z0;generalize v 1=z1;generalize v 2=z2;generalize v 3=z3;generalize v 4=z4;generalize v 5=z5;generalize v 6=z6;generalize v 7=z7;generalize v 8=z8;generalize v 9=z9
     go_wp2
     go_ret
     exact ⟨rfl,HT8.out.map HB1.out fun h _=>h⟩
end Go.Proofs.YtedjkbmfpjmlpaaDoor
namespace Go.Proofs.YtedjkbmfpjmlpaaDoor
open Go.RowKit
theorem Ps.fuel_next (t:Tr) (hm:t.mustI ≤ (t.restN:Int) - 1) {n d i c j:Nat} (hd:d < t.restN) (hf:Ps.fuel t.mustI d i j ≤ n+1) (hic:(if t.mustI ≤ (d:Int) then i+1 else i) ≤ c) (hcj:c ≤ j):Ps.fuel t.mustI (t.nextI d) c j ≤ n:=by
 unfold Ps.fuel Tr.nextI at *
 generalize t.restN=r at *
 generalize t.mustI=z at *
 by_cases h:z ≤ (d:Int)
 · rw [if_pos h] at hic;omega
 · rw [if_neg h] at hic;omega
theorem Ps.lists_base (x:Sc) (t:Tr) (n d i j:Nat) (h:t.mustI ≤ (d:Int)∧i=j):Ps.lists x t (n+1) d i j=[[]]:=by
 unfold Ps.lists;rw [Ps.lsF,if_pos h]
theorem Ps.lists_succ (x:Sc) (t u:Tr) (n d i j:Nat) (hu:t.tkSubs[t.subI d]? = some u) (hu2:t.subs[t.subI d]? = some u) (h:¬ (t.mustI ≤ (d:Int)∧i=j)):Ps.lists x t (n+1) d i j =
   (Ps.cuts (if t.mustI ≤ (d:Int) then i+1 else i) j).flatMap fun c=>if u.wy x i c=0 ∨ t.restT x (t.nextI d) c j=0 then [] else (u.al x i c).flatMap fun p=>(Ps.lists x t n (t.nextI d) c j).map fun l=>p :: l:=by
 have e1:t.tkSubs.getD (t.subI d) (.node 0 0#64 0#64 0#64 0#64 [] 0 0 0 false)=u:=by rw [List.getD_eq_getElem?_getD,hu];rfl
 have e2:(t.subs.map (Tr.al x)).getD (t.subI d) Ps.noPas=Tr.al x u:=by rw [List.getD_eq_getElem?_getD,List.getElem?_map,hu2];rfl
 unfold Ps.lists
 rw [Ps.lsF,if_neg h]
 simp only [e1,e2]
theorem Ps.runC_cut {σ:Type} (f:σ→List Pa→Bool × σ) (s:σ) (L:List (List Pa)) (al:List Pa):runC f s (al.flatMap fun p=>L.map fun l=>p :: l)=runC (fun s p=>runC (fun s l=>f s (p :: l)) s L) s al:=by
 rw [runC_flat]
 congr 1
 funext s p
 rw [runC_map]
theorem Ps.cuts_drop (a j k:Nat) (h:k < j+1 - a):(Ps.cuts a j).drop k=(j - k) :: (Ps.cuts a j).drop (k+1):=by
 unfold Ps.cuts
 rw [List.drop_eq_getElem_cons (by simpa using h)]
 simp
theorem Ps.cuts_end (a j k:Nat) (h:j+1 - a ≤ k):(Ps.cuts a j).drop k=[]:=List.drop_eq_nil_of_le (by unfold Ps.cuts;simpa using h)
theorem Tr.sub_some (x:Sc) (t:Tr) (hk:t.kind=5 ∨ t.kind=8) (h8:t.kind=8→∃ u,t.subs=[u]) (h0:t.kind=8→t.most=0→t.least ≤ 0) {d i j:Nat} (hd:d < t.restN) (hr:t.restT x d i j ≠ 0) (h:¬ (t.mustI ≤ (d:Int)∧i=j)) :
   ∃ u,t.tkSubs[t.subI d]? = some u∧t.subs[t.subI d]? = some u:=by
 unfold Tr.tkSubs Tr.subI
 unfold Tr.restT at hr
 unfold Tr.mustI at h
 unfold Tr.restN at hd
 rcases hk with hk | hk
 · rw [if_neg (by rw [hk];simp)]
   rw [if_pos hk] at hr h hd ⊢
   by_cases hl:d < t.subs.length
   · exact ⟨_,List.getElem?_eq_getElem hl,List.getElem?_eq_getElem hl⟩
   · exfalso
     rw [List.drop_eq_nil_of_le (by omega),Tr.wySeq] at hr
     unfold Ps.one at hr
     by_cases hij:i=j
     · exact h ⟨by omega,hij⟩
     · rw [if_neg hij] at hr;exact hr rfl
 · obtain ⟨u,hu⟩:=h8 hk
   have n5:¬ t.kind=5:=by omega
   rw [if_neg n5] at hr h hd ⊢
   rw [if_pos hk] at h
   by_cases hm:t.most=0
   · exfalso
     rw [if_pos hm] at hr
     unfold Ps.one at hr
     by_cases hij:i=j
     · exact h ⟨by have:=h0 hk hm;omega,hij⟩
     · rw [if_neg hij] at hr;exact hr rfl
   · rw [if_neg (fun e=>hm e.2),hu]
     exact ⟨u,rfl,rfl⟩
end Go.Proofs.YtedjkbmfpjmlpaaDoor
namespace Go.Proofs.YtedjkbmfpjmlpaaDoor
open Go.RowKit
theorem four_newT (w:World) (a b c d:Obj):((((w.alloc a).alloc b).alloc c).alloc d).heap[w.heap.size]? = some a∧((((w.alloc a).alloc b).alloc c).alloc d).heap[w.heap.size+1]? = some b∧((((w.alloc a).alloc b).alloc c).alloc d).heap[w.heap.size+1+1]? = some c∧((((w.alloc a).alloc b).alloc c).alloc d).heap[w.heap.size+1+1+1]? = some d:=by
 obtain ⟨h0,h1,h2⟩:=three_new w a b c
 refine ⟨heap_alloc_lt h0,heap_alloc_lt h1,heap_alloc_lt h2, ?_⟩
 have:=heap_alloc_new (((w.alloc a).alloc b).alloc c) d;simpa using this
theorem set1 {w:World} {k:Nat} {u v:Value} {ty:TypeId} (h:w.heap[k]? = some (.cells #[u] ty)):(w.setCell ⟨k,0,none⟩ v).heap[k]? = some (.cells #[v] ty):=by simp [World.setCell,Array.getElem?_modify,h]
theorem blkL {w:World} {k:Nat} {o:Obj} (h:w.heap[k]? = some o):k < w.heap.size:=(Array.getElem?_eq_some_iff.1 h).1
theorem box_thaw {w:World} {k:Nat} {u:Value} {ty:TypeId} (h:w.heap[k]? = some (.cells #[u] ty)):w.frozen? ⟨k,0,none⟩=false:=by unfold World.frozen?;rw [h];simp
theorem set_oth {w:World} {b k o:Nat} {v:Value} (h:b ≠ k):(w.setCell ⟨k,o,none⟩ v).heap[b]? = w.heap[b]?:=Below.heap_setCell _ _ _ _ h
theorem psat_at (g lo m i c:Nat) (hlo:lo+m ≤ 1000) (hi:lo ≤ i) (hi2:i ≤ lo+m) (hc:lo ≤ c) (hc2:c ≤ lo+m) (T:Ps.T) (w:World) (hT:TabAtP w g m (Ps.rel lo T)) :
   Calls Tryd.prog 80 #[.agg #[.int .i64 (lo:Int),.int .i64 ((lo:Int)+(m:Int)),.slice (some ⟨g,0,none⟩) ((m+1) * (m+1)) ((m+1) * (m+1))],.int .i64 (i:Int),.int .i64 (c:Int)] w fun e w'=>e=.returned (.int .i64 ((Ps.sat (T i c):Nat):Int))∧Below w.heap.size w w':=by
 have h:=psat_any g lo m (i - lo) (c - lo) hlo (by omega) (by omega) (Ps.rel lo T) (by unfold Ps.rel;exact Ps.sat_le _) w hT
 rw [show (lo:Int)+((i - lo:Nat):Int)=(i:Int) by omega,show (lo:Int)+((c - lo:Nat):Int)=(c:Int) by omega,show Ps.rel lo T (i - lo) (c - lo)=Ps.sat (T i c) by unfold Ps.rel;rw [show lo+(i - lo)=i by omega,show lo+(c - lo)=c by omega]] at h
 exact h
def cutOf (iv:Value) (wr:World):Nat:=match iv with
 | .pointer (some a)=>(match wr.cell? a with | some v=>(intOf v+1).toNat | none=>0)
 | _=>0
theorem cutOf_of {wr:World} {bc:Nat} {z:Int} {ty:TypeId} (h:wr.heap[bc]? = some (.cells #[.int .i64 z] ty)):cutOf (.pointer (some ⟨bc,0,none⟩)) wr=(z+1).toNat:=by
 unfold cutOf
 simp only [box_cell h,intOf]
structure LwI {σ:Type} (Inv:σ→World→Prop) (x:Sc) (lo m:Nat) (t u:Tr) (B:Nat→Prop) (b bu base tb:Nat) (Rg:Nat→Prop) (vl:Value) (qs:List (Pa × Value)) (K:FuncId) (caps:Array Value) (d2 j b6 b14 b9 b10 b11:Nat) (s:σ) (w:World):Prop where
 inv:Inv s w
 left:LeftAt base tb Rg w vl qs
 tk:TkrAt x lo m w B b t
 tu:TkrAt x lo m w B bu u
 x6:w.heap[b6]? = some (.cells #[.pointer (some ⟨b,0,none⟩)] 121)
 x14:w.heap[b14]? = some (.cells #[.int .i64 (d2:Int)] 3)
 x9:w.heap[b9]? = some (.cells #[.int .i64 (j:Int)] 3)
 x10:w.heap[b10]? = some (.cells #[vl] 55)
 x11:w.heap[b11]? = some (.cells #[.func (.func K) #[] caps] 219)
theorem LwI.next {σ:Type} {Inv:σ→World→Prop} {x:Sc} {lo m:Nat} {t u:Tr} {B:Nat→Prop} {b bu base tb:Nat} {Rg:Nat→Prop} {vl:Value} {qs:List (Pa × Value)} {K:FuncId} {caps:Array Value} {d2 j b6 b14 b9 b10 b11:Nat} {s s':σ} {w w':World}
   (h:LwI Inv x lo m t u B b bu base tb Rg vl qs K caps d2 j b6 b14 b9 b10 b11 s w) (hI:Inv s' w') (hl:LeftAt base tb Rg w' vl qs) (hk:∀ k,k < w.heap.size→(B k ∨ k=b6 ∨ k=b14 ∨ k=b9 ∨ k=b10 ∨ k=b11)→w'.heap[k]? = w.heap[k]?):LwI Inv x lo m t u B b bu base tb Rg vl qs K caps d2 j b6 b14 b9 b10 b11 s' w' :=
 ⟨hI,hl,h.tk.keep fun k hk1 hB=>hk k hk1 (.inl hB),h.tu.keep fun k hk1 hB=>hk k hk1 (.inl hB),(hk _ (blkL h.x6) (by simp)).trans h.x6,(hk _ (blkL h.x14) (by simp)).trans h.x14,(hk _ (blkL h.x9) (by simp)).trans h.x9,(hk _ (blkL h.x10) (by simp)).trans h.x10,(hk _ (blkL h.x11) (by simp)).trans h.x11⟩
theorem LwI.below {σ:Type} {Inv:σ→World→Prop} {x:Sc} {lo m:Nat} {t u:Tr} {B:Nat→Prop} {b bu base tb:Nat} {Rg:Nat→Prop} {vl:Value} {qs:List (Pa × Value)} {K:FuncId} {caps:Array Value} {d2 j b6 b14 b9 b10 b11:Nat} {Stop:σ→World→Prop} {step:σ→Nat→List Pa→Bool × σ} {s:σ} {w w':World}
   (h:LwI Inv x lo m t u B b bu base tb Rg vl qs K caps d2 j b6 b14 b9 b10 b11 s w) (hE:Endr K caps base Rg Inv Stop step) (hbase:base ≤ w.heap.size) (hb:Below w.heap.size w w'):LwI Inv x lo m t u B b bu base tb Rg vl qs K caps d2 j b6 b14 b9 b10 b11 s w' :=
 h.next (hE.stable s w w' h.inv (hb.mono (by omega))) (h.left.keep fun k _ hk _=>hb.block k hk) fun k hk _=>hb.block k hk
theorem pslists_succ (x:Sc) (lo m:Nat) (hlo:lo+m ≤ 1000) (t:Tr) (hk:t.kind=5 ∨ t.kind=8) (h8:t.kind=8→∃ u,t.subs=[u]) (h80:t.kind=8→t.most=0→t.least ≤ 0) (hmust:t.mustI ≤ (t.restN:Int) - 1) (hrn:t.restN ≤ 1000000)
   (hIH:∀ u,u ∈ t.tkSubs→TellDoes x lo m u) (n:Nat) (hLD:ListsDoes x lo m t n):ListsDoes x lo m t (n+1):=by
 intro d i j hi hij hj hfu hd hrest σ K caps base Rg Inv Stop step hE s w B b tb v qs htk hB hbase htb hI hl hq
 obtain ⟨p0,cap0,rfl⟩:=hl.slice
 obtain ⟨p,cap,gw,rv,S,hBb,-,hc,-,-,-,-⟩:=htk.here
 unfold tkC at hc
 have hb0:Below w.heap.size w ((((w.alloc (.cells #[.pointer (some ⟨b,0,none⟩)] 121)).alloc (.cells #[.int .i64 (j:Int)] 3)).alloc (.cells #[.slice p0 qs.length cap0] 55)).alloc (.cells #[.func (.func K) #[] caps] 219)):=by go_grown
 have hs0:((((w.alloc (.cells #[.pointer (some ⟨b,0,none⟩)] 121)).alloc (.cells #[.int .i64 (j:Int)] 3)).alloc (.cells #[.slice p0 qs.length cap0] 55)).alloc (.cells #[.func (.func K) #[] caps] 219)).heap.size=w.heap.size+4:=by simp
 obtain ⟨n0,n1,n2,n3⟩:=four_newT w (.cells #[.pointer (some ⟨b,0,none⟩)] 121) (.cells #[.int .i64 (j:Int)] 3) (.cells #[.slice p0 qs.length cap0] 55) (.cells #[.func (.func K) #[] caps] 219)
 have X6:=Lib.hid n0;have X9:=Lib.hid n1;have X10:=Lib.hid n2;have X11:=Lib.hid n3
 have HB0:=Lib.hid hb0
 have HI0:=Lib.hid (hE.stable s w _ hI (hb0.mono (by omega)))
 have HL0:=Lib.hid (hl.keep fun k _ hk2 _=>hb0.block k hk2)
 have HTK0:=Lib.hid (htk.later hb0)
 have HC0:=Lib.hid (keep_blk hb0 hc)
 have HEND:=Lib.hid hE;have HBB:=Lib.hid hB;have HBASE:=Lib.hid hbase;have HTB:=Lib.hid htb;have HIJ:=Lib.hid (And.intro hi (And.intro hij hj));have HQ:=Lib.hid hq;have HRN:=Lib.hid (And.intro hd hrn);have HFU:=Lib.hid hfu;have HSZ:=Lib.hid hs0
 have HBW:Hid (∀ k,B k→k < w.heap.size):=Lib.hid fun k hk=>(hB k hk).2.2
 clear htk hc hb0 n0 n1 n2 n3 hI hl hE
 obtain ⟨RR,hRR⟩:∃ RR,runC (fun s l=>step s 0 (qs.map (·.1) ++ l)) s (Ps.lists x t (n+1) d i j)=RR:=⟨_,rfl⟩
 have HRR:=Lib.hid hRR
 rw [hRR]
 clear hRR
 by_cases hbs:t.mustI ≤ (d:Int)∧i=j
 case pos =>
   obtain ⟨hb1,rfl⟩:=hbs
   have hrr:=HRR.out
   rw [Ps.lists_base x t n d i i ⟨hb1,rfl⟩,runC_one] at hrr
   simp only [List.append_nil] at hrr
   have hge:decide ((d:Int) ≥ t.mustI)=true:=decide_eq_true hb1
   have hei:((i:Int) == (i:Int))=true:=by simp
   have HCALL:=Lib.hid (HEND.out.call s _ 0 _ _ HI0.out (by have:=HSZ.out;have:=HBASE.out;omega) (HL0.out.pas (by have:=HQ.out;omega)))
   rw [hrr] at HCALL
   clear hb1 hrr hIH hLD hfu hd hrest hB hbase htb hq hs0 HRR hk h8 h80
   have hEE:=HEND.out.enter
   generalize t.mustI=tm at *
   go_enter Tryd.func161,Tryd.ntmps161
   go_upto_region 1 with (fail)
   generalize World.alloc (World.alloc _ _) _=W0 at *
   obtain ⟨d0,d1,d2,d3,d4,d5,d6,d7,-⟩:=tk8 HC0.out
   clear d0 d1 d2 d3 d4 d5 d7
   have c6:=box_cell X6.out;have c9:=box_cell X9.out;have c10:=box_cell X10.out;have c11:=box_cell X11.out
   go_wp2_with fail
   refine HCALL.out.mono ?_
   rintro e w2 ⟨rfl,ht⟩
   have HT:=Lib.hid (show Tld (fun k=>Rg k ∨ (Value.slice p0 qs.length cap0).ownBlock=some k) (fun s w'=>Inv s w'∧LeftAt base tb Rg w' (.slice p0 qs.length cap0) qs) Stop RR w w2 from ⟨fun e1=>⟨⟨(ht.1 e1).1,HL0.out.keep (w':=w2) fun k _ hk hr=>(ht.1 e1).2.block k hk hr⟩,((Chg.of_below HB0.out).trans (ht.1 e1).2).wider fun k hk=>.inl hk⟩,ht.2⟩)
   clear ht HCALL c6 c9 c10 c11 d6
   go_wp2
   go_ret
   exact ⟨rfl,HT.out⟩
 obtain ⟨u,hu,hu2⟩:=Tr.sub_some x t hk h8 h80 hd (hrest.resolve_right hbs) hbs
 have HU:=Lib.hid hu
 have hrr:=HRR.out
 rw [Ps.lists_succ x t u n d i j hu hu2 hbs] at hrr
 have HRC:=Lib.hid hrr
 have IH:=Lib.hid (hIH u (List.mem_of_getElem? hu));have HLD:=Lib.hid hLD;have HMU:=Lib.hid hmust
 have hcase:(decide ((d:Int) ≥ t.mustI)=true∧((i:Int) == (j:Int))=false) ∨ decide ((d:Int) ≥ t.mustI)=false:=by
   by_cases h:t.mustI ≤ (d:Int)
   · refine .inl ⟨decide_eq_true h, ?_⟩
     rw [beq_eq_false_iff_ne];intro e;exact hbs ⟨h,by omega⟩
   · exact .inr (decide_eq_false h)
 clear hu hu2 hrr hIH hLD hmust hfu hd hrest hB hbase htb hq hs0 HRR hk h8 h80 hbs hi hij hj hrn
 rcases hcase with ⟨hge,hei⟩ | hge
 · go_enter Tryd.func161,Tryd.ntmps161
   go_upto_region 1 with (fail)
   generalize World.alloc (World.alloc _ _) _=W0 at *
   obtain ⟨d0,d1,d2,d3,d4,d5,d6,d7,-⟩:=tk8 HC0.out
   clear d0 d1 d2 d3 d4 d5 d7
   have c6:=box_cell X6.out;have c9:=box_cell X9.out
   go_upto_region 3 with (fail)
   clear c6 c9 d6 hge hei
   refine Ri.wp_region_last (by kernel_rfl) (by kernel_rfl) (by kernel_rfl) (by kernel_rfl) 8 (by kernel_rfl) (by kernel_rfl) (fun kk ww vv=>match kk with | 0=>vv=.pointer (some ⟨b,0,none⟩) | 1=>vv=.int .i64 (d:Int) | 2=>∃ c,vv=.pointer (some ⟨c,0,none⟩)∧TkrAt x lo m ww B c u | 3=>vv=.pointer (some ⟨b,0,none⟩) | 4=>vv=.int .i64 (d:Int) | 5=>vv=.int .i64 ((t.nextI d:Nat):Int) | 6=>∃ g,vv=.pointer (some ⟨g,0,none⟩)∧W0.heap.size ≤ g∧ww.heap[g]? = some (.cells #[.int .i64 0] 3) | 7=>∃ c,vv=.pointer (some ⟨c,0,none⟩)∧TkrAt x lo m ww B c u | _=>True) (fun vv ww=>∃ g c,(vv 6)=.pointer (some ⟨g,0,none⟩)∧(vv 7)=.pointer (some ⟨c,0,none⟩)∧W0.heap.size ≤ g∧ww.heap[g]? = some (.cells #[.int .i64 ((t.nextI d:Nat):Int)] 3)∧TkrAt x lo m ww B c u∧Below W0.heap.size W0 ww) (fun kk ww vv w8 h hb=>by
           match kk,h with
           | 0,h=>exact h
           | 1,h=>exact h
           | 2,h=>exact h.imp fun c h=>⟨h.1,h.2.later hb⟩
           | 3,h=>exact h
           | 4,h=>exact h
           | 5,h=>exact h
           | 6,h=>exact h.imp fun g h=>⟨h.1,h.2.1,keep_blk hb h.2.2⟩
           | 7,h=>exact h.imp fun c h=>⟨h.1,h.2.later hb⟩
           | _+8,_=>trivial) ?_ ?_ ?_
   · intro i hi9 L v w9 xa hF9 hL hd hv ho
     obtain ⟨hb,hk⟩:=hF9
     have hi':i=0 ∨ i=1 ∨ i=2 ∨ i=3 ∨ i=4 ∨ i=5 ∨ i=6 ∨ i=7:=by omega
     rcases hi' with rfl | rfl | rfl | rfl | rfl | rfl | rfl | rfl
     · have e6:xa.tmps.getD 6 undef=.pointer (some ⟨w.heap.size,0,none⟩):=ho 6 (by kernel_rfl)
       refine Ri.step_plain rfl rfl (fun K' hK'=>?_)
       have cc:=box_cell (keep_blk hb X6.out)
       go_simp
       exact hK' _ _ ⟨_,_,rfl,rfl,(Below.refl _ _),rfl⟩
     · have e1:xa.tmps.getD 1 undef=.int .i64 (d:Int):=ho 1 (by kernel_rfl)
       refine Ri.step_plain rfl rfl (fun K' hK'=>?_)
       go_simp
       exact hK' _ _ ⟨_,_,rfl,rfl,(Below.refl _ _),rfl⟩
     · obtain ⟨j0,j1⟩:L 0=true∧L 1=true:=by have:=hd _ rfl;simp [Region.binds] at this;simp [this]
       have f0:=(hv 0 31 rfl j0).trans (hk 0 j0)
       have f1:=(hv 1 32 rfl j1).trans (hk 1 j1)
       refine Ri.step_plain rfl rfl (fun K' hK'=>?_)
       go_simp
       refine (pssub_any x lo m d b t u w9 B (HTK0.out.later hb) HU.out).mono ?_
       rintro e w8 ⟨c8,rfl,ht8,hb8⟩
       exact hK' _ _ ⟨_,_,rfl,rfl,hb8,⟨c8,rfl,ht8⟩⟩
     · have e6:xa.tmps.getD 6 undef=.pointer (some ⟨w.heap.size,0,none⟩):=ho 6 (by kernel_rfl)
       refine Ri.step_plain rfl rfl (fun K' hK'=>?_)
       have cc:=box_cell (keep_blk hb X6.out)
       go_simp
       exact hK' _ _ ⟨_,_,rfl,rfl,(Below.refl _ _),rfl⟩
     · have e1:xa.tmps.getD 1 undef=.int .i64 (d:Int):=ho 1 (by kernel_rfl)
       refine Ri.step_plain rfl rfl (fun K' hK'=>?_)
       go_simp
       exact hK' _ _ ⟨_,_,rfl,rfl,(Below.refl _ _),rfl⟩
     · obtain ⟨j3,j4⟩:L 3=true∧L 4=true:=by have:=hd _ rfl;simp [Region.binds] at this;simp [this]
       have f3:=(hv 3 34 rfl j3).trans (hk 3 j3)
       have f4:=(hv 4 35 rfl j4).trans (hk 4 j4)
       refine Ri.step_plain rfl rfl (fun K' hK'=>?_)
       go_simp
       refine (psnext_any x lo m d b (by have:=HRN.out;omega) t (by have:=HRN.out;omega) (by have:=HRN.out;omega) w9 B (HTK0.out.later hb)).mono ?_
       rintro e w8 ⟨rfl,hb8⟩
       exact hK' _ _ ⟨_,_,rfl,rfl,hb8,rfl⟩
     · refine Ri.step_plain rfl rfl (fun K' hK'=>?_)
       go_simp
       have hba:=(Below.refl w9.heap.size w9).alloc (Nat.le_refl _) (.cells #[.int .i64 0] 3)
       exact hK' _ _ ⟨_,_,rfl,rfl,hba,⟨w9.heap.size,rfl,hb.size,heap_alloc_new _ _⟩⟩
     · have j2:L 2=true:=by have:=hd _ rfl;simp [Region.binds] at this;simp [this]
       have k2:∃ c,(v 2)=.pointer (some ⟨c,0,none⟩)∧TkrAt x lo m w9 B c u:=hk 2 j2
       have f2:=hv 2 33 rfl j2
       refine Ri.step_plain rfl rfl (fun K' hK'=>?_)
       obtain ⟨c8,e8,ht8⟩:=k2
       replace f2:=f2.trans e8
       go_simp
       exact hK' _ _ ⟨_,_,rfl,rfl,(Below.refl _ _),⟨c8,rfl,ht8⟩⟩
   · intro L v w9 xa hF9 hall hv ho
     obtain ⟨hb,hk⟩:=hF9
     have f0:=(hv 0 31 rfl (hall 0 (by omega))).trans (hk 0 (hall 0 (by omega)))
     have f1:=(hv 1 32 rfl (hall 1 (by omega))).trans (hk 1 (hall 1 (by omega)))
     have k2:∃ c,(v 2)=.pointer (some ⟨c,0,none⟩)∧TkrAt x lo m w9 B c u:=hk 2 (hall 2 (by omega))
     have f2:=hv 2 33 rfl (hall 2 (by omega))
     have f3:=(hv 3 34 rfl (hall 3 (by omega))).trans (hk 3 (hall 3 (by omega)))
     have f4:=(hv 4 35 rfl (hall 4 (by omega))).trans (hk 4 (hall 4 (by omega)))
     have f5:=(hv 5 36 rfl (hall 5 (by omega))).trans (hk 5 (hall 5 (by omega)))
     have k6:∃ g,(v 6)=.pointer (some ⟨g,0,none⟩)∧W0.heap.size ≤ g∧w9.heap[g]? = some (.cells #[.int .i64 0] 3):=hk 6 (hall 6 (by omega))
     have f6:=hv 6 14 rfl (hall 6 (by omega))
     have k7:∃ c,(v 7)=.pointer (some ⟨c,0,none⟩)∧TkrAt x lo m w9 B c u:=hk 7 (hall 7 (by omega))
     have f7:=hv 7 13 rfl (hall 7 (by omega))
     refine Ri.step_plain rfl rfl (fun K' hK'=>?_)
     obtain ⟨g8,e8,hg8,hz8⟩:=k6
     obtain ⟨c8,e13,ht13⟩:=k7
     replace f6:=f6.trans e8
     replace f7:=f7.trans e13
     have cz:=box_cell hz8
     have fz:=box_thaw hz8
     go_simp
     exact hK' _ _ ⟨_,undef,rfl,rfl,⟨g8,c8,(show Ri.up v 8 undef 6=_ from e8),(show Ri.up v 8 undef 7=_ from e13),hg8,set1 hz8,ht13.keep (fun k hk hB=>set_oth (by have:=HBW.out k hB;have:=HSZ.out;omega)),(hb.setCell hg8 _)⟩⟩
   · intro v w9 hfin
     obtain ⟨bn,bu,e14,e13,hbn,hxn,htu,hb1⟩:=hfin
     simp only [Ri.frame,List.zipIdx,List.foldl_cons,List.foldl_nil,if_true,List.setIfInBounds_toArray,List.set_cons_zero,List.set_cons_succ,Nat.reduceAdd,e14,e13]
     generalize v 0=z0;generalize v 1=z1;generalize v 2=z2;generalize v 3=z3;generalize v 4=z4;generalize v 5=z5
     have hsz9:=hb1.size;have hs0:=HSZ.out
     have hbnlt:=blkL hxn
     have HLW:=Lib.hid (show LwI Inv x lo m t u B b bu base tb Rg (.slice p0 qs.length cap0) qs K caps (t.nextI d) j (w.heap.size) bn (w.heap.size+1) (w.heap.size+1+1) (w.heap.size+1+1+1) s w9 from
       ⟨HEND.out.stable s W0 w9 HI0.out (hb1.mono (by have:=HBASE.out;omega)),HL0.out.keep (fun k _ hk _=>hb1.block k hk),HTK0.out.later hb1,htu,keep_blk hb1 X6.out,hxn,keep_blk hb1 X9.out,keep_blk hb1 X10.out,keep_blk hb1 X11.out⟩)
     have HB1:=Lib.hid (HB0.out.trans (hb1.mono HB0.out.size))
     clear hxn htu hb1 X6 X9 X10 X11 HI0 HL0 HTK0 HC0 HB0
     have c9:=box_cell HLW.out.x9
     go_wp2
     clear c9
     have x15:=heap_alloc_new w9 (.cells #[.int .i64 (j:Int)] 3)
     have hb2:Below w9.heap.size w9 (w9.alloc (.cells #[.int .i64 (j:Int)] 3)):=(Below.refl w9.heap.size w9).alloc (Nat.le_refl _) _
     have hs2:(w9.alloc (.cells #[.int .i64 (j:Int)] 3)).heap.size=w9.heap.size+1:=by simp
     generalize w9.alloc (.cells #[.int .i64 (j:Int)] 3)=w10 at *
     have HLW0:=Lib.hid (HLW.out.next (s':=s) (w':=w10) (HEND.out.stable s w9 w10 HLW.out.inv (hb2.mono (by have:=HBASE.out;omega))) (HLW.out.left.keep fun k _ hk _=>hb2.block k hk) fun k hk _=>hb2.block k hk)
     have HCH0:=Lib.hid (Chg.of_below (Rg:=fun k=>Rg k ∨ (Value.slice p0 qs.length cap0).ownBlock=some k) (HB1.out.trans (hb2.mono (by omega))))
     have X150:=Lib.hid x15
     obtain ⟨aa,haa⟩:∃ aa,(if t.mustI ≤ (d:Int) then i+1 else i)=aa:=⟨_,rfl⟩
     rw [haa] at HRC
     have HAA:=Lib.hid haa
     have hR0:=Lib.hid (show runC (fun s l=>step s 0 (qs.map (·.1) ++ l)) s (((Ps.cuts aa j).drop 0).flatMap fun c=>if u.wy x i c=0 ∨ t.restT x (t.nextI d) c j=0 then [] else (u.al x i c).flatMap fun p=>(Ps.lists x t n (t.nextI d) c j).map fun l=>p :: l)=RR from HRC.out)
     clear x15 hb2 HLW HRC HB1 haa
     go_loopw [15] (fun iv wr=>∃ (k bc:Nat) (sk:σ),iv=.pointer (some ⟨bc,0,none⟩)∧k ≤ j+1 - aa∧Hid (wr.heap[bc]? = some (.cells #[.int .i64 ((j:Int) - (k:Int))] 3))∧w9.heap.size ≤ bc∧Hid (LwI Inv x lo m t u B b bu base tb Rg (.slice p0 qs.length cap0) qs K caps (t.nextI d) j (w.heap.size) bn (w.heap.size+1) (w.heap.size+1+1) (w.heap.size+1+1+1) sk wr)∧Hid (Chg (fun k=>Rg k ∨ (Value.slice p0 qs.length cap0).ownBlock=some k) w wr)∧Hid (runC (fun s l=>step s 0 (qs.map (·.1) ++ l)) sk (((Ps.cuts aa j).drop k).flatMap fun c=>if u.wy x i c=0 ∨ t.restT x (t.nextI d) c j=0 then [] else (u.al x i c).flatMap fun p=>(Ps.lists x t n (t.nextI d) c j).map fun l=>p :: l)=RR)) (fun iv wr=>cutOf iv wr)
     case atStart=>exact ⟨0,w9.heap.size,s,rfl,Nat.zero_le _,Lib.hid (by simpa using X150.out),Nat.le_refl _,HLW0,HCH0,hR0⟩
     case round =>
       clear HLW0 HCH0 hR0 X150
       obtain ⟨k,bc,sk,rfl,hkn,XC,hbc,HLW,HCH,HR⟩:=hrel
       have X6:=Lib.hid HLW.out.x6;have HTK:=Lib.hid HLW.out.tk
       have HAZ:=Lib.hid (show (if t.mustI ≤ (d:Int) then (i:Int)+1 else (i:Int))=(aa:Int) by rw [← HAA.out];split <;> simp)
       go_upto_region 5 with (fail)
       refine Ri.wp_region_facts (by kernel_rfl) (by kernel_rfl) (by kernel_rfl) (by kernel_rfl) 6 (by kernel_rfl) (fun kk ww vv=>match kk with | 0=>vv=.int .i64 ((j:Int) - (k:Int)) | 1=>vv=.pointer (some ⟨b,0,none⟩) | 2=>vv=.int .i64 (d:Int) | 3=>vv=.int .i64 (i:Int) | 4=>vv=.int .i64 (aa:Int) | 5=>vv=.bool (decide ((j:Int) - (k:Int) ≥ (aa:Int))) | _=>True) (fun kk ww vv w8 h hb=>by
                   match kk,h with
                   | 0,h=>exact h
                   | 1,h=>exact h
                   | 2,h=>exact h
                   | 3,h=>exact h
                   | 4,h=>exact h
                   | 5,h=>exact h
                   | _+6,_=>trivial) ?_ ?_
       · intro i hi9 L v w9 xa hF9 hL hd hv ho
         obtain ⟨hb,hk⟩:=hF9
         have hi':i=0 ∨ i=1 ∨ i=2 ∨ i=3 ∨ i=4 ∨ i=5:=by omega
         rcases hi' with rfl | rfl | rfl | rfl | rfl | rfl
         · have e15:xa.tmps.getD 15 undef=.pointer (some ⟨bc,0,none⟩):=ho 15 (by kernel_rfl)
           refine Ri.step_plain rfl rfl (fun K' hK'=>?_)
           have cc:=box_cell (keep_blk hb XC.out)
           go_simp
           exact hK' _ _ ⟨_,_,rfl,rfl,(Below.refl _ _),rfl⟩
         · have e6:xa.tmps.getD 6 undef=.pointer (some ⟨w.heap.size,0,none⟩):=ho 6 (by kernel_rfl)
           refine Ri.step_plain rfl rfl (fun K' hK'=>?_)
           have cc:=box_cell (keep_blk hb X6.out)
           go_simp
           exact hK' _ _ ⟨_,_,rfl,rfl,(Below.refl _ _),rfl⟩
         · have e1:xa.tmps.getD 1 undef=.int .i64 (d:Int):=ho 1 (by kernel_rfl)
           refine Ri.step_plain rfl rfl (fun K' hK'=>?_)
           go_simp
           exact hK' _ _ ⟨_,_,rfl,rfl,(Below.refl _ _),rfl⟩
         · have e2:xa.tmps.getD 2 undef=.int .i64 (i:Int):=ho 2 (by kernel_rfl)
           refine Ri.step_plain rfl rfl (fun K' hK'=>?_)
           go_simp
           exact hK' _ _ ⟨_,_,rfl,rfl,(Below.refl _ _),rfl⟩
         · obtain ⟨j1,j2,j3⟩:L 1=true∧L 2=true∧L 3=true:=by have:=hd _ rfl;simp [Region.binds] at this;simp [this]
           have f1:=(hv 1 39 rfl j1).trans (hk 1 j1)
           have f2:=(hv 2 40 rfl j2).trans (hk 2 j2)
           have f3:=(hv 3 41 rfl j3).trans (hk 3 j3)
           refine Ri.step_plain rfl rfl (fun K' hK'=>?_)
           go_simp
           refine (psshortest_any x lo m d b i (by have:=HIJ.out;omega) t w9 B (HTK.out.later hb)).mono ?_
           rintro e w8 ⟨rfl,hb8⟩
           rw [HAZ.out]
           exact hK' _ _ ⟨_,_,rfl,rfl,hb8,rfl⟩
         · obtain ⟨j0,j4⟩:L 0=true∧L 4=true:=by have:=hd _ rfl;simp [Region.binds] at this;simp [this]
           have f0:=(hv 0 38 rfl j0).trans (hk 0 j0)
           have f4:=(hv 4 42 rfl j4).trans (hk 4 j4)
           refine Ri.step_plain rfl rfl (fun K' hK'=>?_)
           go_simp
           exact hK' _ _ ⟨_,_,rfl,rfl,(Below.refl _ _),rfl⟩
       · intro v w11 hb hk
         have k0:v 0=.int .i64 ((j:Int) - (k:Int)):=hk 0 (by omega)
         have k1:v 1=.pointer (some ⟨b,0,none⟩):=hk 1 (by omega)
         have k2:v 2=.int .i64 (d:Int):=hk 2 (by omega)
         have k3:v 3=.int .i64 (i:Int):=hk 3 (by omega)
         have k4:v 4=.int .i64 (aa:Int):=hk 4 (by omega)
         have k5:v 5=.bool (decide ((j:Int) - (k:Int) ≥ (aa:Int))):=hk 5 (by omega)
         simp only [Ri.frame,List.zipIdx,List.foldl_cons,List.foldl_nil,if_true,List.setIfInBounds_toArray,List.set_cons_zero,List.set_cons_succ,Nat.reduceAdd,k5]
         generalize v 0=z0;generalize v 1=z1;generalize v 2=z2;generalize v 3=z3;generalize v 4=z4
         have hme:=cutOf_of XC.out
         have hbcl0:=blkL XC.out
         have HLW5:=Lib.hid (HLW.out.below HEND.out (by have:=HBASE.out;omega) hb)
         have XC5:=Lib.hid (keep_blk hb XC.out);have HCH5:=Lib.hid (HCH.out.trans (Chg.of_below hb))
         have hsz5:=hb.size
         have hbcl:=blkL XC5.out
         have hai:i ≤ aa∧aa ≤ i+1:=by rw [← HAA.out];split <;> omega
         have hij:=HIJ.out
         clear hb HLW HCH XC X6 HTK HAZ
         by_cases hlt:k < j+1 - aa
         case neg =>
           have hdl:decide ((j:Int) - (k:Int) ≥ (aa:Int))=false:=decide_eq_false (by omega)
           have hr:RR=(true,sk):=by rw [← HR.out,Ps.cuts_end _ _ _ (by omega)];rfl
           rw [hdl]
           subst hr
           clear hdl
           go_wp2
           go_ret
           exact ⟨rfl,Tld.yes ⟨HLW5.out.inv,HLW5.out.left⟩ HCH5.out⟩
         have hdl:decide ((j:Int) - (k:Int) ≥ (aa:Int))=true:=decide_eq_true (by omega)
         rw [hdl]
         have HR2:=HR.out
         rw [Ps.cuts_drop _ _ _ hlt,List.flatMap_cons] at HR2
         obtain ⟨c,hc⟩:∃ c,j - k=c:=⟨_,rfl⟩
         rw [hc] at HR2
         have hci:(j:Int) - (k:Int)=(c:Int):=by omega
         rw [hci] at XC5 hme
         have HR3:=Lib.hid HR2
         have hcr:aa ≤ c∧c ≤ j:=by omega
         clear HR HR2 hdl hci
         obtain ⟨pu,cu,gu,ru,Su,-,-,hcu,htab,-,-,-⟩:=HLW5.out.tu.here
         obtain ⟨pt,ct,gt,rt,St,-,-,hct,-,hrest,-,-⟩:=HLW5.out.tk.here
         have hni:t.nextI d < t.restN:=by unfold Tr.nextI;have:=HRN.out;omega
         obtain ⟨gr,V,rfl,hrs,gv,hgv⟩:∃ gr V,rt=.slice (some ⟨gr,0,none⟩) t.restN t.restN∧RsAt w11 gr t.restN lo m V (t.restT x)∧∃ gv,V (t.nextI d)=some gv:=by
           rcases hrest with ⟨h0,-⟩ | ⟨gr,V,e,-,hr,hV⟩
           · omega
           · obtain ⟨gv,hgv,-⟩:=hV _ hni
             exact ⟨gr,V,e,hr,gv,hgv⟩
         unfold tkC at hcu hct
         have HCU:=Lib.hid hcu;have HCT:=Lib.hid hct
         have HAT1:=Lib.hid (fun w' (h:Below w11.heap.size w11 w')=>psat_at gu lo m i c hlo (by omega) (by omega) (by omega) (by omega) (u.wy x) w' (htab.later h))
         have HAT2:=Lib.hid (fun w' (h:Below w11.heap.size w11 w')=>psat_at gv lo m c j hlo (by omega) (by omega) (by omega) (by omega) (t.restT x (t.nextI d)) w' ((hrs.2 _ gv hni hgv).1.later h))
         have HRS:Hid (∀ w',Below w11.heap.size w11 w'→w'.cell? ⟨gr,t.nextI d * 3,none⟩=some (.int .i64 (lo:Int))∧w'.cell? ⟨gr,t.nextI d * 3+1,none⟩=some (.int .i64 ((lo:Int)+(m:Int)))∧w'.cell? ⟨gr,t.nextI d * 3+2,none⟩=some (.slice (some ⟨gv,0,none⟩) ((m+1) * (m+1)) ((m+1) * (m+1)))):=Lib.hid fun w' h=>by
           obtain ⟨c0,c1,c2,-⟩:=(hrs.later h).here hni
           rw [hgv] at c0 c1 c2
           exact ⟨c0,c1,c2⟩
         have Y6:=Lib.hid HLW5.out.x6;have Y14:=Lib.hid HLW5.out.x14;have Y9:=Lib.hid HLW5.out.x9
         clear hcu hct htab hrs hgv hrest
         by_cases hw0:u.wy x i c=0
         · have ez:(((Ps.sat (u.wy x i c):Nat):Int) == 0)=true:=by rw [hw0];rfl
           go_upto_region 7 with (fail)
           refine Ri.wp_region_frame (by kernel_rfl) (by kernel_rfl) (by kernel_rfl) (by kernel_rfl)
             (fun L v w'=>Below w11.heap.size w11 w'∧(L 0=true→v 0=.pointer (some ⟨bu,0,none⟩))∧(L 1=true→v 1=.pointer (some ⟨bu,0,none⟩))∧(L 2=true→v 2=.pointer (some ⟨bu,2,none⟩))∧(L 3=true→v 3=.agg #[.int .i64 (lo:Int),.int .i64 ((lo:Int)+(m:Int)),.slice (some ⟨gu,0,none⟩) ((m+1) * (m+1)) ((m+1) * (m+1))])∧(L 4=true→v 4=.int .i64 (i:Int))∧(L 5=true→v 5=.int .i64 (c:Int))∧(L 6=true→v 6=.int .i64 ((Ps.sat (u.wy x i c):Nat):Int))∧(L 7=true→v 7=.bool true)∧(L 8=true→v 8=.bool true)∧(L 9=true→v 9=undef)∧(L 10=true→v 10=undef)∧(L 11=true→v 11=undef)∧(L 12=true→v 12=undef)∧(L 13=true→v 13=undef)∧(L 14=true→v 14=undef)∧(L 15=true→v 15=undef)∧(L 16=true→v 16=undef)∧(L 17=true→v 17=undef)∧(L 18=true→v 18=undef)∧(L 19=true→v 19=undef)∧(L 20=true→v 20=.bool true))
             ?_ ?_ ?_
           · exact ⟨(Below.refl _ _).drew,by simp,by simp,by simp,by simp,by simp,by simp,by simp,by simp,by simp,by simp,by simp,by simp,by simp,by simp,by simp,by simp,by simp,by simp,by simp,by simp,by simp⟩
           · intro i hi9 L v w12 xa hI hL hd hv ho
             have hi':i=0 ∨ i=1 ∨ i=2 ∨ i=3 ∨ i=4 ∨ i=5 ∨ i=6 ∨ i=7 ∨ i=8 ∨ i=9 ∨ i=10 ∨ i=11 ∨ i=12 ∨ i=13 ∨ i=14 ∨ i=15 ∨ i=16 ∨ i=17 ∨ i=18 ∨ i=19 ∨ i=20:=by simp at hi9;omega
             obtain ⟨hb,q0,q1,q2,q3,q4,q5,q6,q7,q8,q9,q10,q11,q12,q13,q14,q15,q16,q17,q18,q19,q20⟩:=hI
             rcases hi' with rfl | rfl | rfl | rfl | rfl | rfl | rfl | rfl | rfl | rfl | rfl | rfl | rfl | rfl | rfl | rfl | rfl | rfl | rfl | rfl | rfl
             · have e13:xa.tmps.getD 13 undef=.pointer (some ⟨bu,0,none⟩):=ho 13 (by kernel_rfl)
               refine Ri.step_plain rfl rfl (fun K' hK=>?_)
               go_simp
               exact hK _ _ ⟨_,_,rfl,rfl,hb,fun _=>rfl,q1,q2,q3,q4,q5,q6,q7,q8,q9,q10,q11,q12,q13,q14,q15,q16,q17,q18,q19,q20⟩
             · have l0:L 0=true:=by have:=hd _ rfl;simp [Region.binds] at this;simp [this]
               have f0:=(hv 0 46 rfl l0).trans (q0 l0)
               refine Ri.step_plain rfl rfl (fun K' hK=>?_)
               go_simp
               exact hK _ _ ⟨_,_,rfl,rfl,hb,q0,fun _=>rfl,q2,q3,q4,q5,q6,q7,q8,q9,q10,q11,q12,q13,q14,q15,q16,q17,q18,q19,q20⟩
             · have l0:L 1=true:=by have:=hd _ rfl;simp [Region.binds] at this;simp [this]
               have f1:=(hv 1 47 rfl l0).trans (q1 l0)
               refine Ri.step_plain rfl rfl (fun K' hK=>?_)
               go_simp
               exact hK _ _ ⟨_,_,rfl,rfl,hb,q0,q1,fun _=>rfl,q3,q4,q5,q6,q7,q8,q9,q10,q11,q12,q13,q14,q15,q16,q17,q18,q19,q20⟩
             · have l0:L 2=true:=by have:=hd _ rfl;simp [Region.binds] at this;simp [this]
               have f2:=(hv 2 48 rfl l0).trans (q2 l0)
               refine Ri.step_plain rfl rfl (fun K' hK=>?_)
               obtain ⟨e0,e1,e2,e3,e4,e5,e6,e7,-⟩:=tk8 (keep_blk hb HCU.out)
               go_simp
               exact hK _ _ ⟨_,_,rfl,rfl,hb,q0,q1,q2,fun _=>rfl,q4,q5,q6,q7,q8,q9,q10,q11,q12,q13,q14,q15,q16,q17,q18,q19,q20⟩
             · have e2:xa.tmps.getD 2 undef=.int .i64 (i:Int):=ho 2 (by kernel_rfl)
               refine Ri.step_plain rfl rfl (fun K' hK=>?_)
               go_simp
               exact hK _ _ ⟨_,_,rfl,rfl,hb,q0,q1,q2,q3,fun _=>rfl,q5,q6,q7,q8,q9,q10,q11,q12,q13,q14,q15,q16,q17,q18,q19,q20⟩
             · have e15:xa.tmps.getD 15 undef=.pointer (some ⟨bc,0,none⟩):=ho 15 (by kernel_rfl)
               refine Ri.step_plain rfl rfl (fun K' hK=>?_)
               obtain cc:=box_cell (keep_blk hb XC5.out)
               go_simp
               exact hK _ _ ⟨_,_,rfl,rfl,hb,q0,q1,q2,q3,q4,fun _=>rfl,q6,q7,q8,q9,q10,q11,q12,q13,q14,q15,q16,q17,q18,q19,q20⟩
             · have l0:L 3=true∧L 4=true∧L 5=true:=by have:=hd _ rfl;simp [Region.binds] at this;simp [this]
               have f3:=(hv 3 49 rfl l0.1).trans (q3 l0.1)
               have f4:=(hv 4 50 rfl l0.2.1).trans (q4 l0.2.1)
               have f5:=(hv 5 51 rfl l0.2.2).trans (q5 l0.2.2)
               refine Ri.step_plain rfl rfl (fun K' hK=>?_)
               go_simp
               refine (HAT1.out _ hb).mono ?_
               rintro e w8 ⟨rfl,hb8⟩
               exact hK _ _ ⟨_,_,rfl,rfl,hb.trans (hb8.mono hb.size),q0,q1,q2,q3,q4,q5,fun _=>rfl,q7,q8,q9,q10,q11,q12,q13,q14,q15,q16,q17,q18,q19,q20⟩
             · have l0:L 6=true:=by have:=hd _ rfl;simp [Region.binds] at this;simp [this]
               have f6:=(hv 6 52 rfl l0).trans (q6 l0)
               refine Ri.step_plain rfl rfl (fun K' hK=>?_)
               go_simp
               exact hK _ _ ⟨_,_,rfl,rfl,hb,q0,q1,q2,q3,q4,q5,q6,fun _=>rfl,q8,q9,q10,q11,q12,q13,q14,q15,q16,q17,q18,q19,q20⟩
             · have l0:L 7=true:=by have:=hd _ rfl;simp [Region.binds] at this;simp [this]
               have f7:=(hv 7 53 rfl l0).trans (q7 l0)
               refine Ri.step_plain rfl rfl (fun K' hK=>?_)
               go_simp
               exact hK _ _ ⟨_,_,rfl,rfl,hb,q0,q1,q2,q3,q4,q5,q6,q7,fun _=>rfl,q9,q10,q11,q12,q13,q14,q15,q16,q17,q18,q19,q20⟩
             · have l0:L 8=true:=by have:=hd _ rfl;simp [Region.binds] at this;simp [this]
               have f8:=(hv 8 54 rfl l0).trans (q8 l0)
               exact Ri.step_unwanted (b:=true) rfl rfl rfl f8 ⟨_,_,rfl,rfl,hb,q0,q1,q2,q3,q4,q5,q6,q7,q8,fun _=>rfl,q10,q11,q12,q13,q14,q15,q16,q17,q18,q19,q20⟩
             · have l0:L 8=true:=by have:=hd _ rfl;simp [Region.binds] at this;simp [this]
               have f8:=(hv 8 54 rfl l0).trans (q8 l0)
               exact Ri.step_unwanted (b:=true) rfl rfl rfl f8 ⟨_,_,rfl,rfl,hb,q0,q1,q2,q3,q4,q5,q6,q7,q8,q9,fun _=>rfl,q11,q12,q13,q14,q15,q16,q17,q18,q19,q20⟩
             · have l0:L 8=true:=by have:=hd _ rfl;simp [Region.binds] at this;simp [this]
               have f8:=(hv 8 54 rfl l0).trans (q8 l0)
               exact Ri.step_unwanted (b:=true) rfl rfl rfl f8 ⟨_,_,rfl,rfl,hb,q0,q1,q2,q3,q4,q5,q6,q7,q8,q9,q10,fun _=>rfl,q12,q13,q14,q15,q16,q17,q18,q19,q20⟩
             · have l0:L 8=true:=by have:=hd _ rfl;simp [Region.binds] at this;simp [this]
               have f8:=(hv 8 54 rfl l0).trans (q8 l0)
               exact Ri.step_unwanted (b:=true) rfl rfl rfl f8 ⟨_,_,rfl,rfl,hb,q0,q1,q2,q3,q4,q5,q6,q7,q8,q9,q10,q11,fun _=>rfl,q13,q14,q15,q16,q17,q18,q19,q20⟩
             · have l0:L 8=true:=by have:=hd _ rfl;simp [Region.binds] at this;simp [this]
               have f8:=(hv 8 54 rfl l0).trans (q8 l0)
               exact Ri.step_unwanted (b:=true) rfl rfl rfl f8 ⟨_,_,rfl,rfl,hb,q0,q1,q2,q3,q4,q5,q6,q7,q8,q9,q10,q11,q12,fun _=>rfl,q14,q15,q16,q17,q18,q19,q20⟩
             · have l0:L 8=true:=by have:=hd _ rfl;simp [Region.binds] at this;simp [this]
               have f8:=(hv 8 54 rfl l0).trans (q8 l0)
               exact Ri.step_unwanted (b:=true) rfl rfl rfl f8 ⟨_,_,rfl,rfl,hb,q0,q1,q2,q3,q4,q5,q6,q7,q8,q9,q10,q11,q12,q13,fun _=>rfl,q15,q16,q17,q18,q19,q20⟩
             · have l0:L 8=true:=by have:=hd _ rfl;simp [Region.binds] at this;simp [this]
               have f8:=(hv 8 54 rfl l0).trans (q8 l0)
               exact Ri.step_unwanted (b:=true) rfl rfl rfl f8 ⟨_,_,rfl,rfl,hb,q0,q1,q2,q3,q4,q5,q6,q7,q8,q9,q10,q11,q12,q13,q14,fun _=>rfl,q16,q17,q18,q19,q20⟩
             · have l0:L 8=true:=by have:=hd _ rfl;simp [Region.binds] at this;simp [this]
               have f8:=(hv 8 54 rfl l0).trans (q8 l0)
               exact Ri.step_unwanted (b:=true) rfl rfl rfl f8 ⟨_,_,rfl,rfl,hb,q0,q1,q2,q3,q4,q5,q6,q7,q8,q9,q10,q11,q12,q13,q14,q15,fun _=>rfl,q17,q18,q19,q20⟩
             · have l0:L 8=true:=by have:=hd _ rfl;simp [Region.binds] at this;simp [this]
               have f8:=(hv 8 54 rfl l0).trans (q8 l0)
               exact Ri.step_unwanted (b:=true) rfl rfl rfl f8 ⟨_,_,rfl,rfl,hb,q0,q1,q2,q3,q4,q5,q6,q7,q8,q9,q10,q11,q12,q13,q14,q15,q16,fun _=>rfl,q18,q19,q20⟩
             · have l0:L 8=true:=by have:=hd _ rfl;simp [Region.binds] at this;simp [this]
               have f8:=(hv 8 54 rfl l0).trans (q8 l0)
               exact Ri.step_unwanted (b:=true) rfl rfl rfl f8 ⟨_,_,rfl,rfl,hb,q0,q1,q2,q3,q4,q5,q6,q7,q8,q9,q10,q11,q12,q13,q14,q15,q16,q17,fun _=>rfl,q19,q20⟩
             · have l0:L 8=true:=by have:=hd _ rfl;simp [Region.binds] at this;simp [this]
               have f8:=(hv 8 54 rfl l0).trans (q8 l0)
               exact Ri.step_unwanted (b:=true) rfl rfl rfl f8 ⟨_,_,rfl,rfl,hb,q0,q1,q2,q3,q4,q5,q6,q7,q8,q9,q10,q11,q12,q13,q14,q15,q16,q17,q18,fun _=>rfl,q20⟩
             · have l0:L 8=true∧L 19=true:=by have:=hd _ rfl;simp [Region.binds] at this;simp [this]
               have f8:=(hv 8 54 rfl l0.1).trans (q8 l0.1)
               have f19:=(hv 19 65 rfl l0.2).trans (q19 l0.2)
               refine Ri.step_plain rfl rfl (fun K' hK=>?_)
               go_simp
               exact hK _ _ ⟨_,_,rfl,rfl,hb,q0,q1,q2,q3,q4,q5,q6,q7,q8,q9,q10,q11,q12,q13,q14,q15,q16,q17,q18,q19,fun _=>rfl⟩
           · rintro v w12 ⟨hb,-,-,-,-,-,-,-,-,-,-,-,-,-,-,-,-,-,-,-,-,q20⟩
             have q20':v 20=.bool true:=q20 rfl
             simp only [Ri.frame,List.zipIdx,List.foldl_cons,List.foldl_nil,if_true,List.setIfInBounds_toArray,List.set_cons_zero,List.set_cons_succ,Nat.reduceAdd,q20']
             clear q20 q20'
             generalize v 0=y0;generalize v 1=y1;generalize v 2=y2;generalize v 3=y3;generalize v 4=y4;generalize v 5=y5;generalize v 6=y6;generalize v 7=y7;generalize v 8=y8;generalize v 9=y9;generalize v 10=y10;generalize v 11=y11;generalize v 12=y12;generalize v 13=y13;generalize v 14=y14;generalize v 15=y15;generalize v 16=y16;generalize v 17=y17;generalize v 18=y18;generalize v 19=y19
             have HLW7:=Lib.hid (HLW5.out.below HEND.out (by have:=HBASE.out;omega) hb)
             have XC7:=Lib.hid (keep_blk hb XC5.out);have HCH7:=Lib.hid (HCH5.out.trans (Chg.of_below hb))
             have hsz7:=hb.size
             have wc:IntKind.i64.wrap ((c:Int) - 1)=(c:Int) - 1:=IntWalk.i64_in _ (by omega)
             have ek:(j:Int) - ((k+1:Nat):Int)=(c:Int) - 1:=by omega
             have HRN2:=Lib.hid (show runC (fun s l=>step s 0 (qs.map (·.1) ++ l)) sk (((Ps.cuts aa j).drop (k+1)).flatMap fun c=>if u.wy x i c=0 ∨ t.restT x (t.nextI d) c j=0 then [] else (u.al x i c).flatMap fun p=>(Ps.lists x t n (t.nextI d) c j).map fun l=>p :: l)=RR by have:=HR3.out;rw [if_pos (.inl hw0),List.nil_append] at this;exact this)
             clear hb HLW5 XC5 HCH5 HCU HCT HAT1 HAT2 HRS Y6 Y14 Y9 ez hw0 HR3
             have cc:=box_cell XC7.out
             go_wp2
             have hba:Below w12.heap.size w12 (w12.alloc (.cells #[.int .i64 ((c:Int) - 1)] 3)):=(Below.refl _ _).alloc (Nat.le_refl _) _
             exact ⟨⟨k+1,w12.heap.size,sk,rfl,by omega,Lib.hid (by rw [ek];exact heap_alloc_new _ _),by omega,Lib.hid (HLW7.out.below HEND.out (by have:=HBASE.out;omega) hba),Lib.hid (HCH7.out.trans (Chg.of_below hba)),HRN2⟩,by rw [cutOf_of (heap_alloc_new _ _),hme];omega⟩
         · have ez:(((Ps.sat (u.wy x i c):Nat):Int) == 0)=false:=by rw [beq_eq_false_iff_ne];unfold Ps.sat;omega
           go_upto_region 7 with (fail)
           refine Ri.wp_region_frame (by kernel_rfl) (by kernel_rfl) (by kernel_rfl) (by kernel_rfl)
             (fun L v w'=>Below w11.heap.size w11 w'∧(L 0=true→v 0=.pointer (some ⟨bu,0,none⟩))∧(L 1=true→v 1=.pointer (some ⟨bu,0,none⟩))∧(L 2=true→v 2=.pointer (some ⟨bu,2,none⟩))∧(L 3=true→v 3=.agg #[.int .i64 (lo:Int),.int .i64 ((lo:Int)+(m:Int)),.slice (some ⟨gu,0,none⟩) ((m+1) * (m+1)) ((m+1) * (m+1))])∧(L 4=true→v 4=.int .i64 (i:Int))∧(L 5=true→v 5=.int .i64 (c:Int))∧(L 6=true→v 6=.int .i64 ((Ps.sat (u.wy x i c):Nat):Int))∧(L 7=true→v 7=.bool false)∧(L 8=true→v 8=.bool false)∧(L 9=true→v 9=.pointer (some ⟨b,0,none⟩))∧(L 10=true→v 10=.pointer (some ⟨b,0,none⟩))∧(L 11=true→v 11=.pointer (some ⟨b,5,none⟩))∧(L 12=true→v 12=.slice (some ⟨gr,0,none⟩) t.restN t.restN)∧(L 13=true→v 13=.int .i64 ((t.nextI d:Nat):Int))∧(L 14=true→v 14=.pointer (some ⟨gr,t.nextI d * 3,none⟩))∧(L 15=true→v 15=.agg #[.int .i64 (lo:Int),.int .i64 ((lo:Int)+(m:Int)),.slice (some ⟨gv,0,none⟩) ((m+1) * (m+1)) ((m+1) * (m+1))])∧(L 16=true→v 16=.int .i64 (c:Int))∧(L 17=true→v 17=.int .i64 (j:Int))∧(L 18=true→v 18=.int .i64 ((Ps.sat (t.restT x (t.nextI d) c j):Nat):Int))∧(L 19=true→v 19=.bool (((Ps.sat (t.restT x (t.nextI d) c j):Nat):Int) == 0))∧(L 20=true→v 20=.bool (((Ps.sat (t.restT x (t.nextI d) c j):Nat):Int) == 0)))
             ?_ ?_ ?_
           · exact ⟨(Below.refl _ _).drew,by simp,by simp,by simp,by simp,by simp,by simp,by simp,by simp,by simp,by simp,by simp,by simp,by simp,by simp,by simp,by simp,by simp,by simp,by simp,by simp,by simp⟩
           · intro i hi9 L v w12 xa hI hL hd hv ho
             have hi':i=0 ∨ i=1 ∨ i=2 ∨ i=3 ∨ i=4 ∨ i=5 ∨ i=6 ∨ i=7 ∨ i=8 ∨ i=9 ∨ i=10 ∨ i=11 ∨ i=12 ∨ i=13 ∨ i=14 ∨ i=15 ∨ i=16 ∨ i=17 ∨ i=18 ∨ i=19 ∨ i=20:=by simp at hi9;omega
             obtain ⟨hb,q0,q1,q2,q3,q4,q5,q6,q7,q8,q9,q10,q11,q12,q13,q14,q15,q16,q17,q18,q19,q20⟩:=hI
             rcases hi' with rfl | rfl | rfl | rfl | rfl | rfl | rfl | rfl | rfl | rfl | rfl | rfl | rfl | rfl | rfl | rfl | rfl | rfl | rfl | rfl | rfl
             · have e13:xa.tmps.getD 13 undef=.pointer (some ⟨bu,0,none⟩):=ho 13 (by kernel_rfl)
               refine Ri.step_plain rfl rfl (fun K' hK=>?_)
               go_simp
               exact hK _ _ ⟨_,_,rfl,rfl,hb,fun _=>rfl,q1,q2,q3,q4,q5,q6,q7,q8,q9,q10,q11,q12,q13,q14,q15,q16,q17,q18,q19,q20⟩
             · have l0:L 0=true:=by have:=hd _ rfl;simp [Region.binds] at this;simp [this]
               have f0:=(hv 0 46 rfl l0).trans (q0 l0)
               refine Ri.step_plain rfl rfl (fun K' hK=>?_)
               go_simp
               exact hK _ _ ⟨_,_,rfl,rfl,hb,q0,fun _=>rfl,q2,q3,q4,q5,q6,q7,q8,q9,q10,q11,q12,q13,q14,q15,q16,q17,q18,q19,q20⟩
             · have l0:L 1=true:=by have:=hd _ rfl;simp [Region.binds] at this;simp [this]
               have f1:=(hv 1 47 rfl l0).trans (q1 l0)
               refine Ri.step_plain rfl rfl (fun K' hK=>?_)
               go_simp
               exact hK _ _ ⟨_,_,rfl,rfl,hb,q0,q1,fun _=>rfl,q3,q4,q5,q6,q7,q8,q9,q10,q11,q12,q13,q14,q15,q16,q17,q18,q19,q20⟩
             · have l0:L 2=true:=by have:=hd _ rfl;simp [Region.binds] at this;simp [this]
               have f2:=(hv 2 48 rfl l0).trans (q2 l0)
               refine Ri.step_plain rfl rfl (fun K' hK=>?_)
               obtain ⟨e0,e1,e2,e3,e4,e5,e6,e7,-⟩:=tk8 (keep_blk hb HCU.out)
               go_simp
               exact hK _ _ ⟨_,_,rfl,rfl,hb,q0,q1,q2,fun _=>rfl,q4,q5,q6,q7,q8,q9,q10,q11,q12,q13,q14,q15,q16,q17,q18,q19,q20⟩
             · have e2:xa.tmps.getD 2 undef=.int .i64 (i:Int):=ho 2 (by kernel_rfl)
               refine Ri.step_plain rfl rfl (fun K' hK=>?_)
               go_simp
               exact hK _ _ ⟨_,_,rfl,rfl,hb,q0,q1,q2,q3,fun _=>rfl,q5,q6,q7,q8,q9,q10,q11,q12,q13,q14,q15,q16,q17,q18,q19,q20⟩
             · have e15:xa.tmps.getD 15 undef=.pointer (some ⟨bc,0,none⟩):=ho 15 (by kernel_rfl)
               refine Ri.step_plain rfl rfl (fun K' hK=>?_)
               obtain cc:=box_cell (keep_blk hb XC5.out)
               go_simp
               exact hK _ _ ⟨_,_,rfl,rfl,hb,q0,q1,q2,q3,q4,fun _=>rfl,q6,q7,q8,q9,q10,q11,q12,q13,q14,q15,q16,q17,q18,q19,q20⟩
             · have l0:L 3=true∧L 4=true∧L 5=true:=by have:=hd _ rfl;simp [Region.binds] at this;simp [this]
               have f3:=(hv 3 49 rfl l0.1).trans (q3 l0.1)
               have f4:=(hv 4 50 rfl l0.2.1).trans (q4 l0.2.1)
               have f5:=(hv 5 51 rfl l0.2.2).trans (q5 l0.2.2)
               refine Ri.step_plain rfl rfl (fun K' hK=>?_)
               go_simp
               refine (HAT1.out _ hb).mono ?_
               rintro e w8 ⟨rfl,hb8⟩
               exact hK _ _ ⟨_,_,rfl,rfl,hb.trans (hb8.mono hb.size),q0,q1,q2,q3,q4,q5,fun _=>rfl,q7,q8,q9,q10,q11,q12,q13,q14,q15,q16,q17,q18,q19,q20⟩
             · have l0:L 6=true:=by have:=hd _ rfl;simp [Region.binds] at this;simp [this]
               have f6:=(hv 6 52 rfl l0).trans (q6 l0)
               refine Ri.step_plain rfl rfl (fun K' hK=>?_)
               go_simp
               exact hK _ _ ⟨_,_,rfl,rfl,hb,q0,q1,q2,q3,q4,q5,q6,fun _=>rfl,q8,q9,q10,q11,q12,q13,q14,q15,q16,q17,q18,q19,q20⟩
             · have l0:L 7=true:=by have:=hd _ rfl;simp [Region.binds] at this;simp [this]
               have f7:=(hv 7 53 rfl l0).trans (q7 l0)
               refine Ri.step_plain rfl rfl (fun K' hK=>?_)
               go_simp
               exact hK _ _ ⟨_,_,rfl,rfl,hb,q0,q1,q2,q3,q4,q5,q6,q7,fun _=>rfl,q9,q10,q11,q12,q13,q14,q15,q16,q17,q18,q19,q20⟩
             · have l0:L 8=true:=by have:=hd _ rfl;simp [Region.binds] at this;simp [this]
               have f8:=(hv 8 54 rfl l0).trans (q8 l0)
               have e6:xa.tmps.getD 6 undef=.pointer (some ⟨w.heap.size,0,none⟩):=ho 6 (by kernel_rfl)
               refine Ri.step_wanted (b:=false) rfl rfl rfl f8 (fun K' hK=>?_)
               obtain cc:=box_cell (keep_blk hb Y6.out)
               go_simp
               exact hK _ _ ⟨_,_,rfl,rfl,hb,q0,q1,q2,q3,q4,q5,q6,q7,q8,fun _=>rfl,q10,q11,q12,q13,q14,q15,q16,q17,q18,q19,q20⟩
             · have l0:L 8=true∧L 9=true:=by have:=hd _ rfl;simp [Region.binds] at this;simp [this]
               have f8:=(hv 8 54 rfl l0.1).trans (q8 l0.1)
               have f9:=(hv 9 55 rfl l0.2).trans (q9 l0.2)
               refine Ri.step_wanted (b:=false) rfl rfl rfl f8 (fun K' hK=>?_)
               go_simp
               exact hK _ _ ⟨_,_,rfl,rfl,hb,q0,q1,q2,q3,q4,q5,q6,q7,q8,q9,fun _=>rfl,q11,q12,q13,q14,q15,q16,q17,q18,q19,q20⟩
             · have l0:L 8=true∧L 10=true:=by have:=hd _ rfl;simp [Region.binds] at this;simp [this]
               have f8:=(hv 8 54 rfl l0.1).trans (q8 l0.1)
               have f10:=(hv 10 56 rfl l0.2).trans (q10 l0.2)
               refine Ri.step_wanted (b:=false) rfl rfl rfl f8 (fun K' hK=>?_)
               go_simp
               exact hK _ _ ⟨_,_,rfl,rfl,hb,q0,q1,q2,q3,q4,q5,q6,q7,q8,q9,q10,fun _=>rfl,q12,q13,q14,q15,q16,q17,q18,q19,q20⟩
             · have l0:L 8=true∧L 11=true:=by have:=hd _ rfl;simp [Region.binds] at this;simp [this]
               have f8:=(hv 8 54 rfl l0.1).trans (q8 l0.1)
               have f11:=(hv 11 57 rfl l0.2).trans (q11 l0.2)
               refine Ri.step_wanted (b:=false) rfl rfl rfl f8 (fun K' hK=>?_)
               obtain ⟨e0,e1,e2,e3,e4,e5,e6,e7,-⟩:=tk8 (keep_blk hb HCT.out)
               go_simp
               exact hK _ _ ⟨_,_,rfl,rfl,hb,q0,q1,q2,q3,q4,q5,q6,q7,q8,q9,q10,q11,fun _=>rfl,q13,q14,q15,q16,q17,q18,q19,q20⟩
             · have l0:L 8=true:=by have:=hd _ rfl;simp [Region.binds] at this;simp [this]
               have f8:=(hv 8 54 rfl l0).trans (q8 l0)
               have e14:xa.tmps.getD 14 undef=.pointer (some ⟨bn,0,none⟩):=ho 14 (by kernel_rfl)
               refine Ri.step_wanted (b:=false) rfl rfl rfl f8 (fun K' hK=>?_)
               obtain cc:=box_cell (keep_blk hb Y14.out)
               go_simp
               exact hK _ _ ⟨_,_,rfl,rfl,hb,q0,q1,q2,q3,q4,q5,q6,q7,q8,q9,q10,q11,q12,fun _=>rfl,q14,q15,q16,q17,q18,q19,q20⟩
             · have l0:L 8=true∧L 12=true∧L 13=true:=by have:=hd _ rfl;simp [Region.binds] at this;simp [this]
               have f8:=(hv 8 54 rfl l0.1).trans (q8 l0.1)
               have f12:=(hv 12 58 rfl l0.2.1).trans (q12 l0.2.1)
               have f13:=(hv 13 59 rfl l0.2.2).trans (q13 l0.2.2)
               refine Ri.step_wanted (b:=false) rfl rfl rfl f8 (fun K' hK=>?_)
               go_simp
               exact hK _ _ ⟨_,_,rfl,rfl,hb,q0,q1,q2,q3,q4,q5,q6,q7,q8,q9,q10,q11,q12,q13,fun _=>rfl,q15,q16,q17,q18,q19,q20⟩
             · have l0:L 8=true∧L 14=true:=by have:=hd _ rfl;simp [Region.binds] at this;simp [this]
               have f8:=(hv 8 54 rfl l0.1).trans (q8 l0.1)
               have f14:=(hv 14 60 rfl l0.2).trans (q14 l0.2)
               refine Ri.step_wanted (b:=false) rfl rfl rfl f8 (fun K' hK=>?_)
               obtain ⟨e0,e1,e2⟩:=HRS.out _ hb
               go_simp
               exact hK _ _ ⟨_,_,rfl,rfl,hb,q0,q1,q2,q3,q4,q5,q6,q7,q8,q9,q10,q11,q12,q13,q14,fun _=>rfl,q16,q17,q18,q19,q20⟩
             · have l0:L 8=true:=by have:=hd _ rfl;simp [Region.binds] at this;simp [this]
               have f8:=(hv 8 54 rfl l0).trans (q8 l0)
               have e15:xa.tmps.getD 15 undef=.pointer (some ⟨bc,0,none⟩):=ho 15 (by kernel_rfl)
               refine Ri.step_wanted (b:=false) rfl rfl rfl f8 (fun K' hK=>?_)
               obtain cc:=box_cell (keep_blk hb XC5.out)
               go_simp
               exact hK _ _ ⟨_,_,rfl,rfl,hb,q0,q1,q2,q3,q4,q5,q6,q7,q8,q9,q10,q11,q12,q13,q14,q15,fun _=>rfl,q17,q18,q19,q20⟩
             · have l0:L 8=true:=by have:=hd _ rfl;simp [Region.binds] at this;simp [this]
               have f8:=(hv 8 54 rfl l0).trans (q8 l0)
               have e9:xa.tmps.getD 9 undef=.pointer (some ⟨w.heap.size+1,0,none⟩):=ho 9 (by kernel_rfl)
               refine Ri.step_wanted (b:=false) rfl rfl rfl f8 (fun K' hK=>?_)
               obtain cc:=box_cell (keep_blk hb Y9.out)
               go_simp
               exact hK _ _ ⟨_,_,rfl,rfl,hb,q0,q1,q2,q3,q4,q5,q6,q7,q8,q9,q10,q11,q12,q13,q14,q15,q16,fun _=>rfl,q18,q19,q20⟩
             · have l0:L 8=true∧L 15=true∧L 16=true∧L 17=true:=by have:=hd _ rfl;simp [Region.binds] at this;simp [this]
               have f8:=(hv 8 54 rfl l0.1).trans (q8 l0.1)
               have f15:=(hv 15 61 rfl l0.2.1).trans (q15 l0.2.1)
               have f16:=(hv 16 62 rfl l0.2.2.1).trans (q16 l0.2.2.1)
               have f17:=(hv 17 63 rfl l0.2.2.2).trans (q17 l0.2.2.2)
               refine Ri.step_wanted (b:=false) rfl rfl rfl f8 (fun K' hK=>?_)
               go_simp
               refine (HAT2.out _ hb).mono ?_
               rintro e w8 ⟨rfl,hb8⟩
               exact hK _ _ ⟨_,_,rfl,rfl,hb.trans (hb8.mono hb.size),q0,q1,q2,q3,q4,q5,q6,q7,q8,q9,q10,q11,q12,q13,q14,q15,q16,q17,fun _=>rfl,q19,q20⟩
             · have l0:L 8=true∧L 18=true:=by have:=hd _ rfl;simp [Region.binds] at this;simp [this]
               have f8:=(hv 8 54 rfl l0.1).trans (q8 l0.1)
               have f18:=(hv 18 64 rfl l0.2).trans (q18 l0.2)
               refine Ri.step_wanted (b:=false) rfl rfl rfl f8 (fun K' hK=>?_)
               go_simp
               exact hK _ _ ⟨_,_,rfl,rfl,hb,q0,q1,q2,q3,q4,q5,q6,q7,q8,q9,q10,q11,q12,q13,q14,q15,q16,q17,q18,fun _=>rfl,q20⟩
             · have l0:L 8=true∧L 19=true:=by have:=hd _ rfl;simp [Region.binds] at this;simp [this]
               have f8:=(hv 8 54 rfl l0.1).trans (q8 l0.1)
               have f19:=(hv 19 65 rfl l0.2).trans (q19 l0.2)
               refine Ri.step_plain rfl rfl (fun K' hK=>?_)
               go_simp
               exact hK _ _ ⟨_,_,rfl,rfl,hb,q0,q1,q2,q3,q4,q5,q6,q7,q8,q9,q10,q11,q12,q13,q14,q15,q16,q17,q18,q19,fun _=>rfl⟩
           · rintro v w12 ⟨hb,-,-,-,-,-,-,-,-,-,-,-,-,-,-,-,-,-,-,-,-,q20⟩
             have q20':v 20=.bool (((Ps.sat (t.restT x (t.nextI d) c j):Nat):Int) == 0):=q20 rfl
             simp only [Ri.frame,List.zipIdx,List.foldl_cons,List.foldl_nil,if_true,List.setIfInBounds_toArray,List.set_cons_zero,List.set_cons_succ,Nat.reduceAdd,q20']
             clear q20 q20'
             generalize v 0=y0;generalize v 1=y1;generalize v 2=y2;generalize v 3=y3;generalize v 4=y4;generalize v 5=y5;generalize v 6=y6;generalize v 7=y7;generalize v 8=y8;generalize v 9=y9;generalize v 10=y10;generalize v 11=y11;generalize v 12=y12;generalize v 13=y13;generalize v 14=y14;generalize v 15=y15;generalize v 16=y16;generalize v 17=y17;generalize v 18=y18;generalize v 19=y19
             have HLW7:=Lib.hid (HLW5.out.below HEND.out (by have:=HBASE.out;omega) hb)
             have XC7:=Lib.hid (keep_blk hb XC5.out);have HCH7:=Lib.hid (HCH5.out.trans (Chg.of_below hb))
             have hsz7:=hb.size
             have wc:IntKind.i64.wrap ((c:Int) - 1)=(c:Int) - 1:=IntWalk.i64_in _ (by omega)
             have ek:(j:Int) - ((k+1:Nat):Int)=(c:Int) - 1:=by omega
             clear hb HLW5 XC5 HCH5 HCU HCT HAT1 HAT2 HRS Y6 Y14 Y9 ez
             by_cases hr0:t.restT x (t.nextI d) c j=0
             · have ezr:(((Ps.sat (t.restT x (t.nextI d) c j):Nat):Int) == 0)=true:=by rw [hr0];rfl
               have HRN2:=Lib.hid (show runC (fun s l=>step s 0 (qs.map (·.1) ++ l)) sk (((Ps.cuts aa j).drop (k+1)).flatMap fun c=>if u.wy x i c=0 ∨ t.restT x (t.nextI d) c j=0 then [] else (u.al x i c).flatMap fun p=>(Ps.lists x t n (t.nextI d) c j).map fun l=>p :: l)=RR by have:=HR3.out;rw [if_pos (.inr hr0),List.nil_append] at this;exact this)
               rw [ezr]
               clear hw0 hr0 HR3 ezr
               have cc:=box_cell XC7.out
               go_wp2
               have hba:Below w12.heap.size w12 (w12.alloc (.cells #[.int .i64 ((c:Int) - 1)] 3)):=(Below.refl _ _).alloc (Nat.le_refl _) _
               exact ⟨⟨k+1,w12.heap.size,sk,rfl,by omega,Lib.hid (by rw [ek];exact heap_alloc_new _ _),by omega,Lib.hid (HLW7.out.below HEND.out (by have:=HBASE.out;omega) hba),Lib.hid (HCH7.out.trans (Chg.of_below hba)),HRN2⟩,by rw [cutOf_of (heap_alloc_new _ _),hme];omega⟩
             · have ezr:(((Ps.sat (t.restT x (t.nextI d) c j):Nat):Int) == 0)=false:=by rw [beq_eq_false_iff_ne];unfold Ps.sat;omega
               have hrn:(if (runC (fun s p=>runC (fun s l=>step s 0 (qs.map (·.1) ++ [p] ++ l)) s (Ps.lists x t n (t.nextI d) c j)) sk (u.al x i c)).1=true then runC (fun s l=>step s 0 (qs.map (·.1) ++ l)) (runC (fun s p=>runC (fun s l=>step s 0 (qs.map (·.1) ++ [p] ++ l)) s (Ps.lists x t n (t.nextI d) c j)) sk (u.al x i c)).2 (((Ps.cuts aa j).drop (k+1)).flatMap fun c=>if u.wy x i c=0 ∨ t.restT x (t.nextI d) c j=0 then [] else (u.al x i c).flatMap fun p=>(Ps.lists x t n (t.nextI d) c j).map fun l=>p :: l) else (false,(runC (fun s p=>runC (fun s l=>step s 0 (qs.map (·.1) ++ [p] ++ l)) s (Ps.lists x t n (t.nextI d) c j)) sk (u.al x i c)).2))=RR:=by
                 have:=HR3.out
                 rw [if_neg (fun h=>h.elim hw0 hr0),runC_append,Ps.runC_cut] at this
                 simp only [List.append_assoc,List.cons_append,List.nil_append]
                 exact this
               have hlow:=HEND.out.low;have hbs:=HBASE.out;have htbw:=HTB.out
               have hown:∀ k,(Value.slice p0 qs.length cap0).ownBlock=some k→k < w.heap.size:=fun k hk=>by have:=(HLW7.out.left.low k hk).1;omega
               have hbx:∀ k,k=w.heap.size ∨ k=bn ∨ k=bc ∨ k=w.heap.size+1 ∨ k=w.heap.size+1+1 ∨ k=w.heap.size+1+1+1→¬ Rg k∧(Value.slice p0 qs.length cap0).ownBlock ≠ some k∧k < w12.heap.size:=fun k hk=>by
                 have hge:w.heap.size ≤ k∧k < w12.heap.size:=by omega
                 exact ⟨fun hr=>by have:=hlow k hr;omega,fun e=>by have:=hown k e;omega,hge.2⟩
               have HCALL:=Lib.hid (IH.out i c hij.1 (by omega) (by omega) hw0 σ _ _ _ _ _ _ _ (fnd_lists HEND.out x lo m t n HLD.out (t.nextI d) c j (by omega) (by omega) (by omega) (Ps.fuel_next t HMU.out HRN.out.1 HFU.out (by rw [HAA.out];omega) (by omega)) hni hr0 B b tb w12.heap.size (.slice p0 qs.length cap0) qs (by have:=HQ.out;omega)
                 w.heap.size bn bc (w.heap.size+1) (w.heap.size+1+1) (w.heap.size+1+1+1) (by omega) (by omega) (fun k hk=>by have:=hown k hk;omega) (fun k hk=>⟨(HBB.out k hk).1,(HBB.out k hk).2.1,by have:=(HBB.out k hk).2.2;omega⟩) hbx)
                 sk w12 B bu HLW7.out.tu (fun k hk=>⟨fun e=>e.elim (HBB.out k hk).1 (HBB.out k hk).2.1,by have:=(HBB.out k hk).2.2;omega⟩) (Nat.le_refl _)
                 ⟨HLW7.out.inv,HLW7.out.left,HLW7.out.tk,HLW7.out.x6,HLW7.out.x14,XC7.out,HLW7.out.x9,HLW7.out.x10,HLW7.out.x11⟩)
               unfold TellEnd at HCALL
               generalize runC (fun s p=>runC (fun s l=>step s 0 (qs.map (·.1) ++ [p] ++ l)) s (Ps.lists x t n (t.nextI d) c j)) sk (u.al x i c)=r1 at *
               have HRN3:=Lib.hid hrn
               have Z9:=Lib.hid HLW7.out.x9
               rw [ezr]
               clear hw0 hr0 HR3 ezr hrn hlow hown hbx
               have cc:=box_cell XC7.out
               go_wp2_with fail
               refine HCALL.out.mono ?_
               rintro e w3 ⟨rfl,ht⟩
               clear HCALL cc
               obtain ⟨rb,rs⟩:=r1
               cases rb with
               | false =>
                 have HST:=Lib.hid (ht.2 rfl)
                 have hr:RR=(false,rs):=by rw [← HRN3.out];rfl
                 subst hr
                 clear ht HLW7 XC7 HCH7
                 go_wp2
                 go_ret
                 exact ⟨rfl,Tld.no HST.out⟩
               | true =>
                 obtain ⟨hI3,hch⟩:=ht.1 rfl
                 have HTU3:=Lib.hid (HLW7.out.tu.keep (w':=w3) fun k hk hB=>hch.block k hk fun e=>e.elim (HBB.out k hB).1 (HBB.out k hB).2.1)
                 have HI3:=Lib.hid hI3
                 have HCH3:=Lib.hid (HCH7.out.trans hch)
                 have hs3:=hch.size
                 clear hch hI3 ht HLW7 XC7 HCH7
                 have HRN4:=Lib.hid (show runC (fun s l=>step s 0 (qs.map (·.1) ++ l)) rs (((Ps.cuts aa j).drop (k+1)).flatMap fun c=>if u.wy x i c=0 ∨ t.restT x (t.nextI d) c j=0 then [] else (u.al x i c).flatMap fun p=>(Ps.lists x t n (t.nextI d) c j).map fun l=>p :: l)=RR from by rw [← HRN3.out];rfl)
                 have HLW4:=Lib.hid (LwI.mk HI3.out.inv HI3.out.left HI3.out.tk HTU3.out HI3.out.x6 HI3.out.x14 HI3.out.x9 HI3.out.x10 HI3.out.x11)
                 have XC7:=Lib.hid HI3.out.x15
                 clear HI3 HRN3 HTU3
                 have cc:=box_cell XC7.out
                 go_wp2
                 have hba:Below w3.heap.size w3 (w3.alloc (.cells #[.int .i64 ((c:Int) - 1)] 3)):=(Below.refl _ _).alloc (Nat.le_refl _) _
                 exact ⟨⟨k+1,w3.heap.size,rs,rfl,by omega,Lib.hid (by rw [ek];exact heap_alloc_new _ _),by omega,Lib.hid (HLW4.out.below HEND.out (by have:=HBASE.out;omega) hba),Lib.hid (HCH3.out.trans (Chg.of_below hba)),HRN4⟩,by rw [cutOf_of (heap_alloc_new _ _),hme];omega⟩
 · go_enter Tryd.func161,Tryd.ntmps161
   go_upto_region 1 with (fail)
   generalize World.alloc (World.alloc _ _) _=W0 at *
   obtain ⟨d0,d1,d2,d3,d4,d5,d6,d7,-⟩:=tk8 HC0.out
   clear d0 d1 d2 d3 d4 d5 d7
   have c6:=box_cell X6.out;have c9:=box_cell X9.out
   go_upto_region 3 with (fail)
   clear c6 c9 d6 hge
   refine Ri.wp_region_last (by kernel_rfl) (by kernel_rfl) (by kernel_rfl) (by kernel_rfl) 8 (by kernel_rfl) (by kernel_rfl) (fun kk ww vv=>match kk with | 0=>vv=.pointer (some ⟨b,0,none⟩) | 1=>vv=.int .i64 (d:Int) | 2=>∃ c,vv=.pointer (some ⟨c,0,none⟩)∧TkrAt x lo m ww B c u | 3=>vv=.pointer (some ⟨b,0,none⟩) | 4=>vv=.int .i64 (d:Int) | 5=>vv=.int .i64 ((t.nextI d:Nat):Int) | 6=>∃ g,vv=.pointer (some ⟨g,0,none⟩)∧W0.heap.size ≤ g∧ww.heap[g]? = some (.cells #[.int .i64 0] 3) | 7=>∃ c,vv=.pointer (some ⟨c,0,none⟩)∧TkrAt x lo m ww B c u | _=>True) (fun vv ww=>∃ g c,(vv 6)=.pointer (some ⟨g,0,none⟩)∧(vv 7)=.pointer (some ⟨c,0,none⟩)∧W0.heap.size ≤ g∧ww.heap[g]? = some (.cells #[.int .i64 ((t.nextI d:Nat):Int)] 3)∧TkrAt x lo m ww B c u∧Below W0.heap.size W0 ww) (fun kk ww vv w8 h hb=>by
           match kk,h with
           | 0,h=>exact h
           | 1,h=>exact h
           | 2,h=>exact h.imp fun c h=>⟨h.1,h.2.later hb⟩
           | 3,h=>exact h
           | 4,h=>exact h
           | 5,h=>exact h
           | 6,h=>exact h.imp fun g h=>⟨h.1,h.2.1,keep_blk hb h.2.2⟩
           | 7,h=>exact h.imp fun c h=>⟨h.1,h.2.later hb⟩
           | _+8,_=>trivial) ?_ ?_ ?_
   · intro i hi9 L v w9 xa hF9 hL hd hv ho
     obtain ⟨hb,hk⟩:=hF9
     have hi':i=0 ∨ i=1 ∨ i=2 ∨ i=3 ∨ i=4 ∨ i=5 ∨ i=6 ∨ i=7:=by omega
     rcases hi' with rfl | rfl | rfl | rfl | rfl | rfl | rfl | rfl
     · have e6:xa.tmps.getD 6 undef=.pointer (some ⟨w.heap.size,0,none⟩):=ho 6 (by kernel_rfl)
       refine Ri.step_plain rfl rfl (fun K' hK'=>?_)
       have cc:=box_cell (keep_blk hb X6.out)
       go_simp
       exact hK' _ _ ⟨_,_,rfl,rfl,(Below.refl _ _),rfl⟩
     · have e1:xa.tmps.getD 1 undef=.int .i64 (d:Int):=ho 1 (by kernel_rfl)
       refine Ri.step_plain rfl rfl (fun K' hK'=>?_)
       go_simp
       exact hK' _ _ ⟨_,_,rfl,rfl,(Below.refl _ _),rfl⟩
     · obtain ⟨j0,j1⟩:L 0=true∧L 1=true:=by have:=hd _ rfl;simp [Region.binds] at this;simp [this]
       have f0:=(hv 0 31 rfl j0).trans (hk 0 j0)
       have f1:=(hv 1 32 rfl j1).trans (hk 1 j1)
       refine Ri.step_plain rfl rfl (fun K' hK'=>?_)
       go_simp
       refine (pssub_any x lo m d b t u w9 B (HTK0.out.later hb) HU.out).mono ?_
       rintro e w8 ⟨c8,rfl,ht8,hb8⟩
       exact hK' _ _ ⟨_,_,rfl,rfl,hb8,⟨c8,rfl,ht8⟩⟩
     · have e6:xa.tmps.getD 6 undef=.pointer (some ⟨w.heap.size,0,none⟩):=ho 6 (by kernel_rfl)
       refine Ri.step_plain rfl rfl (fun K' hK'=>?_)
       have cc:=box_cell (keep_blk hb X6.out)
       go_simp
       exact hK' _ _ ⟨_,_,rfl,rfl,(Below.refl _ _),rfl⟩
     · have e1:xa.tmps.getD 1 undef=.int .i64 (d:Int):=ho 1 (by kernel_rfl)
       refine Ri.step_plain rfl rfl (fun K' hK'=>?_)
       go_simp
       exact hK' _ _ ⟨_,_,rfl,rfl,(Below.refl _ _),rfl⟩
     · obtain ⟨j3,j4⟩:L 3=true∧L 4=true:=by have:=hd _ rfl;simp [Region.binds] at this;simp [this]
       have f3:=(hv 3 34 rfl j3).trans (hk 3 j3)
       have f4:=(hv 4 35 rfl j4).trans (hk 4 j4)
       refine Ri.step_plain rfl rfl (fun K' hK'=>?_)
       go_simp
       refine (psnext_any x lo m d b (by have:=HRN.out;omega) t (by have:=HRN.out;omega) (by have:=HRN.out;omega) w9 B (HTK0.out.later hb)).mono ?_
       rintro e w8 ⟨rfl,hb8⟩
       exact hK' _ _ ⟨_,_,rfl,rfl,hb8,rfl⟩
     · refine Ri.step_plain rfl rfl (fun K' hK'=>?_)
       go_simp
       have hba:=(Below.refl w9.heap.size w9).alloc (Nat.le_refl _) (.cells #[.int .i64 0] 3)
       exact hK' _ _ ⟨_,_,rfl,rfl,hba,⟨w9.heap.size,rfl,hb.size,heap_alloc_new _ _⟩⟩
     · have j2:L 2=true:=by have:=hd _ rfl;simp [Region.binds] at this;simp [this]
       have k2:∃ c,(v 2)=.pointer (some ⟨c,0,none⟩)∧TkrAt x lo m w9 B c u:=hk 2 j2
       have f2:=hv 2 33 rfl j2
       refine Ri.step_plain rfl rfl (fun K' hK'=>?_)
       obtain ⟨c8,e8,ht8⟩:=k2
       replace f2:=f2.trans e8
       go_simp
       exact hK' _ _ ⟨_,_,rfl,rfl,(Below.refl _ _),⟨c8,rfl,ht8⟩⟩
   · intro L v w9 xa hF9 hall hv ho
     obtain ⟨hb,hk⟩:=hF9
     have f0:=(hv 0 31 rfl (hall 0 (by omega))).trans (hk 0 (hall 0 (by omega)))
     have f1:=(hv 1 32 rfl (hall 1 (by omega))).trans (hk 1 (hall 1 (by omega)))
     have k2:∃ c,(v 2)=.pointer (some ⟨c,0,none⟩)∧TkrAt x lo m w9 B c u:=hk 2 (hall 2 (by omega))
     have f2:=hv 2 33 rfl (hall 2 (by omega))
     have f3:=(hv 3 34 rfl (hall 3 (by omega))).trans (hk 3 (hall 3 (by omega)))
     have f4:=(hv 4 35 rfl (hall 4 (by omega))).trans (hk 4 (hall 4 (by omega)))
     have f5:=(hv 5 36 rfl (hall 5 (by omega))).trans (hk 5 (hall 5 (by omega)))
     have k6:∃ g,(v 6)=.pointer (some ⟨g,0,none⟩)∧W0.heap.size ≤ g∧w9.heap[g]? = some (.cells #[.int .i64 0] 3):=hk 6 (hall 6 (by omega))
     have f6:=hv 6 14 rfl (hall 6 (by omega))
     have k7:∃ c,(v 7)=.pointer (some ⟨c,0,none⟩)∧TkrAt x lo m w9 B c u:=hk 7 (hall 7 (by omega))
     have f7:=hv 7 13 rfl (hall 7 (by omega))
     refine Ri.step_plain rfl rfl (fun K' hK'=>?_)
     obtain ⟨g8,e8,hg8,hz8⟩:=k6
     obtain ⟨c8,e13,ht13⟩:=k7
     replace f6:=f6.trans e8
     replace f7:=f7.trans e13
     have cz:=box_cell hz8
     have fz:=box_thaw hz8
     go_simp
     exact hK' _ _ ⟨_,undef,rfl,rfl,⟨g8,c8,(show Ri.up v 8 undef 6=_ from e8),(show Ri.up v 8 undef 7=_ from e13),hg8,set1 hz8,ht13.keep (fun k hk hB=>set_oth (by have:=HBW.out k hB;have:=HSZ.out;omega)),(hb.setCell hg8 _)⟩⟩
   · intro v w9 hfin
     obtain ⟨bn,bu,e14,e13,hbn,hxn,htu,hb1⟩:=hfin
     simp only [Ri.frame,List.zipIdx,List.foldl_cons,List.foldl_nil,if_true,List.setIfInBounds_toArray,List.set_cons_zero,List.set_cons_succ,Nat.reduceAdd,e14,e13]
     generalize v 0=z0;generalize v 1=z1;generalize v 2=z2;generalize v 3=z3;generalize v 4=z4;generalize v 5=z5
     have hsz9:=hb1.size;have hs0:=HSZ.out
     have hbnlt:=blkL hxn
     have HLW:=Lib.hid (show LwI Inv x lo m t u B b bu base tb Rg (.slice p0 qs.length cap0) qs K caps (t.nextI d) j (w.heap.size) bn (w.heap.size+1) (w.heap.size+1+1) (w.heap.size+1+1+1) s w9 from
       ⟨HEND.out.stable s W0 w9 HI0.out (hb1.mono (by have:=HBASE.out;omega)),HL0.out.keep (fun k _ hk _=>hb1.block k hk),HTK0.out.later hb1,htu,keep_blk hb1 X6.out,hxn,keep_blk hb1 X9.out,keep_blk hb1 X10.out,keep_blk hb1 X11.out⟩)
     have HB1:=Lib.hid (HB0.out.trans (hb1.mono HB0.out.size))
     clear hxn htu hb1 X6 X9 X10 X11 HI0 HL0 HTK0 HC0 HB0
     have c9:=box_cell HLW.out.x9
     go_wp2
     clear c9
     have x15:=heap_alloc_new w9 (.cells #[.int .i64 (j:Int)] 3)
     have hb2:Below w9.heap.size w9 (w9.alloc (.cells #[.int .i64 (j:Int)] 3)):=(Below.refl w9.heap.size w9).alloc (Nat.le_refl _) _
     have hs2:(w9.alloc (.cells #[.int .i64 (j:Int)] 3)).heap.size=w9.heap.size+1:=by simp
     generalize w9.alloc (.cells #[.int .i64 (j:Int)] 3)=w10 at *
     have HLW0:=Lib.hid (HLW.out.next (s':=s) (w':=w10) (HEND.out.stable s w9 w10 HLW.out.inv (hb2.mono (by have:=HBASE.out;omega))) (HLW.out.left.keep fun k _ hk _=>hb2.block k hk) fun k hk _=>hb2.block k hk)
     have HCH0:=Lib.hid (Chg.of_below (Rg:=fun k=>Rg k ∨ (Value.slice p0 qs.length cap0).ownBlock=some k) (HB1.out.trans (hb2.mono (by omega))))
     have X150:=Lib.hid x15
     obtain ⟨aa,haa⟩:∃ aa,(if t.mustI ≤ (d:Int) then i+1 else i)=aa:=⟨_,rfl⟩
     rw [haa] at HRC
     have HAA:=Lib.hid haa
     have hR0:=Lib.hid (show runC (fun s l=>step s 0 (qs.map (·.1) ++ l)) s (((Ps.cuts aa j).drop 0).flatMap fun c=>if u.wy x i c=0 ∨ t.restT x (t.nextI d) c j=0 then [] else (u.al x i c).flatMap fun p=>(Ps.lists x t n (t.nextI d) c j).map fun l=>p :: l)=RR from HRC.out)
     clear x15 hb2 HLW HRC HB1 haa
     go_loopw [15] (fun iv wr=>∃ (k bc:Nat) (sk:σ),iv=.pointer (some ⟨bc,0,none⟩)∧k ≤ j+1 - aa∧Hid (wr.heap[bc]? = some (.cells #[.int .i64 ((j:Int) - (k:Int))] 3))∧w9.heap.size ≤ bc∧Hid (LwI Inv x lo m t u B b bu base tb Rg (.slice p0 qs.length cap0) qs K caps (t.nextI d) j (w.heap.size) bn (w.heap.size+1) (w.heap.size+1+1) (w.heap.size+1+1+1) sk wr)∧Hid (Chg (fun k=>Rg k ∨ (Value.slice p0 qs.length cap0).ownBlock=some k) w wr)∧Hid (runC (fun s l=>step s 0 (qs.map (·.1) ++ l)) sk (((Ps.cuts aa j).drop k).flatMap fun c=>if u.wy x i c=0 ∨ t.restT x (t.nextI d) c j=0 then [] else (u.al x i c).flatMap fun p=>(Ps.lists x t n (t.nextI d) c j).map fun l=>p :: l)=RR)) (fun iv wr=>cutOf iv wr)
     case atStart=>exact ⟨0,w9.heap.size,s,rfl,Nat.zero_le _,Lib.hid (by simpa using X150.out),Nat.le_refl _,HLW0,HCH0,hR0⟩
     case round =>
       clear HLW0 HCH0 hR0 X150
       obtain ⟨k,bc,sk,rfl,hkn,XC,hbc,HLW,HCH,HR⟩:=hrel
       have X6:=Lib.hid HLW.out.x6;have HTK:=Lib.hid HLW.out.tk
       have HAZ:=Lib.hid (show (if t.mustI ≤ (d:Int) then (i:Int)+1 else (i:Int))=(aa:Int) by rw [← HAA.out];split <;> simp)
       go_upto_region 5 with (fail)
       refine Ri.wp_region_facts (by kernel_rfl) (by kernel_rfl) (by kernel_rfl) (by kernel_rfl) 6 (by kernel_rfl) (fun kk ww vv=>match kk with | 0=>vv=.int .i64 ((j:Int) - (k:Int)) | 1=>vv=.pointer (some ⟨b,0,none⟩) | 2=>vv=.int .i64 (d:Int) | 3=>vv=.int .i64 (i:Int) | 4=>vv=.int .i64 (aa:Int) | 5=>vv=.bool (decide ((j:Int) - (k:Int) ≥ (aa:Int))) | _=>True) (fun kk ww vv w8 h hb=>by
                   match kk,h with
                   | 0,h=>exact h
                   | 1,h=>exact h
                   | 2,h=>exact h
                   | 3,h=>exact h
                   | 4,h=>exact h
                   | 5,h=>exact h
                   | _+6,_=>trivial) ?_ ?_
       · intro i hi9 L v w9 xa hF9 hL hd hv ho
         obtain ⟨hb,hk⟩:=hF9
         have hi':i=0 ∨ i=1 ∨ i=2 ∨ i=3 ∨ i=4 ∨ i=5:=by omega
         rcases hi' with rfl | rfl | rfl | rfl | rfl | rfl
         · have e15:xa.tmps.getD 15 undef=.pointer (some ⟨bc,0,none⟩):=ho 15 (by kernel_rfl)
           refine Ri.step_plain rfl rfl (fun K' hK'=>?_)
           have cc:=box_cell (keep_blk hb XC.out)
           go_simp
           exact hK' _ _ ⟨_,_,rfl,rfl,(Below.refl _ _),rfl⟩
         · have e6:xa.tmps.getD 6 undef=.pointer (some ⟨w.heap.size,0,none⟩):=ho 6 (by kernel_rfl)
           refine Ri.step_plain rfl rfl (fun K' hK'=>?_)
           have cc:=box_cell (keep_blk hb X6.out)
           go_simp
           exact hK' _ _ ⟨_,_,rfl,rfl,(Below.refl _ _),rfl⟩
         · have e1:xa.tmps.getD 1 undef=.int .i64 (d:Int):=ho 1 (by kernel_rfl)
           refine Ri.step_plain rfl rfl (fun K' hK'=>?_)
           go_simp
           exact hK' _ _ ⟨_,_,rfl,rfl,(Below.refl _ _),rfl⟩
         · have e2:xa.tmps.getD 2 undef=.int .i64 (i:Int):=ho 2 (by kernel_rfl)
           refine Ri.step_plain rfl rfl (fun K' hK'=>?_)
           go_simp
           exact hK' _ _ ⟨_,_,rfl,rfl,(Below.refl _ _),rfl⟩
         · obtain ⟨j1,j2,j3⟩:L 1=true∧L 2=true∧L 3=true:=by have:=hd _ rfl;simp [Region.binds] at this;simp [this]
           have f1:=(hv 1 39 rfl j1).trans (hk 1 j1)
           have f2:=(hv 2 40 rfl j2).trans (hk 2 j2)
           have f3:=(hv 3 41 rfl j3).trans (hk 3 j3)
           refine Ri.step_plain rfl rfl (fun K' hK'=>?_)
           go_simp
           refine (psshortest_any x lo m d b i (by have:=HIJ.out;omega) t w9 B (HTK.out.later hb)).mono ?_
           rintro e w8 ⟨rfl,hb8⟩
           rw [HAZ.out]
           exact hK' _ _ ⟨_,_,rfl,rfl,hb8,rfl⟩
         · obtain ⟨j0,j4⟩:L 0=true∧L 4=true:=by have:=hd _ rfl;simp [Region.binds] at this;simp [this]
           have f0:=(hv 0 38 rfl j0).trans (hk 0 j0)
           have f4:=(hv 4 42 rfl j4).trans (hk 4 j4)
           refine Ri.step_plain rfl rfl (fun K' hK'=>?_)
           go_simp
           exact hK' _ _ ⟨_,_,rfl,rfl,(Below.refl _ _),rfl⟩
       · intro v w11 hb hk
         have k0:v 0=.int .i64 ((j:Int) - (k:Int)):=hk 0 (by omega)
         have k1:v 1=.pointer (some ⟨b,0,none⟩):=hk 1 (by omega)
         have k2:v 2=.int .i64 (d:Int):=hk 2 (by omega)
         have k3:v 3=.int .i64 (i:Int):=hk 3 (by omega)
         have k4:v 4=.int .i64 (aa:Int):=hk 4 (by omega)
         have k5:v 5=.bool (decide ((j:Int) - (k:Int) ≥ (aa:Int))):=hk 5 (by omega)
         simp only [Ri.frame,List.zipIdx,List.foldl_cons,List.foldl_nil,if_true,List.setIfInBounds_toArray,List.set_cons_zero,List.set_cons_succ,Nat.reduceAdd,k5]
         generalize v 0=z0;generalize v 1=z1;generalize v 2=z2;generalize v 3=z3;generalize v 4=z4
         have hme:=cutOf_of XC.out
         have hbcl0:=blkL XC.out
         have HLW5:=Lib.hid (HLW.out.below HEND.out (by have:=HBASE.out;omega) hb)
         have XC5:=Lib.hid (keep_blk hb XC.out);have HCH5:=Lib.hid (HCH.out.trans (Chg.of_below hb))
         have hsz5:=hb.size
         have hbcl:=blkL XC5.out
         have hai:i ≤ aa∧aa ≤ i+1:=by rw [← HAA.out];split <;> omega
         have hij:=HIJ.out
         clear hb HLW HCH XC X6 HTK HAZ
         by_cases hlt:k < j+1 - aa
         case neg =>
           have hdl:decide ((j:Int) - (k:Int) ≥ (aa:Int))=false:=decide_eq_false (by omega)
           have hr:RR=(true,sk):=by rw [← HR.out,Ps.cuts_end _ _ _ (by omega)];rfl
           rw [hdl]
           subst hr
           clear hdl
           go_wp2
           go_ret
           exact ⟨rfl,Tld.yes ⟨HLW5.out.inv,HLW5.out.left⟩ HCH5.out⟩
         have hdl:decide ((j:Int) - (k:Int) ≥ (aa:Int))=true:=decide_eq_true (by omega)
         rw [hdl]
         have HR2:=HR.out
         rw [Ps.cuts_drop _ _ _ hlt,List.flatMap_cons] at HR2
         obtain ⟨c,hc⟩:∃ c,j - k=c:=⟨_,rfl⟩
         rw [hc] at HR2
         have hci:(j:Int) - (k:Int)=(c:Int):=by omega
         rw [hci] at XC5 hme
         have HR3:=Lib.hid HR2
         have hcr:aa ≤ c∧c ≤ j:=by omega
         clear HR HR2 hdl hci
         obtain ⟨pu,cu,gu,ru,Su,-,-,hcu,htab,-,-,-⟩:=HLW5.out.tu.here
         obtain ⟨pt,ct,gt,rt,St,-,-,hct,-,hrest,-,-⟩:=HLW5.out.tk.here
         have hni:t.nextI d < t.restN:=by unfold Tr.nextI;have:=HRN.out;omega
         obtain ⟨gr,V,rfl,hrs,gv,hgv⟩:∃ gr V,rt=.slice (some ⟨gr,0,none⟩) t.restN t.restN∧RsAt w11 gr t.restN lo m V (t.restT x)∧∃ gv,V (t.nextI d)=some gv:=by
           rcases hrest with ⟨h0,-⟩ | ⟨gr,V,e,-,hr,hV⟩
           · omega
           · obtain ⟨gv,hgv,-⟩:=hV _ hni
             exact ⟨gr,V,e,hr,gv,hgv⟩
         unfold tkC at hcu hct
         have HCU:=Lib.hid hcu;have HCT:=Lib.hid hct
         have HAT1:=Lib.hid (fun w' (h:Below w11.heap.size w11 w')=>psat_at gu lo m i c hlo (by omega) (by omega) (by omega) (by omega) (u.wy x) w' (htab.later h))
         have HAT2:=Lib.hid (fun w' (h:Below w11.heap.size w11 w')=>psat_at gv lo m c j hlo (by omega) (by omega) (by omega) (by omega) (t.restT x (t.nextI d)) w' ((hrs.2 _ gv hni hgv).1.later h))
         have HRS:Hid (∀ w',Below w11.heap.size w11 w'→w'.cell? ⟨gr,t.nextI d * 3,none⟩=some (.int .i64 (lo:Int))∧w'.cell? ⟨gr,t.nextI d * 3+1,none⟩=some (.int .i64 ((lo:Int)+(m:Int)))∧w'.cell? ⟨gr,t.nextI d * 3+2,none⟩=some (.slice (some ⟨gv,0,none⟩) ((m+1) * (m+1)) ((m+1) * (m+1)))):=Lib.hid fun w' h=>by
           obtain ⟨c0,c1,c2,-⟩:=(hrs.later h).here hni
           rw [hgv] at c0 c1 c2
           exact ⟨c0,c1,c2⟩
         have Y6:=Lib.hid HLW5.out.x6;have Y14:=Lib.hid HLW5.out.x14;have Y9:=Lib.hid HLW5.out.x9
         clear hcu hct htab hrs hgv hrest
         by_cases hw0:u.wy x i c=0
         · have ez:(((Ps.sat (u.wy x i c):Nat):Int) == 0)=true:=by rw [hw0];rfl
           go_upto_region 7 with (fail)
           refine Ri.wp_region_frame (by kernel_rfl) (by kernel_rfl) (by kernel_rfl) (by kernel_rfl)
             (fun L v w'=>Below w11.heap.size w11 w'∧(L 0=true→v 0=.pointer (some ⟨bu,0,none⟩))∧(L 1=true→v 1=.pointer (some ⟨bu,0,none⟩))∧(L 2=true→v 2=.pointer (some ⟨bu,2,none⟩))∧(L 3=true→v 3=.agg #[.int .i64 (lo:Int),.int .i64 ((lo:Int)+(m:Int)),.slice (some ⟨gu,0,none⟩) ((m+1) * (m+1)) ((m+1) * (m+1))])∧(L 4=true→v 4=.int .i64 (i:Int))∧(L 5=true→v 5=.int .i64 (c:Int))∧(L 6=true→v 6=.int .i64 ((Ps.sat (u.wy x i c):Nat):Int))∧(L 7=true→v 7=.bool true)∧(L 8=true→v 8=.bool true)∧(L 9=true→v 9=undef)∧(L 10=true→v 10=undef)∧(L 11=true→v 11=undef)∧(L 12=true→v 12=undef)∧(L 13=true→v 13=undef)∧(L 14=true→v 14=undef)∧(L 15=true→v 15=undef)∧(L 16=true→v 16=undef)∧(L 17=true→v 17=undef)∧(L 18=true→v 18=undef)∧(L 19=true→v 19=undef)∧(L 20=true→v 20=.bool true))
             ?_ ?_ ?_
           · exact ⟨(Below.refl _ _).drew,by simp,by simp,by simp,by simp,by simp,by simp,by simp,by simp,by simp,by simp,by simp,by simp,by simp,by simp,by simp,by simp,by simp,by simp,by simp,by simp,by simp⟩
           · intro i hi9 L v w12 xa hI hL hd hv ho
             have hi':i=0 ∨ i=1 ∨ i=2 ∨ i=3 ∨ i=4 ∨ i=5 ∨ i=6 ∨ i=7 ∨ i=8 ∨ i=9 ∨ i=10 ∨ i=11 ∨ i=12 ∨ i=13 ∨ i=14 ∨ i=15 ∨ i=16 ∨ i=17 ∨ i=18 ∨ i=19 ∨ i=20:=by simp at hi9;omega
             obtain ⟨hb,q0,q1,q2,q3,q4,q5,q6,q7,q8,q9,q10,q11,q12,q13,q14,q15,q16,q17,q18,q19,q20⟩:=hI
             rcases hi' with rfl | rfl | rfl | rfl | rfl | rfl | rfl | rfl | rfl | rfl | rfl | rfl | rfl | rfl | rfl | rfl | rfl | rfl | rfl | rfl | rfl
             · have e13:xa.tmps.getD 13 undef=.pointer (some ⟨bu,0,none⟩):=ho 13 (by kernel_rfl)
               refine Ri.step_plain rfl rfl (fun K' hK=>?_)
               go_simp
               exact hK _ _ ⟨_,_,rfl,rfl,hb,fun _=>rfl,q1,q2,q3,q4,q5,q6,q7,q8,q9,q10,q11,q12,q13,q14,q15,q16,q17,q18,q19,q20⟩
             · have l0:L 0=true:=by have:=hd _ rfl;simp [Region.binds] at this;simp [this]
               have f0:=(hv 0 46 rfl l0).trans (q0 l0)
               refine Ri.step_plain rfl rfl (fun K' hK=>?_)
               go_simp
               exact hK _ _ ⟨_,_,rfl,rfl,hb,q0,fun _=>rfl,q2,q3,q4,q5,q6,q7,q8,q9,q10,q11,q12,q13,q14,q15,q16,q17,q18,q19,q20⟩
             · have l0:L 1=true:=by have:=hd _ rfl;simp [Region.binds] at this;simp [this]
               have f1:=(hv 1 47 rfl l0).trans (q1 l0)
               refine Ri.step_plain rfl rfl (fun K' hK=>?_)
               go_simp
               exact hK _ _ ⟨_,_,rfl,rfl,hb,q0,q1,fun _=>rfl,q3,q4,q5,q6,q7,q8,q9,q10,q11,q12,q13,q14,q15,q16,q17,q18,q19,q20⟩
             · have l0:L 2=true:=by have:=hd _ rfl;simp [Region.binds] at this;simp [this]
               have f2:=(hv 2 48 rfl l0).trans (q2 l0)
               refine Ri.step_plain rfl rfl (fun K' hK=>?_)
               obtain ⟨e0,e1,e2,e3,e4,e5,e6,e7,-⟩:=tk8 (keep_blk hb HCU.out)
               go_simp
               exact hK _ _ ⟨_,_,rfl,rfl,hb,q0,q1,q2,fun _=>rfl,q4,q5,q6,q7,q8,q9,q10,q11,q12,q13,q14,q15,q16,q17,q18,q19,q20⟩
             · have e2:xa.tmps.getD 2 undef=.int .i64 (i:Int):=ho 2 (by kernel_rfl)
               refine Ri.step_plain rfl rfl (fun K' hK=>?_)
               go_simp
               exact hK _ _ ⟨_,_,rfl,rfl,hb,q0,q1,q2,q3,fun _=>rfl,q5,q6,q7,q8,q9,q10,q11,q12,q13,q14,q15,q16,q17,q18,q19,q20⟩
             · have e15:xa.tmps.getD 15 undef=.pointer (some ⟨bc,0,none⟩):=ho 15 (by kernel_rfl)
               refine Ri.step_plain rfl rfl (fun K' hK=>?_)
               obtain cc:=box_cell (keep_blk hb XC5.out)
               go_simp
               exact hK _ _ ⟨_,_,rfl,rfl,hb,q0,q1,q2,q3,q4,fun _=>rfl,q6,q7,q8,q9,q10,q11,q12,q13,q14,q15,q16,q17,q18,q19,q20⟩
             · have l0:L 3=true∧L 4=true∧L 5=true:=by have:=hd _ rfl;simp [Region.binds] at this;simp [this]
               have f3:=(hv 3 49 rfl l0.1).trans (q3 l0.1)
               have f4:=(hv 4 50 rfl l0.2.1).trans (q4 l0.2.1)
               have f5:=(hv 5 51 rfl l0.2.2).trans (q5 l0.2.2)
               refine Ri.step_plain rfl rfl (fun K' hK=>?_)
               go_simp
               refine (HAT1.out _ hb).mono ?_
               rintro e w8 ⟨rfl,hb8⟩
               exact hK _ _ ⟨_,_,rfl,rfl,hb.trans (hb8.mono hb.size),q0,q1,q2,q3,q4,q5,fun _=>rfl,q7,q8,q9,q10,q11,q12,q13,q14,q15,q16,q17,q18,q19,q20⟩
             · have l0:L 6=true:=by have:=hd _ rfl;simp [Region.binds] at this;simp [this]
               have f6:=(hv 6 52 rfl l0).trans (q6 l0)
               refine Ri.step_plain rfl rfl (fun K' hK=>?_)
               go_simp
               exact hK _ _ ⟨_,_,rfl,rfl,hb,q0,q1,q2,q3,q4,q5,q6,fun _=>rfl,q8,q9,q10,q11,q12,q13,q14,q15,q16,q17,q18,q19,q20⟩
             · have l0:L 7=true:=by have:=hd _ rfl;simp [Region.binds] at this;simp [this]
               have f7:=(hv 7 53 rfl l0).trans (q7 l0)
               refine Ri.step_plain rfl rfl (fun K' hK=>?_)
               go_simp
               exact hK _ _ ⟨_,_,rfl,rfl,hb,q0,q1,q2,q3,q4,q5,q6,q7,fun _=>rfl,q9,q10,q11,q12,q13,q14,q15,q16,q17,q18,q19,q20⟩
             · have l0:L 8=true:=by have:=hd _ rfl;simp [Region.binds] at this;simp [this]
               have f8:=(hv 8 54 rfl l0).trans (q8 l0)
               exact Ri.step_unwanted (b:=true) rfl rfl rfl f8 ⟨_,_,rfl,rfl,hb,q0,q1,q2,q3,q4,q5,q6,q7,q8,fun _=>rfl,q10,q11,q12,q13,q14,q15,q16,q17,q18,q19,q20⟩
             · have l0:L 8=true:=by have:=hd _ rfl;simp [Region.binds] at this;simp [this]
               have f8:=(hv 8 54 rfl l0).trans (q8 l0)
               exact Ri.step_unwanted (b:=true) rfl rfl rfl f8 ⟨_,_,rfl,rfl,hb,q0,q1,q2,q3,q4,q5,q6,q7,q8,q9,fun _=>rfl,q11,q12,q13,q14,q15,q16,q17,q18,q19,q20⟩
             · have l0:L 8=true:=by have:=hd _ rfl;simp [Region.binds] at this;simp [this]
               have f8:=(hv 8 54 rfl l0).trans (q8 l0)
               exact Ri.step_unwanted (b:=true) rfl rfl rfl f8 ⟨_,_,rfl,rfl,hb,q0,q1,q2,q3,q4,q5,q6,q7,q8,q9,q10,fun _=>rfl,q12,q13,q14,q15,q16,q17,q18,q19,q20⟩
             · have l0:L 8=true:=by have:=hd _ rfl;simp [Region.binds] at this;simp [this]
               have f8:=(hv 8 54 rfl l0).trans (q8 l0)
               exact Ri.step_unwanted (b:=true) rfl rfl rfl f8 ⟨_,_,rfl,rfl,hb,q0,q1,q2,q3,q4,q5,q6,q7,q8,q9,q10,q11,fun _=>rfl,q13,q14,q15,q16,q17,q18,q19,q20⟩
             · have l0:L 8=true:=by have:=hd _ rfl;simp [Region.binds] at this;simp [this]
               have f8:=(hv 8 54 rfl l0).trans (q8 l0)
               exact Ri.step_unwanted (b:=true) rfl rfl rfl f8 ⟨_,_,rfl,rfl,hb,q0,q1,q2,q3,q4,q5,q6,q7,q8,q9,q10,q11,q12,fun _=>rfl,q14,q15,q16,q17,q18,q19,q20⟩
             · have l0:L 8=true:=by have:=hd _ rfl;simp [Region.binds] at this;simp [this]
               have f8:=(hv 8 54 rfl l0).trans (q8 l0)
               exact Ri.step_unwanted (b:=true) rfl rfl rfl f8 ⟨_,_,rfl,rfl,hb,q0,q1,q2,q3,q4,q5,q6,q7,q8,q9,q10,q11,q12,q13,fun _=>rfl,q15,q16,q17,q18,q19,q20⟩
             · have l0:L 8=true:=by have:=hd _ rfl;simp [Region.binds] at this;simp [this]
               have f8:=(hv 8 54 rfl l0).trans (q8 l0)
               exact Ri.step_unwanted (b:=true) rfl rfl rfl f8 ⟨_,_,rfl,rfl,hb,q0,q1,q2,q3,q4,q5,q6,q7,q8,q9,q10,q11,q12,q13,q14,fun _=>rfl,q16,q17,q18,q19,q20⟩
             · have l0:L 8=true:=by have:=hd _ rfl;simp [Region.binds] at this;simp [this]
               have f8:=(hv 8 54 rfl l0).trans (q8 l0)
               exact Ri.step_unwanted (b:=true) rfl rfl rfl f8 ⟨_,_,rfl,rfl,hb,q0,q1,q2,q3,q4,q5,q6,q7,q8,q9,q10,q11,q12,q13,q14,q15,fun _=>rfl,q17,q18,q19,q20⟩
             · have l0:L 8=true:=by have:=hd _ rfl;simp [Region.binds] at this;simp [this]
               have f8:=(hv 8 54 rfl l0).trans (q8 l0)
               exact Ri.step_unwanted (b:=true) rfl rfl rfl f8 ⟨_,_,rfl,rfl,hb,q0,q1,q2,q3,q4,q5,q6,q7,q8,q9,q10,q11,q12,q13,q14,q15,q16,fun _=>rfl,q18,q19,q20⟩
             · have l0:L 8=true:=by have:=hd _ rfl;simp [Region.binds] at this;simp [this]
               have f8:=(hv 8 54 rfl l0).trans (q8 l0)
               exact Ri.step_unwanted (b:=true) rfl rfl rfl f8 ⟨_,_,rfl,rfl,hb,q0,q1,q2,q3,q4,q5,q6,q7,q8,q9,q10,q11,q12,q13,q14,q15,q16,q17,fun _=>rfl,q19,q20⟩
             · have l0:L 8=true:=by have:=hd _ rfl;simp [Region.binds] at this;simp [this]
               have f8:=(hv 8 54 rfl l0).trans (q8 l0)
               exact Ri.step_unwanted (b:=true) rfl rfl rfl f8 ⟨_,_,rfl,rfl,hb,q0,q1,q2,q3,q4,q5,q6,q7,q8,q9,q10,q11,q12,q13,q14,q15,q16,q17,q18,fun _=>rfl,q20⟩
             · have l0:L 8=true∧L 19=true:=by have:=hd _ rfl;simp [Region.binds] at this;simp [this]
               have f8:=(hv 8 54 rfl l0.1).trans (q8 l0.1)
               have f19:=(hv 19 65 rfl l0.2).trans (q19 l0.2)
               refine Ri.step_plain rfl rfl (fun K' hK=>?_)
               go_simp
               exact hK _ _ ⟨_,_,rfl,rfl,hb,q0,q1,q2,q3,q4,q5,q6,q7,q8,q9,q10,q11,q12,q13,q14,q15,q16,q17,q18,q19,fun _=>rfl⟩
           · rintro v w12 ⟨hb,-,-,-,-,-,-,-,-,-,-,-,-,-,-,-,-,-,-,-,-,q20⟩
             have q20':v 20=.bool true:=q20 rfl
             simp only [Ri.frame,List.zipIdx,List.foldl_cons,List.foldl_nil,if_true,List.setIfInBounds_toArray,List.set_cons_zero,List.set_cons_succ,Nat.reduceAdd,q20']
             clear q20 q20'
             generalize v 0=y0;generalize v 1=y1;generalize v 2=y2;generalize v 3=y3;generalize v 4=y4;generalize v 5=y5;generalize v 6=y6;generalize v 7=y7;generalize v 8=y8;generalize v 9=y9;generalize v 10=y10;generalize v 11=y11;generalize v 12=y12;generalize v 13=y13;generalize v 14=y14;generalize v 15=y15;generalize v 16=y16;generalize v 17=y17;generalize v 18=y18;generalize v 19=y19
             have HLW7:=Lib.hid (HLW5.out.below HEND.out (by have:=HBASE.out;omega) hb)
             have XC7:=Lib.hid (keep_blk hb XC5.out);have HCH7:=Lib.hid (HCH5.out.trans (Chg.of_below hb))
             have hsz7:=hb.size
             have wc:IntKind.i64.wrap ((c:Int) - 1)=(c:Int) - 1:=IntWalk.i64_in _ (by omega)
             have ek:(j:Int) - ((k+1:Nat):Int)=(c:Int) - 1:=by omega
             have HRN2:=Lib.hid (show runC (fun s l=>step s 0 (qs.map (·.1) ++ l)) sk (((Ps.cuts aa j).drop (k+1)).flatMap fun c=>if u.wy x i c=0 ∨ t.restT x (t.nextI d) c j=0 then [] else (u.al x i c).flatMap fun p=>(Ps.lists x t n (t.nextI d) c j).map fun l=>p :: l)=RR by have:=HR3.out;rw [if_pos (.inl hw0),List.nil_append] at this;exact this)
             clear hb HLW5 XC5 HCH5 HCU HCT HAT1 HAT2 HRS Y6 Y14 Y9 ez hw0 HR3
             have cc:=box_cell XC7.out
             go_wp2
             have hba:Below w12.heap.size w12 (w12.alloc (.cells #[.int .i64 ((c:Int) - 1)] 3)):=(Below.refl _ _).alloc (Nat.le_refl _) _
             exact ⟨⟨k+1,w12.heap.size,sk,rfl,by omega,Lib.hid (by rw [ek];exact heap_alloc_new _ _),by omega,Lib.hid (HLW7.out.below HEND.out (by have:=HBASE.out;omega) hba),Lib.hid (HCH7.out.trans (Chg.of_below hba)),HRN2⟩,by rw [cutOf_of (heap_alloc_new _ _),hme];omega⟩
         · have ez:(((Ps.sat (u.wy x i c):Nat):Int) == 0)=false:=by rw [beq_eq_false_iff_ne];unfold Ps.sat;omega
           go_upto_region 7 with (fail)
           refine Ri.wp_region_frame (by kernel_rfl) (by kernel_rfl) (by kernel_rfl) (by kernel_rfl)
             (fun L v w'=>Below w11.heap.size w11 w'∧(L 0=true→v 0=.pointer (some ⟨bu,0,none⟩))∧(L 1=true→v 1=.pointer (some ⟨bu,0,none⟩))∧(L 2=true→v 2=.pointer (some ⟨bu,2,none⟩))∧(L 3=true→v 3=.agg #[.int .i64 (lo:Int),.int .i64 ((lo:Int)+(m:Int)),.slice (some ⟨gu,0,none⟩) ((m+1) * (m+1)) ((m+1) * (m+1))])∧(L 4=true→v 4=.int .i64 (i:Int))∧(L 5=true→v 5=.int .i64 (c:Int))∧(L 6=true→v 6=.int .i64 ((Ps.sat (u.wy x i c):Nat):Int))∧(L 7=true→v 7=.bool false)∧(L 8=true→v 8=.bool false)∧(L 9=true→v 9=.pointer (some ⟨b,0,none⟩))∧(L 10=true→v 10=.pointer (some ⟨b,0,none⟩))∧(L 11=true→v 11=.pointer (some ⟨b,5,none⟩))∧(L 12=true→v 12=.slice (some ⟨gr,0,none⟩) t.restN t.restN)∧(L 13=true→v 13=.int .i64 ((t.nextI d:Nat):Int))∧(L 14=true→v 14=.pointer (some ⟨gr,t.nextI d * 3,none⟩))∧(L 15=true→v 15=.agg #[.int .i64 (lo:Int),.int .i64 ((lo:Int)+(m:Int)),.slice (some ⟨gv,0,none⟩) ((m+1) * (m+1)) ((m+1) * (m+1))])∧(L 16=true→v 16=.int .i64 (c:Int))∧(L 17=true→v 17=.int .i64 (j:Int))∧(L 18=true→v 18=.int .i64 ((Ps.sat (t.restT x (t.nextI d) c j):Nat):Int))∧(L 19=true→v 19=.bool (((Ps.sat (t.restT x (t.nextI d) c j):Nat):Int) == 0))∧(L 20=true→v 20=.bool (((Ps.sat (t.restT x (t.nextI d) c j):Nat):Int) == 0)))
             ?_ ?_ ?_
           · exact ⟨(Below.refl _ _).drew,by simp,by simp,by simp,by simp,by simp,by simp,by simp,by simp,by simp,by simp,by simp,by simp,by simp,by simp,by simp,by simp,by simp,by simp,by simp,by simp,by simp⟩
           · intro i hi9 L v w12 xa hI hL hd hv ho
             have hi':i=0 ∨ i=1 ∨ i=2 ∨ i=3 ∨ i=4 ∨ i=5 ∨ i=6 ∨ i=7 ∨ i=8 ∨ i=9 ∨ i=10 ∨ i=11 ∨ i=12 ∨ i=13 ∨ i=14 ∨ i=15 ∨ i=16 ∨ i=17 ∨ i=18 ∨ i=19 ∨ i=20:=by simp at hi9;omega
             obtain ⟨hb,q0,q1,q2,q3,q4,q5,q6,q7,q8,q9,q10,q11,q12,q13,q14,q15,q16,q17,q18,q19,q20⟩:=hI
             rcases hi' with rfl | rfl | rfl | rfl | rfl | rfl | rfl | rfl | rfl | rfl | rfl | rfl | rfl | rfl | rfl | rfl | rfl | rfl | rfl | rfl | rfl
             · have e13:xa.tmps.getD 13 undef=.pointer (some ⟨bu,0,none⟩):=ho 13 (by kernel_rfl)
               refine Ri.step_plain rfl rfl (fun K' hK=>?_)
               go_simp
               exact hK _ _ ⟨_,_,rfl,rfl,hb,fun _=>rfl,q1,q2,q3,q4,q5,q6,q7,q8,q9,q10,q11,q12,q13,q14,q15,q16,q17,q18,q19,q20⟩
             · have l0:L 0=true:=by have:=hd _ rfl;simp [Region.binds] at this;simp [this]
               have f0:=(hv 0 46 rfl l0).trans (q0 l0)
               refine Ri.step_plain rfl rfl (fun K' hK=>?_)
               go_simp
               exact hK _ _ ⟨_,_,rfl,rfl,hb,q0,fun _=>rfl,q2,q3,q4,q5,q6,q7,q8,q9,q10,q11,q12,q13,q14,q15,q16,q17,q18,q19,q20⟩
             · have l0:L 1=true:=by have:=hd _ rfl;simp [Region.binds] at this;simp [this]
               have f1:=(hv 1 47 rfl l0).trans (q1 l0)
               refine Ri.step_plain rfl rfl (fun K' hK=>?_)
               go_simp
               exact hK _ _ ⟨_,_,rfl,rfl,hb,q0,q1,fun _=>rfl,q3,q4,q5,q6,q7,q8,q9,q10,q11,q12,q13,q14,q15,q16,q17,q18,q19,q20⟩
             · have l0:L 2=true:=by have:=hd _ rfl;simp [Region.binds] at this;simp [this]
               have f2:=(hv 2 48 rfl l0).trans (q2 l0)
               refine Ri.step_plain rfl rfl (fun K' hK=>?_)
               obtain ⟨e0,e1,e2,e3,e4,e5,e6,e7,-⟩:=tk8 (keep_blk hb HCU.out)
               go_simp
               exact hK _ _ ⟨_,_,rfl,rfl,hb,q0,q1,q2,fun _=>rfl,q4,q5,q6,q7,q8,q9,q10,q11,q12,q13,q14,q15,q16,q17,q18,q19,q20⟩
             · have e2:xa.tmps.getD 2 undef=.int .i64 (i:Int):=ho 2 (by kernel_rfl)
               refine Ri.step_plain rfl rfl (fun K' hK=>?_)
               go_simp
               exact hK _ _ ⟨_,_,rfl,rfl,hb,q0,q1,q2,q3,fun _=>rfl,q5,q6,q7,q8,q9,q10,q11,q12,q13,q14,q15,q16,q17,q18,q19,q20⟩
             · have e15:xa.tmps.getD 15 undef=.pointer (some ⟨bc,0,none⟩):=ho 15 (by kernel_rfl)
               refine Ri.step_plain rfl rfl (fun K' hK=>?_)
               obtain cc:=box_cell (keep_blk hb XC5.out)
               go_simp
               exact hK _ _ ⟨_,_,rfl,rfl,hb,q0,q1,q2,q3,q4,fun _=>rfl,q6,q7,q8,q9,q10,q11,q12,q13,q14,q15,q16,q17,q18,q19,q20⟩
             · have l0:L 3=true∧L 4=true∧L 5=true:=by have:=hd _ rfl;simp [Region.binds] at this;simp [this]
               have f3:=(hv 3 49 rfl l0.1).trans (q3 l0.1)
               have f4:=(hv 4 50 rfl l0.2.1).trans (q4 l0.2.1)
               have f5:=(hv 5 51 rfl l0.2.2).trans (q5 l0.2.2)
               refine Ri.step_plain rfl rfl (fun K' hK=>?_)
               go_simp
               refine (HAT1.out _ hb).mono ?_
               rintro e w8 ⟨rfl,hb8⟩
               exact hK _ _ ⟨_,_,rfl,rfl,hb.trans (hb8.mono hb.size),q0,q1,q2,q3,q4,q5,fun _=>rfl,q7,q8,q9,q10,q11,q12,q13,q14,q15,q16,q17,q18,q19,q20⟩
             · have l0:L 6=true:=by have:=hd _ rfl;simp [Region.binds] at this;simp [this]
               have f6:=(hv 6 52 rfl l0).trans (q6 l0)
               refine Ri.step_plain rfl rfl (fun K' hK=>?_)
               go_simp
               exact hK _ _ ⟨_,_,rfl,rfl,hb,q0,q1,q2,q3,q4,q5,q6,fun _=>rfl,q8,q9,q10,q11,q12,q13,q14,q15,q16,q17,q18,q19,q20⟩
             · have l0:L 7=true:=by have:=hd _ rfl;simp [Region.binds] at this;simp [this]
               have f7:=(hv 7 53 rfl l0).trans (q7 l0)
               refine Ri.step_plain rfl rfl (fun K' hK=>?_)
               go_simp
               exact hK _ _ ⟨_,_,rfl,rfl,hb,q0,q1,q2,q3,q4,q5,q6,q7,fun _=>rfl,q9,q10,q11,q12,q13,q14,q15,q16,q17,q18,q19,q20⟩
             · have l0:L 8=true:=by have:=hd _ rfl;simp [Region.binds] at this;simp [this]
               have f8:=(hv 8 54 rfl l0).trans (q8 l0)
               have e6:xa.tmps.getD 6 undef=.pointer (some ⟨w.heap.size,0,none⟩):=ho 6 (by kernel_rfl)
               refine Ri.step_wanted (b:=false) rfl rfl rfl f8 (fun K' hK=>?_)
               obtain cc:=box_cell (keep_blk hb Y6.out)
               go_simp
               exact hK _ _ ⟨_,_,rfl,rfl,hb,q0,q1,q2,q3,q4,q5,q6,q7,q8,fun _=>rfl,q10,q11,q12,q13,q14,q15,q16,q17,q18,q19,q20⟩
             · have l0:L 8=true∧L 9=true:=by have:=hd _ rfl;simp [Region.binds] at this;simp [this]
               have f8:=(hv 8 54 rfl l0.1).trans (q8 l0.1)
               have f9:=(hv 9 55 rfl l0.2).trans (q9 l0.2)
               refine Ri.step_wanted (b:=false) rfl rfl rfl f8 (fun K' hK=>?_)
               go_simp
               exact hK _ _ ⟨_,_,rfl,rfl,hb,q0,q1,q2,q3,q4,q5,q6,q7,q8,q9,fun _=>rfl,q11,q12,q13,q14,q15,q16,q17,q18,q19,q20⟩
             · have l0:L 8=true∧L 10=true:=by have:=hd _ rfl;simp [Region.binds] at this;simp [this]
               have f8:=(hv 8 54 rfl l0.1).trans (q8 l0.1)
               have f10:=(hv 10 56 rfl l0.2).trans (q10 l0.2)
               refine Ri.step_wanted (b:=false) rfl rfl rfl f8 (fun K' hK=>?_)
               go_simp
               exact hK _ _ ⟨_,_,rfl,rfl,hb,q0,q1,q2,q3,q4,q5,q6,q7,q8,q9,q10,fun _=>rfl,q12,q13,q14,q15,q16,q17,q18,q19,q20⟩
             · have l0:L 8=true∧L 11=true:=by have:=hd _ rfl;simp [Region.binds] at this;simp [this]
               have f8:=(hv 8 54 rfl l0.1).trans (q8 l0.1)
               have f11:=(hv 11 57 rfl l0.2).trans (q11 l0.2)
               refine Ri.step_wanted (b:=false) rfl rfl rfl f8 (fun K' hK=>?_)
               obtain ⟨e0,e1,e2,e3,e4,e5,e6,e7,-⟩:=tk8 (keep_blk hb HCT.out)
               go_simp
               exact hK _ _ ⟨_,_,rfl,rfl,hb,q0,q1,q2,q3,q4,q5,q6,q7,q8,q9,q10,q11,fun _=>rfl,q13,q14,q15,q16,q17,q18,q19,q20⟩
             · have l0:L 8=true:=by have:=hd _ rfl;simp [Region.binds] at this;simp [this]
               have f8:=(hv 8 54 rfl l0).trans (q8 l0)
               have e14:xa.tmps.getD 14 undef=.pointer (some ⟨bn,0,none⟩):=ho 14 (by kernel_rfl)
               refine Ri.step_wanted (b:=false) rfl rfl rfl f8 (fun K' hK=>?_)
               obtain cc:=box_cell (keep_blk hb Y14.out)
               go_simp
               exact hK _ _ ⟨_,_,rfl,rfl,hb,q0,q1,q2,q3,q4,q5,q6,q7,q8,q9,q10,q11,q12,fun _=>rfl,q14,q15,q16,q17,q18,q19,q20⟩
             · have l0:L 8=true∧L 12=true∧L 13=true:=by have:=hd _ rfl;simp [Region.binds] at this;simp [this]
               have f8:=(hv 8 54 rfl l0.1).trans (q8 l0.1)
               have f12:=(hv 12 58 rfl l0.2.1).trans (q12 l0.2.1)
               have f13:=(hv 13 59 rfl l0.2.2).trans (q13 l0.2.2)
               refine Ri.step_wanted (b:=false) rfl rfl rfl f8 (fun K' hK=>?_)
               go_simp
               exact hK _ _ ⟨_,_,rfl,rfl,hb,q0,q1,q2,q3,q4,q5,q6,q7,q8,q9,q10,q11,q12,q13,fun _=>rfl,q15,q16,q17,q18,q19,q20⟩
             · have l0:L 8=true∧L 14=true:=by have:=hd _ rfl;simp [Region.binds] at this;simp [this]
               have f8:=(hv 8 54 rfl l0.1).trans (q8 l0.1)
               have f14:=(hv 14 60 rfl l0.2).trans (q14 l0.2)
               refine Ri.step_wanted (b:=false) rfl rfl rfl f8 (fun K' hK=>?_)
               obtain ⟨e0,e1,e2⟩:=HRS.out _ hb
               go_simp
               exact hK _ _ ⟨_,_,rfl,rfl,hb,q0,q1,q2,q3,q4,q5,q6,q7,q8,q9,q10,q11,q12,q13,q14,fun _=>rfl,q16,q17,q18,q19,q20⟩
             · have l0:L 8=true:=by have:=hd _ rfl;simp [Region.binds] at this;simp [this]
               have f8:=(hv 8 54 rfl l0).trans (q8 l0)
               have e15:xa.tmps.getD 15 undef=.pointer (some ⟨bc,0,none⟩):=ho 15 (by kernel_rfl)
               refine Ri.step_wanted (b:=false) rfl rfl rfl f8 (fun K' hK=>?_)
               obtain cc:=box_cell (keep_blk hb XC5.out)
               go_simp
               exact hK _ _ ⟨_,_,rfl,rfl,hb,q0,q1,q2,q3,q4,q5,q6,q7,q8,q9,q10,q11,q12,q13,q14,q15,fun _=>rfl,q17,q18,q19,q20⟩
             · have l0:L 8=true:=by have:=hd _ rfl;simp [Region.binds] at this;simp [this]
               have f8:=(hv 8 54 rfl l0).trans (q8 l0)
               have e9:xa.tmps.getD 9 undef=.pointer (some ⟨w.heap.size+1,0,none⟩):=ho 9 (by kernel_rfl)
               refine Ri.step_wanted (b:=false) rfl rfl rfl f8 (fun K' hK=>?_)
               obtain cc:=box_cell (keep_blk hb Y9.out)
               go_simp
               exact hK _ _ ⟨_,_,rfl,rfl,hb,q0,q1,q2,q3,q4,q5,q6,q7,q8,q9,q10,q11,q12,q13,q14,q15,q16,fun _=>rfl,q18,q19,q20⟩
             · have l0:L 8=true∧L 15=true∧L 16=true∧L 17=true:=by have:=hd _ rfl;simp [Region.binds] at this;simp [this]
               have f8:=(hv 8 54 rfl l0.1).trans (q8 l0.1)
               have f15:=(hv 15 61 rfl l0.2.1).trans (q15 l0.2.1)
               have f16:=(hv 16 62 rfl l0.2.2.1).trans (q16 l0.2.2.1)
               have f17:=(hv 17 63 rfl l0.2.2.2).trans (q17 l0.2.2.2)
               refine Ri.step_wanted (b:=false) rfl rfl rfl f8 (fun K' hK=>?_)
               go_simp
               refine (HAT2.out _ hb).mono ?_
               rintro e w8 ⟨rfl,hb8⟩
               exact hK _ _ ⟨_,_,rfl,rfl,hb.trans (hb8.mono hb.size),q0,q1,q2,q3,q4,q5,q6,q7,q8,q9,q10,q11,q12,q13,q14,q15,q16,q17,fun _=>rfl,q19,q20⟩
             · have l0:L 8=true∧L 18=true:=by have:=hd _ rfl;simp [Region.binds] at this;simp [this]
               have f8:=(hv 8 54 rfl l0.1).trans (q8 l0.1)
               have f18:=(hv 18 64 rfl l0.2).trans (q18 l0.2)
               refine Ri.step_wanted (b:=false) rfl rfl rfl f8 (fun K' hK=>?_)
               go_simp
               exact hK _ _ ⟨_,_,rfl,rfl,hb,q0,q1,q2,q3,q4,q5,q6,q7,q8,q9,q10,q11,q12,q13,q14,q15,q16,q17,q18,fun _=>rfl,q20⟩
             · have l0:L 8=true∧L 19=true:=by have:=hd _ rfl;simp [Region.binds] at this;simp [this]
               have f8:=(hv 8 54 rfl l0.1).trans (q8 l0.1)
               have f19:=(hv 19 65 rfl l0.2).trans (q19 l0.2)
               refine Ri.step_plain rfl rfl (fun K' hK=>?_)
               go_simp
               exact hK _ _ ⟨_,_,rfl,rfl,hb,q0,q1,q2,q3,q4,q5,q6,q7,q8,q9,q10,q11,q12,q13,q14,q15,q16,q17,q18,q19,fun _=>rfl⟩
           · rintro v w12 ⟨hb,-,-,-,-,-,-,-,-,-,-,-,-,-,-,-,-,-,-,-,-,q20⟩
             have q20':v 20=.bool (((Ps.sat (t.restT x (t.nextI d) c j):Nat):Int) == 0):=q20 rfl
             simp only [Ri.frame,List.zipIdx,List.foldl_cons,List.foldl_nil,if_true,List.setIfInBounds_toArray,List.set_cons_zero,List.set_cons_succ,Nat.reduceAdd,q20']
             clear q20 q20'
             generalize v 0=y0;generalize v 1=y1;generalize v 2=y2;generalize v 3=y3;generalize v 4=y4;generalize v 5=y5;generalize v 6=y6;generalize v 7=y7;generalize v 8=y8;generalize v 9=y9;generalize v 10=y10;generalize v 11=y11;generalize v 12=y12;generalize v 13=y13;generalize v 14=y14;generalize v 15=y15;generalize v 16=y16;generalize v 17=y17;generalize v 18=y18;generalize v 19=y19
             have HLW7:=Lib.hid (HLW5.out.below HEND.out (by have:=HBASE.out;omega) hb)
             have XC7:=Lib.hid (keep_blk hb XC5.out);have HCH7:=Lib.hid (HCH5.out.trans (Chg.of_below hb))
             have hsz7:=hb.size
             have wc:IntKind.i64.wrap ((c:Int) - 1)=(c:Int) - 1:=IntWalk.i64_in _ (by omega)
             have ek:(j:Int) - ((k+1:Nat):Int)=(c:Int) - 1:=by omega
             clear hb HLW5 XC5 HCH5 HCU HCT HAT1 HAT2 HRS Y6 Y14 Y9 ez
             by_cases hr0:t.restT x (t.nextI d) c j=0
             · have ezr:(((Ps.sat (t.restT x (t.nextI d) c j):Nat):Int) == 0)=true:=by rw [hr0];rfl
               have HRN2:=Lib.hid (show runC (fun s l=>step s 0 (qs.map (·.1) ++ l)) sk (((Ps.cuts aa j).drop (k+1)).flatMap fun c=>if u.wy x i c=0 ∨ t.restT x (t.nextI d) c j=0 then [] else (u.al x i c).flatMap fun p=>(Ps.lists x t n (t.nextI d) c j).map fun l=>p :: l)=RR by have:=HR3.out;rw [if_pos (.inr hr0),List.nil_append] at this;exact this)
               rw [ezr]
               clear hw0 hr0 HR3 ezr
               have cc:=box_cell XC7.out
               go_wp2
               have hba:Below w12.heap.size w12 (w12.alloc (.cells #[.int .i64 ((c:Int) - 1)] 3)):=(Below.refl _ _).alloc (Nat.le_refl _) _
               exact ⟨⟨k+1,w12.heap.size,sk,rfl,by omega,Lib.hid (by rw [ek];exact heap_alloc_new _ _),by omega,Lib.hid (HLW7.out.below HEND.out (by have:=HBASE.out;omega) hba),Lib.hid (HCH7.out.trans (Chg.of_below hba)),HRN2⟩,by rw [cutOf_of (heap_alloc_new _ _),hme];omega⟩
             · have ezr:(((Ps.sat (t.restT x (t.nextI d) c j):Nat):Int) == 0)=false:=by rw [beq_eq_false_iff_ne];unfold Ps.sat;omega
               have hrn:(if (runC (fun s p=>runC (fun s l=>step s 0 (qs.map (·.1) ++ [p] ++ l)) s (Ps.lists x t n (t.nextI d) c j)) sk (u.al x i c)).1=true then runC (fun s l=>step s 0 (qs.map (·.1) ++ l)) (runC (fun s p=>runC (fun s l=>step s 0 (qs.map (·.1) ++ [p] ++ l)) s (Ps.lists x t n (t.nextI d) c j)) sk (u.al x i c)).2 (((Ps.cuts aa j).drop (k+1)).flatMap fun c=>if u.wy x i c=0 ∨ t.restT x (t.nextI d) c j=0 then [] else (u.al x i c).flatMap fun p=>(Ps.lists x t n (t.nextI d) c j).map fun l=>p :: l) else (false,(runC (fun s p=>runC (fun s l=>step s 0 (qs.map (·.1) ++ [p] ++ l)) s (Ps.lists x t n (t.nextI d) c j)) sk (u.al x i c)).2))=RR:=by
                 have:=HR3.out
                 rw [if_neg (fun h=>h.elim hw0 hr0),runC_append,Ps.runC_cut] at this
                 simp only [List.append_assoc,List.cons_append,List.nil_append]
                 exact this
               have hlow:=HEND.out.low;have hbs:=HBASE.out;have htbw:=HTB.out
               have hown:∀ k,(Value.slice p0 qs.length cap0).ownBlock=some k→k < w.heap.size:=fun k hk=>by have:=(HLW7.out.left.low k hk).1;omega
               have hbx:∀ k,k=w.heap.size ∨ k=bn ∨ k=bc ∨ k=w.heap.size+1 ∨ k=w.heap.size+1+1 ∨ k=w.heap.size+1+1+1→¬ Rg k∧(Value.slice p0 qs.length cap0).ownBlock ≠ some k∧k < w12.heap.size:=fun k hk=>by
                 have hge:w.heap.size ≤ k∧k < w12.heap.size:=by omega
                 exact ⟨fun hr=>by have:=hlow k hr;omega,fun e=>by have:=hown k e;omega,hge.2⟩
               have HCALL:=Lib.hid (IH.out i c hij.1 (by omega) (by omega) hw0 σ _ _ _ _ _ _ _ (fnd_lists HEND.out x lo m t n HLD.out (t.nextI d) c j (by omega) (by omega) (by omega) (Ps.fuel_next t HMU.out HRN.out.1 HFU.out (by rw [HAA.out];omega) (by omega)) hni hr0 B b tb w12.heap.size (.slice p0 qs.length cap0) qs (by have:=HQ.out;omega)
                 w.heap.size bn bc (w.heap.size+1) (w.heap.size+1+1) (w.heap.size+1+1+1) (by omega) (by omega) (fun k hk=>by have:=hown k hk;omega) (fun k hk=>⟨(HBB.out k hk).1,(HBB.out k hk).2.1,by have:=(HBB.out k hk).2.2;omega⟩) hbx)
                 sk w12 B bu HLW7.out.tu (fun k hk=>⟨fun e=>e.elim (HBB.out k hk).1 (HBB.out k hk).2.1,by have:=(HBB.out k hk).2.2;omega⟩) (Nat.le_refl _)
                 ⟨HLW7.out.inv,HLW7.out.left,HLW7.out.tk,HLW7.out.x6,HLW7.out.x14,XC7.out,HLW7.out.x9,HLW7.out.x10,HLW7.out.x11⟩)
               unfold TellEnd at HCALL
               generalize runC (fun s p=>runC (fun s l=>step s 0 (qs.map (·.1) ++ [p] ++ l)) s (Ps.lists x t n (t.nextI d) c j)) sk (u.al x i c)=r1 at *
               have HRN3:=Lib.hid hrn
               have Z9:=Lib.hid HLW7.out.x9
               rw [ezr]
               clear hw0 hr0 HR3 ezr hrn hlow hown hbx
               have cc:=box_cell XC7.out
               go_wp2_with fail
               refine HCALL.out.mono ?_
               rintro e w3 ⟨rfl,ht⟩
               clear HCALL cc
               obtain ⟨rb,rs⟩:=r1
               cases rb with
               | false =>
                 have HST:=Lib.hid (ht.2 rfl)
                 have hr:RR=(false,rs):=by rw [← HRN3.out];rfl
                 subst hr
                 clear ht HLW7 XC7 HCH7
                 go_wp2
                 go_ret
                 exact ⟨rfl,Tld.no HST.out⟩
               | true =>
                 obtain ⟨hI3,hch⟩:=ht.1 rfl
                 have HTU3:=Lib.hid (HLW7.out.tu.keep (w':=w3) fun k hk hB=>hch.block k hk fun e=>e.elim (HBB.out k hB).1 (HBB.out k hB).2.1)
                 have HI3:=Lib.hid hI3
                 have HCH3:=Lib.hid (HCH7.out.trans hch)
                 have hs3:=hch.size
                 clear hch hI3 ht HLW7 XC7 HCH7
                 have HRN4:=Lib.hid (show runC (fun s l=>step s 0 (qs.map (·.1) ++ l)) rs (((Ps.cuts aa j).drop (k+1)).flatMap fun c=>if u.wy x i c=0 ∨ t.restT x (t.nextI d) c j=0 then [] else (u.al x i c).flatMap fun p=>(Ps.lists x t n (t.nextI d) c j).map fun l=>p :: l)=RR from by rw [← HRN3.out];rfl)
                 have HLW4:=Lib.hid (LwI.mk HI3.out.inv HI3.out.left HI3.out.tk HTU3.out HI3.out.x6 HI3.out.x14 HI3.out.x9 HI3.out.x10 HI3.out.x11)
                 have XC7:=Lib.hid HI3.out.x15
                 clear HI3 HRN3 HTU3
                 have cc:=box_cell XC7.out
                 go_wp2
                 have hba:Below w3.heap.size w3 (w3.alloc (.cells #[.int .i64 ((c:Int) - 1)] 3)):=(Below.refl _ _).alloc (Nat.le_refl _) _
                 exact ⟨⟨k+1,w3.heap.size,rs,rfl,by omega,Lib.hid (by rw [ek];exact heap_alloc_new _ _),by omega,Lib.hid (HLW4.out.below HEND.out (by have:=HBASE.out;omega) hba),Lib.hid (HCH3.out.trans (Chg.of_below hba)),HRN4⟩,by rw [cutOf_of (heap_alloc_new _ _),hme];omega⟩
end Go.Proofs.YtedjkbmfpjmlpaaDoor
namespace Go.Proofs.YtedjkbmfpjmlpaaDoor
open Go.RowKit
namespace Ri
variable {P:Program} {ops:Array Oper} {Q:Exit→Act→World→Prop}
theorem wp_region_pair {id:Nat} {a:Act} {w:World} (hm:P.follows .mixedOrders=true) (hb:backward ops=true) (hap:apart ops=true) (hsz0:(ops.toList.all fun o=>o.dst.all fun d=>decide (d < a.tmps.size))=true)
   (n:Nat) (hn:ops.size=n) (p q:Nat) (hp:p < n) (hq:q < n) (hpq:p ≠ q) (K:Nat→World→Value→Prop) (J:Value→Value→World→Prop)
   (hK:∀ k w v w',K k w v→Below w.heap.size w w'→K k w' v) (hJ:∀ u v w w',J u v w→Below w.heap.size w w'→J u v w')
   (step:∀ i,i < n→∀ L v w' (a':Act),Fa K w L v w'→L i=false→(∀ o,ops[i]? = some o→∀ e ∈ o.after,Region.binds .any e=true→L e.on=true) →
     (∀ j d:Nat,(ops[j]?).bind (·.dst)=some d→L j=true→a'.tmps.getD d undef=v j)→(∀ d,ops.toList.all (fun o=>o.dst != some d)=true→a'.tmps.getD d undef=a.tmps.getD d undef) →
     (L p=true→L q=true→J (v p) (v q) w') →
     wpOp P ops Q i (fun b w''=>∃ (o:Oper) (u:Value),ops[i]? = some o∧b=a'.put o.dst u∧Below w'.heap.size w' w''∧K i w'' u∧(i=p→L q=true→J u (v q) w'')∧(i=q→L p=true→J (v p) u w'')) a' w')
   (fin:∀ v w',Below w.heap.size w w'→(∀ k,k < n→K k w' (v k))→J (v p) (v q) w'→Q .normal (frame ops a (fun _=>true) v) w'):(Code.region id ops true).wp P Q a w:=by
 refine wp_region_frame hm hb hap hsz0 (fun L v w'=>Fa K w L v w'∧(L p=true→L q=true→J (v p) (v q) w')) ⟨⟨(Below.refl _ _).drew,fun k h=>by cases h⟩,fun h=>by cases h⟩ ?_ ?_
 · intro i hi L v w' a' hI hL hd hv ho
   refine wpOp_mono ?_ (step i (by rw [← hn];exact hi) L v w' a' hI.1 hL hd hv ho hI.2)
   rintro b w'' ⟨o,u,h1,h2,h3,h4,h5,h6⟩
   refine ⟨o,u,h1,h2,hI.1.step hK h3 h4,fun jp jq=>?_⟩
   by_cases ep:p=i
   · subst ep
     rw [up_other _ _ _ _ (Ne.symm hpq)] at jq
     rw [up_same,up_other _ _ _ _ (Ne.symm hpq)]
     exact h5 rfl jq
   · by_cases eq:q=i
     · subst eq
       rw [up_other _ _ _ _ hpq] at jp
       rw [up_same,up_other _ _ _ _ hpq]
       exact h6 rfl jp
     · rw [up_other _ _ _ _ ep] at jp ⊢
       rw [up_other _ _ _ _ eq] at jq ⊢
       exact hJ _ _ _ _ (hI.2 jp jq) h3
 · intro v w' hI
   exact fin v w' hI.1.1 (fun k hk=>hI.1.2 k (by rw [hn];simpa using hk)) (hI.2 (by rw [hn];simpa using hp) (by rw [hn];simpa using hq))
end Ri
end Go.Proofs.YtedjkbmfpjmlpaaDoor
namespace Go.Proofs.YtedjkbmfpjmlpaaDoor
open Go.RowKit
namespace Ps
def Upper (f:T):Prop:=∀ i j,j < i→f i j=0
theorem upper_one:Upper one:=fun i j h=>by unfold one;rw [if_neg (by omega)]
theorem upper_none:Upper none':=fun _ _ _=>rfl
theorem upper_oneAt (P:Nat→Bool):Upper (oneAt P):=fun i j h=>by unfold oneAt;rw [if_neg (by omega)]
theorem upper_byte (P:Nat→Bool):Upper (byteT P):=fun i j h=>by unfold byteT;rw [if_neg (by omega)]
theorem upper_join (f g:T):Upper (join f g):=fun i j h=>by unfold join;rw [show j+1 - i=0 by omega];rfl
theorem upper_more (f g:T):Upper (more f g):=fun i j h=>by unfold more;rw [upper_one i j h,show j - i=0 by omega];rfl
theorem upper_any (f:T):Upper (any f):=fun i j h=>by rw [any_eq];exact upper_more f _ i j h
theorem upper_alt {f g:T} (hf:Upper f) (hg:Upper g):Upper (alt f g):=fun i j h=>by unfold alt;rw [hf i j h,hg i j h]
theorem upper_emptyOf (f:T):Upper (emptyOf f):=fun i j h=>by unfold emptyOf;rw [if_neg (by omega)]
theorem upper_restN (f:T) (least:Nat) {b:T} (hb:Upper b):∀ n d,Upper (restN f least b n d)
 | 0,d=>by rw [restN];exact hb
 | n+1,d=>by
   rw [restN]
   split
   · exact upper_join _ _
   · exact upper_more _ _
theorem upper_rep (f:T) (lo hi:Int) (d:Nat):Upper (rep f lo hi d):=by
 unfold rep
 apply upper_restN
 split
 · exact upper_any f
 · exact upper_one
theorem aF_rel {lo m:Nat} {f g:T} (hf:Upper f) (hg:Upper g) {c d:Nat} (hc:c ≤ m):aF (rel lo f) (rel lo g) (m+1) 0 c d=rel lo (alt f g) c d:=by
 unfold aF
 by_cases h:c ≤ d
 · rw [if_pos ⟨h,.inl (by omega)⟩]
   unfold rel alt sat
   omega
 · rw [if_neg (by omega)]
   unfold rel alt
   rw [hf _ _ (by omega),hg _ _ (by omega)]
theorem rel_none (lo:Nat):rel lo none'=fun _ _=>0:=by funext a b;rfl
end Ps
theorem Tr.upper_wyAlt (x:Sc):∀ l:List Tr,(∀ u,u ∈ l→Ps.Upper (Tr.wy x u))→Ps.Upper (Tr.wyAlt x l)
 | [],_=>by rw [Tr.wyAlt];exact Ps.upper_none
 | t :: l,h=>by rw [Tr.wyAlt];exact Ps.upper_alt (h t List.mem_cons_self) (Tr.upper_wyAlt x l fun u hu=>h u (List.mem_cons_of_mem _ hu))
theorem Tr.upper_wySeq (x:Sc):∀ l:List Tr,Ps.Upper (Tr.wySeq x l)
 | []=>by rw [Tr.wySeq];exact Ps.upper_one
 | t :: l=>by rw [Tr.wySeq];exact Ps.upper_join _ _
theorem Tr.upper_wy (x:Sc) (t:Tr):Ps.Upper (t.wy x):=by
 induction t using Tr.rec_subs with
 | h t ih =>
   rw [Tr.wy_eq]
   split
   · exact Ps.upper_byte _
   · split
     · exact Ps.upper_oneAt _
     · split
       · exact Ps.upper_oneAt _
       · split
         · exact Tr.upper_wySeq x _
         · split
           · exact Tr.upper_wyAlt x _ ih
           · split
             · exact Tr.upper_wyAlt x _ ih
             · split
               · split
                 · exact Ps.upper_one
                 · split
                   · exact Ps.upper_alt (Ps.upper_rep _ _ _ _) (Ps.upper_emptyOf _)
                   · exact Ps.upper_rep _ _ _ _
               · exact Ps.upper_one
end Go.Proofs.YtedjkbmfpjmlpaaDoor
namespace Go.Proofs.YtedjkbmfpjmlpaaDoor
open Go.RowKit
def TkT (lo m b0:Nat) (w:World) (v:Value):Prop:=∃ g,v=Ps.tabV g lo m∧b0 ≤ g∧TabAtP w g m (fun _ _=>0)
theorem TkT.below {lo m b0:Nat} {w w':World} {v:Value} (h:TkT lo m b0 w v) (hb:Below w.heap.size w w'):TkT lo m b0 w' v:=by
 obtain ⟨g,e,hg,ht⟩:=h;exact ⟨g,e,hg,ht.later hb⟩
def TkJ (x:Sc) (lo m:Nat) (t:Tr) (b0:Nat) (u v:Value) (w:World):Prop:=∃ gw,v=Ps.tabV gw lo m∧b0 ≤ gw∧TabAtP w gw m (fun _ _=>0)∧TkrsAt x lo m w (fun k=>b0 ≤ k∧k ≠ gw) u t.subs
theorem TkJ.below {x:Sc} {lo m b0:Nat} {t:Tr} {w w':World} {u v:Value} (h:TkJ x lo m t b0 u v w) (hb:Below w.heap.size w w'):TkJ x lo m t b0 u v w':=by
 obtain ⟨g,e,hg,ht,hs⟩:=h;exact ⟨g,e,hg,ht.later hb,hs.keep fun k hk _=>hb.block k hk⟩
def TkOM (x:Sc) (lo m:Nat) (t:Tr) (n b0:Nat) (w:World) (v:Value):Prop:=∃ (p8:Option Addr) (c8 gw:Nat),v=.agg #[.int .i64 t.kind,.slice p8 n c8,.int .i64 (lo:Int),.int .i64 ((lo:Int)+(m:Int)),.slice (some ⟨gw,0,none⟩) ((m+1) * (m+1)) ((m+1) * (m+1)),.slice none 0 0,.int .i64 0,.bool false]∧b0 ≤ gw∧TabAtP w gw m (fun _ _=>0)∧TkrsAt x lo m w (fun k=>b0 ≤ k∧k ≠ gw) (.slice p8 n c8) t.subs
theorem TkOM.below {x:Sc} {lo m n b0:Nat} {t:Tr} {w w':World} {v:Value} (h:TkOM x lo m t n b0 w v) (hb:Below w.heap.size w w'):TkOM x lo m t n b0 w' v:=by
 obtain ⟨p,c,g,e,hg,ht,hs⟩:=h;exact ⟨p,c,g,e,hg,ht.later hb,hs.keep fun k hk _=>hb.block k hk⟩
def TkOB (x:Sc) (lo m:Nat) (t:Tr) (n b0:Nat) (w:World) (v:Value):Prop:=∃ (b:Nat) (p8:Option Addr) (c8 gw:Nat),v=.pointer (some ⟨b,0,none⟩)∧b0 ≤ b∧w.heap[b]? = some (.cells #[.int .i64 t.kind,.slice p8 n c8,.int .i64 (lo:Int),.int .i64 ((lo:Int)+(m:Int)),.slice (some ⟨gw,0,none⟩) ((m+1) * (m+1)) ((m+1) * (m+1)),.slice none 0 0,.int .i64 0,.bool false] 130)∧b0 ≤ gw∧gw < b∧TabAtP w gw m (fun _ _=>0)∧TkrsAt x lo m w (fun k=>b0 ≤ k∧k ≠ gw∧k < b) (.slice p8 n c8) t.subs
theorem TkOB.below {x:Sc} {lo m n b0:Nat} {t:Tr} {w w':World} {v:Value} (h:TkOB x lo m t n b0 w v) (hb:Below w.heap.size w w'):TkOB x lo m t n b0 w' v:=by
 obtain ⟨b,p,c,g,e,h0,hr,hg,hl,ht,hs⟩:=h;exact ⟨b,p,c,g,e,h0,keep_blk hb hr,hg,hl,ht.later hb,hs.keep fun k hk _=>hb.block k hk⟩
theorem psoneof_any (x:Sc) (bx lo m:Nat) (hlo:lo+m ≤ 1000) (t:Tr) (hk:t.kind=6 ∨ t.kind=7) (hlen:t.subs.length ≤ 100000) (hIH:∀ u,u ∈ t.subs→TkDoes x bx lo m u):TkBy 150 x bx lo m t:=by
 intro w Bb v hx hv
 obtain ⟨sv,rfl,hsv⟩:=hv
 obtain ⟨p,cap,rfl,-⟩:=hsv.slice
 have HX:=Lib.hid hx;have HLEN:=Lib.hid hlen;have IH:=Lib.hid hIH;have HK:=Lib.hid hk
 unfold Tr.cells
 obtain ⟨n,hn⟩:∃ n,t.subs.length=n:=⟨_,rfl⟩
 rw [hn] at hsv hlen ⊢
 have HS:=Lib.hid hsv
 have HN:=Lib.hid hn
 clear hx hk hsv hIH hn
 have WNx:=Lib.hid (news2 w (.cells #[.pointer (some ⟨bx,0,none⟩),.int .i64 (lo:Int),.int .i64 ((lo:Int)+(m:Int))] 166) (.cells #[.int .i64 t.kind,.int .u64 (Oc.U t.w0),.int .u64 (Oc.U t.w1),.int .u64 (Oc.U t.w2),.int .u64 (Oc.U t.w3),.slice p n cap,.int .i64 t.num,.int .i64 t.least,.int .i64 t.most,.bool t.bare] 37))
 have HB:=Lib.hid (show Below w.heap.size w ((w.alloc (.cells #[.pointer (some ⟨bx,0,none⟩),.int .i64 (lo:Int),.int .i64 ((lo:Int)+(m:Int))] 166)).alloc (.cells #[.int .i64 t.kind,.int .u64 (Oc.U t.w0),.int .u64 (Oc.U t.w1),.int .u64 (Oc.U t.w2),.int .u64 (Oc.U t.w3),.slice p n cap,.int .i64 t.num,.int .i64 t.least,.int .i64 t.most,.bool t.bare] 37)) from by go_grown)
 go_enter Tryd.func150,Tryd.ntmps150
 go_upto_region 1 with (fail)
 generalize (w.alloc (.cells #[.pointer (some ⟨bx,0,none⟩),.int .i64 (lo:Int),.int .i64 ((lo:Int)+(m:Int))] 166)).alloc (.cells #[.int .i64 t.kind,.int .u64 (Oc.U t.w0),.int .u64 (Oc.U t.w1),.int .u64 (Oc.U t.w2),.int .u64 (Oc.U t.w3),.slice p n cap,.int .i64 t.num,.int .i64 t.least,.int .i64 t.most,.bool t.bare] 37)=W0 at *
 have Y0:=Lib.hid WNx.out.1;have Y1:=Lib.hid WNx.out.2
 have HB1Z:=Lib.hid (show w.heap.size ≤ W0.heap.size from HB.out.size)
 clear WNx
 go_wp2_with fail
 refine Ri.wp_region_pair (by kernel_rfl) (by kernel_rfl) (by kernel_rfl) (by kernel_rfl) 11 (by kernel_rfl) 5 7 (by omega) (by omega) (by omega) (fun kk ww vv=>match kk with | 0=>vv=.pointer (some ⟨w.heap.size+1,0,none⟩) | 1=>vv=.int .i64 t.kind | 2=>vv=.agg #[.pointer (some ⟨bx,0,none⟩),.int .i64 (lo:Int),.int .i64 ((lo:Int)+(m:Int))] | 3=>vv=.pointer (some ⟨w.heap.size+1,5,none⟩) | 4=>vv=.slice p n cap | 5=>TkrsAt x lo m ww (fun k=>W0.heap.size ≤ k) vv t.subs | 6=>vv=.agg #[.pointer (some ⟨bx,0,none⟩),.int .i64 (lo:Int),.int .i64 ((lo:Int)+(m:Int))] | 7=>TkT lo m W0.heap.size ww vv | 8=>TkOM x lo m t n W0.heap.size ww vv | 9=>TkOB x lo m t n W0.heap.size ww vv | 10=>TkOB x lo m t n W0.heap.size ww vv | _=>True) (fun uu vv ww=>TkJ x lo m t W0.heap.size uu vv ww) (fun kk ww vv w8 h hb=>by
       match kk,h with
       | 0,h=>exact h
       | 1,h=>exact h
       | 2,h=>exact h
       | 3,h=>exact h
       | 4,h=>exact h
       | 5,h=>exact h.keep fun k hk _=>hb.block k hk
       | 6,h=>exact h
       | 7,h=>exact h.below hb
       | 8,h=>exact h.below hb
       | 9,h=>exact h.below hb
       | 10,h=>exact h.below hb
       | _+11,_=>trivial) (fun uu vv ww w8 h hb=>h.below hb) ?_ ?_
 · intro i hi9 L v w9 xa hF9 hL hd hv ho hj
   obtain ⟨hb,hk⟩:=hF9
   have hi':i=0 ∨ i=1 ∨ i=2 ∨ i=3 ∨ i=4 ∨ i=5 ∨ i=6 ∨ i=7 ∨ i=8 ∨ i=9 ∨ i=10:=by omega
   rcases hi' with rfl | rfl | rfl | rfl | rfl | rfl | rfl | rfl | rfl | rfl | rfl
   · have e3:xa.tmps.getD 3 undef=.pointer (some ⟨w.heap.size+1,0,none⟩):=ho 3 (by kernel_rfl)
     refine Ri.step_plain rfl rfl (fun K' hK'=>?_)
     go_simp
     exact hK' _ _ ⟨_,_,rfl,rfl,(Below.refl _ _),rfl,(fun e=>absurd e (by decide)),(fun e=>absurd e (by decide))⟩
   · have j0:L 0=true:=by have:=hd _ rfl;simp [Region.binds] at this;simp [this]
     have f0:=(hv 0 8 rfl j0).trans (hk 0 j0)
     refine Ri.step_plain rfl rfl (fun K' hK'=>?_)
     obtain ⟨n0,n1,n2,n3,n4,n5,n6,n7,n8,n9⟩:=allTen (keep_blk hb Y1.out)
     go_simp
     exact hK' _ _ ⟨_,_,rfl,rfl,(Below.refl _ _),rfl,(fun e=>absurd e (by decide)),(fun e=>absurd e (by decide))⟩
   · have e2:xa.tmps.getD 2 undef=.pointer (some ⟨w.heap.size,0,none⟩):=ho 2 (by kernel_rfl)
     refine Ri.step_plain rfl rfl (fun K' hK'=>?_)
     refine wp_load_row _ _ rfl _ e2 _ _ _ _ (keep_blk hb Y0.out) Tryd.underlying166 rfl (by kernel_rfl) ?_
     exact hK' _ _ ⟨_,_,rfl,rfl,Below.refl _ _,rfl,(fun e=>absurd e (by decide)),(fun e=>absurd e (by decide))⟩
   · have e3:xa.tmps.getD 3 undef=.pointer (some ⟨w.heap.size+1,0,none⟩):=ho 3 (by kernel_rfl)
     refine Ri.step_plain rfl rfl (fun K' hK'=>?_)
     go_simp
     exact hK' _ _ ⟨_,_,rfl,rfl,(Below.refl _ _),rfl,(fun e=>absurd e (by decide)),(fun e=>absurd e (by decide))⟩
   · have j3:L 3=true:=by have:=hd _ rfl;simp [Region.binds] at this;simp [this]
     have f3:=(hv 3 11 rfl j3).trans (hk 3 j3)
     refine Ri.step_plain rfl rfl (fun K' hK'=>?_)
     obtain ⟨n0,n1,n2,n3,n4,n5,n6,n7,n8,n9⟩:=allTen (keep_blk hb Y1.out)
     go_simp
     exact hK' _ _ ⟨_,_,rfl,rfl,(Below.refl _ _),rfl,(fun e=>absurd e (by decide)),(fun e=>absurd e (by decide))⟩
   · obtain ⟨j2,j4⟩:L 2=true∧L 4=true:=by have:=hd _ rfl;simp [Region.binds] at this;simp [this]
     have f2:=(hv 2 10 rfl j2).trans (hk 2 j2)
     have f4:=(hv 4 12 rfl j4).trans (hk 4 j4)
     refine Ri.step_plain rfl rfl (fun K' hK'=>?_)
     go_simp
     refine (pstakers_any x bx lo m t.subs HLEN.out IH.out w9 Bb (.slice p n cap) (keep_blk hb (keep_blk HB.out HX.out)) ((HS.out.later HB.out).later hb)).mono ?_
     rintro e w8 ⟨v8,rfl,ht8,hb8⟩
     exact hK' _ _ ⟨_,_,rfl,rfl,hb8,(ht8.wider fun k hk=>Nat.le_trans hb.size hk),(fun _ jq=>by have k9:TkT lo m W0.heap.size w9 (v 7):=hk 7 jq;obtain ⟨gw,e9,hg9,ht9⟩:=k9;exact ⟨gw,e9,hg9,ht9.later hb8,ht8.wider fun k hk=>⟨Nat.le_trans hb.size hk,by have:=ht9.lt;omega⟩⟩),(fun e=>absurd e (by decide))⟩
   · have e2:xa.tmps.getD 2 undef=.pointer (some ⟨w.heap.size,0,none⟩):=ho 2 (by kernel_rfl)
     refine Ri.step_plain rfl rfl (fun K' hK'=>?_)
     refine wp_load_row _ _ rfl _ e2 _ _ _ _ (keep_blk hb Y0.out) Tryd.underlying166 rfl (by kernel_rfl) ?_
     exact hK' _ _ ⟨_,_,rfl,rfl,Below.refl _ _,rfl,(fun e=>absurd e (by decide)),(fun e=>absurd e (by decide))⟩
   · have j6:L 6=true:=by have:=hd _ rfl;simp [Region.binds] at this;simp [this]
     have f6:=(hv 6 14 rfl j6).trans (hk 6 j6)
     refine Ri.step_plain rfl rfl (fun K' hK'=>?_)
     go_simp
     refine (pstable_any _ lo m hlo w9).mono ?_
     rintro e w8 ⟨g8,rfl,hg8,ht8,hb8⟩
     exact hK' _ _ ⟨_,_,rfl,rfl,hb8,⟨g8,rfl,Nat.le_trans hb.size hg8,ht8⟩,(fun e=>absurd e (by decide)),(fun _ jp=>by have k9:TkrsAt x lo m w9 (fun k=>W0.heap.size ≤ k) (v 5) t.subs:=hk 5 jp;exact ⟨g8,rfl,Nat.le_trans hb.size hg8,ht8,(k9.within.keep fun k hk _=>hb8.block k hk).wider fun k hk=>⟨hk.1,by have:=hk.2;omega⟩⟩)⟩
   · obtain ⟨j1,j5,j7⟩:L 1=true∧L 5=true∧L 7=true:=by have:=hd _ rfl;simp [Region.binds] at this;simp [this]
     have f1:=(hv 1 9 rfl j1).trans (hk 1 j1)
     have k5:TkrsAt x lo m w9 (fun k=>W0.heap.size ≤ k) (v 5) t.subs:=hk 5 j5
     have f5:=hv 5 13 rfl j5
     have k7:TkT lo m W0.heap.size w9 (v 7):=hk 7 j7
     have f7:=hv 7 15 rfl j7
     refine Ri.step_plain rfl rfl (fun K' hK'=>?_)
     obtain ⟨gw,e15,hg15,ht15,hs15⟩:=hj j5 j7
     have hs16:=hs15
     obtain ⟨p8,c8,S8,e8,hp8,hs8⟩:=hs15
     rw [HN.out] at e8
     rw [e8] at hs16
     unfold Ps.tabV at e15
     have g0:=f1
     have g1:=f5.trans e8
     have g2:=f7.trans e15
     rw [Array.getD_eq_getD_getElem?] at g0 g1 g2
     clear f5 f7 e15 e8
     go_simp
     exact hK' _ _ ⟨_,_,rfl,rfl,(Below.refl _ _),⟨p8,c8,gw,rfl,hg15,ht15,hs16⟩,(fun e=>absurd e (by decide)),(fun e=>absurd e (by decide))⟩
   · have j8:L 8=true:=by have:=hd _ rfl;simp [Region.binds] at this;simp [this]
     have k8:TkOM x lo m t n W0.heap.size w9 (v 8):=hk 8 j8
     have f8:=hv 8 16 rfl j8
     refine Ri.step_plain rfl rfl (fun K' hK'=>?_)
     obtain ⟨p8,c8,gw,e8,hg8,ht8,hk8⟩:=k8
     have g0:=f8.trans e8
     clear f8 e8
     go_simp
     have hba:=(Below.refl w9.heap.size w9).alloc (Nat.le_refl _) (.cells #[.int .i64 t.kind,.slice p8 n c8,.int .i64 (lo:Int),.int .i64 ((lo:Int)+(m:Int)),.slice (some ⟨gw,0,none⟩) ((m+1) * (m+1)) ((m+1) * (m+1)),.slice none 0 0,.int .i64 0,.bool false] 130)
     exact hK' _ _ ⟨_,_,rfl,rfl,hba,⟨w9.heap.size,p8,c8,gw,rfl,hb.size,heap_alloc_new _ _,hg8,ht8.lt,ht8.later hba,((hk8.within.keep fun k hk _=>hba.block k hk).wider fun k hk=>⟨hk.1.1,hk.1.2,hk.2⟩)⟩,(fun e=>absurd e (by decide)),(fun e=>absurd e (by decide))⟩
   · have j9:L 9=true:=by have:=hd _ rfl;simp [Region.binds] at this;simp [this]
     have k9:TkOB x lo m t n W0.heap.size w9 (v 9):=hk 9 j9
     have f9:=hv 9 17 rfl j9
     refine Ri.step_plain rfl rfl (fun K' hK'=>?_)
     go_simp
     exact hK' _ _ ⟨_,_,rfl,rfl,(Below.refl _ _),k9,(fun e=>absurd e (by decide)),(fun e=>absurd e (by decide))⟩
 · intro v w9 hb hk hjj
   have k0:v 0=.pointer (some ⟨w.heap.size+1,0,none⟩):=hk 0 (by omega)
   have k1:v 1=.int .i64 t.kind:=hk 1 (by omega)
   have k2:v 2=.agg #[.pointer (some ⟨bx,0,none⟩),.int .i64 (lo:Int),.int .i64 ((lo:Int)+(m:Int))]:=hk 2 (by omega)
   have k3:v 3=.pointer (some ⟨w.heap.size+1,5,none⟩):=hk 3 (by omega)
   have k4:v 4=.slice p n cap:=hk 4 (by omega)
   have k5:TkrsAt x lo m w9 (fun k=>W0.heap.size ≤ k) (v 5) t.subs:=hk 5 (by omega)
   have k6:v 6=.agg #[.pointer (some ⟨bx,0,none⟩),.int .i64 (lo:Int),.int .i64 ((lo:Int)+(m:Int))]:=hk 6 (by omega)
   have k7:TkT lo m W0.heap.size w9 (v 7):=hk 7 (by omega)
   have k8:TkOM x lo m t n W0.heap.size w9 (v 8):=hk 8 (by omega)
   have k9:TkOB x lo m t n W0.heap.size w9 (v 9):=hk 9 (by omega)
   have k10:TkOB x lo m t n W0.heap.size w9 (v 10):=hk 10 (by omega)
   obtain ⟨bm,p8,c8,gw,e5,hbm,hrow,hgw,hgb,htab,htks⟩:=k10
   simp only [Ri.frame,List.zipIdx,List.foldl_cons,List.foldl_nil,if_true,List.setIfInBounds_toArray,List.set_cons_zero,List.set_cons_succ,Nat.reduceAdd,e5]
   generalize v 0=z0;generalize v 1=z1;generalize v 2=z2;generalize v 3=z3;generalize v 4=z4;generalize v 5=z5;generalize v 6=z6;generalize v 7=z7;generalize v 8=z8;generalize v 9=z9
   have HB1:=Lib.hid (HB.out.trans (hb.mono HB.out.size))
   have YM:=Lib.hid hrow;have TS:=Lib.hid htks;have HBM:=Lib.hid (show W0.heap.size ≤ bm∧W0.heap.size ≤ gw∧gw < bm from ⟨hbm,hgw,hgb⟩);have TG0:=Lib.hid htab
   clear hrow htks hbm hgw hgb htab hb HB Y0 Y1 e5 hjj
   generalize w9=w1 at *
   obtain ⟨d0,d1,d2,d3,d4,d5,d6,d7,-⟩:=tk8 YM.out
   go_wp2
   clear d0 d1 d2 d3 d4 d5 d6 d7
   go_loopw [23] (fun iv wr=>∃ c:Nat,iv=.int .i64 (c:Int)∧c ≤ n∧Hid (TabAtP wr gw m (Ps.rel lo (Tr.wyAlt x (t.subs.take c))))∧Hid (wr.heap[bm]? = some (.cells #[.int .i64 t.kind,.slice p8 n c8,.int .i64 (lo:Int),.int .i64 ((lo:Int)+(m:Int)),.slice (some ⟨gw,0,none⟩) ((m+1) * (m+1)) ((m+1) * (m+1)),.slice none 0 0,.int .i64 0,.bool false] 130))∧Hid (TkrsAt x lo m wr (fun k=>W0.heap.size ≤ k∧k ≠ gw∧k < bm) (.slice p8 n c8) t.subs)∧Hid (Below w.heap.size w wr)) (fun iv _=>n - (intOf iv).toNat)
   case atStart=>exact ⟨0,rfl,Nat.zero_le _,Lib.hid (by rw [List.take_zero,Tr.wyAlt,Ps.rel_none];exact TG0.out),YM,TS,HB1⟩
   case round =>
     clear YM TS HB1 TG0
     obtain ⟨c,rfl,hc,TG,YRr,TSr,HBE⟩:=hrel
     by_cases hlt:c < n
     · have hltd:decide ((c:Int) < (n:Int))=true:=decide_eq_true (by omega)
       have wi:IntKind.i64.wrap ((c:Int)+1)=(c:Int)+1:=IntWalk.i64_in _ (by omega)
       have hcl:c < t.subs.length:=by rw [HN.out];omega
       obtain ⟨u,hu⟩:∃ u,t.subs[c]? = some u:=⟨_,List.getElem?_eq_getElem hcl⟩
       obtain ⟨pq,cq,Sq,eq9,hp9,hs9⟩:=TSr.out
       injection eq9 with eq1 eq2 eq3
       obtain ⟨g6,o6,e6,hB6,hcell6⟩:=hp9 c u hu
       rw [← eq1] at e6
       subst e6
       obtain ⟨pu,cu,gu,rvu,Su,hBu,hBgu,hcu,hwu,-⟩:=(hs9 c u hu).here
       obtain ⟨bu,hbu⟩:∃ bu,Sq c=bu:=⟨_,rfl⟩
       rw [hbu] at hcell6 hcu hBu
       unfold tkC at hcu
       have YU:=Lib.hid hcu;have TU:=Lib.hid hwu
       have HNU:=Lib.hid (show gu ≠ gw from hBgu.2.1)
       have HRJ:=Lib.hid (show Ps.alt (Tr.wyAlt x (t.subs.take c)) (u.wy x)=Tr.wyAlt x (t.subs.take (c+1)) from (Tr.wyAlt_take x t.subs c u hu).symm)
       have HUP:=Lib.hid (show Ps.Upper (Tr.wyAlt x (t.subs.take c))∧Ps.Upper (u.wy x) from ⟨Tr.upper_wyAlt x _ fun u _=>Tr.upper_wy x u,Tr.upper_wy x u⟩)
       have HQ6:=Lib.hid hcell6
       clear eq1 eq2 eq3 hp9 hs9 hB6 hBu hBgu hcu hwu hbu hcl hu
       go_upto_region 5 with (fail)
       clear hcell6
       go_wp2_with fail
       refine Ri.wp_region_late (by kernel_rfl) (by kernel_rfl) (by kernel_rfl) (by kernel_rfl) 8 (by kernel_rfl) (by kernel_rfl) (fun kk ww vv=>match kk with | 0=>vv=.pointer (some ⟨bm,0,none⟩) | 1=>vv=.pointer (some ⟨bm,0,none⟩) | 2=>vv=.pointer (some ⟨bm,2,none⟩) | 3=>vv=.agg #[.int .i64 (lo:Int),.int .i64 ((lo:Int)+(m:Int)),.slice (some ⟨gw,0,none⟩) ((m+1) * (m+1)) ((m+1) * (m+1))] | 4=>vv=.pointer (some ⟨bu,0,none⟩) | 5=>vv=.pointer (some ⟨bu,0,none⟩) | 6=>vv=.pointer (some ⟨bu,2,none⟩) | 7=>vv=.agg #[.int .i64 (lo:Int),.int .i64 ((lo:Int)+(m:Int)),.slice (some ⟨gu,0,none⟩) ((m+1) * (m+1)) ((m+1) * (m+1))] | _=>True) (fun vv ww=>TabAtP ww gw m (Ps.rel lo (Tr.wyAlt x (t.subs.take (c+1))))∧Touch [gw] wr ww) (fun kk ww vv w8 h hb=>by
                   match kk,h with
                   | 0,h=>exact h
                   | 1,h=>exact h
                   | 2,h=>exact h
                   | 3,h=>exact h
                   | 4,h=>exact h
                   | 5,h=>exact h
                   | 6,h=>exact h
                   | 7,h=>exact h
                   | _+8,_=>trivial) ?_ ?_ ?_
       · intro i hi9 L v w9 xa hF9 hL hd hv ho
         obtain ⟨hb,hk⟩:=hF9
         have hi':i=0 ∨ i=1 ∨ i=2 ∨ i=3 ∨ i=4 ∨ i=5 ∨ i=6 ∨ i=7:=by omega
         rcases hi' with rfl | rfl | rfl | rfl | rfl | rfl | rfl | rfl
         · have e5:xa.tmps.getD 5 undef=.pointer (some ⟨bm,0,none⟩):=ho 5 (by kernel_rfl)
           refine Ri.step_plain rfl rfl (fun K' hK'=>?_)
           go_simp
           exact hK' _ _ ⟨_,_,rfl,rfl,(Below.refl _ _),rfl⟩
         · have j0:L 0=true:=by have:=hd _ rfl;simp [Region.binds] at this;simp [this]
           have f0:=(hv 0 27 rfl j0).trans (hk 0 j0)
           refine Ri.step_plain rfl rfl (fun K' hK'=>?_)
           go_simp
           exact hK' _ _ ⟨_,_,rfl,rfl,(Below.refl _ _),rfl⟩
         · have j1:L 1=true:=by have:=hd _ rfl;simp [Region.binds] at this;simp [this]
           have f1:=(hv 1 28 rfl j1).trans (hk 1 j1)
           refine Ri.step_plain rfl rfl (fun K' hK'=>?_)
           go_simp
           exact hK' _ _ ⟨_,_,rfl,rfl,(Below.refl _ _),rfl⟩
         · have j2:L 2=true:=by have:=hd _ rfl;simp [Region.binds] at this;simp [this]
           have f2:=(hv 2 29 rfl j2).trans (hk 2 j2)
           refine Ri.step_plain rfl rfl (fun K' hK'=>?_)
           obtain ⟨d0,d1,d2,d3,d4,d5,d6,d7,-⟩:=tk8 (keep_blk hb YRr.out)
           go_simp
           exact hK' _ _ ⟨_,_,rfl,rfl,(Below.refl _ _),rfl⟩
         · have e7:xa.tmps.getD 7 undef=.pointer (some ⟨bu,0,none⟩):=ho 7 (by kernel_rfl)
           refine Ri.step_plain rfl rfl (fun K' hK'=>?_)
           go_simp
           exact hK' _ _ ⟨_,_,rfl,rfl,(Below.refl _ _),rfl⟩
         · have j4:L 4=true:=by have:=hd _ rfl;simp [Region.binds] at this;simp [this]
           have f4:=(hv 4 31 rfl j4).trans (hk 4 j4)
           refine Ri.step_plain rfl rfl (fun K' hK'=>?_)
           go_simp
           exact hK' _ _ ⟨_,_,rfl,rfl,(Below.refl _ _),rfl⟩
         · have j5:L 5=true:=by have:=hd _ rfl;simp [Region.binds] at this;simp [this]
           have f5:=(hv 5 32 rfl j5).trans (hk 5 j5)
           refine Ri.step_plain rfl rfl (fun K' hK'=>?_)
           go_simp
           exact hK' _ _ ⟨_,_,rfl,rfl,(Below.refl _ _),rfl⟩
         · have j6:L 6=true:=by have:=hd _ rfl;simp [Region.binds] at this;simp [this]
           have f6:=(hv 6 33 rfl j6).trans (hk 6 j6)
           refine Ri.step_plain rfl rfl (fun K' hK'=>?_)
           obtain ⟨d0,d1,d2,d3,d4,d5,d6,d7,-⟩:=tk8 (keep_blk hb YU.out)
           go_simp
           exact hK' _ _ ⟨_,_,rfl,rfl,(Below.refl _ _),rfl⟩
       · intro L v w9 xa hF9 hall hv ho
         obtain ⟨hb,hk⟩:=hF9
         have f0:=(hv 0 27 rfl (hall 0 (by omega))).trans (hk 0 (hall 0 (by omega)))
         have f1:=(hv 1 28 rfl (hall 1 (by omega))).trans (hk 1 (hall 1 (by omega)))
         have f2:=(hv 2 29 rfl (hall 2 (by omega))).trans (hk 2 (hall 2 (by omega)))
         have f3:=(hv 3 30 rfl (hall 3 (by omega))).trans (hk 3 (hall 3 (by omega)))
         have f4:=(hv 4 31 rfl (hall 4 (by omega))).trans (hk 4 (hall 4 (by omega)))
         have f5:=(hv 5 32 rfl (hall 5 (by omega))).trans (hk 5 (hall 5 (by omega)))
         have f6:=(hv 6 33 rfl (hall 6 (by omega))).trans (hk 6 (hall 6 (by omega)))
         have f7:=(hv 7 34 rfl (hall 7 (by omega))).trans (hk 7 (hall 7 (by omega)))
         refine Ri.step_plain rfl rfl (fun K' hK'=>?_)
         go_simp
         refine (psaddAll_any gw gu lo m hlo (Ps.rel lo (Tr.wyAlt x (t.subs.take c))) (Ps.rel lo (u.wy x)) (Ps.rel_low _ _) (Ps.rel_low _ _) HNU.out w9 (TG.out.later hb) (TU.out.later hb)).mono ?_
         rintro e w8 ⟨rfl,ht8,ho8⟩
         exact hK' _ _ ⟨_,_,rfl,rfl,⟨HRJ.out ▸ (ht8.same fun c d hc _=>(Ps.aF_rel HUP.out.1 HUP.out.2 hc).symm),(Touch.of_below [gw] hb).trans ho8⟩⟩
       · intro v w9 hfin
         obtain ⟨hta8,hto8⟩:=hfin
         simp only [Ri.frame,List.zipIdx,List.foldl_cons,List.foldl_nil,if_true,List.setIfInBounds_toArray,List.set_cons_zero,List.set_cons_succ,Nat.reduceAdd]
         generalize v 0=z0;generalize v 1=z1;generalize v 2=z2;generalize v 3=z3;generalize v 4=z4;generalize v 5=z5;generalize v 6=z6;generalize v 7=z7;generalize v 8=z8
         have TG8:=Lib.hid hta8
         have YR8:=Lib.hid (blk_touch YRr.out hto8 (by have:=HBM.out;omega))
         have TS8:=Lib.hid (show TkrsAt x lo m w9 (fun k=>W0.heap.size ≤ k∧k ≠ gw∧k < bm) (.slice (some ⟨g6,o6,none⟩) n c8) t.subs from TSr.out.keep fun k hk hBk=>hto8.block k hk (by have:=hBk.2.1;simpa using this))
         have HB8:=Lib.hid (HBE.out.trans (hto8.below (B:=w.heap.size) (by intro i hi;have:=HBM.out;have:=HB1Z.out;simp at hi;omega) HBE.out.size))
         clear hta8 hto8 TG YRr TSr HBE YU TU HNU HRJ HUP HQ6
         go_wp2
         exact ⟨⟨c+1,by go_num,by omega,TG8,YR8,TS8,HB8⟩,by simp [intOf];omega⟩
     · obtain rfl:c=n:=by omega
       have hltd:decide ((c:Int) < (c:Int))=false:=decide_eq_false (by omega)
       go_wp2
       go_ret
       have hk8:t.tkSubs=t.subs:=by unfold Tr.tkSubs;rcases HK.out with h | h <;> rw [if_neg (by rw [h];simp)]
       have hm8:t.mustI=0:=by unfold Tr.mustI;rcases HK.out with h | h <;> rw [h] <;> rfl
       have ha8:t.aloneB=false:=by unfold Tr.aloneB;rcases HK.out with h | h <;> rw [h] <;> rfl
       have hR8:t.restN=0:=by unfold Tr.restN;rcases HK.out with h | h <;> rw [h] <;> rfl
       have hW8:t.wy x=Tr.wyAlt x t.subs:=by rcases HK.out with h | h <;> simp [Tr.wy_eq,h]
       have hTK:t.subs.take c=t.subs:=List.take_of_length_le (by rw [HN.out];exact Nat.le_refl _)
       have hwz:=HB1Z.out
       obtain ⟨pq,cq,Sq,eq9,hp9,hs9⟩:=TSr.out
       injection eq9 with eq1 eq2 eq3
       subst eq1 eq3
       refine ⟨bm,rfl,.mk bm t p8 c8 gw (.slice none 0 0) Sq (Nat.le_trans hwz HBM.out.1) (Nat.le_trans hwz HBM.out.2.1) ?_ ?_ (.inl ⟨hR8,rfl⟩) ?_ ?_,HBE.out⟩
       · unfold tkC;rw [hk8,HN.out,hm8,ha8];exact YRr.out
       · rw [hW8,← hTK];exact TG.out
       · rw [hk8];exact fun i u hu=>(hp9 i u hu).imp fun g hg=>hg.imp fun o ho=>⟨ho.1,Nat.le_trans hwz ho.2.1.1,ho.2.2⟩
       · rw [hk8];exact fun i u hu=>(hs9 i u hu).wider fun k hk=>Nat.le_trans hwz hk.1
end Go.Proofs.YtedjkbmfpjmlpaaDoor
namespace Go.Proofs.YtedjkbmfpjmlpaaDoor
open Go.RowKit
theorem rsRow_one (lo m g:Nat):rsRow 1 lo m (fun _=>some g)=#[.int .i64 (lo:Int),.int .i64 ((lo:Int)+(m:Int)),.slice (some ⟨g,0,none⟩) ((m+1) * (m+1)) ((m+1) * (m+1))]:=by
 apply Array.ext
 · rw [rsRow_size];rfl
 · intro i h1 h2
   rw [rsRow_size] at h1
   rcases (show i=0 ∨ i=1 ∨ i=2 by omega) with rfl | rfl | rfl <;> simp [rsRow,rsCell]
theorem psinrounds_zero (x:Sc) (bx lo m:Nat) (hlo:lo+m ≤ 1000) (t:Tr) (hk:t.kind=8) (h0:t.most=0):TkBy 151 x bx lo m t:=by
 have H0:=Lib.hid h0
 clear h0
 intro w Bb v hx hv
 obtain ⟨sv,rfl,hsv⟩:=hv
 obtain ⟨p,cap,rfl,-⟩:=hsv.slice
 have HX:=Lib.hid hx;have HK:=Lib.hid hk
 unfold Tr.cells
 obtain ⟨n,hn⟩:∃ n,t.subs.length=n:=⟨_,rfl⟩
 rw [hn] at hsv ⊢
 have HS:=Lib.hid hsv
 have HN:=Lib.hid hn
 clear hx hk hsv hn
 have WNx:=Lib.hid (news2 w (.cells #[.pointer (some ⟨bx,0,none⟩),.int .i64 (lo:Int),.int .i64 ((lo:Int)+(m:Int))] 166) (.cells #[.int .i64 t.kind,.int .u64 (Oc.U t.w0),.int .u64 (Oc.U t.w1),.int .u64 (Oc.U t.w2),.int .u64 (Oc.U t.w3),.slice p n cap,.int .i64 t.num,.int .i64 t.least,.int .i64 t.most,.bool t.bare] 37))
 have HB:=Lib.hid (show Below w.heap.size w ((w.alloc (.cells #[.pointer (some ⟨bx,0,none⟩),.int .i64 (lo:Int),.int .i64 ((lo:Int)+(m:Int))] 166)).alloc (.cells #[.int .i64 t.kind,.int .u64 (Oc.U t.w0),.int .u64 (Oc.U t.w1),.int .u64 (Oc.U t.w2),.int .u64 (Oc.U t.w3),.slice p n cap,.int .i64 t.num,.int .i64 t.least,.int .i64 t.most,.bool t.bare] 37)) from by go_grown)
 go_enter Tryd.func151,Tryd.ntmps151
 go_upto_region 1 with (fail)
 generalize (w.alloc (.cells #[.pointer (some ⟨bx,0,none⟩),.int .i64 (lo:Int),.int .i64 ((lo:Int)+(m:Int))] 166)).alloc (.cells #[.int .i64 t.kind,.int .u64 (Oc.U t.w0),.int .u64 (Oc.U t.w1),.int .u64 (Oc.U t.w2),.int .u64 (Oc.U t.w3),.slice p n cap,.int .i64 t.num,.int .i64 t.least,.int .i64 t.most,.bool t.bare] 37)=W0 at *
 have Y0:=Lib.hid WNx.out.1;have Y1:=Lib.hid WNx.out.2
 have HB1Z:=Lib.hid (show w.heap.size ≤ W0.heap.size∧w.heap.size+1 < W0.heap.size from ⟨HB.out.size,(Array.getElem?_eq_some_iff.1 Y1.out).1⟩)
 clear WNx
 obtain ⟨n0,n1,n2,n3,n4,n5,n6,n7,n8,n9⟩:=allTen Y1.out
 have YM:=Lib.hid (heap_alloc_new W0 (.cells #[.int .i64 t.kind,.slice none 0 0,.int .i64 0,.int .i64 0,.slice none 0 0,.slice none 0 0,.int .i64 t.least,.bool false] 130))
 have hba:=(Below.refl W0.heap.size W0).alloc (Nat.le_refl _) (.cells #[.int .i64 t.kind,.slice none 0 0,.int .i64 0,.int .i64 0,.slice none 0 0,.slice none 0 0,.int .i64 t.least,.bool false] 130)
 go_upto_region 2 with (fail)
 generalize W0.alloc (.cells #[.int .i64 t.kind,.slice none 0 0,.int .i64 0,.int .i64 0,.slice none 0 0,.slice none 0 0,.int .i64 t.least,.bool false] 130)=w1 at *
 have X0:=Lib.hid (keep_blk hba Y0.out);have X1:=Lib.hid (keep_blk hba Y1.out)
 have HB1:=Lib.hid (HB.out.trans (hba.mono HB.out.size))
 clear hba Y0 Y1 HB n0 n1 n2 n3 n4 n5 n6 n7 n8 n9
 have HG1:=Lib.hid (show W0.heap.size < w1.heap.size from (Array.getElem?_eq_some_iff.1 YM.out).1)
 obtain ⟨n0,n1,n2,n3,n4,n5,n6,n7,n8,n9⟩:=allTen X1.out
 have hM:(t.most == 0)=true:=by simp [H0.out]
 go_wp2_with (first
   | (refine wpList_load_row rfl 166 (.tmp 2) rfl (w.heap.size) rfl 166 _ (0,0) _ X0.out Tryd.underlying166 rfl (by kernel_rfl) ?_)
   | fail)
 clear n0 n1 n2 n3 n4 n5 n6 n7 n8 n9 hM
 refine (psempty_any 152 #[] (fun _=>true) _ lo m hlo w1 (fun _ _=>by rfl) (fun k _ wx _=>by simpa using pseverywhere_any _ wx)).mono ?_
 rintro e w2 ⟨g,rfl,hg,ht,hb2⟩
 rw [Ps.oneAt_true] at ht
 unfold Ps.tabV
 have YM2:=Lib.hid (keep_blk hb2 YM.out)
 have HB2:=Lib.hid (HB1.out.trans (hb2.mono HB1.out.size));have HT2:=Lib.hid ht;have HG:=Lib.hid (show W0.heap.size < g∧W0.heap.size < w2.heap.size from ⟨Nat.lt_of_lt_of_le HG1.out hg,Nat.lt_of_lt_of_le HG1.out hb2.size⟩)
 clear hg ht hb2 YM X0 X1 HB1 HG1
 obtain ⟨d0,d1,d2,d3,d4,d5,d6,d7,u2,u3,u4,u5,u7⟩:=tk8 YM2.out
 go_upto_region 4 with (fail)
 clear d0 d1 d2 d3 d4 d5 d6 d7 u2 u3 u4 u5 u7
 have hrow:((((w2.setCell ⟨W0.heap.size,2,none⟩ (.int .i64 (lo:Int))).setCell ⟨W0.heap.size,3,none⟩ (.int .i64 ((lo:Int)+(m:Int)))).setCell ⟨W0.heap.size,4,none⟩ (.slice (some ⟨g,0,none⟩) ((m+1) * (m+1)) ((m+1) * (m+1))))).heap[W0.heap.size]? = some (.cells #[.int .i64 t.kind,.slice none 0 0,.int .i64 (lo:Int),.int .i64 ((lo:Int)+(m:Int)),.slice (some ⟨g,0,none⟩) ((m+1) * (m+1)) ((m+1) * (m+1)),.slice none 0 0,.int .i64 t.least,.bool false] 130):=by simp [World.setCell,Array.getElem?_modify,YM2.out]
 have hto:Touch [W0.heap.size] w2 ((((w2.setCell ⟨W0.heap.size,2,none⟩ (.int .i64 (lo:Int))).setCell ⟨W0.heap.size,3,none⟩ (.int .i64 ((lo:Int)+(m:Int)))).setCell ⟨W0.heap.size,4,none⟩ (.slice (some ⟨g,0,none⟩) ((m+1) * (m+1)) ((m+1) * (m+1))))):=(Touch.of_below [W0.heap.size] (Below.refl w2.heap.size w2)).setCells (b:=W0.heap.size) (by simp) 2 [.int .i64 (lo:Int),.int .i64 ((lo:Int)+(m:Int)),.slice (some ⟨g,0,none⟩) ((m+1) * (m+1)) ((m+1) * (m+1))]
 generalize (((w2.setCell ⟨W0.heap.size,2,none⟩ (.int .i64 (lo:Int))).setCell ⟨W0.heap.size,3,none⟩ (.int .i64 ((lo:Int)+(m:Int)))).setCell ⟨W0.heap.size,4,none⟩ (.slice (some ⟨g,0,none⟩) ((m+1) * (m+1)) ((m+1) * (m+1))))=w3 at *
 have YM3:=Lib.hid hrow
 have HB3:=Lib.hid (HB2.out.trans (hto.below (B:=w.heap.size) (by intro i hi;have:=HB1Z.out;simp at hi;omega) HB2.out.size))
 have HT3:=Lib.hid (HT2.out.touch hto (by have:=HG.out;omega))
 have HG3:=Lib.hid (show W0.heap.size < w3.heap.size from (Array.getElem?_eq_some_iff.1 hrow).1)
 clear hrow hto YM2 HB2 HT2
 have YM4:=Lib.hid (heap_alloc_lt (o:=.cells #[.int .i64 (lo:Int),.int .i64 ((lo:Int)+(m:Int)),.slice (some ⟨g,0,none⟩) ((m+1) * (m+1)) ((m+1) * (m+1))] 127) YM3.out)
 obtain ⟨d0,d1,d2,d3,d4,d5,d6,d7,-⟩:=tk8 YM3.out
 obtain ⟨y0,y1,y2,y3,y4,y5,y6,y7,u2,u3,u4,u5,u7⟩:=tk8 YM4.out
 go_wp2
 clear d0 d1 d2 d3 d4 d5 d6 d7 y0 y1 y2 y3 y4 y5 y6 y7 u2 u3 u4 u5 u7
 obtain ⟨gr,hgr⟩:∃ gr,gr=w3.heap.size:=⟨_,rfl⟩
 have hba:=(Below.refl w3.heap.size w3).alloc (Nat.le_refl _) (.cells #[.int .i64 (lo:Int),.int .i64 ((lo:Int)+(m:Int)),.slice (some ⟨g,0,none⟩) ((m+1) * (m+1)) ((m+1) * (m+1))] 127)
 have hrow4:=heap_alloc_new w3 (.cells #[.int .i64 (lo:Int),.int .i64 ((lo:Int)+(m:Int)),.slice (some ⟨g,0,none⟩) ((m+1) * (m+1)) ((m+1) * (m+1))] 127)
 have hrow:((w3.alloc (.cells #[.int .i64 (lo:Int),.int .i64 ((lo:Int)+(m:Int)),.slice (some ⟨g,0,none⟩) ((m+1) * (m+1)) ((m+1) * (m+1))] 127)).setCell ⟨W0.heap.size,5,none⟩ (.slice (some ⟨w3.heap.size,0,none⟩) 1 1)).heap[W0.heap.size]? = some (.cells #[.int .i64 t.kind,.slice none 0 0,.int .i64 (lo:Int),.int .i64 ((lo:Int)+(m:Int)),.slice (some ⟨g,0,none⟩) ((m+1) * (m+1)) ((m+1) * (m+1)),.slice (some ⟨gr,0,none⟩) 1 1,.int .i64 t.least,.bool false] 130):=by rw [hgr];simp [World.setCell,Array.getElem?_modify,YM4.out]
 have hto:Touch [W0.heap.size] (w3.alloc (.cells #[.int .i64 (lo:Int),.int .i64 ((lo:Int)+(m:Int)),.slice (some ⟨g,0,none⟩) ((m+1) * (m+1)) ((m+1) * (m+1))] 127)) ((w3.alloc (.cells #[.int .i64 (lo:Int),.int .i64 ((lo:Int)+(m:Int)),.slice (some ⟨g,0,none⟩) ((m+1) * (m+1)) ((m+1) * (m+1))] 127)).setCell ⟨W0.heap.size,5,none⟩ (.slice (some ⟨w3.heap.size,0,none⟩) 1 1)):=(Touch.of_below [W0.heap.size] (Below.refl (w3.alloc (.cells #[.int .i64 (lo:Int),.int .i64 ((lo:Int)+(m:Int)),.slice (some ⟨g,0,none⟩) ((m+1) * (m+1)) ((m+1) * (m+1))] 127)).heap.size (w3.alloc (.cells #[.int .i64 (lo:Int),.int .i64 ((lo:Int)+(m:Int)),.slice (some ⟨g,0,none⟩) ((m+1) * (m+1)) ((m+1) * (m+1))] 127)))).setCells (b:=W0.heap.size) (by simp) 5 [.slice (some ⟨w3.heap.size,0,none⟩) 1 1]
 rw [← hgr] at hrow4
 generalize (w3.alloc (.cells #[.int .i64 (lo:Int),.int .i64 ((lo:Int)+(m:Int)),.slice (some ⟨g,0,none⟩) ((m+1) * (m+1)) ((m+1) * (m+1))] 127)).setCell ⟨W0.heap.size,5,none⟩ (.slice (some ⟨w3.heap.size,0,none⟩) 1 1)=w5 at *
 generalize w3.alloc (.cells #[.int .i64 (lo:Int),.int .i64 ((lo:Int)+(m:Int)),.slice (some ⟨g,0,none⟩) ((m+1) * (m+1)) ((m+1) * (m+1))] 127)=w4 at *
 go_ret
 have hgg:gr ≠ W0.heap.size:=by have:=HG3.out;omega
 have hk8:t.tkSubs=[]:=by unfold Tr.tkSubs;rw [if_pos ⟨HK.out,H0.out⟩]
 have hm8:t.mustI=t.least:=by unfold Tr.mustI;rw [if_neg (by rw [HK.out];decide),if_pos HK.out]
 have ha8:t.aloneB=false:=by unfold Tr.aloneB;rw [HK.out,H0.out];rfl
 have hR8:t.restN=1:=by unfold Tr.restN;rw [if_neg (by rw [HK.out];decide),if_pos HK.out,if_pos H0.out]
 have hT8:∀ d,t.restT x d=Ps.one:=fun d=>by unfold Tr.restT;rw [if_neg (by rw [HK.out];decide),if_pos H0.out]
 have hW8:t.wy x=Ps.one:=by rw [Tr.wy_eq,HK.out,H0.out];simp
 have htg:=(HT3.out.later hba).touch hto (show g ≠ W0.heap.size from by have:=HG.out;omega)
 refine ⟨W0.heap.size,rfl,.mk W0.heap.size t none 0 g (.slice (some ⟨gr,0,none⟩) 1 1) (fun _=>0) HB1Z.out.1 (by have:=HB1Z.out;have:=HG.out;omega) ?_ ?_ (.inr ⟨gr,fun _=>some g,by rw [hR8],by have:=HB1Z.out;have:=HG3.out;omega, ?_, ?_⟩) ?_ ?_, ?_⟩
 · unfold tkC;rw [hk8,hm8,ha8];exact hrow
 · rw [hW8];exact htg
 · rw [hR8]
   refine ⟨?_,fun d g' _ hg=>?_⟩
   · rw [rsRow_one];exact blk_touch hrow4 hto hgg
   · injection hg with hg
     subst hg
     exact ⟨by rw [hT8];exact htg,by have:=HT3.out.lt;omega⟩
 · exact fun d _=>⟨g,rfl,by have:=HB1Z.out;have:=HG.out;omega⟩
 · rw [hk8];exact fun i u hu=>by simp at hu
 · rw [hk8];exact fun i u hu=>by simp at hu
 · exact (HB3.out.trans (hba.mono HB3.out.size)).trans (hto.below (B:=w.heap.size) (by intro i hi;have:=HB1Z.out;simp at hi;omega) (HB3.out.trans (hba.mono HB3.out.size)).size)
theorem cell_touch {F:List Nat} {w w':World} {g o:Nat} {v:Value} (h:w.cell? ⟨g,o,none⟩=some v) (ht:Touch F w w') (hn:g ∉ F):w'.cell? ⟨g,o,none⟩=some v:=by
 rw [← h];unfold World.cell?;rw [ht.block _ (block_lt_of_cell h) hn]
theorem setCell_other {w:World} {b o k:Nat} {v:Value} (h:k ≠ b):(w.setCell ⟨b,o,none⟩ v).heap[k]? = w.heap[k]?:=by
 simp [World.setCell,Array.getElem?_modify,Ne.symm h]
theorem Ps.eF_rel {lo m:Nat} {f g:Ps.T} {c d:Nat} (hc:c ≤ m):Ps.eF (Ps.rel lo f) (Ps.rel lo g) (m+1) c d=Ps.rel lo (Ps.alt f (Ps.emptyOf g)) c d:=by
 unfold Ps.eF
 by_cases h:c=d
 · rw [if_pos ⟨h,by omega⟩]
   unfold Ps.rel Ps.alt Ps.emptyOf Ps.sat
   rw [if_pos (by omega)]
   omega
 · rw [if_neg (fun h2=>h h2.1)]
   unfold Ps.rel Ps.alt Ps.emptyOf
   rw [if_neg (by omega),Nat.add_zero]
def PsRsV (lo m n:Nat) (R:Nat→Ps.T) (b0:Nat) (w:World) (v:Value):Prop:=∃ gr V,v=.slice (some ⟨gr,0,none⟩) n n∧b0 ≤ gr∧RsAt w gr n lo m V R∧∀ d,d < n→∃ g,V d=some g∧b0 ≤ g
theorem PsRsV.below {lo m n b0:Nat} {R:Nat→Ps.T} {w w':World} {v:Value} (h:PsRsV lo m n R b0 w v) (hb:Below w.heap.size w w'):PsRsV lo m n R b0 w' v:=by
 obtain ⟨g,V,e,hg,hr,hV⟩:=h;exact ⟨g,V,e,hg,hr.later hb,hV⟩
theorem psinrounds_some (x:Sc) (bx lo m:Nat) (hlo:lo+m ≤ 1000) (t u:Tr) (hk:t.kind=8) (h0:t.most ≠ 0) (least last:Nat) (hle:t.least=(least:Int)) (hla:last ≤ 1000) (hlast:(t.most = -1∧last=least) ∨ t.most=(last:Int)) (hsub:t.subs=[u]) (hIH:TkDoes x bx lo m u):TkBy 151 x bx lo m t:=by
 have H0:=Lib.hid h0;have HLE:=Lib.hid hle;have HLA:=Lib.hid hla;have HLST:=Lib.hid hlast;have HSUB:=Lib.hid hsub;have IH:=Lib.hid hIH
 clear h0 hle hla hlast hsub hIH
 intro w Bb v hx hv
 obtain ⟨sv,rfl,hsv⟩:=hv
 obtain ⟨p,cap,rfl,-⟩:=hsv.slice
 have HX:=Lib.hid hx;have HK:=Lib.hid hk
 unfold Tr.cells
 obtain ⟨n,hn⟩:∃ n,t.subs.length=n:=⟨_,rfl⟩
 rw [hn] at hsv ⊢
 have HS:=Lib.hid hsv
 have HN:=Lib.hid hn
 clear hx hk hsv hn
 have WNx:=Lib.hid (news2 w (.cells #[.pointer (some ⟨bx,0,none⟩),.int .i64 (lo:Int),.int .i64 ((lo:Int)+(m:Int))] 166) (.cells #[.int .i64 t.kind,.int .u64 (Oc.U t.w0),.int .u64 (Oc.U t.w1),.int .u64 (Oc.U t.w2),.int .u64 (Oc.U t.w3),.slice p n cap,.int .i64 t.num,.int .i64 t.least,.int .i64 t.most,.bool t.bare] 37))
 have HB:=Lib.hid (show Below w.heap.size w ((w.alloc (.cells #[.pointer (some ⟨bx,0,none⟩),.int .i64 (lo:Int),.int .i64 ((lo:Int)+(m:Int))] 166)).alloc (.cells #[.int .i64 t.kind,.int .u64 (Oc.U t.w0),.int .u64 (Oc.U t.w1),.int .u64 (Oc.U t.w2),.int .u64 (Oc.U t.w3),.slice p n cap,.int .i64 t.num,.int .i64 t.least,.int .i64 t.most,.bool t.bare] 37)) from by go_grown)
 go_enter Tryd.func151,Tryd.ntmps151
 go_upto_region 1 with (fail)
 generalize (w.alloc (.cells #[.pointer (some ⟨bx,0,none⟩),.int .i64 (lo:Int),.int .i64 ((lo:Int)+(m:Int))] 166)).alloc (.cells #[.int .i64 t.kind,.int .u64 (Oc.U t.w0),.int .u64 (Oc.U t.w1),.int .u64 (Oc.U t.w2),.int .u64 (Oc.U t.w3),.slice p n cap,.int .i64 t.num,.int .i64 t.least,.int .i64 t.most,.bool t.bare] 37)=W0 at *
 have Y0:=Lib.hid WNx.out.1;have Y1:=Lib.hid WNx.out.2
 have HB1Z:=Lib.hid (show w.heap.size ≤ W0.heap.size∧w.heap.size+1 < W0.heap.size from ⟨HB.out.size,(Array.getElem?_eq_some_iff.1 Y1.out).1⟩)
 clear WNx
 obtain ⟨n0,n1,n2,n3,n4,n5,n6,n7,n8,n9⟩:=allTen Y1.out
 have YM:=Lib.hid (heap_alloc_new W0 (.cells #[.int .i64 t.kind,.slice none 0 0,.int .i64 0,.int .i64 0,.slice none 0 0,.slice none 0 0,.int .i64 t.least,.bool false] 130))
 have hba:=(Below.refl W0.heap.size W0).alloc (Nat.le_refl _) (.cells #[.int .i64 t.kind,.slice none 0 0,.int .i64 0,.int .i64 0,.slice none 0 0,.slice none 0 0,.int .i64 t.least,.bool false] 130)
 go_upto_region 2 with (fail)
 generalize W0.alloc (.cells #[.int .i64 t.kind,.slice none 0 0,.int .i64 0,.int .i64 0,.slice none 0 0,.slice none 0 0,.int .i64 t.least,.bool false] 130)=w1 at *
 have X0:=Lib.hid (keep_blk hba Y0.out);have X1:=Lib.hid (keep_blk hba Y1.out)
 have HB1:=Lib.hid (HB.out.trans (hba.mono HB.out.size))
 clear hba Y0 Y1 HB n0 n1 n2 n3 n4 n5 n6 n7 n8 n9
 have HG1:=Lib.hid (show W0.heap.size < w1.heap.size from (Array.getElem?_eq_some_iff.1 YM.out).1)
 obtain ⟨n0,n1,n2,n3,n4,n5,n6,n7,n8,n9⟩:=allTen X1.out
 have hM:(t.most == 0)=false:=by simp [H0.out]
 have HN1:=Lib.hid (show 0 < n from by rw [← HN.out,HSUB.out];simp)
 go_upto_region 6 with (fail)
 go_wp2_with (first
   | (refine wpList_load_row rfl 166 (.tmp 2) rfl (w.heap.size) rfl 166 _ (0,0) _ X0.out Tryd.underlying166 rfl (by kernel_rfl) ?_)
   | fail)
 clear n0 n1 n2 n3 n4 n5 n6 n7 n8 n9 hM
 refine (pstakers_any x bx lo m t.subs (by rw [HSUB.out];simp) (fun v hv=>by rw [HSUB.out] at hv;obtain rfl:=List.mem_singleton.1 hv;exact IH.out) w1 Bb (.slice p n cap) (keep_blk HB1.out HX.out) (HS.out.later HB1.out)).mono ?_
 rintro e w2 ⟨v8,rfl,hts,hb2⟩
 have hts9:=hts
 obtain ⟨p8,c8,S8,rfl,hp8,hs8⟩:=hts
 have hu0:t.subs[0]? = some u:=by rw [HSUB.out];rfl
 obtain ⟨g6,o6,rfl,hB6,hcell6⟩:=hp8 0 u hu0
 obtain ⟨pu,cu,gu,rvu,Su,hBu,hBgu,hcu,hwu,-⟩:=(hs8 0 u hu0).here
 rw [HN.out] at hts9 ⊢
 unfold tkC at hcu
 generalize hbu:S8 0=bu at *
 have YM2:=Lib.hid (keep_blk hb2 YM.out)
 have HB2:=Lib.hid (HB1.out.trans (hb2.mono HB1.out.size))
 have HG2:=Lib.hid (show W0.heap.size < w1.heap.size∧w1.heap.size ≤ w2.heap.size from ⟨HG1.out,hb2.size⟩)
 have XX0:=Lib.hid (keep_blk hb2 X0.out);have XX1:=Lib.hid (keep_blk hb2 X1.out)
 have HBS:=Lib.hid hb2
 clear X0 X1 YM HB1 HG1 hp8 hs8 hb2
 obtain ⟨d0,d1,d2,d3,d4,d5,d6,d7,u2,u3,u4,u5,u7⟩:=tk8 YM2.out
 have u1:w2.frozen? ⟨W0.heap.size,1,none⟩=false:=by simp [World.frozen?,YM2.out]
 go_upto_region 7 with (fail)
 clear d0 d1 d2 d3 d4 d5 d6 d7 u1 u2 u3 u4 u5 u7
 have hrow:(w2.setCell ⟨W0.heap.size,1,none⟩ (.slice (some ⟨g6,o6,none⟩) n c8)).heap[W0.heap.size]? = some (.cells #[.int .i64 t.kind,.slice (some ⟨g6,o6,none⟩) n c8,.int .i64 0,.int .i64 0,.slice none 0 0,.slice none 0 0,.int .i64 t.least,.bool false] 130):=by simp [World.setCell,Array.getElem?_modify,YM2.out]
 have hto:Touch [W0.heap.size] w2 (w2.setCell ⟨W0.heap.size,1,none⟩ (.slice (some ⟨g6,o6,none⟩) n c8)):=(Touch.of_below [W0.heap.size] (Below.refl w2.heap.size w2)).setCells (b:=W0.heap.size) (by simp) 1 [.slice (some ⟨g6,o6,none⟩) n c8]
 generalize w2.setCell ⟨W0.heap.size,1,none⟩ (.slice (some ⟨g6,o6,none⟩) n c8)=w3 at *
 have YM3:=Lib.hid hrow
 have HG3:=Lib.hid (show W0.heap.size < w3.heap.size∧w.heap.size < W0.heap.size∧w.heap.size+1 < W0.heap.size∧w.heap.size ≤ W0.heap.size from ⟨(Array.getElem?_eq_some_iff.1 hrow).1,by have:=HB1Z.out;omega,by have:=HB1Z.out;omega,HB1Z.out.1⟩)
 have X0:=Lib.hid (blk_touch XX0.out hto (by have:=HG3.out;omega));have X1:=Lib.hid (blk_touch XX1.out hto (by have:=HG3.out;omega))
 have HB3:=Lib.hid (HB2.out.trans (hto.below (B:=w.heap.size) (by intro i hi;have:=HG3.out;simp at hi;omega) HB2.out.size))
 have YU:=Lib.hid (blk_touch hcu hto (by have:=HG2.out;omega));have TU:=Lib.hid (hwu.touch hto (by have:=HG2.out;omega))
 have TS3:=Lib.hid (hts9.keep (w':=w3) fun k hk hBk=>hto.block k hk (by have:=HG2.out;simp;omega))
 have h6:w3.cell? ⟨g6,o6,none⟩=some (.pointer (some ⟨bu,0,none⟩)):=by
   rw [← show w2.cell? ⟨g6,o6,none⟩=_ from hcell6]
   unfold World.cell?
   rw [hto.block g6 (block_lt_of_cell hcell6) (by have:=HG2.out;simp;omega)]
 have HQ6:=Lib.hid (show ∀ w9,Below w3.heap.size w3 w9→w9.cell? ⟨g6,o6,none⟩=some (.pointer (some ⟨bu,0,none⟩)) from fun w9 hb=>by rw [← h6];unfold World.cell?;rw [hb.block _ (block_lt_of_cell h6)])
 obtain ⟨RF,hRF⟩:∃ RF:Nat→Ps.T,RF=fun d=>Ps.restN (u.wy x) least (if t.most = -1 then Ps.any (u.wy x) else Ps.one) (last - d) d:=⟨_,rfl⟩
 have HRD:=Lib.hid (show ∀ w9,Below w3.heap.size w3 w9→Calls Tryd.prog 168 #[.agg #[.pointer (some ⟨bx,0,none⟩),.int .i64 (lo:Int),.int .i64 ((lo:Int)+(m:Int))],Ps.tabV gu lo m,.agg #[.int .i64 t.kind,.int .u64 (Oc.U t.w0),.int .u64 (Oc.U t.w1),.int .u64 (Oc.U t.w2),.int .u64 (Oc.U t.w3),.slice p n cap,.int .i64 t.num,.int .i64 t.least,.int .i64 t.most,.bool t.bare]] w9 (PsRs lo m (last+1) RF w9) from fun w9 hb=>by
   rw [hRF]
   exact psrounds_any _ lo m hlo t (u.wy x) gu least last HLE.out HLA.out HLST.out w9 Bb (.agg #[.int .i64 t.kind,.int .u64 (Oc.U t.w0),.int .u64 (Oc.U t.w1),.int .u64 (Oc.U t.w2),.int .u64 (Oc.U t.w3),.slice p n cap,.int .i64 t.num,.int .i64 t.least,.int .i64 t.most,.bool t.bare]) ⟨.slice p n cap,rfl,(HS.out.later HB3.out).later hb⟩ (TU.out.later hb))
 unfold Ps.tabV at HRD
 have HRF:=Lib.hid hRF
 have HC6:=Lib.hid h6;have HG6:=Lib.hid (show w1.heap.size ≤ g6 from hB6)
 clear hRF h6 hcell6 hcu hwu hts9 hto hrow YM2 HB2 XX0 XX1 hu0
 go_wp2_with fail
 refine Ri.wp_region_late (by kernel_rfl) (by kernel_rfl) (by kernel_rfl) (by kernel_rfl) 15 (by kernel_rfl) (by kernel_rfl) (fun kk ww vv=>match kk with | 0=>vv=.pointer (some ⟨W0.heap.size,0,none⟩) | 1=>vv=.agg #[.pointer (some ⟨bx,0,none⟩),.int .i64 (lo:Int),.int .i64 ((lo:Int)+(m:Int))] | 2=>vv=.pointer (some ⟨W0.heap.size,0,none⟩) | 3=>vv=.pointer (some ⟨W0.heap.size,0,none⟩) | 4=>vv=.pointer (some ⟨W0.heap.size,1,none⟩) | 5=>vv=.slice (some ⟨g6,o6,none⟩) n c8 | 6=>vv=.pointer (some ⟨g6,o6,none⟩) | 7=>vv=.pointer (some ⟨bu,0,none⟩) | 8=>vv=.pointer (some ⟨bu,0,none⟩) | 9=>vv=.pointer (some ⟨bu,2,none⟩) | 10=>vv=.agg #[.int .i64 (lo:Int),.int .i64 ((lo:Int)+(m:Int)),.slice (some ⟨gu,0,none⟩) ((m+1) * (m+1)) ((m+1) * (m+1))] | 11=>vv=.agg #[.int .i64 t.kind,.int .u64 (Oc.U t.w0),.int .u64 (Oc.U t.w1),.int .u64 (Oc.U t.w2),.int .u64 (Oc.U t.w3),.slice p n cap,.int .i64 t.num,.int .i64 t.least,.int .i64 t.most,.bool t.bare] | 12=>PsRsV lo m (last+1) RF w3.heap.size ww vv | 13=>vv=.pointer (some ⟨W0.heap.size,0,none⟩) | 14=>vv=.pointer (some ⟨W0.heap.size,5,none⟩) | _=>True) (fun vv ww=>∃ gr V9,w3.heap.size ≤ gr∧RsAt ww gr (last+1) lo m V9 RF∧(∀ d,d < last+1→∃ g,V9 d=some g∧w3.heap.size ≤ g)∧ww.heap[W0.heap.size]? = some (.cells #[.int .i64 t.kind,.slice (some ⟨g6,o6,none⟩) n c8,.int .i64 0,.int .i64 0,.slice none 0 0,.slice (some ⟨gr,0,none⟩) (last+1) (last+1),.int .i64 t.least,.bool false] 130)∧Touch [W0.heap.size] w3 ww) (fun kk ww vv w8 h hb=>by
       match kk,h with
       | 0,h=>exact h
       | 1,h=>exact h
       | 2,h=>exact h
       | 3,h=>exact h
       | 4,h=>exact h
       | 5,h=>exact h
       | 6,h=>exact h
       | 7,h=>exact h
       | 8,h=>exact h
       | 9,h=>exact h
       | 10,h=>exact h
       | 11,h=>exact h
       | 12,h=>exact h.below hb
       | 13,h=>exact h
       | 14,h=>exact h
       | _+15,_=>trivial) ?_ ?_ ?_
 · intro i hi9 L v w9 xa hF9 hL hd hv ho
   obtain ⟨hb,hk⟩:=hF9
   have hi':i=0 ∨ i=1 ∨ i=2 ∨ i=3 ∨ i=4 ∨ i=5 ∨ i=6 ∨ i=7 ∨ i=8 ∨ i=9 ∨ i=10 ∨ i=11 ∨ i=12 ∨ i=13 ∨ i=14:=by omega
   rcases hi' with rfl | rfl | rfl | rfl | rfl | rfl | rfl | rfl | rfl | rfl | rfl | rfl | rfl | rfl | rfl
   · have e5:xa.tmps.getD 5 undef=.pointer (some ⟨W0.heap.size,0,none⟩):=ho 5 (by kernel_rfl)
     refine Ri.step_plain rfl rfl (fun K' hK'=>?_)
     go_simp
     exact hK' _ _ ⟨_,_,rfl,rfl,(Below.refl _ _),rfl⟩
   · have e2:xa.tmps.getD 2 undef=.pointer (some ⟨w.heap.size,0,none⟩):=ho 2 (by kernel_rfl)
     refine Ri.step_plain rfl rfl (fun K' hK'=>?_)
     refine wp_load_row _ _ rfl _ e2 _ _ _ _ (keep_blk hb X0.out) Tryd.underlying166 rfl (by kernel_rfl) ?_
     exact hK' _ _ ⟨_,_,rfl,rfl,Below.refl _ _,rfl⟩
   · have e5:xa.tmps.getD 5 undef=.pointer (some ⟨W0.heap.size,0,none⟩):=ho 5 (by kernel_rfl)
     refine Ri.step_plain rfl rfl (fun K' hK'=>?_)
     go_simp
     exact hK' _ _ ⟨_,_,rfl,rfl,(Below.refl _ _),rfl⟩
   · have j2:L 2=true:=by have:=hd _ rfl;simp [Region.binds] at this;simp [this]
     have f2:=(hv 2 38 rfl j2).trans (hk 2 j2)
     refine Ri.step_plain rfl rfl (fun K' hK'=>?_)
     go_simp
     exact hK' _ _ ⟨_,_,rfl,rfl,(Below.refl _ _),rfl⟩
   · have j3:L 3=true:=by have:=hd _ rfl;simp [Region.binds] at this;simp [this]
     have f3:=(hv 3 39 rfl j3).trans (hk 3 j3)
     refine Ri.step_plain rfl rfl (fun K' hK'=>?_)
     go_simp
     exact hK' _ _ ⟨_,_,rfl,rfl,(Below.refl _ _),rfl⟩
   · have j4:L 4=true:=by have:=hd _ rfl;simp [Region.binds] at this;simp [this]
     have f4:=(hv 4 40 rfl j4).trans (hk 4 j4)
     refine Ri.step_plain rfl rfl (fun K' hK'=>?_)
     obtain ⟨d0,d1,d2,d3,d4,d5,d6,d7,-⟩:=tk8 (keep_blk hb YM3.out)
     go_simp
     exact hK' _ _ ⟨_,_,rfl,rfl,(Below.refl _ _),rfl⟩
   · have j5:L 5=true:=by have:=hd _ rfl;simp [Region.binds] at this;simp [this]
     have f5:=(hv 5 41 rfl j5).trans (hk 5 j5)
     refine Ri.step_plain rfl rfl (fun K' hK'=>?_)
     have hn1:0 < n:=HN1.out
     go_simp
     exact hK' _ _ ⟨_,_,rfl,rfl,(Below.refl _ _),rfl⟩
   · have j6:L 6=true:=by have:=hd _ rfl;simp [Region.binds] at this;simp [this]
     have f6:=(hv 6 42 rfl j6).trans (hk 6 j6)
     refine Ri.step_plain rfl rfl (fun K' hK'=>?_)
     have q6:=HQ6.out w9 hb
     go_simp
     exact hK' _ _ ⟨_,_,rfl,rfl,(Below.refl _ _),rfl⟩
   · have j7:L 7=true:=by have:=hd _ rfl;simp [Region.binds] at this;simp [this]
     have f7:=(hv 7 43 rfl j7).trans (hk 7 j7)
     refine Ri.step_plain rfl rfl (fun K' hK'=>?_)
     go_simp
     exact hK' _ _ ⟨_,_,rfl,rfl,(Below.refl _ _),rfl⟩
   · have j8:L 8=true:=by have:=hd _ rfl;simp [Region.binds] at this;simp [this]
     have f8:=(hv 8 44 rfl j8).trans (hk 8 j8)
     refine Ri.step_plain rfl rfl (fun K' hK'=>?_)
     go_simp
     exact hK' _ _ ⟨_,_,rfl,rfl,(Below.refl _ _),rfl⟩
   · have j9:L 9=true:=by have:=hd _ rfl;simp [Region.binds] at this;simp [this]
     have f9:=(hv 9 45 rfl j9).trans (hk 9 j9)
     refine Ri.step_plain rfl rfl (fun K' hK'=>?_)
     obtain ⟨d0,d1,d2,d3,d4,d5,d6,d7,-⟩:=tk8 (keep_blk hb YU.out)
     go_simp
     exact hK' _ _ ⟨_,_,rfl,rfl,(Below.refl _ _),rfl⟩
   · have e3:xa.tmps.getD 3 undef=.pointer (some ⟨w.heap.size+1,0,none⟩):=ho 3 (by kernel_rfl)
     refine Ri.step_plain rfl rfl (fun K' hK'=>?_)
     refine wp_load_row _ _ rfl _ e3 _ _ _ _ (keep_blk hb X1.out) Tryd.underlying37 rfl (by kernel_rfl) ?_
     exact hK' _ _ ⟨_,_,rfl,rfl,Below.refl _ _,rfl⟩
   · obtain ⟨j1,j10,j11⟩:L 1=true∧L 10=true∧L 11=true:=by have:=hd _ rfl;simp [Region.binds] at this;simp [this]
     have f1:=(hv 1 37 rfl j1).trans (hk 1 j1)
     have f10:=(hv 10 46 rfl j10).trans (hk 10 j10)
     have f11:=(hv 11 47 rfl j11).trans (hk 11 j11)
     refine Ri.step_plain rfl rfl (fun K' hK'=>?_)
     go_simp
     refine (HRD.out w9 hb).mono ?_
     rintro e w8 ⟨gr,V9,rfl,hgr,hrs8,hV8,hb8⟩
     exact hK' _ _ ⟨_,_,rfl,rfl,hb8,⟨gr,V9,rfl,Nat.le_trans hb.size hgr,hrs8,fun d hd=>(hV8 d hd).imp fun g hg=>⟨hg.1,Nat.le_trans hb.size hg.2⟩⟩⟩
   · have j0:L 0=true:=by have:=hd _ rfl;simp [Region.binds] at this;simp [this]
     have f0:=(hv 0 36 rfl j0).trans (hk 0 j0)
     refine Ri.step_plain rfl rfl (fun K' hK'=>?_)
     go_simp
     exact hK' _ _ ⟨_,_,rfl,rfl,(Below.refl _ _),rfl⟩
   · have j13:L 13=true:=by have:=hd _ rfl;simp [Region.binds] at this;simp [this]
     have f13:=(hv 13 49 rfl j13).trans (hk 13 j13)
     refine Ri.step_plain rfl rfl (fun K' hK'=>?_)
     go_simp
     exact hK' _ _ ⟨_,_,rfl,rfl,(Below.refl _ _),rfl⟩
 · intro L v w9 xa hF9 hall hv ho
   obtain ⟨hb,hk⟩:=hF9
   have f0:=(hv 0 36 rfl (hall 0 (by omega))).trans (hk 0 (hall 0 (by omega)))
   have f1:=(hv 1 37 rfl (hall 1 (by omega))).trans (hk 1 (hall 1 (by omega)))
   have f2:=(hv 2 38 rfl (hall 2 (by omega))).trans (hk 2 (hall 2 (by omega)))
   have f3:=(hv 3 39 rfl (hall 3 (by omega))).trans (hk 3 (hall 3 (by omega)))
   have f4:=(hv 4 40 rfl (hall 4 (by omega))).trans (hk 4 (hall 4 (by omega)))
   have f5:=(hv 5 41 rfl (hall 5 (by omega))).trans (hk 5 (hall 5 (by omega)))
   have f6:=(hv 6 42 rfl (hall 6 (by omega))).trans (hk 6 (hall 6 (by omega)))
   have f7:=(hv 7 43 rfl (hall 7 (by omega))).trans (hk 7 (hall 7 (by omega)))
   have f8:=(hv 8 44 rfl (hall 8 (by omega))).trans (hk 8 (hall 8 (by omega)))
   have f9:=(hv 9 45 rfl (hall 9 (by omega))).trans (hk 9 (hall 9 (by omega)))
   have f10:=(hv 10 46 rfl (hall 10 (by omega))).trans (hk 10 (hall 10 (by omega)))
   have f11:=(hv 11 47 rfl (hall 11 (by omega))).trans (hk 11 (hall 11 (by omega)))
   have k12:PsRsV lo m (last+1) RF w3.heap.size w9 (v 12):=hk 12 (hall 12 (by omega))
   have f12:=hv 12 48 rfl (hall 12 (by omega))
   have f13:=(hv 13 49 rfl (hall 13 (by omega))).trans (hk 13 (hall 13 (by omega)))
   have f14:=(hv 14 50 rfl (hall 14 (by omega))).trans (hk 14 (hall 14 (by omega)))
   refine Ri.step_plain rfl rfl (fun K' hK'=>?_)
   obtain ⟨gr,V9,e8,hgr,hrs8,hV8⟩:=k12
   replace f12:=f12.trans e8
   clear e8
   obtain ⟨d0,d1,d2,d3,d4,d5,d6,d7,u2,u3,u4,u5,u7⟩:=tk8 (keep_blk hb YM3.out)
   go_simp
   exact hK' _ _ ⟨_,undef,rfl,rfl,⟨gr,V9,hgr,hrs8.keep (setCell_other (by have:=HG3.out;omega)) (fun d g hd hg=>setCell_other (by obtain ⟨g9,e9,h9⟩:=hV8 d hd;rw [hg] at e9;injection e9 with e9;have:=HG3.out;omega)),hV8,by simp [World.setCell,Array.getElem?_modify,keep_blk hb YM3.out],(Touch.of_below [W0.heap.size] hb).setCells (b:=W0.heap.size) (by simp) 5 [.slice (some ⟨gr,0,none⟩) (last+1) (last+1)]⟩⟩
 · intro v w9 hfin
   obtain ⟨gr,V9,hgr,hrs8,hV8,hrow8,hto8⟩:=hfin
   simp only [Ri.frame,List.zipIdx,List.foldl_cons,List.foldl_nil,if_true,List.setIfInBounds_toArray,List.set_cons_zero,List.set_cons_succ,Nat.reduceAdd]
   generalize v 0=z0;generalize v 1=z1;generalize v 2=z2;generalize v 3=z3;generalize v 4=z4;generalize v 5=z5;generalize v 6=z6;generalize v 7=z7;generalize v 8=z8;generalize v 9=z9;generalize v 10=z10;generalize v 11=z11;generalize v 12=z12;generalize v 13=z13;generalize v 14=z14
   have YM8:=Lib.hid hrow8
   have HB8:=Lib.hid (HB3.out.trans (hto8.below (B:=w.heap.size) (by intro i hi;have:=HG3.out;simp at hi;omega) HB3.out.size))
   have X08:=Lib.hid (blk_touch X0.out hto8 (by have:=HG3.out;omega));have X18:=Lib.hid (blk_touch X1.out hto8 (by have:=HG3.out;omega))
   have YU8:=Lib.hid (blk_touch YU.out hto8 (by have:=HG2.out;omega));have TU8:=Lib.hid (TU.out.touch hto8 (by have:=HG2.out;omega))
   have TS8:=Lib.hid (TS3.out.keep (w':=w9) fun k hk hBk=>hto8.block k hk (by have:=HG2.out;simp;omega))
   have HC68:=Lib.hid (cell_touch HC6.out hto8 (by have:=HG6.out;have:=HG2.out;simp;omega))
   have RS8:=Lib.hid hrs8;have HV8:=Lib.hid hV8;have HGR:=Lib.hid (show w3.heap.size ≤ gr from hgr);have HS8:=Lib.hid hto8.size
   obtain ⟨g0,hV0,hg0⟩:=hV8 0 (by omega)
   have HV0:=Lib.hid hV0;have HG0:=Lib.hid hg0
   have T0:=Lib.hid (hrs8.2 0 g0 (by omega) hV0).1
   obtain ⟨c0,c1,c2,-⟩:=hrs8.cells (d:=0) (by omega) hV0
   simp only [Nat.zero_mul,Nat.zero_add] at c0 c1 c2
   obtain ⟨d0,d1,d2,d3,d4,d5,d6,d7,u2,u3,u4,u5,u7⟩:=tk8 YM8.out
   have hl1:(0:Int) < (last:Int)+1:=by omega
   clear hrs8 hV8 hgr hrow8 hto8 hV0 hg0 YM3 HB3 X0 X1 YU TU TS3 HQ6 HRD
   go_upto_region 9 with (fail)
   clear c0 c1 c2 d0 d1 d2 d3 d4 d5 d6 d7 u2 u3 u4 u5 u7
   have hrow:((((w9.setCell ⟨W0.heap.size,2,none⟩ (.int .i64 (lo:Int))).setCell ⟨W0.heap.size,3,none⟩ (.int .i64 ((lo:Int)+(m:Int)))).setCell ⟨W0.heap.size,4,none⟩ (.slice (some ⟨g0,0,none⟩) ((m+1) * (m+1)) ((m+1) * (m+1))))).heap[W0.heap.size]? = some (.cells #[.int .i64 t.kind,.slice (some ⟨g6,o6,none⟩) n c8,.int .i64 (lo:Int),.int .i64 ((lo:Int)+(m:Int)),.slice (some ⟨g0,0,none⟩) ((m+1) * (m+1)) ((m+1) * (m+1)),.slice (some ⟨gr,0,none⟩) (last+1) (last+1),.int .i64 t.least,.bool false] 130):=by simp [World.setCell,Array.getElem?_modify,YM8.out]
   have hto:Touch [W0.heap.size] w9 ((((w9.setCell ⟨W0.heap.size,2,none⟩ (.int .i64 (lo:Int))).setCell ⟨W0.heap.size,3,none⟩ (.int .i64 ((lo:Int)+(m:Int)))).setCell ⟨W0.heap.size,4,none⟩ (.slice (some ⟨g0,0,none⟩) ((m+1) * (m+1)) ((m+1) * (m+1))))):=(Touch.of_below [W0.heap.size] (Below.refl w9.heap.size w9)).setCells (b:=W0.heap.size) (by simp) 2 [.int .i64 (lo:Int),.int .i64 ((lo:Int)+(m:Int)),.slice (some ⟨g0,0,none⟩) ((m+1) * (m+1)) ((m+1) * (m+1))]
   generalize (((w9.setCell ⟨W0.heap.size,2,none⟩ (.int .i64 (lo:Int))).setCell ⟨W0.heap.size,3,none⟩ (.int .i64 ((lo:Int)+(m:Int)))).setCell ⟨W0.heap.size,4,none⟩ (.slice (some ⟨g0,0,none⟩) ((m+1) * (m+1)) ((m+1) * (m+1))))=w10 at *
   have YM10:=Lib.hid hrow
   have HB10:=Lib.hid (HB8.out.trans (hto.below (B:=w.heap.size) (by intro i hi;have:=HG3.out;simp at hi;omega) HB8.out.size))
   have X010:=Lib.hid (blk_touch X08.out hto (by have:=HG3.out;omega));have X110:=Lib.hid (blk_touch X18.out hto (by have:=HG3.out;omega))
   have YU10:=Lib.hid (blk_touch YU8.out hto (by have:=HG2.out;omega));have TU10:=Lib.hid (TU8.out.touch hto (by have:=HG2.out;omega))
   have TS10:=Lib.hid (TS8.out.keep (w':=w10) fun k hk hBk=>hto.block k hk (by have:=HG2.out;simp;omega))
   have HC610:=Lib.hid (cell_touch HC68.out hto (by have:=HG6.out;have:=HG2.out;simp;omega))
   have T10:=Lib.hid (T0.out.touch hto (by have:=HG0.out;have:=HG3.out;omega))
   have RS10:=Lib.hid (RS8.out.keep (hto.block _ RS8.out.lt (by have:=HGR.out;have:=HG3.out;simp;omega)) fun d g hd hg=>hto.block _ (RS8.out.2 d g hd hg).1.lt (by obtain ⟨g9,e9,h9⟩:=HV8.out d hd;rw [hg] at e9;injection e9 with e9;have:=HG3.out;simp;omega))
   clear hrow hto YM8 HB8 X08 X18 YU8 TU8 TS8 T0 RS8
   have hk8:t.tkSubs=t.subs:=by unfold Tr.tkSubs;rw [if_neg (fun h=>H0.out h.2)]
   have hm8:t.mustI=t.least:=by unfold Tr.mustI;rw [if_neg (by rw [HK.out];decide),if_pos HK.out]
   have hLN:Ps.lastN t.least t.most=last:=by
     unfold Ps.lastN
     rcases HLST.out with ⟨h,e⟩ | h
     · rw [if_pos h,HLE.out,e];rfl
     · rw [if_neg (by rw [h];omega),h];rfl
   have hR8:t.restN=last+1:=by unfold Tr.restN;rw [if_neg (by rw [HK.out];decide),if_pos HK.out,if_neg H0.out,hLN]
   have hT8:t.restT x=RF:=by
     rw [HRF.out];funext d;unfold Tr.restT Ps.rep
     rw [if_neg (by rw [HK.out];decide),if_neg H0.out,hLN,HLE.out,HSUB.out,Tr.wyHead];rfl
   have hRF0:Ps.rep (Tr.wyHead x t.subs) t.least t.most 0=RF 0:=by
     rw [← hT8];unfold Tr.restT;rw [if_neg (by rw [HK.out];decide),if_neg H0.out]
   obtain ⟨n0,n1,n2,n3,n4,n5,n6,n7,n8,n9⟩:=allTen X110.out
   have hwz:w.heap.size ≤ w1.heap.size:=by have:=HG2.out;have:=HG3.out;omega
   have HTS10:=Lib.hid (show TkrsAt x lo m w10 (fun k=>w.heap.size ≤ k) (.slice (some ⟨g6,o6,none⟩) n c8) t.subs from TS10.out.wider fun k hk=>Nat.le_trans hwz hk)
   by_cases hA:t.least=0∧t.bare=false
   · have e7:(t.least == 0)=true:=by simp [hA.1]
     have hbr:t.bare=false:=hA.2
     have HA:=Lib.hid hA
     clear hA
     obtain ⟨d0,d1,d2,d3,d4,d5,d6,d7,u2,u3,u4,u5,u7⟩:=tk8 YM10.out
     go_upto_region 11 with (fail)
     clear d0 d1 d2 d3 d4 d5 d6 d7 u2 u3 u4 u5 u7 n0 n1 n2 n3 n4 n5 n6 n7 n8 n9 e7 hbr
     have hrow:(w10.setCell ⟨W0.heap.size,7,none⟩ (.bool true)).heap[W0.heap.size]? = some (.cells #[.int .i64 t.kind,.slice (some ⟨g6,o6,none⟩) n c8,.int .i64 (lo:Int),.int .i64 ((lo:Int)+(m:Int)),.slice (some ⟨g0,0,none⟩) ((m+1) * (m+1)) ((m+1) * (m+1)),.slice (some ⟨gr,0,none⟩) (last+1) (last+1),.int .i64 t.least,.bool true] 130):=by simp [World.setCell,Array.getElem?_modify,YM10.out]
     have hto:Touch [W0.heap.size] w10 (w10.setCell ⟨W0.heap.size,7,none⟩ (.bool true)):=(Touch.of_below [W0.heap.size] (Below.refl w10.heap.size w10)).setCells (b:=W0.heap.size) (by simp) 7 [.bool true]
     generalize w10.setCell ⟨W0.heap.size,7,none⟩ (.bool true)=w11 at *
     have YM11:=Lib.hid hrow
     have HB11:=Lib.hid (HB10.out.trans (hto.below (B:=w.heap.size) (by intro i hi;have:=HG3.out;simp at hi;omega) HB10.out.size))
     have X011:=Lib.hid (blk_touch X010.out hto (by have:=HG3.out;omega))
     have YU11:=Lib.hid (blk_touch YU10.out hto (by have:=HG2.out;omega));have TU11:=Lib.hid (TU10.out.touch hto (by have:=HG2.out;omega))
     have TS11:=Lib.hid (TS10.out.keep (w':=w11) fun k hk hBk=>hto.block k hk (by have:=HG2.out;simp;omega))
     have HC611:=Lib.hid (cell_touch HC610.out hto (by have:=HG6.out;have:=HG2.out;simp;omega))
     have T11:=Lib.hid (T10.out.touch hto (by have:=HG0.out;have:=HG3.out;omega))
     have RS11:=Lib.hid (RS10.out.keep (hto.block _ RS10.out.lt (by have:=HGR.out;have:=HG3.out;simp;omega)) fun d g hd hg=>hto.block _ (RS10.out.2 d g hd hg).1.lt (by obtain ⟨g9,e9,h9⟩:=HV8.out d hd;rw [hg] at e9;injection e9 with e9;have:=HG3.out;simp;omega))
     clear hrow hto YM10 HB10 X010 X110 YU10 TU10 TS10 T10 RS10 HTS10
     go_wp2_with (first
       | (refine wpList_load_row rfl 166 (.tmp 2) rfl (w.heap.size) rfl 166 _ (0,0) _ X011.out Tryd.underlying166 rfl (by kernel_rfl) ?_)
       | fail)
     refine (pstable_any _ lo m hlo w11).mono ?_
     rintro e w12 ⟨gw,rfl,hgw,htw,hb12⟩
     unfold Ps.tabV
     have HNW:=Lib.hid (show g0 ≠ gw∧gu ≠ gw from by have:=T11.out.lt;have:=TU11.out.lt;omega)
     have HNB:=Lib.hid (show W0.heap.size ≠ gw∧bu ≠ gw∧gr ≠ gw∧g6 ≠ gw∧w.heap.size ≤ gw from by
       have:=(Array.getElem?_eq_some_iff.1 YM11.out).1;have:=(Array.getElem?_eq_some_iff.1 YU11.out).1;have:=RS11.out.lt;have:g6 < w11.heap.size:=block_lt_of_cell HC611.out;have:=HG3.out;exact ⟨by omega,by omega,by omega,by omega,by omega⟩)
     have HRL:=Lib.hid (show ∀ d g,d < last+1→V9 d=some g→g ≠ gw from fun d g hd hg=>by have:=(RS11.out.2 d g hd hg).1.lt;omega)
     have HGW:=Lib.hid (show w11.heap.size ≤ gw from hgw)
     have HB12:=Lib.hid hb12;have TW12:=Lib.hid htw
     clear hgw htw hb12
     obtain ⟨d0,d1,d2,d3,d4,d5,d6,d7,u2,u3,u4,u5,u7⟩:=tk8 (keep_blk HB12.out YM11.out)
     go_upto_region 12 with (fail)
     clear d0 d1 d2 d3 d4 d5 d6 d7 u2 u3 u4 u5 u7
     have hrow:((((w12.setCell ⟨W0.heap.size,2,none⟩ (.int .i64 (lo:Int))).setCell ⟨W0.heap.size,3,none⟩ (.int .i64 ((lo:Int)+(m:Int)))).setCell ⟨W0.heap.size,4,none⟩ (.slice (some ⟨gw,0,none⟩) ((m+1) * (m+1)) ((m+1) * (m+1))))).heap[W0.heap.size]? = some (.cells #[.int .i64 t.kind,.slice (some ⟨g6,o6,none⟩) n c8,.int .i64 (lo:Int),.int .i64 ((lo:Int)+(m:Int)),.slice (some ⟨gw,0,none⟩) ((m+1) * (m+1)) ((m+1) * (m+1)),.slice (some ⟨gr,0,none⟩) (last+1) (last+1),.int .i64 t.least,.bool true] 130):=by simp [World.setCell,Array.getElem?_modify,keep_blk HB12.out YM11.out]
     have hto:Touch [W0.heap.size] w12 ((((w12.setCell ⟨W0.heap.size,2,none⟩ (.int .i64 (lo:Int))).setCell ⟨W0.heap.size,3,none⟩ (.int .i64 ((lo:Int)+(m:Int)))).setCell ⟨W0.heap.size,4,none⟩ (.slice (some ⟨gw,0,none⟩) ((m+1) * (m+1)) ((m+1) * (m+1))))):=(Touch.of_below [W0.heap.size] (Below.refl w12.heap.size w12)).setCells (b:=W0.heap.size) (by simp) 2 [.int .i64 (lo:Int),.int .i64 ((lo:Int)+(m:Int)),.slice (some ⟨gw,0,none⟩) ((m+1) * (m+1)) ((m+1) * (m+1))]
     generalize (((w12.setCell ⟨W0.heap.size,2,none⟩ (.int .i64 (lo:Int))).setCell ⟨W0.heap.size,3,none⟩ (.int .i64 ((lo:Int)+(m:Int)))).setCell ⟨W0.heap.size,4,none⟩ (.slice (some ⟨gw,0,none⟩) ((m+1) * (m+1)) ((m+1) * (m+1))))=w13 at *
     have hto3:Touch [W0.heap.size] w11 w13:=(Touch.of_below [W0.heap.size] HB12.out).trans hto
     have YM13:=Lib.hid hrow
     have HB13:=Lib.hid (HB11.out.trans (hto3.below (B:=w.heap.size) (by intro i hi;have:=HG3.out;simp at hi;omega) HB11.out.size))
     have YU13:=Lib.hid (blk_touch YU11.out hto3 (by have:=HG2.out;omega));have TU13:=Lib.hid (TU11.out.touch hto3 (by have:=HG2.out;omega))
     have TS13:=Lib.hid (TS11.out.within.keep (w':=w13) fun k hk hBk=>hto3.block k hk (by have:=hBk.1;have:=HG2.out;simp;omega))
     have HC613:=Lib.hid (cell_touch HC611.out hto3 (by have:=HG6.out;have:=HG2.out;simp;omega))
     have T13:=Lib.hid (T11.out.touch hto3 (by have:=HG0.out;have:=HG3.out;omega))
     have RS13:=Lib.hid (RS11.out.keep (hto3.block _ RS11.out.lt (by have:=HGR.out;have:=HG3.out;simp;omega)) fun d g hd hg=>hto3.block _ (RS11.out.2 d g hd hg).1.lt (by obtain ⟨g9,e9,h9⟩:=HV8.out d hd;rw [hg] at e9;injection e9 with e9;have:=HG3.out;simp;omega))
     have TW13:=Lib.hid (show TabAtP w13 gw m (Ps.rel lo Ps.none') from by rw [Ps.rel_none];exact TW12.out.touch hto (fun e=>HNB.out.1 e.symm))
     have HAF:=Lib.hid (show ∀ c d,c ≤ m→Ps.aF (Ps.rel lo Ps.none') (Ps.rel lo (RF 0)) (m+1) 0 c d=Ps.rel lo (RF 0) c d from fun c d hc=>by
       rw [Ps.aF_rel Ps.upper_none (by rw [← hRF0];exact Ps.upper_rep _ _ _ _) hc]
       congr 1
       funext i j
       simp [Ps.alt,Ps.none'])
     clear hrow hto hto3 YM11 HB11 X011 YU11 TU11 TS11 T11 RS11 HC611 TW12 HB12
     go_wp2_with fail
     refine Ri.wp_region_late (by kernel_rfl) (by kernel_rfl) (by kernel_rfl) (by kernel_rfl) 10 (by kernel_rfl) (by kernel_rfl) (fun kk ww vv=>match kk with | 0=>vv=.pointer (some ⟨W0.heap.size,0,none⟩) | 1=>vv=.pointer (some ⟨W0.heap.size,0,none⟩) | 2=>vv=.pointer (some ⟨W0.heap.size,2,none⟩) | 3=>vv=.agg #[.int .i64 (lo:Int),.int .i64 ((lo:Int)+(m:Int)),.slice (some ⟨gw,0,none⟩) ((m+1) * (m+1)) ((m+1) * (m+1))] | 4=>vv=.pointer (some ⟨W0.heap.size,0,none⟩) | 5=>vv=.pointer (some ⟨W0.heap.size,0,none⟩) | 6=>vv=.pointer (some ⟨W0.heap.size,5,none⟩) | 7=>vv=.slice (some ⟨gr,0,none⟩) (last+1) (last+1) | 8=>vv=.pointer (some ⟨gr,0,none⟩) | 9=>vv=.agg #[.int .i64 (lo:Int),.int .i64 ((lo:Int)+(m:Int)),.slice (some ⟨g0,0,none⟩) ((m+1) * (m+1)) ((m+1) * (m+1))] | _=>True) (fun vv ww=>TabAtP ww gw m (Ps.rel lo (RF 0))∧Touch [gw] w13 ww) (fun kk ww vv w8 h hb=>by
               match kk,h with
               | 0,h=>exact h
               | 1,h=>exact h
               | 2,h=>exact h
               | 3,h=>exact h
               | 4,h=>exact h
               | 5,h=>exact h
               | 6,h=>exact h
               | 7,h=>exact h
               | 8,h=>exact h
               | 9,h=>exact h
               | _+10,_=>trivial) ?_ ?_ ?_
     · intro i hi9 L v w9 xa hF9 hL hd hv ho
       obtain ⟨hb,hk⟩:=hF9
       have hi':i=0 ∨ i=1 ∨ i=2 ∨ i=3 ∨ i=4 ∨ i=5 ∨ i=6 ∨ i=7 ∨ i=8 ∨ i=9:=by omega
       rcases hi' with rfl | rfl | rfl | rfl | rfl | rfl | rfl | rfl | rfl | rfl
       · have e5:xa.tmps.getD 5 undef=.pointer (some ⟨W0.heap.size,0,none⟩):=ho 5 (by kernel_rfl)
         refine Ri.step_plain rfl rfl (fun K' hK'=>?_)
         go_simp
         exact hK' _ _ ⟨_,_,rfl,rfl,(Below.refl _ _),rfl⟩
       · have j0:L 0=true:=by have:=hd _ rfl;simp [Region.binds] at this;simp [this]
         have f0:=(hv 0 76 rfl j0).trans (hk 0 j0)
         refine Ri.step_plain rfl rfl (fun K' hK'=>?_)
         go_simp
         exact hK' _ _ ⟨_,_,rfl,rfl,(Below.refl _ _),rfl⟩
       · have j1:L 1=true:=by have:=hd _ rfl;simp [Region.binds] at this;simp [this]
         have f1:=(hv 1 77 rfl j1).trans (hk 1 j1)
         refine Ri.step_plain rfl rfl (fun K' hK'=>?_)
         go_simp
         exact hK' _ _ ⟨_,_,rfl,rfl,(Below.refl _ _),rfl⟩
       · have j2:L 2=true:=by have:=hd _ rfl;simp [Region.binds] at this;simp [this]
         have f2:=(hv 2 78 rfl j2).trans (hk 2 j2)
         refine Ri.step_plain rfl rfl (fun K' hK'=>?_)
         obtain ⟨d0,d1,d2,d3,d4,d5,d6,d7,-⟩:=tk8 (keep_blk hb YM13.out)
         go_simp
         exact hK' _ _ ⟨_,_,rfl,rfl,(Below.refl _ _),rfl⟩
       · have e5:xa.tmps.getD 5 undef=.pointer (some ⟨W0.heap.size,0,none⟩):=ho 5 (by kernel_rfl)
         refine Ri.step_plain rfl rfl (fun K' hK'=>?_)
         go_simp
         exact hK' _ _ ⟨_,_,rfl,rfl,(Below.refl _ _),rfl⟩
       · have j4:L 4=true:=by have:=hd _ rfl;simp [Region.binds] at this;simp [this]
         have f4:=(hv 4 80 rfl j4).trans (hk 4 j4)
         refine Ri.step_plain rfl rfl (fun K' hK'=>?_)
         go_simp
         exact hK' _ _ ⟨_,_,rfl,rfl,(Below.refl _ _),rfl⟩
       · have j5:L 5=true:=by have:=hd _ rfl;simp [Region.binds] at this;simp [this]
         have f5:=(hv 5 81 rfl j5).trans (hk 5 j5)
         refine Ri.step_plain rfl rfl (fun K' hK'=>?_)
         go_simp
         exact hK' _ _ ⟨_,_,rfl,rfl,(Below.refl _ _),rfl⟩
       · have j6:L 6=true:=by have:=hd _ rfl;simp [Region.binds] at this;simp [this]
         have f6:=(hv 6 82 rfl j6).trans (hk 6 j6)
         refine Ri.step_plain rfl rfl (fun K' hK'=>?_)
         obtain ⟨d0,d1,d2,d3,d4,d5,d6,d7,-⟩:=tk8 (keep_blk hb YM13.out)
         go_simp
         exact hK' _ _ ⟨_,_,rfl,rfl,(Below.refl _ _),rfl⟩
       · have j7:L 7=true:=by have:=hd _ rfl;simp [Region.binds] at this;simp [this]
         have f7:=(hv 7 83 rfl j7).trans (hk 7 j7)
         refine Ri.step_plain rfl rfl (fun K' hK'=>?_)
         have hl1:(0:Int) < (last:Int)+1:=by omega
         go_simp
         exact hK' _ _ ⟨_,_,rfl,rfl,(Below.refl _ _),rfl⟩
       · have j8:L 8=true:=by have:=hd _ rfl;simp [Region.binds] at this;simp [this]
         have f8:=(hv 8 84 rfl j8).trans (hk 8 j8)
         refine Ri.step_plain rfl rfl (fun K' hK'=>?_)
         obtain ⟨c0,c1,c2,-⟩:=(RS13.out.later hb).cells (d:=0) (by omega) HV0.out
         simp only [Nat.zero_mul,Nat.zero_add] at c0 c1 c2
         go_simp
         exact hK' _ _ ⟨_,_,rfl,rfl,(Below.refl _ _),rfl⟩
     · intro L v w9 xa hF9 hall hv ho
       obtain ⟨hb,hk⟩:=hF9
       have f0:=(hv 0 76 rfl (hall 0 (by omega))).trans (hk 0 (hall 0 (by omega)))
       have f1:=(hv 1 77 rfl (hall 1 (by omega))).trans (hk 1 (hall 1 (by omega)))
       have f2:=(hv 2 78 rfl (hall 2 (by omega))).trans (hk 2 (hall 2 (by omega)))
       have f3:=(hv 3 79 rfl (hall 3 (by omega))).trans (hk 3 (hall 3 (by omega)))
       have f4:=(hv 4 80 rfl (hall 4 (by omega))).trans (hk 4 (hall 4 (by omega)))
       have f5:=(hv 5 81 rfl (hall 5 (by omega))).trans (hk 5 (hall 5 (by omega)))
       have f6:=(hv 6 82 rfl (hall 6 (by omega))).trans (hk 6 (hall 6 (by omega)))
       have f7:=(hv 7 83 rfl (hall 7 (by omega))).trans (hk 7 (hall 7 (by omega)))
       have f8:=(hv 8 84 rfl (hall 8 (by omega))).trans (hk 8 (hall 8 (by omega)))
       have f9:=(hv 9 85 rfl (hall 9 (by omega))).trans (hk 9 (hall 9 (by omega)))
       refine Ri.step_plain rfl rfl (fun K' hK'=>?_)
       go_simp
       refine (psaddAll_any gw g0 lo m hlo (Ps.rel lo Ps.none') (Ps.rel lo (RF 0)) (Ps.rel_low _ _) (Ps.rel_low _ _) HNW.out.1 w9 (TW13.out.later hb) (T13.out.later hb)).mono ?_
       rintro e w8 ⟨rfl,ht8,ho8⟩
       exact hK' _ _ ⟨_,_,rfl,rfl,⟨(ht8.same fun c d hc _=>(HAF.out c d hc).symm),(Touch.of_below [gw] hb).trans ho8⟩⟩
     · intro v w9 hfin
       obtain ⟨hta8,hto8⟩:=hfin
       simp only [Ri.frame,List.zipIdx,List.foldl_cons,List.foldl_nil,if_true,List.setIfInBounds_toArray,List.set_cons_zero,List.set_cons_succ,Nat.reduceAdd]
       generalize v 0=z0;generalize v 1=z1;generalize v 2=z2;generalize v 3=z3;generalize v 4=z4;generalize v 5=z5;generalize v 6=z6;generalize v 7=z7;generalize v 8=z8;generalize v 9=z9;generalize v 10=z10
       have TW14:=Lib.hid hta8
       have YM14:=Lib.hid (blk_touch YM13.out hto8 HNB.out.1)
       have HB14:=Lib.hid (HB13.out.trans (hto8.below (B:=w.heap.size) (by intro i hi;have:=HNB.out;simp at hi;omega) HB13.out.size))
       have YU14:=Lib.hid (blk_touch YU13.out hto8 HNB.out.2.1);have TU14:=Lib.hid (TU13.out.touch hto8 HNW.out.2)
       have TS14:=Lib.hid (TS13.out.keep (w':=w9) fun k hk hBk=>hto8.block k hk (by have:=hBk.2;have:=HGW.out;simp;omega))
       have HC614:=Lib.hid (cell_touch HC613.out hto8 (by have:=HNB.out;simp;omega))
       have RS14:=Lib.hid (RS13.out.keep (hto8.block _ RS13.out.lt (by have:=HNB.out;simp;omega)) fun d g hd hg=>hto8.block _ (RS13.out.2 d g hd hg).1.lt (by have:=HRL.out d g hd hg;simpa using this))
       clear hta8 hto8 YM13 HB13 YU13 TU13 TS13 T13 RS13 HC613 TW13
       generalize w9=w14 at *
       have HQ14:=Lib.hid (show ∀ w9,Below w14.heap.size w14 w9→w9.cell? ⟨g6,o6,none⟩=some (.pointer (some ⟨bu,0,none⟩)) from fun w9 hb=>cell_touch HC614.out (Touch.of_below [] hb) (by simp))
       go_wp2_with fail
       refine Ri.wp_region_late (by kernel_rfl) (by kernel_rfl) (by kernel_rfl) (by kernel_rfl) 13 (by kernel_rfl) (by kernel_rfl) (fun kk ww vv=>match kk with | 0=>vv=.pointer (some ⟨W0.heap.size,0,none⟩) | 1=>vv=.pointer (some ⟨W0.heap.size,0,none⟩) | 2=>vv=.pointer (some ⟨W0.heap.size,2,none⟩) | 3=>vv=.agg #[.int .i64 (lo:Int),.int .i64 ((lo:Int)+(m:Int)),.slice (some ⟨gw,0,none⟩) ((m+1) * (m+1)) ((m+1) * (m+1))] | 4=>vv=.pointer (some ⟨W0.heap.size,0,none⟩) | 5=>vv=.pointer (some ⟨W0.heap.size,0,none⟩) | 6=>vv=.pointer (some ⟨W0.heap.size,1,none⟩) | 7=>vv=.slice (some ⟨g6,o6,none⟩) n c8 | 8=>vv=.pointer (some ⟨g6,o6,none⟩) | 9=>vv=.pointer (some ⟨bu,0,none⟩) | 10=>vv=.pointer (some ⟨bu,0,none⟩) | 11=>vv=.pointer (some ⟨bu,2,none⟩) | 12=>vv=.agg #[.int .i64 (lo:Int),.int .i64 ((lo:Int)+(m:Int)),.slice (some ⟨gu,0,none⟩) ((m+1) * (m+1)) ((m+1) * (m+1))] | _=>True) (fun vv ww=>TabAtP ww gw m (Ps.rel lo (Ps.alt (RF 0) (Ps.emptyOf (u.wy x))))∧Touch [gw] w14 ww) (fun kk ww vv w8 h hb=>by
                   match kk,h with
                   | 0,h=>exact h
                   | 1,h=>exact h
                   | 2,h=>exact h
                   | 3,h=>exact h
                   | 4,h=>exact h
                   | 5,h=>exact h
                   | 6,h=>exact h
                   | 7,h=>exact h
                   | 8,h=>exact h
                   | 9,h=>exact h
                   | 10,h=>exact h
                   | 11,h=>exact h
                   | 12,h=>exact h
                   | _+13,_=>trivial) ?_ ?_ ?_
       · intro i hi9 L v w9 xa hF9 hL hd hv ho
         obtain ⟨hb,hk⟩:=hF9
         have hi':i=0 ∨ i=1 ∨ i=2 ∨ i=3 ∨ i=4 ∨ i=5 ∨ i=6 ∨ i=7 ∨ i=8 ∨ i=9 ∨ i=10 ∨ i=11 ∨ i=12:=by omega
         rcases hi' with rfl | rfl | rfl | rfl | rfl | rfl | rfl | rfl | rfl | rfl | rfl | rfl | rfl
         · have e5:xa.tmps.getD 5 undef=.pointer (some ⟨W0.heap.size,0,none⟩):=ho 5 (by kernel_rfl)
           refine Ri.step_plain rfl rfl (fun K' hK'=>?_)
           go_simp
           exact hK' _ _ ⟨_,_,rfl,rfl,(Below.refl _ _),rfl⟩
         · have j0:L 0=true:=by have:=hd _ rfl;simp [Region.binds] at this;simp [this]
           have f0:=(hv 0 87 rfl j0).trans (hk 0 j0)
           refine Ri.step_plain rfl rfl (fun K' hK'=>?_)
           go_simp
           exact hK' _ _ ⟨_,_,rfl,rfl,(Below.refl _ _),rfl⟩
         · have j1:L 1=true:=by have:=hd _ rfl;simp [Region.binds] at this;simp [this]
           have f1:=(hv 1 88 rfl j1).trans (hk 1 j1)
           refine Ri.step_plain rfl rfl (fun K' hK'=>?_)
           go_simp
           exact hK' _ _ ⟨_,_,rfl,rfl,(Below.refl _ _),rfl⟩
         · have j2:L 2=true:=by have:=hd _ rfl;simp [Region.binds] at this;simp [this]
           have f2:=(hv 2 89 rfl j2).trans (hk 2 j2)
           refine Ri.step_plain rfl rfl (fun K' hK'=>?_)
           obtain ⟨d0,d1,d2,d3,d4,d5,d6,d7,-⟩:=tk8 (keep_blk hb YM14.out)
           go_simp
           exact hK' _ _ ⟨_,_,rfl,rfl,(Below.refl _ _),rfl⟩
         · have e5:xa.tmps.getD 5 undef=.pointer (some ⟨W0.heap.size,0,none⟩):=ho 5 (by kernel_rfl)
           refine Ri.step_plain rfl rfl (fun K' hK'=>?_)
           go_simp
           exact hK' _ _ ⟨_,_,rfl,rfl,(Below.refl _ _),rfl⟩
         · have j4:L 4=true:=by have:=hd _ rfl;simp [Region.binds] at this;simp [this]
           have f4:=(hv 4 91 rfl j4).trans (hk 4 j4)
           refine Ri.step_plain rfl rfl (fun K' hK'=>?_)
           go_simp
           exact hK' _ _ ⟨_,_,rfl,rfl,(Below.refl _ _),rfl⟩
         · have j5:L 5=true:=by have:=hd _ rfl;simp [Region.binds] at this;simp [this]
           have f5:=(hv 5 92 rfl j5).trans (hk 5 j5)
           refine Ri.step_plain rfl rfl (fun K' hK'=>?_)
           go_simp
           exact hK' _ _ ⟨_,_,rfl,rfl,(Below.refl _ _),rfl⟩
         · have j6:L 6=true:=by have:=hd _ rfl;simp [Region.binds] at this;simp [this]
           have f6:=(hv 6 93 rfl j6).trans (hk 6 j6)
           refine Ri.step_plain rfl rfl (fun K' hK'=>?_)
           obtain ⟨d0,d1,d2,d3,d4,d5,d6,d7,-⟩:=tk8 (keep_blk hb YM14.out)
           go_simp
           exact hK' _ _ ⟨_,_,rfl,rfl,(Below.refl _ _),rfl⟩
         · have j7:L 7=true:=by have:=hd _ rfl;simp [Region.binds] at this;simp [this]
           have f7:=(hv 7 94 rfl j7).trans (hk 7 j7)
           refine Ri.step_plain rfl rfl (fun K' hK'=>?_)
           have hn1:0 < n:=HN1.out
           go_simp
           exact hK' _ _ ⟨_,_,rfl,rfl,(Below.refl _ _),rfl⟩
         · have j8:L 8=true:=by have:=hd _ rfl;simp [Region.binds] at this;simp [this]
           have f8:=(hv 8 95 rfl j8).trans (hk 8 j8)
           refine Ri.step_plain rfl rfl (fun K' hK'=>?_)
           have q6:=HQ14.out w9 hb
           go_simp
           exact hK' _ _ ⟨_,_,rfl,rfl,(Below.refl _ _),rfl⟩
         · have j9:L 9=true:=by have:=hd _ rfl;simp [Region.binds] at this;simp [this]
           have f9:=(hv 9 96 rfl j9).trans (hk 9 j9)
           refine Ri.step_plain rfl rfl (fun K' hK'=>?_)
           go_simp
           exact hK' _ _ ⟨_,_,rfl,rfl,(Below.refl _ _),rfl⟩
         · have j10:L 10=true:=by have:=hd _ rfl;simp [Region.binds] at this;simp [this]
           have f10:=(hv 10 97 rfl j10).trans (hk 10 j10)
           refine Ri.step_plain rfl rfl (fun K' hK'=>?_)
           go_simp
           exact hK' _ _ ⟨_,_,rfl,rfl,(Below.refl _ _),rfl⟩
         · have j11:L 11=true:=by have:=hd _ rfl;simp [Region.binds] at this;simp [this]
           have f11:=(hv 11 98 rfl j11).trans (hk 11 j11)
           refine Ri.step_plain rfl rfl (fun K' hK'=>?_)
           obtain ⟨d0,d1,d2,d3,d4,d5,d6,d7,-⟩:=tk8 (keep_blk hb YU14.out)
           go_simp
           exact hK' _ _ ⟨_,_,rfl,rfl,(Below.refl _ _),rfl⟩
       · intro L v w9 xa hF9 hall hv ho
         obtain ⟨hb,hk⟩:=hF9
         have f0:=(hv 0 87 rfl (hall 0 (by omega))).trans (hk 0 (hall 0 (by omega)))
         have f1:=(hv 1 88 rfl (hall 1 (by omega))).trans (hk 1 (hall 1 (by omega)))
         have f2:=(hv 2 89 rfl (hall 2 (by omega))).trans (hk 2 (hall 2 (by omega)))
         have f3:=(hv 3 90 rfl (hall 3 (by omega))).trans (hk 3 (hall 3 (by omega)))
         have f4:=(hv 4 91 rfl (hall 4 (by omega))).trans (hk 4 (hall 4 (by omega)))
         have f5:=(hv 5 92 rfl (hall 5 (by omega))).trans (hk 5 (hall 5 (by omega)))
         have f6:=(hv 6 93 rfl (hall 6 (by omega))).trans (hk 6 (hall 6 (by omega)))
         have f7:=(hv 7 94 rfl (hall 7 (by omega))).trans (hk 7 (hall 7 (by omega)))
         have f8:=(hv 8 95 rfl (hall 8 (by omega))).trans (hk 8 (hall 8 (by omega)))
         have f9:=(hv 9 96 rfl (hall 9 (by omega))).trans (hk 9 (hall 9 (by omega)))
         have f10:=(hv 10 97 rfl (hall 10 (by omega))).trans (hk 10 (hall 10 (by omega)))
         have f11:=(hv 11 98 rfl (hall 11 (by omega))).trans (hk 11 (hall 11 (by omega)))
         have f12:=(hv 12 99 rfl (hall 12 (by omega))).trans (hk 12 (hall 12 (by omega)))
         refine Ri.step_plain rfl rfl (fun K' hK'=>?_)
         go_simp
         refine (psaddEmpty_any gw gu lo m hlo (Ps.rel lo (RF 0)) (Ps.rel lo (u.wy x)) (Ps.rel_low _ _) (Ps.rel_low _ _) HNW.out.2 w9 (TW14.out.later hb) (TU14.out.later hb)).mono ?_
         rintro e w8 ⟨rfl,ht8,ho8⟩
         exact hK' _ _ ⟨_,_,rfl,rfl,⟨(ht8.same fun c d hc _=>(Ps.eF_rel hc).symm),(Touch.of_below [gw] hb).trans ho8⟩⟩
       · intro v w9 hfin
         obtain ⟨hta9,hto9⟩:=hfin
         simp only [Ri.frame,List.zipIdx,List.foldl_cons,List.foldl_nil,if_true,List.setIfInBounds_toArray,List.set_cons_zero,List.set_cons_succ,Nat.reduceAdd]
         generalize v 0=z0;generalize v 1=z1;generalize v 2=z2;generalize v 3=z3;generalize v 4=z4;generalize v 5=z5;generalize v 6=z6;generalize v 7=z7;generalize v 8=z8;generalize v 9=z9;generalize v 10=z10;generalize v 11=z11;generalize v 12=z12;generalize v 13=z13
         have TW15:=Lib.hid hta9
         have YM15:=Lib.hid (blk_touch YM14.out hto9 HNB.out.1)
         have HB15:=Lib.hid (HB14.out.trans (hto9.below (B:=w.heap.size) (by intro i hi;have:=HNB.out;simp at hi;omega) HB14.out.size))
         have TS15:=TS14.out.keep (w':=w9) fun k hk hBk=>hto9.block k hk (by have:=hBk.2;have:=HGW.out;simp;omega)
         have RS15:=Lib.hid (RS14.out.keep (hto9.block _ RS14.out.lt (by have:=HNB.out;simp;omega)) fun d g hd hg=>hto9.block _ (RS14.out.2 d g hd hg).1.lt (by have:=HRL.out d g hd hg;simpa using this))
         have ha8:t.aloneB=true:=by unfold Tr.aloneB;rw [decide_eq_true HK.out,decide_eq_false H0.out,decide_eq_true HA.out.1,HA.out.2];rfl
         have hW8:t.wy x=Ps.alt (RF 0) (Ps.emptyOf (u.wy x)):=by
           rw [← hRF0,Tr.wy_eq,HK.out]
           simp [H0.out,HA.out.1,HA.out.2,HSUB.out,Tr.wyHead]
         have TS16:=TS15.wider (B':=fun k=>w.heap.size ≤ k) fun k hk=>Nat.le_trans hwz hk.1
         obtain ⟨pq,cq,S9,eq9,hp10,hs10⟩:=TS16
         injection eq9 with eq1 eq2 eq3
         subst eq1 eq3
         clear hta9 hto9 TS15
         go_wp2
         go_ret
         refine ⟨W0.heap.size,rfl,.mk W0.heap.size t (some ⟨g6,o6,none⟩) c8 gw (.slice (some ⟨gr,0,none⟩) (last+1) (last+1)) S9 HG3.out.2.2.2 HNB.out.2.2.2.2 ?_ ?_ (.inr ⟨gr,V9,by rw [hR8],(by have:=HGR.out;have:=HG3.out;omega), ?_, ?_⟩) ?_ ?_,HB15.out⟩
         · unfold tkC;rw [hk8,HN.out,hm8,ha8];exact YM15.out
         · rw [hW8];exact TW15.out
         · rw [hR8,hT8];exact RS15.out
         · rw [hR8];exact fun d hd=>(HV8.out d hd).imp fun g hg=>⟨hg.1,by have:=hg.2;have:=HG3.out;omega⟩
         · rw [hk8];exact hp10
         · rw [hk8];exact hs10
   · have ha8:t.aloneB=false:=by
       unfold Tr.aloneB
       cases hb:t.bare with
       | true=>simp
       | false=>rw [decide_eq_false (show ¬ t.least=0 from fun h=>hA ⟨h,hb⟩)];simp
     have hW8:t.wy x=RF 0:=by rw [← hRF0,Tr.wy_eq,HK.out];simp [H0.out,hA]
     obtain ⟨pq,cq,S8,eq9,hp10,hs10⟩:=HTS10.out
     injection eq9 with eq1 eq2 eq3
     subst eq1 eq3
     by_cases hz:t.least=0
     · have e7:(t.least == 0)=true:=by simp [hz]
       have hbr:t.bare=true:=by cases hb:t.bare with
         | true=>rfl
         | false=>exact absurd ⟨hz,hb⟩ hA
       clear hz hA
       go_wp2
       go_ret
       refine ⟨W0.heap.size,rfl,.mk W0.heap.size t (some ⟨g6,o6,none⟩) c8 g0 (.slice (some ⟨gr,0,none⟩) (last+1) (last+1)) S8 HG3.out.2.2.2 (by have:=HG0.out;have:=HG3.out;omega) ?_ ?_ (.inr ⟨gr,V9,by rw [hR8],(by have:=HGR.out;have:=HG3.out;omega), ?_, ?_⟩) ?_ ?_,HB10.out⟩
       · unfold tkC;rw [hk8,HN.out,hm8,ha8];exact YM10.out
       · rw [hW8];exact T10.out
       · rw [hR8,hT8];exact RS10.out
       · rw [hR8];exact fun d hd=>(HV8.out d hd).imp fun g hg=>⟨hg.1,by have:=hg.2;have:=HG3.out;omega⟩
       · rw [hk8];exact hp10
       · rw [hk8];exact hs10
     · have e7:(t.least == 0)=false:=by simp [hz]
       clear hz hA
       go_wp2
       go_ret
       refine ⟨W0.heap.size,rfl,.mk W0.heap.size t (some ⟨g6,o6,none⟩) c8 g0 (.slice (some ⟨gr,0,none⟩) (last+1) (last+1)) S8 HG3.out.2.2.2 (by have:=HG0.out;have:=HG3.out;omega) ?_ ?_ (.inr ⟨gr,V9,by rw [hR8],(by have:=HGR.out;have:=HG3.out;omega), ?_, ?_⟩) ?_ ?_,HB10.out⟩
       · unfold tkC;rw [hk8,HN.out,hm8,ha8];exact YM10.out
       · rw [hW8];exact T10.out
       · rw [hR8,hT8];exact RS10.out
       · rw [hR8];exact fun d hd=>(HV8.out d hd).imp fun g hg=>⟨hg.1,by have:=hg.2;have:=HG3.out;omega⟩
       · rw [hk8];exact hp10
       · rw [hk8];exact hs10
end Go.Proofs.YtedjkbmfpjmlpaaDoor
namespace Go.Proofs.YtedjkbmfpjmlpaaDoor
open Go.RowKit
namespace Tr
def leaf (k:Int):Tr:=.node k 0#64 0#64 0#64 0#64 [] 0 0 0 false
def bytes (P:Nat→Bool):Tr:=.node 2 (Oc.mk P 0) (Oc.mk P 1) (Oc.mk P 2) (Oc.mk P 3) [] 0 0 0 false
def many (k:Int) (l:List Tr):Tr:=.node k 0#64 0#64 0#64 0#64 l 0 0 0 false
def grp (n:Int) (t:Tr):Tr:=.node 7 0#64 0#64 0#64 0#64 [t] n 0 0 false
def rep (lo hi:Int) (t:Tr):Tr:=.node 8 0#64 0#64 0#64 0#64 [t] 0 lo hi false
def several (k:Int):List Tr→Tr
 | []=>leaf 1
 | [t]=>t
 | l=>many k l
end Tr
theorem u0:Oc.U 0#64=0:=by decide
abbrev noNode:Array Value:=#[.int .i64 0,.int .u64 0,.int .u64 0,.int .u64 0,.int .u64 0,.slice none 0 0,.int .i64 0,.int .i64 0,.int .i64 0,.bool false]
theorem joined_many (k:Int) (ts:List Tr) (h2:2 ≤ ts.length) (x:Tr) (w:World) (B:Nat→Prop) (v:Value) (hs:TreesAt w B v ts) :
   Calls Tryd.prog 60 #[.int .i64 k,v,.agg (x.cells (.slice none 0 0))] w (OwnEnd (.many k ts) w):=by
 obtain ⟨p,cap,rfl,hlen⟩:=hs.slice
 have e0:((ts.length:Int) == 0)=false:=by rw [beq_eq_false_iff_ne];omega
 have e1:((ts.length:Int) == 1)=false:=by rw [beq_eq_false_iff_ne];omega
 have HC:=Lib.hid (fun w9 (hb:Below w.heap.size w w9)=>copies_any ts w9 B _ (hs.later hb))
 unfold Tr.cells
 clear hs
 go_enter Tryd.func60,Tryd.ntmps60
 go_wp2_with fail
 generalize hw1:World.alloc (World.alloc w _) _=w1
 have hb1:Below w.heap.size w w1:=by rw [← hw1];go_grown
 have hs1:w1.heap.size=w.heap.size+2:=by rw [← hw1];simp
 have Z1:=Lib.hid (show w1.heap[w.heap.size+1]? = some (.cells noNode 37) by rw [← hw1];exact (two_new w _ _).2)
 have HB1:=Lib.hid hb1
 clear hw1 hb1
 refine (HC.out w1 HB1.out).mono ?_
 rintro e w2 ⟨s2,F,rfl,ho,hF,hb2⟩
 obtain ⟨p2,c2,rfl,hl2⟩:=ho.slice
 have HO:=Lib.hid ho;have HF:=Lib.hid hF
 have Y1:=Lib.hid (keep_blk hb2 Z1.out)
 have HB2:=Lib.hid (HB1.out.trans (hb2.mono HB1.out.size))
 clear ho hF hb2
 go_wp2_with (first
   | (refine wpList_store_row rfl 37 (.tmp 6) (.tmp 21) rfl (w.heap.size+1) #[.int .i64 k,.int .u64 0,.int .u64 0,.int .u64 0,.int .u64 0,.slice p2 ts.length c2,.int .i64 0,.int .i64 0,.int .i64 0,.bool false] rfl rfl 37 _ Y1.out (by kernel_rfl) rfl (by simp [Value.oneCell']) ?_)
   | fail)
 refine bodyPost_ret (results_cell_row rfl _ _ (w.heap.size+1) 37 #[.int .i64 k,.int .u64 0,.int .u64 0,.int .u64 0,.int .u64 0,.slice p2 ts.length c2,.int .i64 0,.int .i64 0,.int .i64 0,.bool false] (0,0) _ rfl (heap_setRow Y1.out) Tryd.underlying37 rfl (by kernel_rfl)) rfl ⟨.slice p2 ts.length c2,F,rfl, ?_, ?_, ?_⟩
 · exact HO.out.keep fun b hb=>by have:=HF.out b hb;rw [heap_setRow_other _ _ _ (by omega)]
 · intro b hb;have:=HF.out b hb;omega
 · exact below_setRow HB2.out (Nat.le_succ _) _
theorem joined_one (k:Int) (t x:Tr) (w:World) (B:Nat→Prop) (v:Value) (hs:TreesAt w B v [t]) :
   Calls Tryd.prog 60 #[.int .i64 k,v,.agg (x.cells (.slice none 0 0))] w (OwnEnd t w):=by
 obtain ⟨p,cap,rfl,hlen⟩:=hs.slice
 have hs:TreesAt w B (.slice p 1 cap) [t]:=hs
 obtain ⟨b1,o1,s1,rfl,-,t1,sub1⟩:=hs.get (i:=0) (t:=t) rfl
 have t1':TenAt w b1 o1 t s1:=by simpa using t1
 have HC:=Lib.hid (fun w9 (hb:Below w.heap.size w w9)=>copy_any t w9 B _ ⟨s1,rfl,sub1.later hb⟩)
 have hb0:Below w.heap.size w ((w.alloc (.cells (x.cells (.slice none 0 0)) 37)).alloc (.cells noNode 37)):=by go_grown
 have T1:=Lib.hid (t1'.keep (hb0.block _ t1'.lt))
 have hz1:=(two_new w (.cells (x.cells (.slice none 0 0)) 37) (.cells noNode 37)).2
 have Z1:=Lib.hid hz1;have HB1:=Lib.hid hb0
 have hs1:((w.alloc (.cells (x.cells (.slice none 0 0)) 37)).alloc (.cells noNode 37)).heap.size=w.heap.size+2:=by simp
 unfold Tr.cells at *
 simp only [List.length_singleton]
 obtain ⟨d0,d1,d2,d3,d4,d5,d6,d7,d8,d9⟩:=T1.out
 clear hs t1 t1' sub1 hlen hb0 hz1 hs1
 go_enter Tryd.func60,Tryd.ntmps60
 go_wp2_with fail
 clear d0 d1 d2 d3 d4 d5 d6 d7 d8 d9
 refine (HC.out _ HB1.out).mono ?_
 rintro e w2 ⟨s2,F,rfl,ho,hF,hb2⟩
 obtain ⟨p2,c2,rfl,hl2⟩:=ho.slice
 have HO:=Lib.hid ho;have HF:=Lib.hid hF
 have Y1:=Lib.hid (keep_blk hb2 Z1.out)
 have HB2:=Lib.hid (HB1.out.trans (hb2.mono HB1.out.size))
 clear ho hF hb2 Z1 HB1
 go_wp2_with (first
   | (refine wpList_store_row rfl 37 (.tmp 6) (.tmp 17) rfl (w.heap.size+1) #[.int .i64 t.kind,.int .u64 (Oc.U t.w0),.int .u64 (Oc.U t.w1),.int .u64 (Oc.U t.w2),.int .u64 (Oc.U t.w3),.slice p2 t.subs.length c2,.int .i64 t.num,.int .i64 t.least,.int .i64 t.most,.bool t.bare] rfl rfl 37 _ Y1.out (by kernel_rfl) rfl (by simp [Value.oneCell']) ?_)
   | fail)
 refine bodyPost_ret (results_cell_row rfl _ _ (w.heap.size+1) 37 #[.int .i64 t.kind,.int .u64 (Oc.U t.w0),.int .u64 (Oc.U t.w1),.int .u64 (Oc.U t.w2),.int .u64 (Oc.U t.w3),.slice p2 t.subs.length c2,.int .i64 t.num,.int .i64 t.least,.int .i64 t.most,.bool t.bare] (0,0) _ rfl (heap_setRow Y1.out) Tryd.underlying37 rfl (by kernel_rfl)) rfl ⟨.slice p2 t.subs.length c2,F,rfl, ?_, ?_, ?_⟩
 · exact HO.out.keep fun b hb=>by have:=HF.out b hb;rw [heap_setRow_other _ _ _ (by simp at this;omega)]
 · intro b hb;have:=HF.out b hb;simp at this;omega
 · exact below_setRow HB2.out (Nat.le_succ _) _
theorem joined_nil (k:Int) (x:Tr) (w:World) (p:Option Addr) (cap:Nat) (hx:x.subs=[]) :
   Calls Tryd.prog 60 #[.int .i64 k,.slice p 0 cap,.agg (x.cells (.slice none 0 0))] w (OwnEnd x w):=by
 have z0:=(two_new w (.cells (x.cells (.slice none 0 0)) 37) (.cells noNode 37)).1
 have z1:=(two_new w (.cells (x.cells (.slice none 0 0)) 37) (.cells noNode 37)).2
 have Z0:=Lib.hid z0;have Z1:=Lib.hid z1;have HX:=Lib.hid hx
 clear z0 z1 hx
 unfold Tr.cells at *
 go_enter Tryd.func60,Tryd.ntmps60
 go_wp2_with (first
   | (refine wpList_load_row rfl 37 (.tmp 5) rfl w.heap.size rfl 37 _ (0,0) _ Z0.out Tryd.underlying37 rfl (by kernel_rfl) ?_)
   | (refine wpList_store_row rfl 37 (.tmp 6) (.tmp 11) rfl (w.heap.size+1) #[.int .i64 x.kind,.int .u64 (Oc.U x.w0),.int .u64 (Oc.U x.w1),.int .u64 (Oc.U x.w2),.int .u64 (Oc.U x.w3),.slice none 0 0,.int .i64 x.num,.int .i64 x.least,.int .i64 x.most,.bool x.bare] rfl rfl 37 _ Z1.out (by kernel_rfl) rfl (by simp [Value.oneCell']) ?_)
   | fail)
 refine bodyPost_ret (results_cell_row rfl _ _ (w.heap.size+1) 37 #[.int .i64 x.kind,.int .u64 (Oc.U x.w0),.int .u64 (Oc.U x.w1),.int .u64 (Oc.U x.w2),.int .u64 (Oc.U x.w3),.slice none 0 0,.int .i64 x.num,.int .i64 x.least,.int .i64 x.most,.bool x.bare] (0,0) _ rfl (heap_setRow Z1.out) Tryd.underlying37 rfl (by kernel_rfl)) rfl ⟨.slice none 0 0,[],rfl, ?_, ?_, ?_⟩
 · rw [HX.out];exact .nil _ _
 · intro b hb;cases hb
 · exact below_setRow (by go_grown) (Nat.le_succ _) _
theorem joined_any (k:Int) (ts:List Tr) (x:Tr) (hx:x.subs=[]) (w:World) (B:Nat→Prop) (v:Value) (hs:TreesAt w B v ts) (h0:ts=[]→x=.leaf 1) :
   Calls Tryd.prog 60 #[.int .i64 k,v,.agg (x.cells (.slice none 0 0))] w (OwnEnd (.several k ts) w):=by
 match ts,hs,h0 with
 | [],hs,h0 =>
   obtain ⟨p,cap,rfl,-⟩:=hs.slice
   obtain rfl:=h0 rfl
   exact joined_nil k _ w p cap rfl
 | [t],hs,_=>exact joined_one k t x w B v hs
 | a :: b :: r,hs,_=>exact joined_many k (a :: b :: r) (by simp) x w B v hs
theorem seq_any (ts:List Tr) (w:World) (B:Nat→Prop) (v:Value) (hs:TreesAt w B v ts):Calls Tryd.prog 25 #[v] w (OwnEnd (.several 5 ts) w):=by
 have HC:=Lib.hid (fun w9 (hb:Below w.heap.size w w9)=>joined_any 5 ts (.leaf 1) rfl w9 B _ (hs.later hb) (fun _=>rfl))
 obtain ⟨p,cap,rfl,hlen⟩:=hs.slice
 simp only [Tr.leaf,Tr.cells,Tr.kind,Tr.w0,Tr.w1,Tr.w2,Tr.w3,Tr.num,Tr.least,Tr.most,Tr.bare,u0] at HC
 clear hs
 go_enter Tryd.func25,Tryd.ntmps25
 go_wp2_with fail
 have z0:=heap_alloc_new w (.cells noNode 37)
 have Z0:=Lib.hid z0
 clear z0
 refine (HC.out _ ((Below.refl _ _).alloc (Nat.le_refl _) _)).mono ?_
 rintro e w2 ⟨s2,F,rfl,ho,hF,hb2⟩
 obtain ⟨p2,c2,rfl,hl2⟩:=ho.slice
 have HO:=Lib.hid ho;have HF:=Lib.hid hF
 have Y0:=Lib.hid (keep_blk hb2 Z0.out)
 have HB2:=Lib.hid (((Below.refl w.heap.size w).alloc (Nat.le_refl _) (.cells noNode 37)).trans (hb2.mono (by simp)))
 generalize Tr.several 5 ts=t at *
 clear ho hF hb2
 unfold Tr.cells
 go_wp2_with (first
   | (refine wpList_store_row rfl 37 (.tmp 2) (.tmp 5) rfl w.heap.size #[.int .i64 t.kind,.int .u64 (Oc.U t.w0),.int .u64 (Oc.U t.w1),.int .u64 (Oc.U t.w2),.int .u64 (Oc.U t.w3),.slice p2 t.subs.length c2,.int .i64 t.num,.int .i64 t.least,.int .i64 t.most,.bool t.bare] rfl rfl 37 _ Y0.out (by kernel_rfl) rfl (by simp [Value.oneCell']) ?_)
   | fail)
 refine bodyPost_ret (results_cell_row rfl _ _ w.heap.size 37 #[.int .i64 t.kind,.int .u64 (Oc.U t.w0),.int .u64 (Oc.U t.w1),.int .u64 (Oc.U t.w2),.int .u64 (Oc.U t.w3),.slice p2 t.subs.length c2,.int .i64 t.num,.int .i64 t.least,.int .i64 t.most,.bool t.bare] (0,0) _ rfl (heap_setRow Y0.out) Tryd.underlying37 rfl (by kernel_rfl)) rfl ⟨.slice p2 t.subs.length c2,F,rfl, ?_, ?_, ?_⟩
 · exact HO.out.keep fun b hb=>by have:=HF.out b hb;rw [heap_setRow_other _ _ _ (by simp at this;omega)]
 · intro b hb;have:=HF.out b hb;simp at this;omega
 · exact below_setRow HB2.out (Nat.le_refl _) _
theorem bytes_is (a b c d:BitVec 64) (w:World):Calls Tryd.prog 61 #[(.agg #[.int .u64 (Oc.U a),.int .u64 (Oc.U b),.int .u64 (Oc.U c),.int .u64 (Oc.U d)])] w fun e w'=>e=.returned (.agg #[.int .i64 2,.int .u64 (Oc.U a),.int .u64 (Oc.U b),.int .u64 (Oc.U c),.int .u64 (Oc.U d),.slice none 0 0,.int .i64 0,.int .i64 0,.int .i64 0,.bool false])∧Below w.heap.size w w':=by
 have z0:=(two_new w (.cells #[.int .u64 (Oc.U a),.int .u64 (Oc.U b),.int .u64 (Oc.U c),.int .u64 (Oc.U d)] 24) (.cells noNode 37)).1
 have z1:=(two_new w (.cells #[.int .u64 (Oc.U a),.int .u64 (Oc.U b),.int .u64 (Oc.U c),.int .u64 (Oc.U d)] 24) (.cells noNode 37)).2
 have Z0:=Lib.hid z0;have Z1:=Lib.hid z1
 clear z0 z1
 go_enter Tryd.func61,Tryd.ntmps61
 go_wp2_with (first
   | (refine wpList_load_row rfl 24 (.tmp 1) rfl w.heap.size rfl 24 _ (0,0) _ Z0.out Tryd.underlying24 rfl (by kernel_rfl) ?_)
   | (refine wpList_store_row rfl 37 (.tmp 2) (.tmp 4) rfl (w.heap.size+1) #[.int .i64 2,.int .u64 (Oc.U a),.int .u64 (Oc.U b),.int .u64 (Oc.U c),.int .u64 (Oc.U d),.slice none 0 0,.int .i64 0,.int .i64 0,.int .i64 0,.bool false] rfl rfl 37 _ Z1.out (by kernel_rfl) rfl (by simp [Value.oneCell']) ?_)
   | fail)
 exact bodyPost_ret (results_cell_row rfl _ _ (w.heap.size+1) 37 #[.int .i64 2,.int .u64 (Oc.U a),.int .u64 (Oc.U b),.int .u64 (Oc.U c),.int .u64 (Oc.U d),.slice none 0 0,.int .i64 0,.int .i64 0,.int .i64 0,.bool false] (0,0) _ rfl (heap_setRow Z1.out) Tryd.underlying37 rfl (by kernel_rfl)) rfl ⟨rfl,below_setRow (by go_grown) (Nat.le_succ _) _⟩
theorem bytes_any (P:Nat→Bool) (w:World):Calls Tryd.prog 61 #[(.agg #[.int .u64 (Oc.U (Oc.mk P 0)),.int .u64 (Oc.U (Oc.mk P 1)),.int .u64 (Oc.U (Oc.mk P 2)),.int .u64 (Oc.U (Oc.mk P 3))])] w (OwnEnd (.bytes P) w):=by
 refine (bytes_is _ _ _ _ w).mono ?_
 rintro e w' ⟨rfl,hb⟩
 exact ⟨.slice none 0 0,[],rfl,.nil _ _,fun b hb=>(by cases hb),hb⟩
theorem alt_any (ts:List Tr) (hne:ts ≠ []) (w:World) (B:Nat→Prop) (v:Value) (hs:TreesAt w B v ts):Calls Tryd.prog 24 #[v] w (OwnEnd (.several 6 ts) w):=by
 have HC:=Lib.hid (fun w9 (hb:Below w.heap.size w w9)=>joined_any 6 ts (.node 2 0#64 0#64 0#64 0#64 [] 0 0 0 false) rfl w9 B _ (hs.later hb) (fun h=>absurd h hne))
 have HY:=Lib.hid (fun w9=>bytes_is 0#64 0#64 0#64 0#64 w9)
 obtain ⟨p,cap,rfl,hlen⟩:=hs.slice
 simp only [Tr.cells,Tr.kind,Tr.w0,Tr.w1,Tr.w2,Tr.w3,Tr.num,Tr.least,Tr.most,Tr.bare,u0] at HC HY
 clear hs hne
 go_enter Tryd.func24,Tryd.ntmps24
 go_wp2_with fail
 have z0:=heap_alloc_new w (.cells noNode 37)
 refine (HY.out _).mono ?_
 rintro e w1 ⟨rfl,hb1⟩
 have Z0:=Lib.hid (keep_blk hb1 z0)
 have HB1:=Lib.hid (((Below.refl w.heap.size w).alloc (Nat.le_refl _) (.cells noNode 37)).trans (hb1.mono (by simp)))
 have hs1:w.heap.size < w1.heap.size:=by have:=hb1.size;simp at this;omega
 clear z0 hb1
 go_wp2_with fail
 refine (HC.out _ HB1.out).mono ?_
 rintro e w2 ⟨s2,F,rfl,ho,hF,hb2⟩
 obtain ⟨p2,c2,rfl,hl2⟩:=ho.slice
 have HO:=Lib.hid ho;have HF:=Lib.hid hF
 have Y0:=Lib.hid (keep_blk hb2 Z0.out)
 have HB2:=Lib.hid (HB1.out.trans (hb2.mono HB1.out.size))
 generalize Tr.several 6 ts=t at *
 clear ho hF hb2
 unfold Tr.cells
 go_wp2_with (first
   | (refine wpList_store_row rfl 37 (.tmp 2) (.tmp 6) rfl w.heap.size #[.int .i64 t.kind,.int .u64 (Oc.U t.w0),.int .u64 (Oc.U t.w1),.int .u64 (Oc.U t.w2),.int .u64 (Oc.U t.w3),.slice p2 t.subs.length c2,.int .i64 t.num,.int .i64 t.least,.int .i64 t.most,.bool t.bare] rfl rfl 37 _ Y0.out (by kernel_rfl) rfl (by simp [Value.oneCell']) ?_)
   | fail)
 refine bodyPost_ret (results_cell_row rfl _ _ w.heap.size 37 #[.int .i64 t.kind,.int .u64 (Oc.U t.w0),.int .u64 (Oc.U t.w1),.int .u64 (Oc.U t.w2),.int .u64 (Oc.U t.w3),.slice p2 t.subs.length c2,.int .i64 t.num,.int .i64 t.least,.int .i64 t.most,.bool t.bare] (0,0) _ rfl (heap_setRow Y0.out) Tryd.underlying37 rfl (by kernel_rfl)) rfl ⟨.slice p2 t.subs.length c2,F,rfl, ?_, ?_, ?_⟩
 · exact HO.out.keep fun b hb=>by have:=HF.out b hb;rw [heap_setRow_other _ _ _ (by omega)]
 · intro b hb;have:=HF.out b hb;omega
 · exact below_setRow HB2.out (Nat.le_refl _) _
theorem one_list {w:World} {B:Nat→Prop} {t:Tr} {s:Value} (hs:TreesAt w B s t.subs) (ty:TypeId) (g:Nat) (hg:w.heap.size=g):TreesAt (w.alloc (.cells (t.cells s) ty)) (fun b=>B b ∨ b=w.heap.size) (.slice (some ⟨g,0,none⟩) 1 1) [t]:=by
 subst hg
 have hb:Below w.heap.size w (w.alloc (.cells (t.cells s) ty)):=(Below.refl _ _).alloc (Nat.le_refl _) _
 have hc:∀ j,(w.alloc (.cells (t.cells s) ty)).cell? ⟨w.heap.size,j,none⟩=(t.cells s)[j]?:=cell_new w _ ty
 refine .mk (some ⟨w.heap.size,0,none⟩) 1 [t] (fun _=>s) (by simp) (fun i u hi=>?_) (fun i u hi=>?_)
 · match i,hi with
   | 0,hi =>
     obtain rfl:t=u:=Option.some.inj hi
     exact ⟨w.heap.size,0,rfl,.inr rfl,⟨hc 0,hc 1,hc 2,hc 3,hc 4,hc 5,hc 6,hc 7,hc 8,hc 9⟩⟩
 · match i,hi with
   | 0,hi =>
     obtain rfl:t=u:=Option.some.inj hi
     exact (hs.later hb).mono fun b _ h=>.inl h
theorem group_any (t:Tr) (n:Int) (w:World) (B:Nat→Prop) (v:Value) (hv:NodeV w B v t):Calls Tryd.prog 39 #[.int .i64 n,v] w (OwnEnd (.grp n t) w):=by
 obtain ⟨s,rfl,hs⟩:=hv
 obtain ⟨p,cap,rfl,hlen⟩:=hs.slice
 have hb1:Below w.heap.size w ((w.alloc (.cells (t.cells (.slice p t.subs.length cap)) 37)).alloc (.cells noNode 37)):=by go_grown
 have z0:=(two_new w (.cells (t.cells (.slice p t.subs.length cap)) 37) (.cells noNode 37)).1
 have z1:=(two_new w (.cells (t.cells (.slice p t.subs.length cap)) 37) (.cells noNode 37)).2
 have HC:=Lib.hid (copies_any [t] _ _ _ (one_list (hs.later hb1) 37 (w.heap.size+1+1) (by simp)))
 have HB1:=Lib.hid (hb1.alloc hb1.size (.cells (t.cells (.slice p t.subs.length cap)) 37))
 have Z0:=Lib.hid z0;have Z1:=Lib.hid (heap_alloc_lt (o:=.cells (t.cells (.slice p t.subs.length cap)) 37) z1)
 clear hs hb1 z0 z1
 unfold Tr.cells at *
 go_enter Tryd.func39,Tryd.ntmps39
 go_wp2_with (first
   | (refine wpList_load_row rfl 37 (.tmp 3) rfl w.heap.size rfl 37 _ (0,0) _ Z0.out Tryd.underlying37 rfl (by kernel_rfl) ?_)
   | (refine wpList_node1 rfl (.tmp 6) t p t.subs.length cap rfl rfl ?_)
   | fail)
 unfold Tr.cells
 refine HC.out.mono ?_
 rintro e w2 ⟨s2,F,rfl,ho,hF,hb2⟩
 obtain ⟨p2,c2,rfl,hl2⟩:=ho.slice
 have HO:=Lib.hid ho;have HF:=Lib.hid hF
 have Y1:=Lib.hid (keep_blk hb2 Z1.out)
 have HB2:=Lib.hid (HB1.out.trans (hb2.mono HB1.out.size))
 clear ho hF hb2 Z0 Z1 HB1
 simp only [List.length_singleton]
 go_wp2_with (first
   | (refine wpList_store_row rfl 37 (.tmp 4) (.tmp 9) rfl (w.heap.size+1) #[.int .i64 7,.int .u64 0,.int .u64 0,.int .u64 0,.int .u64 0,.slice p2 1 c2,.int .i64 n,.int .i64 0,.int .i64 0,.bool false] rfl rfl 37 _ Y1.out (by kernel_rfl) rfl (by simp [Value.oneCell']) ?_)
   | fail)
 refine bodyPost_ret (results_cell_row rfl _ _ (w.heap.size+1) 37 #[.int .i64 7,.int .u64 0,.int .u64 0,.int .u64 0,.int .u64 0,.slice p2 1 c2,.int .i64 n,.int .i64 0,.int .i64 0,.bool false] (0,0) _ rfl (heap_setRow Y1.out) Tryd.underlying37 rfl (by kernel_rfl)) rfl ⟨.slice p2 1 c2,F,rfl, ?_, ?_, ?_⟩
 · exact HO.out.keep fun b hb=>by have:=HF.out b hb;rw [heap_setRow_other _ _ _ (by simp at this;omega)]
 · intro b hb;have:=HF.out b hb;simp at this;omega
 · exact below_setRow HB2.out (Nat.le_succ _) _
theorem rep_any (t:Tr) (lo hi:Int) (w:World) (B:Nat→Prop) (v:Value) (hv:NodeV w B v t):Calls Tryd.prog 23 #[v,.int .i64 lo,.int .i64 hi] w (OwnEnd (.rep lo hi t) w):=by
 obtain ⟨s,rfl,hs⟩:=hv
 obtain ⟨p,cap,rfl,hlen⟩:=hs.slice
 have hb1:Below w.heap.size w ((w.alloc (.cells (t.cells (.slice p t.subs.length cap)) 37)).alloc (.cells noNode 37)):=by go_grown
 have z0:=(two_new w (.cells (t.cells (.slice p t.subs.length cap)) 37) (.cells noNode 37)).1
 have z1:=(two_new w (.cells (t.cells (.slice p t.subs.length cap)) 37) (.cells noNode 37)).2
 have HC:=Lib.hid (copies_any [t] _ _ _ (one_list (hs.later hb1) 37 (w.heap.size+1+1) (by simp)))
 have HB1:=Lib.hid (hb1.alloc hb1.size (.cells (t.cells (.slice p t.subs.length cap)) 37))
 have Z0:=Lib.hid z0;have Z1:=Lib.hid (heap_alloc_lt (o:=.cells (t.cells (.slice p t.subs.length cap)) 37) z1)
 clear hs hb1 z0 z1
 unfold Tr.cells at *
 go_enter Tryd.func23,Tryd.ntmps23
 go_wp2_with (first
   | (refine wpList_load_row rfl 37 (.tmp 3) rfl w.heap.size rfl 37 _ (0,0) _ Z0.out Tryd.underlying37 rfl (by kernel_rfl) ?_)
   | (refine wpList_node1 rfl (.tmp 9) t p t.subs.length cap rfl rfl ?_)
   | fail)
 unfold Tr.cells
 refine HC.out.mono ?_
 rintro e w2 ⟨s2,F,rfl,ho,hF,hb2⟩
 obtain ⟨p2,c2,rfl,hl2⟩:=ho.slice
 have HO:=Lib.hid ho;have HF:=Lib.hid hF
 have Y1:=Lib.hid (keep_blk hb2 Z1.out)
 have HB2:=Lib.hid (HB1.out.trans (hb2.mono HB1.out.size))
 clear ho hF hb2 Z0 Z1 HB1
 simp only [List.length_singleton]
 go_wp2_with (first
   | (refine wpList_store_row rfl 37 (.tmp 6) (.tmp 12) rfl (w.heap.size+1) #[.int .i64 8,.int .u64 0,.int .u64 0,.int .u64 0,.int .u64 0,.slice p2 1 c2,.int .i64 0,.int .i64 lo,.int .i64 hi,.bool false] rfl rfl 37 _ Y1.out (by kernel_rfl) rfl (by simp [Value.oneCell']) ?_)
   | fail)
 refine bodyPost_ret (results_cell_row rfl _ _ (w.heap.size+1) 37 #[.int .i64 8,.int .u64 0,.int .u64 0,.int .u64 0,.int .u64 0,.slice p2 1 c2,.int .i64 0,.int .i64 lo,.int .i64 hi,.bool false] (0,0) _ rfl (heap_setRow Y1.out) Tryd.underlying37 rfl (by kernel_rfl)) rfl ⟨.slice p2 1 c2,F,rfl, ?_, ?_, ?_⟩
 · exact HO.out.keep fun b hb=>by have:=HF.out b hb;rw [heap_setRow_other _ _ _ (by simp at this;omega)]
 · intro b hb;have:=HF.out b hb;simp at this;omega
 · exact below_setRow HB2.out (Nat.le_succ _) _
end Go.Proofs.YtedjkbmfpjmlpaaDoor
namespace Go.Proofs.YtedjkbmfpjmlpaaDoor
open Go.RowKit
namespace Tr
theorem InForm.rep {t:Tr} (h:t.InForm) (h8:t.kind=8):∃ x,t.subs=[x]∧x.InForm∧t.w0=0#64∧t.w1=0#64∧t.w2=0#64∧t.w3=0#64∧t.num=0∧0 ≤ t.least∧t.least ≤ 255∧(t.most = -1 ∨ (t.least ≤ t.most∧t.most ≤ 255))∧(t.bare=true→t.least=0):=by
 have hf:=h.fields
 unfold fieldsOk at hf
 rcases hf with h | h | h | h | ⟨-,a0,a1,a2,a3,hl,hn,h1,h2,h3,h4⟩
 · omega
 · omega
 · omega
 · omega
 · obtain ⟨x,hx⟩:=List.length_eq_one_iff.1 hl
   exact ⟨x,hx,h.sub (by rw [hx];exact List.mem_singleton.2 rfl),a0,a1,a2,a3,hn,h1,h2,h3,h4⟩
theorem sat_in {n:Nat} (h:sat n ≤ 2000):sat n=n∧n ≤ 2000:=by unfold sat at *;omega
theorem szS_le {l:List Tr} {t:Tr} (h:t ∈ l):szT t ≤ szS l:=by
 induction l with
 | nil=>cases h
 | cons u l ih =>
   rw [szS]
   rcases List.mem_cons.1 h with rfl | h
   · omega
   · have:=ih h;omega
theorem szT_node (t:Tr):t.szT=if t.kind=8 then repSz t.least t.most (szH t.subs) else sat (1+szS t.subs):=by cases t;rw [szT];rfl
theorem szT_pos:∀ t:Tr,t.InForm→1 ≤ t.szT:=by
 intro t
 induction t using Tr.rec_subs with
 | h t ih =>
   intro hf
   rw [szT_node]
   split
   · rename_i h8
     obtain ⟨x,hx,hxf,-⟩:=hf.rep h8
     have:=ih x (by rw [hx];exact List.mem_singleton.2 rfl) hxf
     rw [hx,szH]
     unfold repSz sat
     split
     · omega
     split
     · exact this
     split
     · omega
     split <;> omega
   · unfold sat;omega
end Tr
end Go.Proofs.YtedjkbmfpjmlpaaDoor
namespace Go.Proofs.YtedjkbmfpjmlpaaDoor
open Go.RowKit
inductive Tr.Thin:Tr→Prop
 | mk (t:Tr) (h:t.subs.length ≤ 100000) (hs:¬ (t.kind=8∧t.most=0)→∀ u,u ∈ t.subs→Tr.Thin u):Tr.Thin t
theorem Tr.thin_of:∀ {t:Tr},t.InForm→t.szT ≤ 2000→t.Thin:=by
 intro t
 induction t using Tr.rec_subs with
 | h t ih =>
   intro hf hz
   by_cases h8:t.kind=8
   · obtain ⟨x,hx,hxf,-,-,-,-,-,h1,h2,h3,-⟩:=hf.rep h8
     refine .mk t (by rw [hx];simp) ?_
     by_cases n0:t.most=0
     · exact fun h=>absurd ⟨h8,n0⟩ h
     intro _ u hu
     obtain rfl:u=x:=by rw [hx] at hu;exact List.mem_singleton.1 hu
     refine ih u hu hxf ?_
     rw [Tr.szT_node,if_pos h8,hx,Tr.szH] at hz
     unfold Tr.repSz at hz
     rw [if_neg n0] at hz
     by_cases n1:t.least=1∧t.most=1
     · rw [if_pos n1] at hz;exact hz
     rw [if_neg n1] at hz
     by_cases n2:t.least=0∧(t.most=1 ∨ t.most = -1)
     · rw [if_pos n2] at hz
       have:=(Tr.sat_in hz).2;omega
     rw [if_neg n2] at hz
     by_cases n3:t.most = -1
     · rw [if_pos n3] at hz
       have:=(Tr.sat_in hz).2;omega
     rw [if_neg n3] at hz
     have hle:=(Tr.sat_in hz).2
     by_cases hlo:t.least=0
     · have:1 * (1+u.szT) ≤ (t.most - t.least).toNat * (1+u.szT):=Nat.mul_le_mul_right _ (by omega)
       omega
     · have:1 * u.szT ≤ t.least.toNat * u.szT:=Nat.mul_le_mul_right _ (by omega)
       omega
   · rw [Tr.szT_node,if_neg h8] at hz
     have hle:=(Tr.sat_in hz).2
     have hlen:∀ l:List Tr,(∀ u,u ∈ l→u.InForm)→l.length ≤ Tr.szS l:=by
       intro l
       induction l with
       | nil=>intro _;simp
       | cons v l il =>
         intro h
         have a:=Tr.szT_pos v (h v List.mem_cons_self)
         have b:=il fun u hu=>h u (List.mem_cons_of_mem _ hu)
         rw [Tr.szS,List.length_cons];omega
     refine .mk t (by have:=hlen t.subs (fun u hu=>hf.sub hu);omega) (fun _ u hu=>ih u hu (hf.sub hu) (by have:=Tr.szS_le hu;omega))
theorem pstaker_any (x:Sc) (bx lo m:Nat) (hlo:lo+m ≤ 1000) (hn:lo+m ≤ x.t.size) (hbig:x.t.size ≤ 4611686018427387904) (t:Tr) (hf:t.InForm) (ht:t.Thin):TkDoes x bx lo m t:=by
 induction t using Tr.rec_subs with
 | h t ih =>
   have hlen:t.subs.length ≤ 100000:=by cases ht;assumption
   have hIH:¬ (t.kind=8∧t.most=0)→∀ u,u ∈ t.subs→TkDoes x bx lo m u:=fun hn u hu=>ih u hu (hf.sub hu) (by cases ht with | mk _ _ hs=>exact hs hn u hu)
   rcases hf.fields with ⟨hk,-,-,-,-,hs,-⟩ | ⟨hk,hs,-⟩ | ⟨hk,-⟩ | ⟨hk,-⟩ | ⟨hk,-,-,-,-,hs,-,h0,h255,hm,-⟩
   · rcases hk with hk | hk | hk
     · exact pstaker_k1 x bx lo m hlo hn hbig t hs hk
     · exact pstaker_k3 x bx lo m hlo hn hbig t hs hk
     · exact pstaker_k4 x bx lo m hlo hn hbig t hs hk
   · exact pstaker_k2 x bx lo m hlo hn hbig t hs hk
   · rcases hk with hk | hk
     · exact pstaker_k5 x bx lo m t hk (psinorder_any x bx lo m hlo t hk hlen (hIH (by rw [hk];simp)))
     · exact pstaker_k6 x bx lo m t hk (psoneof_any x bx lo m hlo t (.inl hk) hlen (hIH (by rw [hk];simp)))
   · exact pstaker_k7 x bx lo m t hk (psoneof_any x bx lo m hlo t (.inr hk) hlen (hIH (by rw [hk];simp)))
   · refine pstaker_k8 x bx lo m t hk ?_
     by_cases hz:t.most=0
     · exact psinrounds_zero x bx lo m hlo t hk hz
     · obtain ⟨u,hu⟩:∃ u,t.subs=[u]:=List.length_eq_one_iff.1 hs
       rcases hm with hm | ⟨h1,h2⟩
       · exact psinrounds_some x bx lo m hlo t u hk hz t.least.toNat t.least.toNat (by omega) (by omega) (.inl ⟨hm,rfl⟩) hu (hIH (fun h=>hz h.2) u (by rw [hu];exact List.mem_singleton.2 rfl))
       · exact psinrounds_some x bx lo m hlo t u hk hz t.least.toNat t.most.toNat (by omega) (by omega) (.inr (by omega)) hu (hIH (fun h=>hz h.2) u (by rw [hu];exact List.mem_singleton.2 rfl))
end Go.Proofs.YtedjkbmfpjmlpaaDoor
