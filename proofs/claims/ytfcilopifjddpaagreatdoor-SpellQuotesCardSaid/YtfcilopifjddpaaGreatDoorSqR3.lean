/- Part 3 of what these proofs need. -/
import Derived.Lib.CutLaws
import Derived.Lib.IndexLaws
import Derived.Test.YtfcilopifjddpaaGreatDoorSqR2
set_option maxRecDepth 100000
set_option maxHeartbeats 16000000
namespace Go.Proofs.YtfcilopifjddpaaGreatDoor
open Go.RowKit
structure Tidy (t:Tr):Prop where
 form:t.InForm
 deep:t.dpT ≤ 200
 size:t.szT ≤ 2000
 few:t.numsT.length ≤ 1000000
 nums:∀ i:Nat,i < t.numsT.length→t.numsT[i]? = some ((i:Int)+1)
 shape:t.shapeT=true
theorem tidy_yes (t:Tr) (ht:Tidy t) (w:World) (B:Nat→Prop) (v:Value) (hv:NodeV w B v t):Calls Tryz.prog 19 #[v] w fun e w'=>e=.returned (.bool true)∧Below w.heap.size w w':=by
 obtain ⟨s,rfl,hs⟩:=hv
 have H1:=Lib.hid (fun w' (hb:Below w.heap.size w w')=>check_any t ht.form ht.deep ht.size w' B (.agg (t.cells s)) ⟨s,rfl,TreesAt.later (w':=w') hs hb⟩)
 have H2:=Lib.hid (fun w' (hb:Below w.heap.size w w')=>isspellable_yes t ht.few ht.nums w' B (.agg (t.cells s)) ⟨s,rfl,TreesAt.later (w':=w') hs hb⟩)
 rw [ht.shape] at H2
 obtain ⟨p,cap,rfl,hlen⟩:=hs.slice
 have Z0:=Lib.hid (heap_alloc_new w (.cells (t.cells (.slice p t.subs.length cap)) 28))
 have HW:=Lib.hid (show Below w.heap.size w (w.alloc (.cells (t.cells (.slice p t.subs.length cap)) 28)) from (Below.refl _ _).alloc (Nat.le_refl _) _)
 clear hs ht
 unfold Tr.cells at *
 go_enter Tryz.func19,Tryz.ntmps19
 go_wp2_with (first
   | (refine wpList_load_row rfl 28 (.tmp 1) rfl w.heap.size rfl 28 _ (0,0) _ Z0.out Tryz.underlying28 rfl (by kernel_rfl) ?_)
   | fail)
 refine (H1.out _ HW.out).mono ?_
 rintro e w1 ⟨rfl,hb1⟩
 have Z1:=Lib.hid (keep_blk (hb1.mono (Nat.le_refl _)) Z0.out)
 have HB1:=Lib.hid (HW.out.trans (hb1.mono HW.out.size))
 obtain ⟨d0,d1,d2,d3,d4,d5,d6,d7,d8,d9⟩:=allTen Z1.out
 clear hb1 Z0 H1
 go_wp2_with fail
 refine (H2.out _ HB1.out).mono ?_
 rintro e w2 ⟨rfl,hb2⟩
 have HB2:=Lib.hid (HB1.out.trans (hb2.mono HB1.out.size))
 clear hb2
 go_wp2
 go_ret
 exact ⟨rfl,HB2.out⟩
theorem ere_yes (t:Tr) (ht:Tidy t) (hn:t.nestT ≤ 32) (S:Tr→List UInt8) (w:World) (hF:SpPow w) (hS:∀ w0,Below w.heap.size w w0→∀ x,x ∈ Sp.lvsT t→WrSet w0 S x) (hlen:(Sp.txT S t).length ≤ 1024) (B:Nat→Prop) (v:Value) (hv:NodeV w B v t) :
   Calls Tryz.prog 17 #[v] w fun e w'=>e=.returned (.tuple #[.string (tx (Sp.txT S t)),.nilIface])∧Below w.heap.size w w':=by
 obtain ⟨s,rfl,hs⟩:=hv
 have H1:=Lib.hid (fun w' (hb:Below w.heap.size w w')=>check_any t ht.form ht.deep ht.size w' B (.agg (t.cells s)) ⟨s,rfl,TreesAt.later (w':=w') hs hb⟩)
 have H2:=Lib.hid (fun w' (hb:Below w.heap.size w w')=>isspellable_yes t ht.few ht.nums w' B (.agg (t.cells s)) ⟨s,rfl,TreesAt.later (w':=w') hs hb⟩)
 rw [ht.shape] at H2
 have H3:=Lib.hid (fun w' (hb:Below w.heap.size w w')=>nesting_any t (by omega) w' B (.agg (t.cells s)) ⟨s,rfl,TreesAt.later (w':=w') hs hb⟩)
 have H4:=Lib.hid (fun W0 (hb:Below w.heap.size w W0)=>writetree_any W0 (hF.later hb) S t ht.form (hS W0 hb) (.agg (t.cells s)) B)
 have HV:=Lib.hid (fun w' (hb:Below w.heap.size w w')=>(show NodeV w' B (.agg (t.cells s)) t from ⟨s,rfl,TreesAt.later (w':=w') hs hb⟩))
 obtain ⟨p,cap,rfl,hlens⟩:=hs.slice
 have Z0:=Lib.hid (heap_alloc_new w (.cells (t.cells (.slice p t.subs.length cap)) 28))
 have HW:=Lib.hid (show Below w.heap.size w (w.alloc (.cells (t.cells (.slice p t.subs.length cap)) 28)) from (Below.refl _ _).alloc (Nat.le_refl _) _)
 have e1:decide ((32:Int) < t.nestT)=false:=by simp;omega
 have e1':decide (32 < t.nestT)=false:=by simp;omega
 clear hs ht hS hF hn
 unfold Tr.cells at *
 generalize t.nestT=NE at *
 generalize hX:Sp.txT S t=X at *
 go_enter Tryz.func17,Tryz.ntmps17
 go_wp2_with (first
   | (refine wpList_load_row rfl 28 (.tmp 1) rfl w.heap.size rfl 28 _ (0,0) _ Z0.out Tryz.underlying28 rfl (by kernel_rfl) ?_)
   | fail)
 refine (H1.out _ HW.out).mono ?_
 rintro e w1 ⟨rfl,hb1⟩
 have Z1:=Lib.hid (keep_blk (hb1.mono (Nat.le_refl _)) Z0.out)
 have HB1:=Lib.hid (HW.out.trans (hb1.mono HW.out.size))
 clear hb1 Z0 H1
 go_wp2_with (first
   | (refine wpList_load_row rfl 28 (.tmp 1) rfl w.heap.size rfl 28 _ (0,0) _ Z1.out Tryz.underlying28 rfl (by kernel_rfl) ?_)
   | fail)
 refine (H2.out _ HB1.out).mono ?_
 rintro e w2 ⟨rfl,hb2⟩
 have Z2:=Lib.hid (keep_blk (hb2.mono (Nat.le_refl _)) Z1.out)
 have HB2:=Lib.hid (HB1.out.trans (hb2.mono HB1.out.size))
 clear hb2 Z1 H2
 go_wp2_with (first
   | (refine wpList_load_row rfl 28 (.tmp 1) rfl w.heap.size rfl 28 _ (0,0) _ Z2.out Tryz.underlying28 rfl (by kernel_rfl) ?_)
   | fail)
 refine (H3.out _ HB2.out).mono ?_
 rintro e w3 ⟨rfl,hb3⟩
 have Z3:=Lib.hid (keep_blk (hb3.mono (Nat.le_refl _)) Z2.out)
 have HB3:=Lib.hid (HB2.out.trans (hb3.mono HB2.out.size))
 clear hb3 Z2 H3
 have hb4:Below w3.heap.size w3 (w3.alloc (.cells #[.pointer none,.slice none 0 0] 76)):=(Below.refl _ _).alloc (Nat.le_refl _) _
 have Z4:=Lib.hid (keep_blk (hb4.mono (Nat.le_refl _)) Z3.out)
 have HN:=Lib.hid (Bl.new w3)
 have HB4:=Lib.hid hb4
 have HC:=Lib.hid (H4.out w3 HB3.out (w3.alloc (.cells #[.pointer none,.slice none 0 0] 76)) w3.heap.size [] (HV.out w3 HB3.out) hb4 HN.out (by simp;omega))
 clear hb4 Z3 H4 HV
 go_upto_region 9 with (fail)
 generalize w3.alloc (.cells #[.pointer none,.slice none 0 0] 76)=W4 at *
 go_wp2_with (first
   | (refine wpList_load_row rfl 28 (.tmp 1) rfl w.heap.size rfl 28 _ (0,0) _ Z4.out Tryz.underlying28 rfl (by kernel_rfl) ?_)
   | fail)
 refine HC.out.mono ?_
 rintro e w5 ⟨rfl,hl5,ht5⟩
 have HB5:=Lib.hid (HB3.out.trans ((HB4.out.trans ht5.1).mono HB3.out.size))
 rw [List.nil_append] at hl5
 have HL5:=Lib.hid hl5
 clear hl5 ht5 Z4 HC HN
 have hbl:(Lib.byteCells X).length=X.length:=by simp [Lib.byteCells]
 have g1:decide ((1024:Int) < ((Lib.byteCells X).length:Nat))=false:=by rw [hbl];simp;omega
 have g1':decide (1024 < (Lib.byteCells X).length)=false:=by rw [hbl];simp;omega
 have hsz5:w3.heap.size ≤ w5.heap.size:=Nat.le_of_lt HL5.out.lt
 clear hbl
 go_wp2_with fail
 refine (Tryz.Builder_Len_f w3.heap.size w3.heap.size (Lib.byteCells X) _ HL5.out).mono ?_
 rintro e w6 ⟨rfl,rfl⟩
 go_wp2_with fail
 refine (Tryz.Builder_String_any_k w3.heap.size w3.heap.size X _ HL5.out hsz5).mono ?_
 rintro e w7 ⟨rfl,-,hb7,-⟩
 have HB7:=Lib.hid (HB5.out.trans (hb7.mono HB3.out.size))
 clear hb7
 go_wp2
 go_ret2
 exact ⟨rfl,HB7.out⟩
end Go.Proofs.YtfcilopifjddpaaGreatDoor
namespace Go.Proofs.YtfcilopifjddpaaGreatDoor
namespace Bp
open Ep (Out)
def two (f:Nat→Nat) (a b i:Nat):Bool:=f i == a && f (i+1) == b
theorem two_iff {f:Nat→Nat} {a b i:Nat} : two f a b i=true ↔ f i=a∧f (i+1)=b:=by
 unfold two;simp
def close (f:Nat→Nat):Nat→Nat→Option Nat
 | 0,_=>none
 | k+1,i=>if two f 92 125 i then some i else close f k (i+1)
def rep (f:Nat→Nat) (n:Nat) (t:Tr) (i g:Nat):Out :=
 if f i=42 then Ep.counted t 0 (-1) i (i+1) g
 else if two f 92 123 i then match close f (n - (i+2)) (i+2) with
   | none=>.err 3 i
   | some e=>match Ep.counts f (i+2) e with
     | none=>.err 4 i
     | some (a,b)=>Ep.counted t a b i (e+2) g
 else .ok t i g
def atom (f:Nat→Nat) (n:Nat) (ic nl:Bool) (H:Nat→Nat→Out) (i g:Nat):Out :=
 if f i=46 then .ok (Ep.dot nl) (i+1) g
 else if f i=91 then match Br.whole f n i ic nl with
   | .ok P j=>.ok (.bytes P) j g
   | .err c p=>.err c p
 else if two f 92 40 i then H i g
 else if two f 92 125 i then .err 3 i
 else if f i=92 then (if Cl.cls 8 (f (i+1)) then .ok (Ep.one ic (f (i+1))) (i+2) g else .err 8 i)
 else .ok (Ep.one ic (f i)) (i+1) g
def isEnd (f:Nat→Nat) (n i:Nat):Bool:=f i == 36 && (decide (n ≤ i+1) || two f 92 41 (i+1))
def piece (f:Nat→Nat) (n:Nat) (ic nl:Bool) (H:Nat→Nat→Out) (i g:Nat):Out :=
 if isEnd f n i then .ok (.leaf 4) (i+1) g
 else if f i=42 then .err 9 i
 else if two f 92 123 i then .err 9 i
 else match atom f n ic nl H i g with
 | .err c p=>.err c p
 | .ok t j g'=>rep f n t j g'
def more (f:Nat→Nat) (n:Nat):Out→Out
 | .err c p=>.err c p
 | .ok t j g=>rep f n t j g
def loop (f:Nat→Nat) (n:Nat) (ic nl:Bool) (H:Nat→Nat→Out):Nat→List Tr→Nat→Nat→Out
 | 0,_,_,_=>.err 0 0
 | k+1,l,i,g =>
   if n ≤ i ∨ two f 92 41 i=true then .ok (.several 5 l) i g
   else match piece f n ic nl H i g with
   | .err c p=>.err c p
   | .ok t j g'=>loop f n ic nl H k (l ++ [t]) j g'
def star (f:Nat→Nat) (n:Nat) (ic nl:Bool) (H:Nat→Nat→Out) (l:List Tr) (i g:Nat):Out :=
 if f i=42 then match rep f n (Ep.one ic 42) (i+1) g with
   | .err c p=>.err c p
   | .ok t j g'=>loop f n ic nl H (n+1) (l ++ [t]) j g'
 else loop f n ic nl H (n+1) l i g
def seq (f:Nat→Nat) (n:Nat) (ic nl:Bool) (H:Nat→Nat→Out) (i g:Nat):Out :=
 if f i=94 then star f n ic nl H [.leaf 3] (i+1) g else star f n ic nl H [] i g
def group (f:Nat→Nat) (n:Nat) (ic nl:Bool):Nat→Nat→Nat→Out
 | 0,i,_=>.err 11 i
 | r+1,i,g=>match seq f n ic nl (group f n ic nl r) (i+2) (g+1) with
   | .err c p=>.err c p
   | .ok t j g'=>if two f 92 41 j then .ok (.grp (g+1:Nat) t) (j+2) g' else .err 2 i
def pat (f:Nat→Nat) (n:Nat) (ic nl:Bool) (r i g:Nat):Out:=seq f n ic nl (group f n ic nl r) i g
def whole (f:Nat→Nat) (n:Nat) (ic nl:Bool):Out :=
 match pat f n ic nl 32 0 0 with
 | .err c p=>.err c p
 | .ok t j g=>if j < n then .err 2 j else if 2000 < t.szT then .err 10 n else .ok t j g
def parse (f:Nat→Nat) (n:Nat) (ic nl:Bool):Out:=if 1024 < n then .err 12 1024 else whole f n ic nl
theorem two_lt {f:Nat→Nat} {n a b i:Nat} (hf:Br.Txt f n) (h:two f a b i=true) (_ha:a < 256) (hb:b < 256):i+1 < n:=by
 obtain ⟨h1,h2⟩:=two_iff.1 h
 have:=hf.lt h2 hb
 omega
theorem close_some {f:Nat→Nat} : ∀ {k i e:Nat},close f k i=some e→i ≤ e∧e < i+k∧two f 92 125 e=true∧∀ j,i ≤ j→j < e→two f 92 125 j=false
 | 0,_,_,h=>by simp [close] at h
 | k+1,i,e,h=>by
   unfold close at h
   split at h
   · rename_i hc
     obtain rfl:=Option.some.inj h
     exact ⟨Nat.le_refl _,by omega,hc,fun j h1 h2=>by omega⟩
   · rename_i hc
     obtain ⟨h1,h2,h3,h4⟩:=close_some h
     refine ⟨by omega,by omega,h3,fun j h5 h6=>?_⟩
     by_cases e:j=i
     · subst e;simpa using hc
     · exact h4 j (by omega) h6
theorem close_none {f:Nat→Nat} : ∀ {k i:Nat},close f k i=none→∀ j,i ≤ j→j < i+k→two f 92 125 j=false
 | 0,_,_,j,h1,h2=>by omega
 | k+1,i,h,j,h1,h2=>by
   unfold close at h
   split at h
   · cases h
   · rename_i hc
     by_cases e:j=i
     · subst e;simpa using hc
     · exact close_none h j (by omega) (by omega)
theorem rep_ok {f:Nat→Nat} {n i g j g':Nat} {t u:Tr} (h:rep f n t i g=.ok u j g') (hf:Br.Txt f n) (hi:i ≤ n) :
   i ≤ j∧j ≤ n∧g'=g∧(u=t ∨ ∃ a b,u=.rep a b t∧0 ≤ a∧a ≤ 255∧(b = -1 ∨ (a ≤ b∧b ≤ 255))):=by
 unfold rep at h
 split at h
 · rename_i hc
   have:=hf.lt hc (by omega)
   obtain ⟨rfl,rfl,rfl⟩:=Ep.counted_ok h
   exact ⟨by omega,by omega,rfl,.inr ⟨_,_,rfl,by omega⟩⟩
 split at h
 · split at h
   · cases h
   · rename_i e he
     obtain ⟨h1,h2,h3,-⟩:=close_some he
     have:=two_lt hf h3 (by omega) (by omega)
     split at h
     · cases h
     · rename_i a b hab
       obtain ⟨rfl,rfl,rfl⟩:=Ep.counted_ok h
       exact ⟨by omega,by omega,rfl,.inr ⟨_,_,rfl,Ep.counts_ok hab⟩⟩
 · injection h with h1 h2 h3
   subst h1 h2 h3
   exact ⟨Nat.le_refl _,hi,rfl,.inl rfl⟩
def Ahead (n:Nat) (H:Nat→Nat→Out):Prop:=∀ i g t j g',i+1 < n→H i g=.ok t j g'→i < j∧j ≤ n
theorem atom_next {f:Nat→Nat} {n i g j g':Nat} {ic nl:Bool} {H:Nat→Nat→Out} {t:Tr} (hf:Br.Txt f n) (hH:Ahead n H) (hi:i < n) (h:atom f n ic nl H i g=.ok t j g'):i < j∧j ≤ n:=by
 unfold atom at h
 split at h
 · injection h with h1 h2 h3;omega
 split at h
 · cases hw:Br.whole f n i ic nl with
   | err c p=>rw [hw] at h;cases h
   | ok P k =>
     rw [hw] at h
     injection h with h1 h2 h3
     subst h2
     exact Ep.whole_next hf hi hw
 split at h
 · rename_i hc
   exact hH i g t j g' (two_lt hf hc (by omega) (by omega)) h
 split at h
 · cases h
 split at h
 · split at h
   · rename_i hc
     injection h with h1 h2 h3
     have:i+1 < n:=by
       by_cases hl:i+1 < n
       · exact hl
       · rw [hf.2 (i+1) (by omega)] at hc;exact absurd hc (by decide)
     omega
   · cases h
 · injection h with h1 h2 h3;omega
theorem piece_next {f:Nat→Nat} {n i g j g':Nat} {ic nl:Bool} {H:Nat→Nat→Out} {t:Tr} (hf:Br.Txt f n) (hH:Ahead n H) (hi:i < n) (h:piece f n ic nl H i g=.ok t j g'):i < j∧j ≤ n:=by
 unfold piece at h
 split at h
 · injection h with h1 h2 h3;omega
 split at h
 · cases h
 split at h
 · cases h
 cases ha:atom f n ic nl H i g with
 | err c p=>rw [ha] at h;cases h
 | ok u k g2 =>
   rw [ha] at h
   have h1:=atom_next hf hH hi ha
   have h2:=rep_ok h hf h1.2
   omega
theorem loop_next {f:Nat→Nat} {n:Nat} {ic nl:Bool} {H:Nat→Nat→Out} (hf:Br.Txt f n) (hH:Ahead n H):∀ {k:Nat} {l:List Tr} {i g j g':Nat} {t:Tr},i ≤ n→loop f n ic nl H k l i g=.ok t j g'→i ≤ j∧j ≤ n
 | 0,_,_,_,_,_,_,_,h=>by cases h
 | k+1,l,i,g,j,g',t,hi,h=>by
   unfold loop at h
   split at h
   · injection h with h1 h2 h3;omega
   · rename_i hc
     cases hp:piece f n ic nl H i g with
     | err c p=>rw [hp] at h;cases h
     | ok u m g2 =>
       rw [hp] at h
       have h1:=piece_next hf hH (by omega) hp
       have h2:=loop_next hf hH h1.2 h
       omega
theorem star_next {f:Nat→Nat} {n:Nat} {ic nl:Bool} {H:Nat→Nat→Out} (hf:Br.Txt f n) (hH:Ahead n H) {l:List Tr} {i g j g':Nat} {t:Tr} (hi:i ≤ n) (h:star f n ic nl H l i g=.ok t j g'):i ≤ j∧j ≤ n:=by
 unfold star at h
 split at h
 · rename_i hc
   have:=hf.lt hc (by omega)
   cases hp:rep f n (Ep.one ic 42) (i+1) g with
   | err c p=>rw [hp] at h;cases h
   | ok u m g2 =>
     rw [hp] at h
     have h1:=rep_ok hp hf (by omega)
     have h2:=loop_next hf hH h1.2.1 h
     omega
 · exact loop_next hf hH hi h
theorem seq_next {f:Nat→Nat} {n:Nat} {ic nl:Bool} {H:Nat→Nat→Out} (hf:Br.Txt f n) (hH:Ahead n H) {i g j g':Nat} {t:Tr} (hi:i ≤ n) (h:seq f n ic nl H i g=.ok t j g'):i ≤ j∧j ≤ n:=by
 unfold seq at h
 split at h
 · rename_i hc
   have:=hf.lt hc (by omega)
   have:=star_next hf hH (by omega) h
   omega
 · exact star_next hf hH hi h
theorem group_next {f:Nat→Nat} {n:Nat} {ic nl:Bool} (hf:Br.Txt f n):∀ r,Ahead n (group f n ic nl r)
 | 0=>fun i g t j g' _ h=>by cases h
 | r+1=>fun i g t j g' hi h=>by
   unfold group at h
   cases hp:seq f n ic nl (group f n ic nl r) (i+2) (g+1) with
   | err c p=>rw [hp] at h;cases h
   | ok u m g2 =>
     rw [hp] at h
     have h1:=seq_next hf (group_next hf r) (by omega) hp
     simp only at h
     split at h
     · rename_i hc
       have:=two_lt hf hc (by omega) (by omega)
       injection h with h3 h4 h5
       omega
     · cases h
def Right (n:Nat) (H:Nat→Nat→Out):Prop:=∀ i g t j g',i+1 < n→2 * g ≤ i→H i g=.ok t j g'→t.InForm∧2 * g' ≤ j
theorem atom_form {f:Nat→Nat} {n i g j g':Nat} {ic nl:Bool} {H:Nat→Nat→Out} {t:Tr} (hf:Br.Txt f n) (hA:Ahead n H) (hH:Right n H) (hi:i < n) (hg:2 * g ≤ i) (h:atom f n ic nl H i g=.ok t j g'):t.InForm∧2 * g' ≤ j:=by
 have hn:=atom_next hf hA hi h
 unfold atom at h
 split at h
 · injection h with h1 h2 h3
   subst h1 h2 h3
   exact ⟨Ep.form_bytes _,by omega⟩
 split at h
 · cases hw:Br.whole f n i ic nl with
   | err c p=>rw [hw] at h;cases h
   | ok P k =>
     rw [hw] at h
     injection h with h1 h2 h3
     subst h1 h2 h3
     exact ⟨Ep.form_bytes _,by omega⟩
 split at h
 · rename_i hc
   exact hH i g t j g' (two_lt hf hc (by omega) (by omega)) hg h
 split at h
 · cases h
 split at h
 · split at h
   · injection h with h1 h2 h3
     subst h1 h2 h3
     exact ⟨Ep.form_bytes _,by omega⟩
   · cases h
 · injection h with h1 h2 h3
   subst h1 h2 h3
   exact ⟨Ep.form_bytes _,by omega⟩
theorem rep_form {f:Nat→Nat} {n i g j g':Nat} {t u:Tr} (h:rep f n t i g=.ok u j g') (hf:Br.Txt f n) (hi:i ≤ n) (ht:t.InForm):u.InForm:=by
 obtain ⟨-,-,-,rfl | ⟨a,b,rfl,h1,h2,h3⟩⟩:=rep_ok h hf hi
 · exact ht
 · exact Ep.form_rep a b t h1 h2 h3 ht
theorem piece_form {f:Nat→Nat} {n i g j g':Nat} {ic nl:Bool} {H:Nat→Nat→Out} {t:Tr} (hf:Br.Txt f n) (hA:Ahead n H) (hH:Right n H) (hi:i < n) (hg:2 * g ≤ i) (h:piece f n ic nl H i g=.ok t j g'):t.InForm∧2 * g' ≤ j:=by
 unfold piece at h
 split at h
 · injection h with h1 h2 h3;subst h1 h2 h3;exact ⟨Ep.form_leaf 4 (by omega),by omega⟩
 split at h
 · cases h
 split at h
 · cases h
 cases ha:atom f n ic nl H i g with
 | err c p=>rw [ha] at h;cases h
 | ok u k g2 =>
   rw [ha] at h
   have h1:=atom_next hf hA hi ha
   have h2:=rep_ok h hf h1.2
   have h3:=atom_form hf hA hH hi hg ha
   exact ⟨rep_form h hf h1.2 h3.1,by omega⟩
theorem loop_form {f:Nat→Nat} {n:Nat} {ic nl:Bool} {H:Nat→Nat→Out} (hf:Br.Txt f n) (hA:Ahead n H) (hH:Right n H):∀ {k:Nat} {l:List Tr} {i g j g':Nat} {t:Tr},i ≤ n→(∀ u,u ∈ l→u.InForm)→2 * g ≤ i→loop f n ic nl H k l i g=.ok t j g'→t.InForm∧2 * g' ≤ j
 | 0,_,_,_,_,_,_,_,_,_,h=>by cases h
 | k+1,l,i,g,j,g',t,hi,hl,hg,h=>by
   unfold loop at h
   split at h
   · injection h with h1 h2 h3;subst h1 h2 h3;exact ⟨Ep.form_several 5 (.inl rfl) l hl,hg⟩
   · rename_i hc
     cases hp:piece f n ic nl H i g with
     | err c p=>rw [hp] at h;cases h
     | ok u m g2 =>
       rw [hp] at h
       have h1:=piece_next hf hA (by omega) hp
       have h2:=piece_form hf hA hH (by omega) hg hp
       refine loop_form hf hA hH h1.2 (fun x hx=>?_) h2.2 h
       rcases List.mem_append.1 hx with hx | hx
       · exact hl x hx
       · rw [List.mem_singleton.1 hx];exact h2.1
theorem star_form {f:Nat→Nat} {n:Nat} {ic nl:Bool} {H:Nat→Nat→Out} (hf:Br.Txt f n) (hA:Ahead n H) (hH:Right n H) {l:List Tr} {i g j g':Nat} {t:Tr} (hi:i ≤ n) (hl:∀ u,u ∈ l→u.InForm) (hg:2 * g ≤ i) (h:star f n ic nl H l i g=.ok t j g'):t.InForm∧2 * g' ≤ j:=by
 unfold star at h
 split at h
 · rename_i hc
   have:=hf.lt hc (by omega)
   cases hp:rep f n (Ep.one ic 42) (i+1) g with
   | err c p=>rw [hp] at h;cases h
   | ok u m g2 =>
     rw [hp] at h
     have h1:=rep_ok hp hf (by omega)
     have h2:=rep_form hp hf (by omega) (Ep.form_bytes _)
     refine loop_form hf hA hH h1.2.1 (fun x hx=>?_) (by omega) h
     rcases List.mem_append.1 hx with hx | hx
     · exact hl x hx
     · rw [List.mem_singleton.1 hx];exact h2
 · exact loop_form hf hA hH hi hl hg h
theorem seq_form {f:Nat→Nat} {n:Nat} {ic nl:Bool} {H:Nat→Nat→Out} (hf:Br.Txt f n) (hA:Ahead n H) (hH:Right n H) {i g j g':Nat} {t:Tr} (hi:i ≤ n) (hg:2 * g ≤ i) (h:seq f n ic nl H i g=.ok t j g'):t.InForm∧2 * g' ≤ j:=by
 unfold seq at h
 split at h
 · rename_i hc
   have:=hf.lt hc (by omega)
   refine star_form hf hA hH (by omega) (fun x hx=>?_) (by omega) h
   rw [List.mem_singleton.1 hx];exact Ep.form_leaf 3 (by omega)
 · exact star_form hf hA hH hi (fun x hx=>by cases hx) hg h
theorem group_right {f:Nat→Nat} {n:Nat} {ic nl:Bool} (hf:Br.Txt f n) (hn:n ≤ 1024):∀ r,Right n (group f n ic nl r)
 | 0=>fun i g t j g' _ _ h=>by cases h
 | r+1=>fun i g t j g' hi hg h=>by
   unfold group at h
   cases hp:seq f n ic nl (group f n ic nl r) (i+2) (g+1) with
   | err c p=>rw [hp] at h;cases h
   | ok u m g2 =>
     rw [hp] at h
     have h1:=seq_next hf (group_next hf r) (by omega) hp
     have h2:=seq_form hf (group_next hf r) (group_right hf hn r) (by omega) (by omega) hp
     simp only at h
     split at h
     · rename_i hc
       injection h with h3 h4 h5
       subst h3 h4 h5
       exact ⟨Ep.form_grp _ _ (by omega) (by omega) h2.1,by omega⟩
     · cases h
end Bp
end Go.Proofs.YtfcilopifjddpaaGreatDoor
namespace Go.Proofs.YtfcilopifjddpaaGreatDoor
open Go.RowKit
theorem bt_list (s:ByteArray) (i:Nat):bt s i=(s.data.toList[i]?).elim 256 UInt8.toNat:=by
 by_cases h:i < s.size
 · rw [← bt_at h]
   have h':i < s.data.toList.length:=by simpa using h
   rw [List.getElem?_eq_getElem h'];simp [ByteArray.getElem_eq_getElem_data]
 · rw [bt_out (by omega),List.getElem?_eq_none (by simp;show s.data.size ≤ i;have:s.data.size=s.size:=rfl;omega)];rfl
theorem bt_ext (s:ByteArray) (i j:Nat):bt (s.extract i s.size) j=bt s (i+j):=by
 rw [bt_list,bt_list,Lib.extract_to_end,List.getElem?_drop]
theorem u8_beq (a b:UInt8):(a == b)=(a.toNat == b.toNat):=by
 rw [Bool.eq_iff_iff,beq_iff_eq,beq_iff_eq,UInt8.toNat_inj]
theorem two_prefix (l:List UInt8) (x y:UInt8):[x,y].isPrefixOf l=((l[0]?).elim 256 UInt8.toNat == x.toNat && (l[1]?).elim 256 UInt8.toNat == y.toNat):=by
 have hx:=UInt8.toNat_lt x;have hy:=UInt8.toNat_lt y
 match l with
 | []=>simp;omega
 | [a]=>simp [List.isPrefixOf];omega
 | a :: b :: r =>
   simp only [List.isPrefixOf,Bool.and_true,List.getElem?_cons_zero,List.getElem?_cons_succ,Option.elim_some,u8_beq]
   rw [show (x.toNat == a.toNat)=(a.toNat == x.toNat) from Bool.beq_comm,show (y.toNat == b.toNat)=(b.toNat == y.toNat) from Bool.beq_comm]
theorem hasp (s:ByteArray) (x y:UInt8) (b:Bool) (hb:(bt s 0 == x.toNat && bt s 1 == y.toNat)=b) (w:World) :
   Calls Tryz.prog 130 #[.string s,.string ⟨#[x,y]⟩] w fun e w'=>e=.returned (.bool b)∧w=w':=by
 refine (Tryz.strings_HasPrefix s ⟨#[x,y]⟩ w).mono ?_
 rintro e w' ⟨rfl,rfl⟩
 refine ⟨?_,rfl⟩
 rw [← hb,bt_list,bt_list]
 exact ret_bool (two_prefix _ x y)
theorem opens_coll (t:ByteArray) (w:World):Calls Tryz.prog 220 #[.string t] w fun e w'=>e=.returned (.bool (Br.dotted (bt t) 0))∧w=w':=by
 have h1:=fun b hb=>hasp t 91 46 b hb w
 have h2:=fun b hb=>hasp t 91 61 b hb w
 unfold Br.dotted
 have e1:(91:UInt8).toNat=91:=rfl
 have e2:(46:UInt8).toNat=46:=rfl
 have e3:(61:UInt8).toNat=61:=rfl
 rw [e1,e2] at h1;rw [e1,e3] at h2
 rw [show 0+1=1 from rfl]
 generalize (bt t 0 == 91)=x at *
 generalize (bt t 1 == 46)=y at *
 generalize (bt t 1 == 61)=z at *
 have H1:=Lib.hid (h1 _ rfl);have H2:=Lib.hid (h2 _ rfl)
 clear h1 h2 e1 e2 e3
 cases x <;> cases y <;> cases z
 all_goals
   go_enter Tryz.func220,Tryz.ntmps220
   go_wp2_with fail
   refine H1.out.mono ?_;rintro e w' ⟨rfl,rfl⟩
   first
   | (go_wp2;go_ret;exact ⟨rfl,rfl⟩)
   | (go_wp2_with fail
      refine H2.out.mono ?_;rintro e w' ⟨rfl,rfl⟩
      go_wp2
      go_ret
      exact ⟨rfl,rfl⟩)
theorem opens_class (t:ByteArray) (w:World):Calls Tryz.prog 221 #[.string t] w fun e w'=>e=.returned (.bool (Br.colon (bt t) 0))∧w=w':=by
 have H1:=Lib.hid (hasp t 91 58 _ rfl w)
 unfold Br.colon
 go_enter Tryz.func221,Tryz.ntmps221
 go_wp2_with fail
 refine H1.out.mono ?_;rintro e w' ⟨rfl,rfl⟩
 go_wp2
 go_ret
 exact ⟨rfl,rfl⟩
theorem occ_clos (s:ByteArray) (k j:Nat):Lib.occAt (s.extract k s.size).data.toList [58,93] j=(bt s (k+j) == 58 && bt s (k+j+1) == 93):=by
 unfold Lib.occAt
 rw [Lib.extract_to_end,List.drop_drop,two_prefix,bt_list,bt_list]
 simp only [List.getElem?_drop]
 rfl
theorem index_clos {s:ByteArray} {k e:Nat} (h:Br.clos (bt s) (s.size - (k+1)) k=some e):Lib.indexB (s.extract k s.size) ⟨#[58,93]⟩=((e - k:Nat):Int):=by
 obtain ⟨h1,h2,h3,h4,h5⟩:=Br.clos_some h
 refine Lib.index_first (by rw [Lib.extract_to_end];simp;omega) ?_ ?_
 · show Lib.occAt (s.extract k s.size).data.toList [58,93] (e - k)=true
   rw [occ_clos,show k+(e - k)=e by omega,h3,h4];rfl
 · intro j hj
   show Lib.occAt (s.extract k s.size).data.toList [58,93] j=false
   rw [occ_clos]
   have:=h5 (k+j) (by omega) (by omega)
   simpa using this
theorem index_noclos {s:ByteArray} {k:Nat} (h:Br.clos (bt s) (s.size - (k+1)) k=none):Lib.indexB (s.extract k s.size) ⟨#[58,93]⟩ = -1:=by
 refine Lib.index_none fun j hj=>?_
 show Lib.occAt (s.extract k s.size).data.toList [58,93] j=false
 rw [occ_clos]
 cases hb:(bt s (k+j) == 58 && bt s (k+j+1) == 93) with
 | false=>rfl
 | true =>
   simp only [Bool.and_eq_true,beq_iff_eq] at hb
   have hlt:=(bt_txt s).lt hb.2 (by omega)
   exfalso
   have:∀ {n i:Nat},Br.clos (bt s) n i=none→∀ x,i ≤ x→x < i+n→¬ (bt s x=58∧bt s (x+1)=93):=by
     intro n
     induction n with
     | zero=>intro i _ x h1 h2;omega
     | succ n ih =>
       intro i hn x h1 h2
       unfold Br.clos at hn
       split at hn
       · cases hn
       · rename_i hc
         simp only [Bool.and_eq_true,beq_iff_eq] at hc
         by_cases e:x=i
         · subst e;exact hc
         · exact ih hn x (by omega) (by omega)
   exact this h (k+j) (by omega) (by omega) hb
def ErrOne (A:Nat→Addr) (B:Nat) (w:World) (v:Value) (c:Nat) (n:Int):Prop :=
 ∃ k p,k < 21∧c=k+1∧v=.iface 63 (.pointer (some ⟨p,0,none⟩))∧B ≤ p∧w.cell? ⟨p,0,none⟩=some (.int .i64 n)∧w.cell? ⟨p,1,none⟩=some (.iface 232 (.pointer (some (A k))))
theorem ErrOne.at {A:Nat→Addr} {B:Nat} {w:World} {v:Value} {c:Nat} {n:Int} (h:ErrOne A B w v c n):ErrAt A w v c n:=by
 obtain ⟨k,p,hk,hc,rfl,hp,c0,c1⟩:=h
 exact ⟨k,[(false,n,p)],hk,hc,.fault n p c0 c1 .base,rfl⟩
theorem ErrOne.later {A:Nat→Addr} {B:Nat} {w w':World} {v:Value} {c:Nat} {n:Int} (h:ErrOne A B w v c n) (hb:Below w.heap.size w w'):ErrOne A B w' v c n:=by
 obtain ⟨k,p,hk,hc,hv,hp,c0,c1⟩:=h
 exact ⟨k,p,hk,hc,hv,hp,(hb.cell (p:=⟨p,0,none⟩) (block_lt_of_cell c0)).trans c0,(hb.cell (p:=⟨p,1,none⟩) (block_lt_of_cell c1)).trans c1⟩
theorem ErrOne.down {A:Nat→Addr} {B B':Nat} {w:World} {v:Value} {c:Nat} {n:Int} (h:ErrOne A B w v c n) (hB:B' ≤ B):ErrOne A B' w v c n:=by
 obtain ⟨k,p,hk,hc,hv,hp,c0,c1⟩:=h;exact ⟨k,p,hk,hc,hv,by omega,c0,c1⟩
theorem cell_setRow_other {w:World} {g b o:Nat} (cs:Array Value) (h:b ≠ g):(w.setRow g cs).cell? ⟨b,o,none⟩=w.cell? ⟨b,o,none⟩:=by
 unfold World.cell?;rw [heap_setRow_other w g cs h]
theorem ErrOne.setRow {A:Nat→Addr} {B:Nat} {w:World} {v:Value} {c:Nat} {n:Int} (h:ErrOne A B w v c n) {g:Nat} (hg:g < B) (cs:Array Value):ErrOne A B (w.setRow g cs) v c n:=by
 obtain ⟨k,p,hk,hc,hv,hp,c0,c1⟩:=h
 exact ⟨k,p,hk,hc,hv,hp,(cell_setRow_other cs (by omega)).trans c0,(cell_setRow_other cs (by omega)).trans c1⟩
theorem ErrOne.iface {A:Nat→Addr} {B:Nat} {w:World} {v:Value} {c:Nat} {n:Int} (h:ErrOne A B w v c n):∃ q,v=.iface 63 q:=by
 obtain ⟨k,p,hk,hc,hv,-⟩:=h;exact ⟨_,hv⟩
def PlacedErr (A:Nat→Addr) (c:Nat) (p:Int) (w:World) (e:Ending) (w':World):Prop:=∃ v,e=.returned v∧ErrOne A w.heap.size w' v c p∧Below w.heap.size w w'
theorem at_err (A:Nat→Addr) (k:Nat) (hk:k < 21) (n:Int) (w:World) :
   Calls Tryz.prog 48 #[.int .i64 n,.iface 232 (.pointer (some (A k)))] w (PlacedErr A (k+1) n w):=by
 refine (at_any n _ _ w).mono ?_
 rintro e w' ⟨p,rfl,hp,hb,c0,c1⟩
 exact ⟨_,rfl,⟨k,p,hk,rfl,rfl,hp,c0,c1⟩,hb⟩
def ItEnd (A:Nat→Addr) (R:Br.Ans) (w:World) (e:Ending) (w':World):Prop :=
 (match R with
 | .ok P j=>e=.returned (.tuple #[(.agg #[.int .u64 (Oc.U (Oc.mk P 0)),.int .u64 (Oc.U (Oc.mk P 1)),.int .u64 (Oc.U (Oc.mk P 2)),.int .u64 (Oc.U (Oc.mk P 3))]),.int .i64 j,.nilIface])
 | .err c p=>∃ v,e=.returned (.tuple #[.agg #[.int .u64 0,.int .u64 0,.int .u64 0,.int .u64 0],.int .i64 0,v])∧ErrOne A w.heap.size w' v c p)∧Below w.heap.size w w'
theorem ItEnd.ok {A:Nat→Addr} {R:Br.Ans} {w:World} {e:Ending} {w':World} (h:ItEnd A R w e w') {P:Nat→Bool} {j:Nat} (hR:R=.ok P j) :
   e=.returned (.tuple #[(.agg #[.int .u64 (Oc.U (Oc.mk P 0)),.int .u64 (Oc.U (Oc.mk P 1)),.int .u64 (Oc.U (Oc.mk P 2)),.int .u64 (Oc.U (Oc.mk P 3))]),.int .i64 j,.nilIface])∧Below w.heap.size w w':=by subst hR;exact h
theorem ItEnd.err {A:Nat→Addr} {R:Br.Ans} {w:World} {e:Ending} {w':World} (h:ItEnd A R w e w') {c:Nat} {p:Int} (hR:R=.err c p) :
   ∃ v,e=.returned (.tuple #[.agg #[.int .u64 0,.int .u64 0,.int .u64 0,.int .u64 0],.int .i64 0,v])∧ErrOne A w.heap.size w' v c p∧Below w.heap.size w w':=by
 subst hR;obtain ⟨⟨v,h1,h2⟩,h3⟩:=h;exact ⟨v,h1,h2,h3⟩
abbrev noSet:Array Value:=#[.int .u64 0,.int .u64 0,.int .u64 0,.int .u64 0]
theorem noSet_one:noSet.all (·.oneCell')=true:=setC_one
theorem cell_two {w:World} {b o:Nat} {v:Value} (h:w.cell? ⟨b,o,none⟩=some v) (x y:Obj):((w.alloc x).alloc y).cell? ⟨b,o,none⟩=some v :=
 ((((Below.refl w.heap.size w).alloc (Nat.le_refl _) x).alloc (by simp) y).cell (p:=⟨b,o,none⟩) (block_lt_of_cell h)).trans h
theorem results_row_two {P:Program} {fn:Func} {p q r:Tmp} {ty:TypeId} (h:fn.results=#[.cell p ty,.tmp q,.tmp r]) (tmps:Array Value) (w:World) (g:Nat) (t:TypeId) (cs:Array Value) (fr:Nat × Nat) (d:TypeDesc) (y z:Value)
   (hp:tmps.getD p undef=.pointer (some ⟨g,0,none⟩)) (hy:tmps.getD q undef=y) (hz:tmps.getD r undef=z) (hg:w.heap[g]? = some (.cells cs t fr))
   (hu:P.underlying ty=some d) (hd:(match d with | .struct _ | .array _ _=>true | _=>false)=true) (hi:(P.info? ty).map (·.size)=some cs.size) :
   (results fn tmps).run P w=.ok (.tuple #[.agg cs,y,z]) w:=by
 have hp':tmps[p]?.getD undef=.pointer (some ⟨g,0,none⟩):=by simpa using hp
 have hy':tmps[q]?.getD undef=y:=by simpa using hy
 have hz':tmps[r]?.getD undef=z:=by simpa using hz
 simp [results,h,hp',hy',hz',asAddr,run_loadVar_row w g t ty cs fr d hg hu hd hi]
theorem open_any (A:Nat→Addr) (s:ByteArray) (a:Nat) (w:World) (hE:BrEnv w A) :
   Calls Tryz.prog 215 #[.agg #[.string s,.int .i64 a]] w (ItEnd A (.err 1 a) w):=by
 have c0:=fun x y=>cell_two (show w.cell? ⟨0,0,none⟩=some (.iface 232 (.pointer (some (A 0)))) from (hE.errs 0 (by omega)).1) x y
 go_enter Tryz.func215,Tryz.ntmps215
 go_wp2_with fail
 refine (at_err A 0 (by omega) a _).mono ?_
 rintro e w1 ⟨v,rfl,hv,hb⟩
 have hb0:Below w.heap.size w ((w.alloc (.cells #[.string s,.int .i64 a] 215)).alloc (.cells #[.int .u64 0,.int .u64 0,.int .u64 0,.int .u64 0] 25)):=by go_grown
 have Z:=Lib.hid (keep_blk hb (two_new w _ _).2)
 have HB:=Lib.hid (hb0.trans (hb.mono hb0.size))
 have HV:=Lib.hid hv
 clear hb hv hb0 c0
 go_wp2_with (first
   | (refine wpList_store_row rfl 25 (.tmp 2) (.tmp 5) rfl (w.heap.size+1) noSet rfl rfl 25 _ Z.out (by kernel_rfl) rfl noSet_one ?_)
   | fail)
 exact bodyPost_ret (results_row_two rfl _ _ (w.heap.size+1) 25 noSet (0,0) _ _ _ rfl rfl rfl (heap_setRow Z.out) Tryz.underlying25 rfl (by kernel_rfl)) rfl ⟨⟨v,rfl,(HV.out.setRow (by simp) noSet).down (by simp;omega)⟩,below_setRow HB.out (Nat.le_succ _) _⟩
end Go.Proofs.YtfcilopifjddpaaGreatDoor
namespace Go.Proofs.YtfcilopifjddpaaGreatDoor
namespace Sp
def lf (c:UInt8):Tr:=Ep.one false c.toNat
def pos (x:Bool) (l:List UInt8) (k:Nat):Nat:=(quote x (l.take k)).length
def qf (x:Bool) (l:List UInt8):Nat→Nat:=bt ⟨(quote x l).toArray⟩
theorem qf_is (x:Bool) (l:List UInt8) (i:Nat):qf x l i=((quote x l)[i]?).elim 256 UInt8.toNat:=by
 unfold qf;rw [bt_list]
theorem quote_app (x:Bool) (a b:List UInt8):quote x (a ++ b)=quote x a ++ quote x b:=by simp [quote]
theorem quote_cut (x:Bool) (l:List UInt8) (k:Nat) (hk:k < l.length):quote x l=quote x (l.take k) ++ (qb x l[k] ++ quote x (l.drop (k+1))):=by
 conv=>lhs;rw [← List.take_append_drop k l,List.drop_eq_getElem_cons hk]
 rw [quote_app]
 unfold quote
 rw [List.flatMap_cons]
theorem pos_succ (x:Bool) (l:List UInt8) (k:Nat) (hk:k < l.length):pos x l (k+1)=pos x l k+(qb x l[k]).length:=by
 unfold pos
 rw [List.take_succ_eq_append_getElem hk,quote_snoc,List.length_append]
theorem pos_all (x:Bool) (l:List UInt8):pos x l l.length=(quote x l).length:=by unfold pos;rw [List.take_length]
theorem qf_at (x:Bool) (l:List UInt8) (k:Nat) (hk:k < l.length) (j:Nat) (hj:j < (qb x l[k]).length):qf x l (pos x l k+j)=((qb x l[k])[j]).toNat:=by
 rw [qf_is,quote_cut x l k hk]
 unfold pos
 rw [List.getElem?_append_right (by omega),Nat.add_sub_cancel_left,List.getElem?_append_left hj,List.getElem?_eq_getElem hj]
 rfl
theorem at_mk {x:Bool} {l:List UInt8} {k:Nat} (hk:k < l.length) (hm:mk x l[k].toNat=true):qf x l (pos x l k)=92∧qf x l (pos x l k+1)=l[k].toNat∧pos x l (k+1)=pos x l k+2:=by
 have hq:qb x l[k]=[92,l[k]]:=by unfold qb;rw [if_pos hm]
 have h0:=qf_at x l k hk 0 (by rw [hq];simp)
 have h1:=qf_at x l k hk 1 (by rw [hq];simp)
 have h2:=pos_succ x l k hk
 simp only [hq,List.getElem_cons_zero,List.getElem_cons_succ,Nat.add_zero,List.length_cons,List.length_nil] at h0 h1 h2
 exact ⟨h0,h1,h2⟩
theorem at_plain {x:Bool} {l:List UInt8} {k:Nat} (hk:k < l.length) (hm:mk x l[k].toNat=false):qf x l (pos x l k)=l[k].toNat∧pos x l (k+1)=pos x l k+1:=by
 have hq:qb x l[k]=[l[k]]:=by unfold qb;rw [if_neg (by rw [hm];decide)]
 have h0:=qf_at x l k hk 0 (by rw [hq];simp)
 have h2:=pos_succ x l k hk
 simp only [hq,List.getElem_cons_zero,Nat.add_zero,List.length_cons,List.length_nil] at h0 h2
 exact ⟨h0,h2⟩
theorem pos_end (x:Bool) (l:List UInt8) (i:Nat) (h:(quote x l).length ≤ i):qf x l i=256:=by
 rw [qf_is,List.getElem?_eq_none h];rfl
theorem at_bnd (x:Bool) (l:List UInt8) (k:Nat) (hk:k ≤ l.length) (m:Nat) (hm:mk x m=true) (h92:m ≠ 92) (hm2:m < 256):qf x l (pos x l k) ≠ m:=by
 by_cases hlt:k < l.length
 · cases hq:mk x l[k].toNat with
   | true=>rw [(at_mk hlt hq).1];exact fun h=>h92 h.symm
   | false =>
     rw [(at_plain hlt hq).1]
     intro h
     rw [h,hm] at hq
     cases hq
 · obtain rfl:k=l.length:=by omega
   rw [pos_all,pos_end x l _ (Nat.le_refl _)]
   omega
theorem mk_cls:∀ c,c < 256→mkX c=true→Cl.cls 8 c=true:=by decide +kernel
theorem mk_clsB:∀ c,c < 256→mkB c=true→Cl.cls 8 c=true:=by decide +kernel
theorem ep_piece {l:List UInt8} {H:Nat→Nat→Ep.Out} {k g:Nat} (hk:k < l.length) :
   Ep.piece (qf true l) (quote true l).length false false H (pos true l k) g=.ok (lf l[k]) (pos true l (k+1)) g:=by
 have hb:=fun m h1 h2 h3=>at_bnd true l k (by omega) m h1 h2 h3
 have hn:=fun m h1 h2 h3=>at_bnd true l (k+1) (by omega) m h1 h2 h3
 have hr:∀ t,Ep.rep (qf true l) (quote true l).length t (pos true l (k+1)) g=.ok t (pos true l (k+1)) g:=by
   intro t
   unfold Ep.rep
   rw [if_neg (hn 42 rfl (by omega) (by omega)),if_neg (hn 43 rfl (by omega) (by omega)),if_neg (hn 63 rfl (by omega) (by omega)),if_neg (hn 123 rfl (by omega) (by omega))]
 have hir:Ep.isRep (qf true l (pos true l k))=false:=by
   have h1:=hb 42 rfl (by omega) (by omega)
   have h2:=hb 43 rfl (by omega) (by omega)
   have h3:=hb 63 rfl (by omega) (by omega)
   have h4:=hb 123 rfl (by omega) (by omega)
   unfold Ep.isRep
   simp [h1,h2,h3,h4]
 have ha:Ep.atom (qf true l) (quote true l).length false false H (pos true l k) g=.ok (lf l[k]) (pos true l (k+1)) g:=by
   unfold Ep.atom
   rw [if_neg (hb 40 rfl (by omega) (by omega)),if_neg (hb 91 rfl (by omega) (by omega))]
   cases hm:mk true l[k].toNat with
   | true =>
     obtain ⟨h0,h1,h2⟩:=at_mk hk hm
     rw [if_pos h0,h1,if_pos (mk_cls _ l[k].toNat_lt hm),h2]
     rfl
   | false =>
     obtain ⟨h0,h2⟩:=at_plain hk hm
     have h92:qf true l (pos true l k) ≠ 92:=fun h=>by rw [h0] at h;rw [h] at hm;cases hm
     rw [if_neg h92,if_neg (hb 46 rfl (by omega) (by omega)),h0,h2]
     rfl
 unfold Ep.piece
 rw [if_neg (hb 94 rfl (by omega) (by omega)),if_neg (hb 36 rfl (by omega) (by omega)),hir,if_neg (by decide),ha]
 exact hr _
theorem pos_lt {x:Bool} {l:List UInt8} {k:Nat} (hk:k < l.length):pos x l k < (quote x l).length:=by
 have h1:=pos_succ x l k hk
 have h2:0 < (qb x l[k]).length:=by unfold qb;split <;> simp
 have h3:pos x l (k+1) ≤ (quote x l).length:=by
   unfold pos
   conv=>rhs;rw [← List.take_append_drop (k+1) l,quote_app,List.length_append]
   omega
 omega
theorem ep_branch {l:List UInt8} {H:Nat→Nat→Ep.Out} {g:Nat} : ∀ m k,k+m=l.length→∀ K,m < K →
   Ep.branch (qf true l) (quote true l).length false false H K ((l.take k).map lf) (pos true l k) g=.ok (.several 5 (l.map lf)) (quote true l).length g
 | 0,k,hk,K+1,_=>by
   obtain rfl:k=l.length:=by omega
   unfold Ep.branch
   rw [if_pos (.inl (by rw [pos_all];omega)),pos_all,List.take_length]
 | m+1,k,hk,K+1,hK=>by
   have hlt:k < l.length:=by omega
   unfold Ep.branch
   rw [if_neg (fun h=>by
     rcases h with h | h | h
     · have:=pos_lt (x:=true) hlt;omega
     · exact at_bnd true l k (by omega) 124 rfl (by omega) (by omega) h
     · exact at_bnd true l k (by omega) 41 rfl (by omega) (by omega) h),ep_piece hlt]
   have ih:=ep_branch (l:=l) (H:=H) (g:=g) m (k+1) (by omega) K (by omega)
   rw [List.take_succ_eq_append_getElem hlt,List.map_append] at ih
   exact ih
theorem szS_lf:∀ l:List UInt8,Tr.szS (l.map lf)=l.length
 | []=>rfl
 | c :: l=>by
   rw [List.map_cons,Tr.szS,szS_lf l,List.length_cons]
   have:(lf c).szT=1:=by unfold lf Ep.one Tr.bytes;rw [Tr.szT];rfl
   omega
theorem sz_several (l:List UInt8):(Tr.several 5 (l.map lf)).szT ≤ 1+l.length:=by
 match l with
 | []=>unfold Tr.several Tr.leaf;simp [Tr.szT,Tr.szS,Tr.sat]
 | [c] =>
   have:=szS_lf [c]
   simp only [List.map_cons,List.map_nil,Tr.szS,List.length_cons,List.length_nil] at this
   simp only [List.map_cons,List.map_nil,Tr.several,List.length_cons,List.length_nil]
   omega
 | c :: d :: r =>
   rw [Tr.several_many (by simp)]
   unfold Tr.many
   rw [Tr.szT,if_neg (by decide),szS_lf]
   unfold Tr.sat
   omega
theorem len_le (x:Bool):∀ l:List UInt8,l.length ≤ (quote x l).length
 | []=>by simp
 | c :: l=>by
   have:=len_le x l
   have h2:0 < (qb x c).length:=by unfold qb;split <;> simp
   simp only [quote,List.flatMap_cons,List.length_append,List.length_cons] at *
   omega
theorem ep_quote (l:List UInt8):Ep.parse (qf true l) (quote true l).length false false=if 1024 < (quote true l).length then .err 12 1024 else .ok (.several 5 (l.map lf)) (quote true l).length 0:=by
 unfold Ep.parse
 split
 · rfl
 · rename_i hn
   have hb:=ep_branch (l:=l) (H:=Ep.group (qf true l) (quote true l).length false false 32) (g:=0) l.length 0 (by omega) ((quote true l).length+1) (by have:=len_le true l;omega)
   have h0:pos true l 0=0:=by unfold pos;simp [quote]
   rw [h0] at hb
   have he:qf true l (quote true l).length=256:=pos_end true l _ (Nat.le_refl _)
   unfold Ep.whole Ep.pat Ep.alts
   simp only [List.take_zero,List.map_nil] at hb
   rw [hb]
   simp only [he]
   rw [if_neg (by decide)]
   have e6:Tr.several 6 ([] ++ [Tr.several 5 (l.map lf)])=Tr.several 5 (l.map lf):=rfl
   rw [e6]
   simp only
   have hs:=sz_several l
   have hl:=len_le true l
   rw [if_neg (by omega),if_neg (by omega)]
theorem bp_two {l:List UInt8} {k:Nat} (hk:k ≤ l.length) (b:Nat) (_hb:b < 256) (hm:mkB b=false):Bp.two (qf false l) 92 b (pos false l k)=false:=by
 rw [Bool.eq_false_iff]
 intro h
 obtain ⟨h1,h2⟩:=Bp.two_iff.1 h
 by_cases hlt:k < l.length
 · cases hq:mk false l[k].toNat with
   | true =>
     rw [(at_mk hlt hq).2.1] at h2
     rw [h2] at hq
     have:mkB b=true:=hq
     rw [hm] at this
     cases this
   | false =>
     rw [(at_plain hlt hq).1] at h1
     rw [h1] at hq
     cases hq
 · obtain rfl:k=l.length:=by omega
   rw [pos_all,pos_end false l _ (Nat.le_refl _)] at h1
   omega
theorem bp_piece {l:List UInt8} {H:Nat→Nat→Ep.Out} {k g:Nat} (hk:k < l.length) :
   Bp.piece (qf false l) (quote false l).length false false H (pos false l k) g=.ok (lf l[k]) (pos false l (k+1)) g:=by
 have hb:=fun m h1 h2 h3=>at_bnd false l k (by omega) m h1 h2 h3
 have hn:=fun m h1 h2 h3=>at_bnd false l (k+1) (by omega) m h1 h2 h3
 have hr:∀ t,Bp.rep (qf false l) (quote false l).length t (pos false l (k+1)) g=.ok t (pos false l (k+1)) g:=by
   intro t
   unfold Bp.rep
   rw [if_neg (hn 42 rfl (by omega) (by omega)),bp_two (by omega) 123 (by omega) rfl]
   rfl
 have hie:Bp.isEnd (qf false l) (quote false l).length (pos false l k)=false:=by
   have h1:=hb 36 rfl (by omega) (by omega)
   unfold Bp.isEnd
   simp [h1]
 have ha:Bp.atom (qf false l) (quote false l).length false false H (pos false l k) g=.ok (lf l[k]) (pos false l (k+1)) g:=by
   unfold Bp.atom
   rw [if_neg (hb 46 rfl (by omega) (by omega)),if_neg (hb 91 rfl (by omega) (by omega)),bp_two (by omega) 40 (by omega) rfl,if_neg (by decide),bp_two (by omega) 125 (by omega) rfl,if_neg (by decide)]
   cases hm:mk false l[k].toNat with
   | true =>
     obtain ⟨h0,h1,h2⟩:=at_mk hk hm
     rw [if_pos h0,h1,if_pos (mk_clsB _ l[k].toNat_lt hm),h2]
     rfl
   | false =>
     obtain ⟨h0,h2⟩:=at_plain hk hm
     have h92:qf false l (pos false l k) ≠ 92:=fun h=>by rw [h0] at h;rw [h] at hm;cases hm
     rw [if_neg h92,h0,h2]
     rfl
 unfold Bp.piece
 rw [hie,if_neg (by decide),if_neg (hb 42 rfl (by omega) (by omega)),bp_two (by omega) 123 (by omega) rfl,if_neg (by decide),ha]
 exact hr _
theorem bp_loop {l:List UInt8} {H:Nat→Nat→Ep.Out} {g:Nat} : ∀ m k,k+m=l.length→∀ K,m < K →
   Bp.loop (qf false l) (quote false l).length false false H K ((l.take k).map lf) (pos false l k) g=.ok (.several 5 (l.map lf)) (quote false l).length g
 | 0,k,hk,K+1,_=>by
   obtain rfl:k=l.length:=by omega
   unfold Bp.loop
   rw [if_pos (.inl (by rw [pos_all];omega)),pos_all,List.take_length]
 | m+1,k,hk,K+1,hK=>by
   have hlt:k < l.length:=by omega
   unfold Bp.loop
   rw [if_neg (fun h=>by
     rcases h with h | h
     · have:=pos_lt (x:=false) hlt;omega
     · rw [bp_two (by omega) 41 (by omega) rfl] at h;cases h),bp_piece hlt]
   have ih:=bp_loop (l:=l) (H:=H) (g:=g) m (k+1) (by omega) K (by omega)
   rw [List.take_succ_eq_append_getElem hlt,List.map_append] at ih
   exact ih
theorem bp_quote (l:List UInt8) (hn:(quote false l).length ≤ 1024):Bp.parse (qf false l) (quote false l).length false false=.ok (.several 5 (l.map lf)) (quote false l).length 0:=by
 unfold Bp.parse
 rw [if_neg (by omega)]
 have hb:=bp_loop (l:=l) (H:=Bp.group (qf false l) (quote false l).length false false 32) (g:=0) l.length 0 (by omega) ((quote false l).length+1) (by have:=len_le false l;omega)
 have h0:pos false l 0=0:=by unfold pos;simp [quote]
 have h94:=at_bnd false l 0 (by omega) 94 rfl (by omega) (by omega)
 have h42:=at_bnd false l 0 (by omega) 42 rfl (by omega) (by omega)
 rw [h0] at hb h94 h42
 unfold Bp.whole Bp.pat Bp.seq Bp.star
 simp only [List.take_zero,List.map_nil] at hb
 rw [if_neg h94,if_neg h42,hb]
 have hs:=sz_several l
 have hl:=len_le false l
 simp only
 rw [if_neg (by omega),if_neg (by omega)]
theorem quote_le:∀ l:List UInt8,(quote false l).length ≤ (quote true l).length
 | []=>by simp [quote]
 | c :: l=>by
   have ih:=quote_le l
   have h:(qb false c).length ≤ (qb true c).length:=by
     unfold qb
     cases h1:mk false c.toNat with
     | false=>simp;split <;> simp
     | true =>
       have:mk true c.toNat=true:=by
         simp only [mk,mkB,Bool.false_eq_true,if_false,Bool.or_eq_true] at h1
         simp only [mk,mkX,if_true,Bool.or_eq_true]
         rcases h1 with ((((h | h) | h) | h) | h) | h <;> simp [h]
       rw [this];simp
   simp only [quote,List.flatMap_cons,List.length_append] at *
   omega
end Sp
end Go.Proofs.YtfcilopifjddpaaGreatDoor
namespace Go.Proofs.YtfcilopifjddpaaGreatDoor
open Go.RowKit
theorem cnt_zero {M:Nat→Bool} (h:∀ i,i < 256→M i=false):Oc.cnt M 256=0:=by
 rw [Oc.cnt_congr (q:=fun _=>false) 256 (fun i hi=>h i hi)]
 decide +kernel
theorem nx_one {M:Nat→Bool} (h:Oc.cnt M 256=1):Oc.nx M 0 < 256:=by
 obtain ⟨-,h2,h3,-⟩:=Oc.nx_spec M 0 (by omega)
 rcases Nat.lt_or_ge (Oc.nx M 0) 256 with h4 | h4
 · exact h4
 · have:=cnt_zero (M:=M) (fun i hi=>h3 i (by omega) (by omega))
   omega
theorem cnt_single {c:Nat} (hc:c < 256):Oc.cnt (fun x=>x == c) 256=1:=by
 have:∀ c,c < 256→Oc.cnt (fun x=>x == c) 256=1:=by decide +kernel
 exact this c hc
theorem nx_single {M:Nat→Bool} {c:Nat} (hc:c < 256) (h:∀ i,i < 256→M i=(i == c)):Oc.nx M 0=c:=by
 obtain ⟨-,h2,h3,h4⟩:=Oc.nx_spec M 0 (by omega)
 rcases Nat.lt_trichotomy (Oc.nx M 0) c with h5 | h5 | h5
 · have:=h4 (by omega)
   rw [h _ (by omega)] at this
   simp at this
   omega
 · exact h5
 · have:=h3 c (by omega) h5
   rw [h _ hc] at this
   simp at this
def SpTab (w:World):Prop:=TabAt 23 Lib.deBruijn64tab w∧23 < w.heap.size
theorem SpTab.later {w w':World} (h:SpTab w) (hb:Below w.heap.size w w'):SpTab w' :=
 ⟨fun j hj=>(hb.cell (p:=⟨_,j,none⟩) h.2).trans (h.1 j hj),Nat.lt_of_lt_of_le h.2 hb.size⟩
theorem four_of {w:World} {b:Nat} {x0 x1 x2 x3:Value} {t:TypeId} (h:w.heap[b]? = some (.cells #[x0,x1,x2,x3] t)):w.cell? ⟨b,0,none⟩=some x0∧w.cell? ⟨b,1,none⟩=some x1∧w.cell? ⟨b,2,none⟩=some x2∧w.cell? ⟨b,3,none⟩=some x3:=by
 simp [World.cell?,h]
theorem wrset_one (W0:World) (hT:SpTab W0) (S:Tr→List UInt8) (x:Tr) (h1:Oc.cnt (Oc.mem x.w0 x.w1 x.w2 x.w3) 256=1) (hS:S x=Sp.qb true (UInt8.ofNat (Oc.nx (Oc.mem x.w0 x.w1 x.w2 x.w3) 0))):WrSet W0 S x:=by
 intro w b l hb hl hlen
 have hlt:=nx_one h1
 have hcn:=fun w'=>count_any x.w0 x.w1 x.w2 x.w3 w'
 have hfi:=fun w' (h:Below W0.heap.size W0 w')=>first_any x.w0 x.w1 x.w2 x.w3 w' (hT.later h).1 (hT.later h).2
 rw [hS] at hlen ⊢
 clear hS hT
 generalize Oc.nx (Oc.mem x.w0 x.w1 x.w2 x.w3) 0=c at *
 simp only [if_pos hlt] at hfi
 rw [h1] at hcn
 clear h1
 have HCN:=Lib.hid hcn;have HFI:=Lib.hid hfi
 clear hcn hfi
 have hc8:(UInt8.ofNat c).toNat=c:=by rw [UInt8.toNat_ofNat'];omega
 have HSB:=Lib.hid (fun w' (l':List UInt8) h1 h2 h3=>spbyte_any W0.heap.size b l' (UInt8.ofNat c) true w' h1 h2 h3)
 rw [hc8] at HSB
 generalize UInt8.ofNat c=uc at *
 clear hc8
 generalize x.w0=a0 at *
 generalize x.w1=a1 at *
 generalize x.w2=a2 at *
 generalize x.w3=a3 at *
 have hwz:=hb.size
 have hbw:Below w.heap.size w (w.alloc (.cells #[.int .u64 (Oc.U a0),.int .u64 (Oc.U a1),.int .u64 (Oc.U a2),.int .u64 (Oc.U a3)] 25)):=(Below.refl _ _).alloc (Nat.le_refl _) _
 have Z0:=Lib.hid (heap_alloc_new w (.cells #[.int .u64 (Oc.U a0),.int .u64 (Oc.U a1),.int .u64 (Oc.U a2),.int .u64 (Oc.U a3)] 25))
 have HB0:=Lib.hid (hb.trans (hbw.mono hwz));have HL0:=Lib.hid (hl.later hbw);have HT0:=Lib.hid (BlTo.of_below (b:=b) hwz hbw)
 clear hb hl hbw
 go_enter Tryz.func77,Tryz.ntmps77
 go_wp2_with fail
 refine (HCN.out _).mono ?_;rintro e w1 ⟨rfl,hb1⟩
 have Z1:=Lib.hid (keep_blk (hb1.mono (Nat.le_refl _)) Z0.out)
 have hw0:=HB0.out.size
 have HB1:=Lib.hid (HB0.out.trans (hb1.mono hw0));have HL1:=Lib.hid (HL0.out.later hb1);have HT1:=Lib.hid (HT0.out.trans (BlTo.of_below (b:=b) hw0 hb1))
 obtain ⟨d0,d1,d2,d3⟩:=four_of Z1.out
 clear hb1 Z0 HB0 HL0 HT0 hw0
 go_wp2_with fail
 refine (HFI.out _ HB1.out).mono ?_;rintro e w2 ⟨rfl,hb2⟩
 have hw1:=HB1.out.size
 have HB2:=Lib.hid (HB1.out.trans (hb2.mono hw1));have HL2:=Lib.hid (HL1.out.later hb2);have HT2:=Lib.hid (HT1.out.trans (BlTo.of_below (b:=b) hw1 hb2))
 clear hb2 HB1 HL1 HT1 hw1 d0 d1 d2 d3 Z1
 have hql:=Sp.qb_len true uc
 go_wp2_with fail
 refine (HSB.out _ l HL2.out (by omega) HB2.out.size).mono ?_;rintro e w3 ⟨rfl,h3,t3⟩
 have H3:=Lib.hid h3;have T3:=Lib.hid (HT2.out.trans t3)
 clear h3 t3
 go_wp2
 go_end0
 exact ⟨rfl,H3.out,T3.out⟩
end Go.Proofs.YtfcilopifjddpaaGreatDoor
namespace Go.Proofs.YtfcilopifjddpaaGreatDoor
open Go.RowKit
theorem only_any (v:Nat) (hv:v < 256) (w:World):Calls Tryz.prog 52 #[.int .u8 (v:Int)] w fun e w'=>e=.returned (.agg #[.int .u64 (Oc.U (Oc.mk (fun x=>x == v) 0)),.int .u64 (Oc.U (Oc.mk (fun x=>x == v) 1)),.int .u64 (Oc.U (Oc.mk (fun x=>x == v) 2)),.int .u64 (Oc.U (Oc.mk (fun x=>x == v) 3))])∧Below w.heap.size w w':=by
 have ht:∀ j,(fun x=>x == v) j=((fun _=>false) j || j == v):=fun j=>by simp
 have e:∀ k,Oc.mk (fun x=>x == v) k=if v / 64=k then 1#64 <<< (v % 64) else 0#64:=by
   intro k
   by_cases h:v / 64=k
   · rw [if_pos h,Oc.mk_turn ht h,Oc.mk_none,BitVec.zero_or]
   · rw [if_neg h,Oc.mk_same ht h,Oc.mk_none]
 rw [e 0,e 1,e 2,e 3]
 clear e ht
 have hq:v / 64=0 ∨ v / 64=1 ∨ v / 64=2 ∨ v / 64=3:=by omega
 rcases hq with hq | hq | hq | hq
 all_goals
   rw [hq]
   simp (config:={ decide:=true }) only [if_true,if_false]
   have z:=u0
   go_enter Tryz.func52,Tryz.ntmps52
   go_wp2
   go_returns
   refine ⟨?_,by go_grown⟩
   rw [Oc.shlBit,z]
theorem treetext_any (s:ByteArray) (hs:s.size ≤ 1000000) (w:World):Calls Tryz.prog 25 #[.string s] w (OwnEnd (.several 5 (s.data.toList.map fun c=>Tr.bytes (fun x=>x == c.toNat))) w):=by
 obtain ⟨ts,hts⟩:∃ ts,(s.data.toList.map fun c=>Tr.bytes (fun x=>x == c.toNat))=ts:=⟨_,rfl⟩
 have hl:ts.length=s.size:=by rw [← hts];simp
 obtain ⟨CS,hCS,hmk⟩:=make_nodes ts.length (by omega)
 have HTS:=Lib.hid hts;have HCS:=Lib.hid hCS
 rw [hts]
 rw [hl] at hmk
 clear hts hCS
 have HO:=Lib.hid only_any;have HBY:=Lib.hid bytes_any;have HSQ:=Lib.hid seq_any
 go_enter Tryz.func25,Tryz.ntmps25
 go_wp2
 go_loopw [10] (fun iv wr=>∃ m:Nat,iv=.int .i64 m∧m ≤ ts.length∧Hid (Below w.heap.size w wr)∧w.heap.size+1 < wr.heap.size∧Hid (∃ C:Array Value,wr.heap[w.heap.size+1]? = some (.cells C 28)∧C.size=ts.length * 10)∧Hid (CopiedTo wr (w.heap.size+1) ts m)∧Hid (wr.heap[w.heap.size]? = some (.cells noNode 28))) (fun iv _=>ts.length - (intOf iv).toNat)
 case atStart=>exact ⟨0,rfl,Nat.zero_le _,Lib.hid (by go_grown),by simp,Lib.hid ⟨CS,(two_new _ _ _).2,HCS.out⟩,Lib.hid (CopiedTo.zero _ _ _),Lib.hid (two_new _ _ _).1⟩
 case round =>
   obtain ⟨m,rfl,hm,HB,hsz,HC,HD,Z0⟩:=hrel
   have wm:IntKind.i64.wrap ((m:Int)+1)=(m:Int)+1:=IntWalk.i64_in _ (by omega)
   by_cases hlt:m < ts.length
   · have hsm:m < s.size:=by omega
     have hx:ts[m]? = some (Tr.bytes (fun x=>x == s[m].toNat)):=by
       have:s.data.toList[m]? = some s[m]:=by
         rw [List.getElem?_eq_getElem (by simpa using hsm)];rfl
       rw [← HTS.out,List.getElem?_map,this];rfl
     have hd1:decide ((m:Int) < s.size)=true:=by simp;omega
     have hd1':decide (m < s.size)=true:=by simpa using hsm
     have hc:=s[m].toNat_lt
     have HX:=Lib.hid hx
     clear hx
     go_wp2_with fail
     generalize s[m].toNat=n at *
     refine (HO.out n hc wr).mono ?_
     rintro e w1 ⟨rfl,hb1⟩
     generalize hP:(fun x=>x == n)=P at *
     have HB1:=Lib.hid hb1
     clear hb1 hP
     go_wp2_with fail
     refine (HBY.out P w1).mono ?_
     rintro e w2 ⟨s2,F2,rfl,ho2,hF2,hb2⟩
     obtain ⟨p2,c2,rfl,hl2⟩:=ho2.slice
     have hb12:Below wr.heap.size wr w2:=HB1.out.trans (hb2.mono HB1.out.size)
     obtain ⟨C,hC1,hC2⟩:=HC.out
     have hC3:=keep_blk hb12 hC1
     have hth:w2.there (w.heap.size+1) (m * 10) 10:=there_row hC3 (by omega)
     have HTH:=Lib.hid hth
     generalize hxt:Tr.bytes P=x at *
     have HST:=Lib.hid (HD.out.step HX.out hb12 hsz ho2 (fun b hb=>Nat.le_trans HB1.out.size (hF2 b hb)) hth)
     have HB2:=Lib.hid (HB.out.trans (hb12.mono HB.out.size))
     have HC4:Hid (∃ C:Array Value,(w2.setCells (w.heap.size+1) (m * 10) (x.cells (.slice p2 x.subs.length c2)).toList).heap[w.heap.size+1]? = some (.cells C 28)∧C.size=ts.length * 10):=Lib.hid (row_setCells hC3 hC2)
     have Z4:Hid ((w2.setCells (w.heap.size+1) (m * 10) (x.cells (.slice p2 x.subs.length c2)).toList).heap[w.heap.size]? = some (.cells noNode 28)):=Lib.hid (by rw [heap_setCells_other (by omega)];exact keep_blk hb12 Z0.out)
     have hs2:w.heap.size+1 < w2.heap.size:=Nat.lt_of_lt_of_le hsz hb12.size
     clear hb2 hb12 ho2 hF2 hC1 hC2 hC3 hth hxt HBY HO
     go_wp2_with (first
       | (refine wpList_store_mid rfl 28 (.tmp 20) (.tmp 19) rfl (w.heap.size+1) (m * 10) (x.cells (.slice p2 x.subs.length c2)) rfl rfl HTH.out (by kernel_rfl) (nodeC_all _ _ _ _) ?_;generalize hw3:World.setCells w2 _ _ _=w3;have HW3:=Lib.hid hw3;clear hw3)
       | fail)
     rw [← HW3.out]
     exact ⟨⟨m+1,by go_num,by omega,Lib.hid (setCells_below HB2.out (by omega) _ _),by rw [size_setCells];exact hs2,HC4,HST,Z4⟩,by simp [intOf];omega⟩
   · obtain rfl:m=ts.length:=by omega
     obtain ⟨C,hC1,-⟩:=HC.out
     obtain ⟨F,hF,hF2⟩:=HD.out.owned (by omega) ⟨C,_,hC1⟩ ts.length
     have hcall:=HSQ.out ts wr (fun b=>b ∈ F) _ hF.trees
     rw [hl] at hcall
     have HCALL:=Lib.hid hcall
     clear hcall hC1 HC HD hF2
     go_wp2_with fail
     refine HCALL.out.mono ?_
     rintro e w2 ⟨s2,F2,rfl,ho2,hF2',hb2⟩
     obtain ⟨p2,c2,rfl,hl2⟩:=ho2.slice
     have HO2:=Lib.hid ho2;have HF2:=Lib.hid hF2'
     have Y0:=Lib.hid (keep_blk hb2 Z0.out)
     have HB2:=Lib.hid (HB.out.trans (hb2.mono HB.out.size))
     generalize Tr.several 5 ts=t at *
     clear ho2 hF2' hb2 HCALL
     unfold Tr.cells
     go_wp2_with (first
       | (refine wpList_store_row rfl 28 (.tmp 2) (.tmp 23) rfl w.heap.size #[.int .i64 t.kind,.int .u64 (Oc.U t.w0),.int .u64 (Oc.U t.w1),.int .u64 (Oc.U t.w2),.int .u64 (Oc.U t.w3),.slice p2 t.subs.length c2,.int .i64 t.num,.int .i64 t.least,.int .i64 t.most,.bool t.bare] rfl rfl 28 _ Y0.out (by kernel_rfl) rfl (by simp [Value.oneCell']) ?_)
       | fail)
     refine bodyPost_ret (results_cell_row rfl _ _ w.heap.size 28 #[.int .i64 t.kind,.int .u64 (Oc.U t.w0),.int .u64 (Oc.U t.w1),.int .u64 (Oc.U t.w2),.int .u64 (Oc.U t.w3),.slice p2 t.subs.length c2,.int .i64 t.num,.int .i64 t.least,.int .i64 t.most,.bool t.bare] (0,0) _ rfl (heap_setRow Y0.out) Tryz.underlying28 rfl (by kernel_rfl)) rfl ⟨.slice p2 t.subs.length c2,F2,rfl, ?_, ?_, ?_⟩
     · exact HO2.out.keep fun b hb=>by have:=HF2.out b hb;rw [heap_setRow_other _ _ _ (by omega)]
     · intro b hb;have:=HF2.out b hb;omega
     · exact below_setRow HB2.out (Nat.le_refl _) _
def SameT (t:Tr):Prop:=∀ (u:Tr) (w:World) (B C:Nat→Prop) (va vb:Value),NodeV w B va t→NodeV w C vb u→Calls Tryz.prog 24 #[va,vb] w (SameEnd t u w)
theorem equalfunc_of (ts us:List Tr) (ih:∀ t,t ∈ ts→SameT t) (w:World) (B C:Nat→Prop) (va vb:Value) (ha:TreesAt w B va ts) (hb:TreesAt w C vb us) :
   Calls Tryz.prog 50 #[va,vb,.func (.func 24) #[] #[]] w fun e w'=>∃ b:Bool,e=.returned (.bool b)∧(b=true ↔ ts=us)∧Below w.heap.size w w':=by
 obtain ⟨p,cap,rfl,hla⟩:=ha.slice
 obtain ⟨q,cbp,rfl,hlb⟩:=hb.slice
 have IH:=Lib.hid ih;have HSA:=Lib.hid ha;have HSB:=Lib.hid hb
 clear ih ha hb
 by_cases hx:ts.length=us.length
 case neg =>
   have HN:=Lib.hid (show ts ≠ us from fun h=>hx (by rw [h]))
   have e1:((ts.length:Int) != (us.length:Int))=true:=by simp;omega
   have e2:(ts.length != us.length)=true:=by simpa using hx
   have e3:(ts.length == us.length)=false:=by simpa using hx
   clear hx
   go_enter Tryz.func50,Tryz.ntmps50
   go_wp2
   go_ret
   exact ⟨false,rfl,⟨fun h=>(by cases h),fun h=>absurd h HN.out⟩,by go_grown⟩
 have hlen:us.length=ts.length:=hx.symm
 clear hx
 rw [hlen] at HSB hlb ⊢
 go_enter Tryz.func50,Tryz.ntmps50
 go_wp2
 go_loopw [17] (fun iv wr=>∃ m:Nat,iv=.int .i64 m∧m ≤ ts.length∧Hid (∀ j,j < m→ts[j]? = us[j]?)∧Hid (Below w.heap.size w wr)) (fun iv _=>ts.length - (intOf iv).toNat)
 case atStart=>exact ⟨0,rfl,Nat.zero_le _,Lib.hid (fun j hj=>absurd hj (Nat.not_lt_zero _)),Lib.hid (Below.refl _ _)⟩
 case round =>
   obtain ⟨m,rfl,hm,HALL,HB⟩:=hrel
   have wm:IntKind.i64.wrap ((m:Int)+1)=(m:Int)+1:=IntWalk.i64_in _ (by omega)
   by_cases hlt:m < ts.length
   · obtain ⟨x,hx⟩:∃ x,ts[m]? = some x:=⟨_,List.getElem?_eq_getElem hlt⟩
     obtain ⟨y,hy⟩:∃ y,us[m]? = some y:=⟨_,List.getElem?_eq_getElem (by omega)⟩
     obtain ⟨b1,o1,s1,rfl,-,t1,sub1⟩:=HSA.out.get hx
     obtain ⟨b2,o2,s2,rfl,-,t2,sub2⟩:=HSB.out.get hy
     obtain ⟨p1,c1,rfl,hl1⟩:=sub1.slice
     obtain ⟨p2,c2,rfl,hl2⟩:=sub2.slice
     obtain ⟨d0,d1,d2,d3,d4,d5,d6,d7,d8,d9⟩:=t1.keep (HB.out.block _ t1.lt)
     have T2:=Lib.hid t2
     have l2:=t2.lt
     have HS:=Lib.hid (fun w9 (hb:Below w.heap.size w w9)=>IH.out x (List.mem_of_getElem? hx) y w9 B C (.agg (x.cells (.slice p1 x.subs.length c1))) (.agg (y.cells (.slice p2 y.subs.length c2))) ⟨_,rfl,sub1.later hb⟩ ⟨_,rfl,sub2.later hb⟩)
     have HX:=Lib.hid hx;have HY:=Lib.hid hy
     clear t1 t2 sub1 sub2 hx hy
     unfold Tr.cells at HS
     have hwz:=HB.out.size
     have hbx:Below wr.heap.size wr (wr.alloc (.cells #[.int .i64 x.kind,.int .u64 (Oc.U x.w0),.int .u64 (Oc.U x.w1),.int .u64 (Oc.U x.w2),.int .u64 (Oc.U x.w3),.slice p1 x.subs.length c1,.int .i64 x.num,.int .i64 x.least,.int .i64 x.most,.bool x.bare] 28)):=(Below.refl _ _).alloc (Nat.le_refl _) _
     have HB1:=Lib.hid (HB.out.trans (hbx.mono hwz))
     obtain ⟨e0,e1,e2,e3,e4,e5,e6,e7,e8,e9⟩:=T2.out.keep (HB1.out.block _ l2)
     clear hbx
     have HZ:=Lib.hid (heap_alloc_new wr (.cells #[.int .i64 x.kind,.int .u64 (Oc.U x.w0),.int .u64 (Oc.U x.w1),.int .u64 (Oc.U x.w2),.int .u64 (Oc.U x.w3),.slice p1 x.subs.length c1,.int .i64 x.num,.int .i64 x.least,.int .i64 x.most,.bool x.bare] 28))
     go_upto_region 6 with (fail)
     generalize wr.alloc (.cells #[.int .i64 x.kind,.int .u64 (Oc.U x.w0),.int .u64 (Oc.U x.w1),.int .u64 (Oc.U x.w2),.int .u64 (Oc.U x.w3),.slice p1 x.subs.length c1,.int .i64 x.num,.int .i64 x.least,.int .i64 x.most,.bool x.bare] 28)=w1 at *
     clear d0 d1 d2 d3 d4 d5 d6 d7 d8 d9
     have hbn:Below w1.heap.size w1 (w1.alloc (.cells #[.int .i64 y.kind,.int .u64 (Oc.U y.w0),.int .u64 (Oc.U y.w1),.int .u64 (Oc.U y.w2),.int .u64 (Oc.U y.w3),.slice p2 y.subs.length c2,.int .i64 y.num,.int .i64 y.least,.int .i64 y.most,.bool y.bare] 28)):=(Below.refl _ _).alloc (Nat.le_refl _) _
     have HB2:=Lib.hid (HB1.out.trans (hbn.mono HB1.out.size))
     have HZ2:=Lib.hid (keep_blk hbn HZ.out)
     have HY2:=Lib.hid (heap_alloc_new w1 (.cells #[.int .i64 y.kind,.int .u64 (Oc.U y.w0),.int .u64 (Oc.U y.w1),.int .u64 (Oc.U y.w2),.int .u64 (Oc.U y.w3),.slice p2 y.subs.length c2,.int .i64 y.num,.int .i64 y.least,.int .i64 y.most,.bool y.bare] 28))
     clear hbn HZ
     go_upto_region 7 with (fail)
     generalize w1.alloc (.cells #[.int .i64 y.kind,.int .u64 (Oc.U y.w0),.int .u64 (Oc.U y.w1),.int .u64 (Oc.U y.w2),.int .u64 (Oc.U y.w3),.slice p2 y.subs.length c2,.int .i64 y.num,.int .i64 y.least,.int .i64 y.most,.bool y.bare] 28)=w2 at *
     clear e0 e1 e2 e3 e4 e5 e6 e7 e8 e9
     obtain ⟨d0,d1,d2,d3,d4,d5,d6,d7,d8,d9⟩:=allTen HZ2.out
     obtain ⟨e0,e1,e2,e3,e4,e5,e6,e7,e8,e9⟩:=allTen HY2.out
     go_wp2_with fail
     refine (HS.out _ HB2.out).mono ?_
     rintro e w3 ⟨b,rfl,hbe,hb3⟩
     have HB3:=Lib.hid (HB2.out.trans (hb3.mono HB2.out.size))
     have HBE:=Lib.hid hbe
     clear hb3 hbe d0 d1 d2 d3 d4 d5 d6 d7 d8 d9 e0 e1 e2 e3 e4 e5 e6 e7 e8 e9
     cases b with
     | false =>
       go_wp2
       go_ret
       exact ⟨false,rfl,⟨fun h=>(by cases h),fun h=>by
         have h2:=HX.out;rw [h,HY.out] at h2
         have:=HBE.out.2 (Option.some.inj h2).symm
         cases this⟩,HB3.out⟩
     | true =>
       go_wp2
       refine ⟨⟨m+1,by go_num,by omega,Lib.hid ?_,HB3⟩,by simp [intOf];omega⟩
       intro j hj
       by_cases hjm:j=m
       · subst hjm;rw [HX.out,HY.out,HBE.out.1 trivial]
       · exact HALL.out j (by omega)
   · obtain rfl:m=ts.length:=by omega
     go_wp2
     go_ret
     refine ⟨true,rfl,⟨fun _=>?_,fun _=>rfl⟩,HB.out⟩
     refine List.ext_getElem? fun j=>?_
     rcases Nat.lt_or_ge j ts.length with h | h
     · exact HALL.out j h
     · rw [List.getElem?_eq_none h,List.getElem?_eq_none (by omega)]
theorem bne_int {a b:Int} (h:a ≠ b):(a != b)=true:=by simpa using h
theorem treesame_any:∀ t:Tr,SameT t:=by
 intro t
 induction t using Tr.rec_subs with
 | h t ih =>
   intro u w B C va vb ha hb
   obtain ⟨sa,rfl,hsa⟩:=ha
   obtain ⟨sb,rfl,hsb⟩:=hb
   obtain ⟨p,cap,rfl,hla⟩:=hsa.slice
   obtain ⟨q,cbp,rfl,hlb⟩:=hsb.slice
   have he:=eq4
   cases t with | node k a b c d ts n lo hi br =>
   cases u with | node k' a' b' c' d' us n' lo' hi' br' =>
   simp only [Tr.cells,Tr.kind,Tr.w0,Tr.w1,Tr.w2,Tr.w3,Tr.num,Tr.least,Tr.most,Tr.bare,Tr.subs] at *
   have HEQ:=Lib.hid (fun w9 (h9:Below w.heap.size w w9)=>equalfunc_of ts us ih w9 B C _ _ (hsa.later h9) (hsb.later h9))
   clear ih hsa hsb
   by_cases hx:k=k'
   case neg =>
     have HN:=Lib.hid (show Tr.node k a b c d ts n lo hi br ≠ .node k' a' b' c' d' us n' lo' hi' br' from fun h=>by cases h;exact hx rfl)
     have e1:=bne_int hx
     clear hx HEQ
     go_enter Tryz.func24,Tryz.ntmps24
     go_wp2
     go_ret
     exact sameEnd_no HN.out (by go_grown)
   obtain rfl:=hx
   by_cases hx:a=a'∧b=b'∧c=c'∧d=d'
   case neg =>
     have HN:=Lib.hid (show Tr.node k a b c d ts n lo hi br ≠ .node k a' b' c' d' us n' lo' hi' br' from fun h=>by cases h;exact hx ⟨rfl,rfl,rfl,rfl⟩)
     have e2:=U_ne hx
     clear hx HEQ
     go_enter Tryz.func24,Tryz.ntmps24
     go_wp2
     go_ret
     exact sameEnd_no HN.out (by go_grown)
   obtain ⟨rfl,rfl,rfl,rfl⟩:=hx
   by_cases hx:n=n'
   case neg =>
     have HN:=Lib.hid (show Tr.node k a b c d ts n lo hi br ≠ .node k a b c d us n' lo' hi' br' from fun h=>by cases h;exact hx rfl)
     have e1:=bne_int hx
     clear hx HEQ
     go_enter Tryz.func24,Tryz.ntmps24
     go_wp2
     go_ret
     exact sameEnd_no HN.out (by go_grown)
   obtain rfl:=hx
   by_cases hx:lo=lo'
   case neg =>
     have HN:=Lib.hid (show Tr.node k a b c d ts n lo hi br ≠ .node k a b c d us n lo' hi' br' from fun h=>by cases h;exact hx rfl)
     have e1:=bne_int hx
     clear hx HEQ
     go_enter Tryz.func24,Tryz.ntmps24
     go_wp2
     go_ret
     exact sameEnd_no HN.out (by go_grown)
   obtain rfl:=hx
   by_cases hx:hi=hi'
   case neg =>
     have HN:=Lib.hid (show Tr.node k a b c d ts n lo hi br ≠ .node k a b c d us n lo hi' br' from fun h=>by cases h;exact hx rfl)
     have e1:=bne_int hx
     clear hx HEQ
     go_enter Tryz.func24,Tryz.ntmps24
     go_wp2
     go_ret
     exact sameEnd_no HN.out (by go_grown)
   obtain rfl:=hx
   by_cases hx:br=br'
   case neg =>
     have HN:=Lib.hid (show Tr.node k a b c d ts n lo hi br ≠ .node k a b c d us n lo hi br' from fun h=>by cases h;exact hx rfl)
     have hbb:(br=true∧br'=false) ∨ (br=false∧br'=true):=by cases br <;> cases br' <;> simp at hx ⊢
     clear hx HEQ
     rcases hbb with ⟨rfl,rfl⟩ | ⟨rfl,rfl⟩
     all_goals
       go_enter Tryz.func24,Tryz.ntmps24
       go_wp2
       go_ret
       exact sameEnd_no HN.out (by go_grown)
   obtain rfl:=hx
   have hbw:Below w.heap.size w ((w.alloc (.cells #[.int .i64 k,.int .u64 (Oc.U a),.int .u64 (Oc.U b),.int .u64 (Oc.U c),.int .u64 (Oc.U d),.slice p ts.length cap,.int .i64 n,.int .i64 lo,.int .i64 hi,.bool br] 28)).alloc (.cells #[.int .i64 k,.int .u64 (Oc.U a),.int .u64 (Oc.U b),.int .u64 (Oc.U c),.int .u64 (Oc.U d),.slice q us.length cbp,.int .i64 n,.int .i64 lo,.int .i64 hi,.bool br] 28)):=by go_grown
   have HBW:=Lib.hid hbw
   clear hbw
   go_enter Tryz.func24,Tryz.ntmps24
   go_wp2_with fail
   refine (HEQ.out _ HBW.out).mono ?_
   rintro e w3 ⟨b1,rfl,hbe,hb3⟩
   have HB3:=Lib.hid (HBW.out.trans (hb3.mono HBW.out.size));have HBE:=Lib.hid hbe
   clear hb3 hbe
   go_wp2
   go_ret
   refine ⟨b1,rfl,⟨fun h=>by rw [HBE.out.1 h],fun h=>HBE.out.2 (by injection h)⟩,HB3.out⟩
end Go.Proofs.YtfcilopifjddpaaGreatDoor
namespace Go.Proofs.YtfcilopifjddpaaGreatDoor
open Go.RowKit
namespace Sp
def oneTx (x:Tr):List UInt8:=qb true (UInt8.ofNat (Oc.nx (Oc.mem x.w0 x.w1 x.w2 x.w3) 0))
def livT:Tr:=.rep 2 (-1) (.grp 1 (.bytes fun x=>x == 97))
theorem liv_cnt:Oc.cnt (Oc.mem (Tr.bytes fun x=>x == 97).w0 (Tr.bytes fun x=>x == 97).w1 (Tr.bytes fun x=>x == 97).w2 (Tr.bytes fun x=>x == 97).w3) 256=1:=by
 rw [Oc.cnt_congr (q:=fun x=>x == 97) 256 (fun i hi=>Oc.mem_mk _ i hi)]
 exact cnt_single (by omega)
theorem liv_nx:Oc.nx (Oc.mem (Tr.bytes fun x=>x == 97).w0 (Tr.bytes fun x=>x == 97).w1 (Tr.bytes fun x=>x == 97).w2 (Tr.bytes fun x=>x == 97).w3) 0=97 :=
 nx_single (by omega) fun i hi=>Oc.mem_mk _ i hi
theorem liv_tidy:Tidy livT:=by
 have f1:(Tr.bytes fun x=>x == 97).InForm:=.mk _ (.inr (.inl ⟨rfl,rfl,rfl,rfl,rfl,rfl⟩)) (fun u hu=>by cases hu)
 have f2:(Tr.grp 1 (.bytes fun x=>x == 97)).InForm:=.mk _ (.inr (.inr (.inr (.inl ⟨rfl,rfl,rfl,rfl,rfl,rfl,by decide,by decide,rfl,rfl,rfl⟩)))) (fun u hu=>by
   rcases List.mem_cons.1 hu with rfl | hu
   · exact f1
   · cases hu)
 have f3:livT.InForm:=.mk _ (.inr (.inr (.inr (.inr ⟨rfl,rfl,rfl,rfl,rfl,rfl,rfl,by decide,by decide,.inl rfl,fun h=>(by cases h)⟩)))) (fun u hu=>by
   rcases List.mem_cons.1 hu with rfl | hu
   · exact f2
   · cases hu)
 have hn:livT.numsT=[1]:=rfl
 refine ⟨f3, ?_, ?_, ?_, ?_, ?_⟩
 · simp [livT,Tr.rep,Tr.grp,Tr.bytes,Tr.dpT,Tr.dpS]
 · simp [livT,Tr.rep,Tr.grp,Tr.bytes,Tr.szT,Tr.szS,Tr.szH,Tr.repSz,Tr.sat]
 · rw [hn];simp
 · intro i hi
   rw [hn] at hi ⊢
   obtain rfl:i=0:=by simp at hi;omega
   rfl
 · rfl
theorem liv_text:txT oneTx livT=[40,97,41,123,50,44,125]:=by
 have h1:oneTx (Tr.bytes fun x=>x == 97)=[97]:=by
   unfold oneTx;rw [liv_nx];decide
 have h2:Lib.itoa 2=[50]:=by unfold Lib.itoa;rw [if_neg (by omega)];exact dec_small (by omega)
 have h3:txT oneTx (Tr.bytes fun x=>x == 97)=[97]:=by
   rw [← h1];unfold Tr.bytes;rw [txT,if_pos rfl]
 have h5:repTx 2 (-1)=[123,50,44,125]:=by
   unfold repTx;rw [if_pos rfl,if_neg (by decide),if_neg (by decide),h2];rfl
 simp [livT,Tr.rep,Tr.grp,txT,txS,txR,h3,h5]
theorem liv_lvs:∀ x,x ∈ lvsT livT→x=Tr.bytes fun x=>x == 97:=by
 intro x hx
 have:lvsT livT=[Tr.bytes fun x=>x == 97]:=rfl
 rw [this] at hx
 simpa using hx
end Sp
theorem splives_any (w:World) (hF:SpPow w) (hT:SpTab w):Calls Tryz.prog 14 #[] w fun e w'=>e=.returned (.bool true)∧Below w.heap.size w w':=by
 have HF:=Lib.hid hF;have HT:=Lib.hid hT
 have hs1:((tx [40,97,41,123,50,44,125]).toList == [40,97,41,123,50,44,125])=true:=by rw [toList_eq];rfl
 have hs2:((⟨(Sp.quote false [97,46,98,42]).toArray⟩:ByteArray).toList == [97,92,46,98,92,42])=true:=by rw [toList_eq];rfl
 obtain ⟨T1,hT1⟩:∃ T1,Tr.bytes (fun x=>x == 97)=T1:=⟨_,rfl⟩
 have h1:=treetext_any ⟨#[97]⟩ (by decide) w
 have hT0:(Tr.several 5 ((⟨#[97]⟩:ByteArray).data.toList.map fun c=>Tr.bytes (fun x=>x == c.toNat)))=Tr.bytes (fun x=>x == 97):=rfl
 rw [hT0,hT1] at h1
 have H1:=Lib.hid h1
 have HL:=Lib.hid (show Tr.rep 2 (-1) (Tr.grp 1 T1)=Sp.livT from hT1 ▸ rfl)
 clear hF hT hT0 hT1 h1
 go_enter Tryz.func14,Tryz.ntmps14
 go_wp2_with fail
 refine H1.out.mono ?_
 rintro e w1 ⟨s1,F1,rfl,ho1,-,hb1⟩
 have N1:=Lib.hid (show NodeV w1 (fun b=>b ∈ F1) (.agg (T1.cells s1)) T1 from ⟨_,rfl,ho1.trees⟩)
 have HB1:=Lib.hid hb1
 clear ho1 hb1 H1
 go_wp2_with fail
 refine (group_any T1 1 w1 _ _ N1.out).mono ?_
 rintro e w2 ⟨s2,F2,rfl,ho2,-,hb2⟩
 generalize Tr.grp 1 T1=T2 at *
 have N2:=Lib.hid (show NodeV w2 (fun b=>b ∈ F2) (.agg (T2.cells s2)) T2 from ⟨_,rfl,ho2.trees⟩)
 have HB2:=Lib.hid (HB1.out.trans (hb2.mono HB1.out.size))
 clear ho2 hb2 HB1
 go_wp2_with fail
 refine (rep_any T2 2 (-1) w2 _ _ N2.out).mono ?_
 rintro e w3 ⟨s3,F3,rfl,ho3,-,hb3⟩
 obtain ⟨p3,c3,rfl,hl3⟩:=ho3.slice
 rw [HL.out] at ho3 ⊢
 have HB3:=Lib.hid (HB2.out.trans (hb3.mono HB2.out.size))
 clear hb3 HB2 HL N1 N2 hl3
 have N3:=Lib.hid (fun w' (hb:Below w3.heap.size w3 w')=>(show NodeV w' (fun b=>b ∈ F3) (.agg (Sp.livT.cells (.slice p3 Sp.livT.subs.length c3))) Sp.livT from ⟨_,rfl,ho3.trees.later hb⟩))
 clear ho3
 have h4:=fun w' (hb:Below w3.heap.size w3 w')=>ere_yes Sp.livT Sp.liv_tidy (by decide) Sp.oneTx w' (HF.out.later (HB3.out.trans (hb.mono HB3.out.size))) (fun w0 hb0 x hx=>by
   rw [Sp.liv_lvs x hx]
   exact wrset_one w0 (HT.out.later ((HB3.out.trans (hb.mono HB3.out.size)).trans (hb0.mono (Nat.le_trans HB3.out.size hb.size)))) _ _ Sp.liv_cnt rfl) (by rw [Sp.liv_text];decide) _ _ (N3.out w' hb)
 have h5:=fun w' (hb:Below w3.heap.size w3 w')=>tidy_yes Sp.livT Sp.liv_tidy w' _ _ (N3.out w' hb)
 rw [Sp.liv_text] at h4
 have H4:=Lib.hid h4;have H5:=Lib.hid h5
 clear h4 h5 N3
 have HQ:=Lib.hid (fun w'=>quote_any ⟨#[97,46,98,42]⟩ 0 false (by decide) (by decide) w')
 unfold Tr.cells at *
 generalize Sp.livT=T at *
 have Z0:=Lib.hid (heap_alloc_new w3 (.cells #[.int .i64 T.kind,.int .u64 (Oc.U T.w0),.int .u64 (Oc.U T.w1),.int .u64 (Oc.U T.w2),.int .u64 (Oc.U T.w3),.slice p3 T.subs.length c3,.int .i64 T.num,.int .i64 T.least,.int .i64 T.most,.bool T.bare] 28))
 have HW:=Lib.hid (show Below w3.heap.size w3 (w3.alloc (.cells #[.int .i64 T.kind,.int .u64 (Oc.U T.w0),.int .u64 (Oc.U T.w1),.int .u64 (Oc.U T.w2),.int .u64 (Oc.U T.w3),.slice p3 T.subs.length c3,.int .i64 T.num,.int .i64 T.least,.int .i64 T.most,.bool T.bare] 28)) from (Below.refl _ _).alloc (Nat.le_refl _) _)
 go_upto_region 2 with (fail)
 generalize w3.alloc (.cells #[.int .i64 T.kind,.int .u64 (Oc.U T.w0),.int .u64 (Oc.U T.w1),.int .u64 (Oc.U T.w2),.int .u64 (Oc.U T.w3),.slice p3 T.subs.length c3,.int .i64 T.num,.int .i64 T.least,.int .i64 T.most,.bool T.bare] 28)=W3 at *
 obtain ⟨d0,d1,d2,d3,d4,d5,d6,d7,d8,d9⟩:=allTen Z0.out
 go_wp2_with fail
 refine (H4.out _ HW.out).mono ?_
 rintro e w4 ⟨rfl,hb4⟩
 have Z4:=Lib.hid (keep_blk (hb4.mono (Nat.le_refl _)) Z0.out)
 have HB4:=Lib.hid (HW.out.trans (hb4.mono HW.out.size))
 clear hb4 d0 d1 d2 d3 d4 d5 d6 d7 d8 d9 H4
 obtain ⟨d0,d1,d2,d3,d4,d5,d6,d7,d8,d9⟩:=allTen Z4.out
 go_wp2_with fail
 refine (H5.out _ HB4.out).mono ?_
 rintro e w5 ⟨rfl,hb5⟩
 have HB5:=Lib.hid (HB4.out.trans (hb5.mono HB4.out.size))
 clear hb5 d0 d1 d2 d3 d4 d5 d6 d7 d8 d9 H5
 go_wp2_with fail
 refine (HQ.out _).mono ?_
 rintro e w6 ⟨rfl,hb6⟩
 have HB6:=Lib.hid (HB3.out.trans ((HB5.out.trans (hb6.mono HB5.out.size)).mono HB3.out.size))
 clear hb6
 go_wp2
 go_ret
 exact ⟨rfl,HB6.out⟩
end Go.Proofs.YtfcilopifjddpaaGreatDoor
namespace Go.Proofs.YtfcilopifjddpaaGreatDoor
open Go.RowKit
theorem dotted_ext (s:ByteArray) (i:Nat):Br.dotted (bt (s.extract i s.size)) 0=Br.dotted (bt s) i:=by unfold Br.dotted;rw [bt_ext,bt_ext];rfl
theorem colon_ext (s:ByteArray) (i:Nat):Br.colon (bt (s.extract i s.size)) 0=Br.colon (bt s) i:=by unfold Br.colon;rw [bt_ext,bt_ext];rfl
theorem coll_at (s:ByteArray) (i:Nat) (b:Bool) (hb:Br.dotted (bt s) i=b) (w:World):Calls Tryz.prog 220 #[.string (s.extract i s.size)] w fun e w'=>e=.returned (.bool b)∧w=w':=by
 have:=opens_coll (s.extract i s.size) w;rw [dotted_ext,hb] at this;exact this
theorem class_at (s:ByteArray) (i:Nat) (b:Bool) (hb:Br.colon (bt s) i=b) (w:World):Calls Tryz.prog 221 #[.string (s.extract i s.size)] w fun e w'=>e=.returned (.bool b)∧w=w':=by
 have:=opens_class (s.extract i s.size) w;rw [colon_ext,hb] at this;exact this
theorem range_p (lo hi:Nat) (h1:lo < 256) (h2:hi < 256) (w:World):Calls Tryz.prog 217 #[.int .u8 lo,.int .u8 hi] w fun e w' =>
   e=.returned (.agg #[.int .u64 (Oc.U (Oc.mk (Br.rng lo hi) 0)),.int .u64 (Oc.U (Oc.mk (Br.rng lo hi) 1)),.int .u64 (Oc.U (Oc.mk (Br.rng lo hi) 2)),.int .u64 (Oc.U (Oc.mk (Br.rng lo hi) 3))])∧Below w.heap.size w w':=by
 have e:∀ q,Oc.mk (upto lo (hi+1)) q=Oc.mk (Br.rng lo hi) q:=fun q=>Oc.mk_eq fun i hi'=>by
   rw [Oc.mk_bit _ _ _ hi'];unfold upto Br.rng
   rw [Bool.eq_iff_iff];simp;omega
 have:=range_any lo hi h1 h2 w
 rw [e,e,e,e] at this
 exact this
theorem setP_one (P:Nat→Bool):(#[.int .u64 (Oc.U (Oc.mk (P) 0)),.int .u64 (Oc.U (Oc.mk (P) 1)),.int .u64 (Oc.U (Oc.mk (P) 2)),.int .u64 (Oc.U (Oc.mk (P) 3))]:Array Value).all (·.oneCell')=true:=setC_one
theorem drewN_below {B:Nat} {w w':World} (h:Below B w w') (n:Nat):Below B w (w'.drewN n):=h.trans ⟨rfl,rfl,rfl,Nat.le_refl _,fun _ _=>rfl⟩
theorem span_coll (A:Nat→Addr) (s:ByteArray) (hs:s.size ≤ 4294967280) (a i:Nat) (hi:i+2 < s.size) (hd:Br.dotted (bt s) (i+2)=true) (w:World) (hE:BrEnv w A) :
   Calls Tryz.prog 223 #[.agg #[.string s,.int .i64 a],.int .i64 i] w (ItEnd A (.err 7 ((i:Int)+2)) w):=by
 have h1:=bt_at (show i < s.size by omega)
 have h2:=bt_at hi
 have hw:IntKind.i64.wrap ((i:Int)+2)=(i:Int)+2:=IntWalk.i64_in _ (by omega)
 have hi1:(0:Int) ≤ i:=by omega
 have hi2:(i:Int) < s.size:=by omega
 have hi3:(0:Int) ≤ (i:Int)+2:=by omega
 have hi4:(i:Int)+2 < s.size:=by omega
 have hx256:bt s i < 256:=(bt_txt s).1 i (by omega)
 have hy256:bt s (i+2) < 256:=(bt_txt s).1 (i+2) hi
 have HD:=Lib.hid (coll_at s (i+2) _ hd)
 have HE:=Lib.hid hE
 clear hE hd
 generalize bt s i=x at *
 generalize bt s (i+2)=y at *
 go_enter Tryz.func223,Tryz.ntmps223
 go_wp2
 go_quiet (fail)
 generalize hW:World.drewN _ _=W at *
 have Z:W.heap[w.heap.size+1]? = some (.cells noSet 25):=by rw [← hW];exact (two_new w _ _).2
 have Z0:W.heap[w.heap.size]? = some (.cells #[.string s,.int .i64 a] 215):=by rw [← hW];exact (two_new w _ _).1
 have hb0:Below w.heap.size w W:=by rw [← hW];exact drewN_below (by go_grown) _
 have hsz:W.heap.size=w.heap.size+2:=by rw [← hW];simp
 have HE':=Lib.hid (HE.out.below hb0)
 have c6:W.cell? ⟨6,0,none⟩=some (.iface 232 (.pointer (some (A 6)))):=(HE'.out.errs 6 (by omega)).1
 have ZZ:=Lib.hid Z;have HB0:=Lib.hid hb0;have HSZ:=Lib.hid hsz
 clear hW Z hb0 hsz
 clear Z0
 go_wp2_with fail
 refine (HD.out _).mono ?_;rintro e w' ⟨rfl,rfl⟩
 go_wp2_with fail
 refine (at_err A 6 (by omega) ((i:Int)+2) _).mono ?_
 rintro e w1 ⟨v,rfl,hv,hb⟩
 have Z:=Lib.hid (keep_blk hb ZZ.out)
 have HB:=Lib.hid (HB0.out.trans (hb.mono HB0.out.size))
 have HV:=Lib.hid hv
 clear hb hv
 go_wp2_with (first
   | (refine wpList_store_row rfl 25 (.tmp 4) (.tmp 28) rfl (w.heap.size+1) noSet rfl rfl 25 _ Z.out (by kernel_rfl) rfl noSet_one ?_)
   | fail)
 exact bodyPost_ret (results_row_two rfl _ _ (w.heap.size+1) 25 noSet (0,0) _ _ _ rfl rfl rfl (heap_setRow Z.out) Tryz.underlying25 rfl (by kernel_rfl)) rfl ⟨⟨v,rfl,(HV.out.setRow (by rw [HSZ.out];omega) noSet).down HB0.out.size⟩,below_setRow HB.out (Nat.le_succ _) _⟩
theorem span_class (A:Nat→Addr) (s:ByteArray) (hs:s.size ≤ 4294967280) (a i:Nat) (hi:i+2 < s.size) (hd:Br.dotted (bt s) (i+2)=false) (hc:Br.colon (bt s) (i+2)=true) (w:World) (hE:BrEnv w A) :
   Calls Tryz.prog 223 #[.agg #[.string s,.int .i64 a],.int .i64 i] w (ItEnd A (.err 5 i) w):=by
 have h1:=bt_at (show i < s.size by omega)
 have h2:=bt_at hi
 have hw:IntKind.i64.wrap ((i:Int)+2)=(i:Int)+2:=IntWalk.i64_in _ (by omega)
 have hi1:(0:Int) ≤ i:=by omega
 have hi2:(i:Int) < s.size:=by omega
 have hi3:(0:Int) ≤ (i:Int)+2:=by omega
 have hi4:(i:Int)+2 < s.size:=by omega
 have hx256:bt s i < 256:=(bt_txt s).1 i (by omega)
 have hy256:bt s (i+2) < 256:=(bt_txt s).1 (i+2) hi
 have HD:=Lib.hid (coll_at s (i+2) _ hd)
 have HC:=Lib.hid (class_at s (i+2) _ hc)
 have HE:=Lib.hid hE
 clear hE hd hc
 generalize bt s i=x at *
 generalize bt s (i+2)=y at *
 go_enter Tryz.func223,Tryz.ntmps223
 go_wp2
 go_quiet (fail)
 generalize hW:World.drewN _ _=W at *
 have Z:W.heap[w.heap.size+1]? = some (.cells noSet 25):=by rw [← hW];exact (two_new w _ _).2
 have Z0:W.heap[w.heap.size]? = some (.cells #[.string s,.int .i64 a] 215):=by rw [← hW];exact (two_new w _ _).1
 have hb0:Below w.heap.size w W:=by rw [← hW];exact drewN_below (by go_grown) _
 have hsz:W.heap.size=w.heap.size+2:=by rw [← hW];simp
 have HE':=Lib.hid (HE.out.below hb0)
 have c4:W.cell? ⟨4,0,none⟩=some (.iface 232 (.pointer (some (A 4)))):=(HE'.out.errs 4 (by omega)).1
 have ZZ:=Lib.hid Z;have HB0:=Lib.hid hb0;have HSZ:=Lib.hid hsz
 clear hW Z hb0 hsz
 clear Z0
 go_wp2_with fail
 refine (HD.out _).mono ?_;rintro e w' ⟨rfl,rfl⟩
 go_wp2_with fail
 refine (HC.out _).mono ?_;rintro e w' ⟨rfl,rfl⟩
 go_wp2_with fail
 refine (at_err A 4 (by omega) i _).mono ?_
 rintro e w1 ⟨v,rfl,hv,hb⟩
 have Z:=Lib.hid (keep_blk hb ZZ.out)
 have HB:=Lib.hid (HB0.out.trans (hb.mono HB0.out.size))
 have HV:=Lib.hid hv
 clear hb hv
 go_wp2_with (first
   | (refine wpList_store_row rfl 25 (.tmp 4) (.tmp 38) rfl (w.heap.size+1) noSet rfl rfl 25 _ Z.out (by kernel_rfl) rfl noSet_one ?_)
   | fail)
 exact bodyPost_ret (results_row_two rfl _ _ (w.heap.size+1) 25 noSet (0,0) _ _ _ rfl rfl rfl (heap_setRow Z.out) Tryz.underlying25 rfl (by kernel_rfl)) rfl ⟨⟨v,rfl,(HV.out.setRow (by rw [HSZ.out];omega) noSet).down HB0.out.size⟩,below_setRow HB.out (Nat.le_succ _) _⟩
theorem span_less (A:Nat→Addr) (s:ByteArray) (hs:s.size ≤ 4294967280) (a i:Nat) (hi:i+2 < s.size) (hd:Br.dotted (bt s) (i+2)=false) (hc:Br.colon (bt s) (i+2)=false) (hlt:bt s (i+2) < bt s i) (w:World) (hE:BrEnv w A) :
   Calls Tryz.prog 223 #[.agg #[.string s,.int .i64 a],.int .i64 i] w (ItEnd A (.err 5 i) w):=by
 have h1:=bt_at (show i < s.size by omega)
 have h2:=bt_at hi
 have hw:IntKind.i64.wrap ((i:Int)+2)=(i:Int)+2:=IntWalk.i64_in _ (by omega)
 have hi1:(0:Int) ≤ i:=by omega
 have hi2:(i:Int) < s.size:=by omega
 have hi3:(0:Int) ≤ (i:Int)+2:=by omega
 have hi4:(i:Int)+2 < s.size:=by omega
 have hx256:bt s i < 256:=(bt_txt s).1 i (by omega)
 have hy256:bt s (i+2) < 256:=(bt_txt s).1 (i+2) hi
 have HD:=Lib.hid (coll_at s (i+2) _ hd)
 have HC:=Lib.hid (class_at s (i+2) _ hc)
 have HE:=Lib.hid hE
 clear hE hd hc
 generalize bt s i=x at *
 generalize bt s (i+2)=y at *
 have hl:decide (y < x)=true:=by simpa using hlt
 clear hlt
 go_enter Tryz.func223,Tryz.ntmps223
 go_wp2
 go_quiet (fail)
 generalize hW:World.drewN _ _=W at *
 have Z:W.heap[w.heap.size+1]? = some (.cells noSet 25):=by rw [← hW];exact (two_new w _ _).2
 have Z0:W.heap[w.heap.size]? = some (.cells #[.string s,.int .i64 a] 215):=by rw [← hW];exact (two_new w _ _).1
 have hb0:Below w.heap.size w W:=by rw [← hW];exact drewN_below (by go_grown) _
 have hsz:W.heap.size=w.heap.size+2:=by rw [← hW];simp
 have HE':=Lib.hid (HE.out.below hb0)
 have c4:W.cell? ⟨4,0,none⟩=some (.iface 232 (.pointer (some (A 4)))):=(HE'.out.errs 4 (by omega)).1
 have ZZ:=Lib.hid Z;have HB0:=Lib.hid hb0;have HSZ:=Lib.hid hsz
 clear hW Z hb0 hsz
 clear Z0
 go_wp2_with fail
 refine (HD.out _).mono ?_;rintro e w' ⟨rfl,rfl⟩
 go_wp2_with fail
 refine (HC.out _).mono ?_;rintro e w' ⟨rfl,rfl⟩
 go_wp2_with fail
 refine (at_err A 4 (by omega) i _).mono ?_
 rintro e w1 ⟨v,rfl,hv,hb⟩
 have Z:=Lib.hid (keep_blk hb ZZ.out)
 have HB:=Lib.hid (HB0.out.trans (hb.mono HB0.out.size))
 have HV:=Lib.hid hv
 clear hb hv
 go_wp2_with (first
   | (refine wpList_store_row rfl 25 (.tmp 4) (.tmp 38) rfl (w.heap.size+1) noSet rfl rfl 25 _ Z.out (by kernel_rfl) rfl noSet_one ?_)
   | fail)
 exact bodyPost_ret (results_row_two rfl _ _ (w.heap.size+1) 25 noSet (0,0) _ _ _ rfl rfl rfl (heap_setRow Z.out) Tryz.underlying25 rfl (by kernel_rfl)) rfl ⟨⟨v,rfl,(HV.out.setRow (by rw [HSZ.out];omega) noSet).down HB0.out.size⟩,below_setRow HB.out (Nat.le_succ _) _⟩
theorem span_ok (A:Nat→Addr) (s:ByteArray) (hs:s.size ≤ 4294967280) (a i:Nat) (hi:i+2 < s.size) (hd:Br.dotted (bt s) (i+2)=false) (hc:Br.colon (bt s) (i+2)=false) (hlt:¬ bt s (i+2) < bt s i) (w:World) (hE:BrEnv w A) :
   Calls Tryz.prog 223 #[.agg #[.string s,.int .i64 a],.int .i64 i] w (ItEnd A (.ok (Br.rng (bt s i) (bt s (i+2))) (i+3)) w):=by
 have h1:=bt_at (show i < s.size by omega)
 have h2:=bt_at hi
 have hw:IntKind.i64.wrap ((i:Int)+2)=(i:Int)+2:=IntWalk.i64_in _ (by omega)
 have hi1:(0:Int) ≤ i:=by omega
 have hi2:(i:Int) < s.size:=by omega
 have hi3:(0:Int) ≤ (i:Int)+2:=by omega
 have hi4:(i:Int)+2 < s.size:=by omega
 have hx256:bt s i < 256:=(bt_txt s).1 i (by omega)
 have hy256:bt s (i+2) < 256:=(bt_txt s).1 (i+2) hi
 have HD:=Lib.hid (coll_at s (i+2) _ hd)
 have HC:=Lib.hid (class_at s (i+2) _ hc)
 have HE:=Lib.hid hE
 clear hE hd hc
 generalize bt s i=x at *
 generalize bt s (i+2)=y at *
 have hl:decide (y < x)=false:=by simpa using hlt
 have hw3:IntKind.i64.wrap ((i:Int)+2+1)=(i:Int)+3:=by rw [IntWalk.i64_in _ (by omega)];omega
 clear hlt
 go_enter Tryz.func223,Tryz.ntmps223
 go_wp2
 go_quiet (fail)
 generalize hW:World.drewN _ _=W at *
 have Z:W.heap[w.heap.size+1]? = some (.cells noSet 25):=by rw [← hW];exact (two_new w _ _).2
 have Z0:W.heap[w.heap.size]? = some (.cells #[.string s,.int .i64 a] 215):=by rw [← hW];exact (two_new w _ _).1
 have hb0:Below w.heap.size w W:=by rw [← hW];exact drewN_below (by go_grown) _
 have hsz:W.heap.size=w.heap.size+2:=by rw [← hW];simp
 have HE':=Lib.hid (HE.out.below hb0)
 have ZZ:=Lib.hid Z;have HB0:=Lib.hid hb0;have HSZ:=Lib.hid hsz
 clear hW Z hb0 hsz
 clear Z0
 go_wp2_with fail
 refine (HD.out _).mono ?_;rintro e w' ⟨rfl,rfl⟩
 go_wp2_with fail
 refine (HC.out _).mono ?_;rintro e w' ⟨rfl,rfl⟩
 go_wp2_with fail
 refine (range_p x y hx256 hy256 _).mono ?_
 rintro e w1 ⟨rfl,hb⟩
 have Z:=Lib.hid (keep_blk hb ZZ.out)
 have HB:=Lib.hid (HB0.out.trans (hb.mono HB0.out.size))
 clear hb
 go_wp2_with (first
   | (refine wpList_store_row rfl 25 (.tmp 4) (.tmp 44) rfl (w.heap.size+1) #[.int .u64 (Oc.U (Oc.mk (Br.rng x y) 0)),.int .u64 (Oc.U (Oc.mk (Br.rng x y) 1)),.int .u64 (Oc.U (Oc.mk (Br.rng x y) 2)),.int .u64 (Oc.U (Oc.mk (Br.rng x y) 3))] rfl rfl 25 _ Z.out (by kernel_rfl) rfl (setP_one _) ?_)
   | fail)
 exact bodyPost_ret (results_row_two rfl _ _ (w.heap.size+1) 25 #[.int .u64 (Oc.U (Oc.mk (Br.rng x y) 0)),.int .u64 (Oc.U (Oc.mk (Br.rng x y) 1)),.int .u64 (Oc.U (Oc.mk (Br.rng x y) 2)),.int .u64 (Oc.U (Oc.mk (Br.rng x y) 3))] (0,0) _ _ _ rfl rfl rfl (heap_setRow Z.out) Tryz.underlying25 rfl (by kernel_rfl)) rfl ⟨by first | rfl | (push_cast;rfl),below_setRow HB.out (Nat.le_succ _) _⟩
theorem span_any (A:Nat→Addr) (s:ByteArray) (hs:s.size ≤ 4294967280) (a i:Nat) (hi:i+2 < s.size) (w:World) (hE:BrEnv w A) :
   Calls Tryz.prog 223 #[.agg #[.string s,.int .i64 a],.int .i64 i] w (ItEnd A (Br.ranged (bt s) i) w):=by
 unfold Br.ranged
 cases hd:Br.dotted (bt s) (i+2) with
 | true=>exact span_coll A s hs a i hi hd w hE
 | false =>
   cases hc:Br.colon (bt s) (i+2) with
   | true=>exact span_class A s hs a i hi hd hc w hE
   | false =>
     by_cases hlt:bt s (i+2) < bt s i
     · have h:=span_less A s hs a i hi hd hc hlt w hE
       simpa [hlt] using h
     · have h:=span_ok A s hs a i hi hd hc hlt w hE
       simpa [hlt] using h
end Go.Proofs.YtfcilopifjddpaaGreatDoor
namespace Go.Proofs.YtfcilopifjddpaaGreatDoor
open Go.RowKit
theorem ext_ext (s:ByteArray) (k m:Nat) (h:k+m ≤ s.size):(s.extract k s.size).extract 0 m=s.extract k (k+m):=by
 have e:((s.extract k s.size).extract 0 m).data.toList=(s.extract k (k+m)).data.toList:=by
   simp only [ByteArray.data_extract,Array.toList_extract,List.extract_eq_take_drop,List.drop_zero]
   have:s.size=s.data.toList.length:=by simp
   rw [List.take_take];congr 1;omega
 cases h1:(s.extract k s.size).extract 0 m with
 | mk x=>cases h2:s.extract k (k+m) with
   | mk y=>rw [h1,h2] at e;simp only at e;rw [Array.toList_inj.1 e]
theorem cut_none {A:Nat→Addr} (s:ByteArray) (hs:s.size ≤ 4294967280) (k:Nat) (hc:Br.clos (bt s) (s.size - (k+1)) k=none) (w:World) (hE:BrEnv w A) :
   Calls Tryz.prog 157 #[.string (s.extract k s.size),.string ⟨#[58,93]⟩] w fun e w'=>e=.returned (.tuple #[.string (s.extract k s.size),.string ByteArray.empty,.bool false])∧∃ n,w'=w.drewN n:=by
 obtain ⟨m,hm⟩:=hE.idx
 have hz:(s.extract k s.size).size < 4294967281:=by simp;omega
 have h:=Tryz.strings_Cut (s.extract k s.size) ⟨#[58,93]⟩ m w hz hm
 obtain ⟨e1,e2,e3⟩:=Lib.cutB_miss _ _ (index_noclos hc)
 rw [e1,e2,e3] at h;exact h
theorem cut_some {A:Nat→Addr} (s:ByteArray) (hs:s.size ≤ 4294967280) (k m:Nat) (hc:Br.clos (bt s) (s.size - (k+1)) k=some (k+m)) (w:World) (hE:BrEnv w A) :
   Calls Tryz.prog 157 #[.string (s.extract k s.size),.string ⟨#[58,93]⟩] w fun e w'=>∃ r,e=.returned (.tuple #[.string (s.extract k (k+m)),.string r,.bool true])∧∃ n,w'=w.drewN n:=by
 obtain ⟨mx,hm⟩:=hE.idx
 have hz:(s.extract k s.size).size < 4294967281:=by simp;omega
 have h:=Tryz.strings_Cut (s.extract k s.size) ⟨#[58,93]⟩ mx w hz hm
 obtain ⟨g1,g2,g3,g4,-⟩:=Br.clos_some hc
 have hlt:=(bt_txt s).lt g4 (by omega)
 have hix:=index_clos hc
 rw [show k+m - k=m by omega] at hix
 obtain ⟨e1,e2,e3⟩:=Lib.cutB_hit _ _ m hix
 rw [e1,e2,e3,ext_ext s k m (by omega)] at h
 exact h.mono fun e w' hh=>⟨_,hh⟩
theorem of_p (x:Nat) (hx:x < 256) (v:Int) (hv:v=(x:Int)) (w:World) (g:Nat) (hg:w.heap.size=g) (t:TypeId) :
   Calls Tryz.prog 114 #[.slice (some ⟨g,0,none⟩) 1 1] (w.alloc (.cells #[.int .u8 v] t))
     fun e w'=>e=.returned (.agg #[.int .u64 (Oc.U (Oc.mk (fun b=>b == x) 0)),.int .u64 (Oc.U (Oc.mk (fun b=>b == x) 1)),.int .u64 (Oc.U (Oc.mk (fun b=>b == x) 2)),.int .u64 (Oc.U (Oc.mk (fun b=>b == x) 3))])∧Below (w.alloc (.cells #[.int .u8 v] t)).heap.size (w.alloc (.cells #[.int .u8 v] t)) w':=by
 have hb:Oc.anyB (oneOf x) 1=fun b=>b == x:=by funext b;simp [Oc.anyB,oneOf]
 exact (of_one x hx v hv w g hg t _ _ _ _ (by rw [hb]) (by rw [hb]) (by rw [hb]) (by rw [hb])).mono fun e w' h=>⟨h.1,by simpa using h.2⟩
theorem brnamed_open (A:Nat→Addr) (s:ByteArray) (_hs:s.size ≤ 4294967280) (a i:Nat) (hi:i+2 ≤ s.size) (hc:Br.clos (bt s) (s.size - (i+3)) (i+2)=none) (w:World) (hE:BrEnv w A) :
   Calls Tryz.prog 222 #[.agg #[.string s,.int .i64 a],.int .i64 i] w (ItEnd A (.err 1 a) w):=by
 have hw:IntKind.i64.wrap ((i:Int)+2)=(i:Int)+2:=IntWalk.i64_in _ (by omega)
 have hi3:(0:Int) ≤ (i:Int)+2:=by omega
 have hi4:(i:Int)+2 ≤ s.size:=by omega
 have HCUT:=Lib.hid (fun w hE=>cut_none (A:=A) s _hs (i+2) hc w hE)
 have HE:=Lib.hid hE
 clear hE hc
 go_enter Tryz.func222,Tryz.ntmps222
 go_wp2_with fail
 refine (HCUT.out _ (HE.out.below (by go_grown))).mono ?_
 rintro e w' ⟨rfl,n,rfl⟩
 generalize hW:World.drewN _ _=W at *
 have Z:W.heap[w.heap.size+1]? = some (.cells noSet 25):=by rw [← hW];exact (two_new w _ _).2
 have Z0:W.heap[w.heap.size]? = some (.cells #[.string s,.int .i64 a] 215):=by rw [← hW];exact (two_new w _ _).1
 have hb0:Below w.heap.size w W:=by rw [← hW];exact drewN_below (by go_grown) _
 have hsz:W.heap.size=w.heap.size+2:=by rw [← hW];simp
 have HE':=Lib.hid (HE.out.below hb0)
 have ZZ:=Lib.hid Z;have HB0:=Lib.hid hb0;have HSZ:=Lib.hid hsz
 clear hW Z hb0 hsz
 have ZR:=Lib.hid Z0
 clear Z0
 go_wp2_with (first
   | (refine wpList_load_row rfl 215 (.tmp 2) rfl w.heap.size rfl 215 _ (0,0) _ ZR.out Tryz.underlying215 rfl (by kernel_rfl) ?_)
   | fail)
 refine (open_any A s a _ HE'.out).mono ?_
 intro e w1 he
 obtain ⟨v,rfl,hv,hb⟩:=he.err rfl
 obtain ⟨q,rfl⟩:=hv.iface
 have Z:=Lib.hid (keep_blk hb ZZ.out)
 have HB:=Lib.hid (HB0.out.trans (hb.mono HB0.out.size))
 have HV:=Lib.hid hv
 clear hb hv he
 go_wp2_with (first
   | (refine wpList_store_row rfl 25 (.tmp 4) (.tmp 26) rfl (w.heap.size+1) noSet rfl rfl 25 _ Z.out (by kernel_rfl) rfl noSet_one ?_)
   | fail)
 exact bodyPost_ret (results_row_two rfl _ _ (w.heap.size+1) 25 noSet (0,0) _ _ _ rfl rfl rfl (heap_setRow Z.out) Tryz.underlying25 rfl (by kernel_rfl)) rfl ⟨⟨_,rfl,(HV.out.setRow (by rw [HSZ.out];omega) noSet).down HB0.out.size⟩,below_setRow HB.out (Nat.le_succ _) _⟩
theorem brnamed_no (A:Nat→Addr) (s:ByteArray) (_hs:s.size ≤ 4294967280) (a i:Nat) (m:Nat) (hm:i+m+4 ≤ s.size) (hc:Br.clos (bt s) (s.size - (i+3)) (i+2)=some (i+2+m)) (hn:Cl.No (s.extract (i+2) (i+2+m))) (w:World) (hE:BrEnv w A) :
   Calls Tryz.prog 222 #[.agg #[.string s,.int .i64 a],.int .i64 i] w (ItEnd A (.err 6 i) w):=by
 have hi:i+2 ≤ s.size:=by omega
 have hl:(s.extract (i+2) (i+2+m)).size=m:=by simp;omega
 have hw:IntKind.i64.wrap ((i:Int)+2)=(i:Int)+2:=IntWalk.i64_in _ (by omega)
 have hi3:(0:Int) ≤ (i:Int)+2:=by omega
 have hi4:(i:Int)+2 ≤ s.size:=by omega
 have HCUT:=Lib.hid (fun w hE=>cut_some (A:=A) s _hs (i+2) m hc w hE)
 have HE:=Lib.hid hE
 have HN:=Lib.hid (named_no _ hn)
 clear hE hc hn
 generalize s.extract (i+2) (i+2+m)=t at *
 go_enter Tryz.func222,Tryz.ntmps222
 go_wp2_with fail
 refine (HCUT.out _ (HE.out.below (by go_grown))).mono ?_
 rintro e w' ⟨r,rfl,n,rfl⟩
 generalize hW:World.drewN _ _=W at *
 have Z:W.heap[w.heap.size+1]? = some (.cells noSet 25):=by rw [← hW];exact (two_new w _ _).2
 have Z0:W.heap[w.heap.size]? = some (.cells #[.string s,.int .i64 a] 215):=by rw [← hW];exact (two_new w _ _).1
 have hb0:Below w.heap.size w W:=by rw [← hW];exact drewN_below (by go_grown) _
 have hsz:W.heap.size=w.heap.size+2:=by rw [← hW];simp
 have HE':=Lib.hid (HE.out.below hb0)
 have c5:W.cell? ⟨5,0,none⟩=some (.iface 232 (.pointer (some (A 5)))):=(HE'.out.errs 5 (by omega)).1
 have C5:=Lib.hid c5
 clear c5
 have ZZ:=Lib.hid Z;have HB0:=Lib.hid hb0;have HSZ:=Lib.hid hsz
 clear hW Z hb0 hsz
 have ZR:=Lib.hid Z0
 clear Z0
 go_wp2_with fail
 refine (HN.out _ _ C5.out).mono ?_
 rintro e w1 ⟨rfl,hb⟩
 have hbA:Below W.heap.size W (w1.alloc (.cells noSet 25)):=hb.alloc hb.size _
 have Z:=Lib.hid (keep_blk hbA ZZ.out)
 have HB:=Lib.hid (HB0.out.trans (hbA.mono HB0.out.size))
 have HBA:=Lib.hid hbA
 clear hb hbA
 go_wp2_with fail
 generalize World.alloc w1 _=W2 at *
 refine (at_err A 5 (by omega) i _).mono ?_
 rintro e w3 ⟨v,rfl,hv,hb⟩
 have Y:=Lib.hid (keep_blk hb Z.out)
 have HB3:=Lib.hid (HB.out.trans (hb.mono HB.out.size))
 have HV:=Lib.hid (hv.down HBA.out.size)
 clear hb hv
 go_wp2_with (first
   | (refine wpList_store_row rfl 25 (.tmp 4) (.tmp 36) rfl (w.heap.size+1) noSet rfl rfl 25 _ Y.out (by kernel_rfl) rfl noSet_one ?_)
   | fail)
 exact bodyPost_ret (results_row_two rfl _ _ (w.heap.size+1) 25 noSet (0,0) _ _ _ rfl rfl rfl (heap_setRow Y.out) Tryz.underlying25 rfl (by kernel_rfl)) rfl ⟨⟨v,rfl,(HV.out.setRow (by rw [HSZ.out];omega) noSet).down HB0.out.size⟩,below_setRow HB3.out (Nat.le_succ _) _⟩
theorem brnamed_yes (A:Nat→Addr) (s:ByteArray) (_hs:s.size ≤ 4294967280) (a i:Nat) (m k:Nat) (hm:i+m+4 ≤ s.size) (hc:Br.clos (bt s) (s.size - (i+3)) (i+2)=some (i+2+m)) (hk:Known (s.extract (i+2) (i+2+m)) k) (w:World) (hE:BrEnv w A) :
   Calls Tryz.prog 222 #[.agg #[.string s,.int .i64 a],.int .i64 i] w (ItEnd A (.ok (Cl.cls k) (i+2+m+2)) w):=by
 have hi:i+2 ≤ s.size:=by omega
 have hl:(s.extract (i+2) (i+2+m)).size=m:=by simp;omega
 have hw:IntKind.i64.wrap ((i:Int)+2)=(i:Int)+2:=IntWalk.i64_in _ (by omega)
 have hi3:(0:Int) ≤ (i:Int)+2:=by omega
 have hi4:(i:Int)+2 ≤ s.size:=by omega
 have HCUT:=Lib.hid (fun w hE=>cut_some (A:=A) s _hs (i+2) m hc w hE)
 have HE:=Lib.hid hE
 have HK:=Lib.hid hk.1
 have hw2:IntKind.i64.wrap ((i:Int)+2+m)=(i:Int)+2+m:=IntWalk.i64_in _ (by omega)
 have hw3:IntKind.i64.wrap ((i:Int)+2+m+2)=(i:Int)+2+m+2:=IntWalk.i64_in _ (by omega)
 clear hE hc hk
 generalize s.extract (i+2) (i+2+m)=t at *
 go_enter Tryz.func222,Tryz.ntmps222
 go_wp2_with fail
 refine (HCUT.out _ (HE.out.below (by go_grown))).mono ?_
 rintro e w' ⟨r,rfl,n,rfl⟩
 generalize hW:World.drewN _ _=W at *
 have Z:W.heap[w.heap.size+1]? = some (.cells noSet 25):=by rw [← hW];exact (two_new w _ _).2
 have Z0:W.heap[w.heap.size]? = some (.cells #[.string s,.int .i64 a] 215):=by rw [← hW];exact (two_new w _ _).1
 have hb0:Below w.heap.size w W:=by rw [← hW];exact drewN_below (by go_grown) _
 have hsz:W.heap.size=w.heap.size+2:=by rw [← hW];simp
 have HE':=Lib.hid (HE.out.below hb0)
 have ZZ:=Lib.hid Z;have HB0:=Lib.hid hb0;have HSZ:=Lib.hid hsz
 clear hW Z hb0 hsz
 have ZR:=Lib.hid Z0
 clear Z0
 go_wp2_with fail
 refine (HK.out _).mono ?_
 rintro e w1 ⟨rfl,hb⟩
 have hbA:Below W.heap.size W (w1.alloc (.cells #[.int .u64 (Oc.U (Cl.cw k 0)),.int .u64 (Oc.U (Cl.cw k 1)),.int .u64 (Oc.U (Cl.cw k 2)),.int .u64 (Oc.U (Cl.cw k 3))] 25)):=hb.alloc hb.size _
 have Z:=Lib.hid (keep_blk hbA ZZ.out)
 have ZK:=Lib.hid (heap_alloc_new w1 (.cells #[.int .u64 (Oc.U (Cl.cw k 0)),.int .u64 (Oc.U (Cl.cw k 1)),.int .u64 (Oc.U (Cl.cw k 2)),.int .u64 (Oc.U (Cl.cw k 3))] 25))
 have HB:=Lib.hid (HB0.out.trans (hbA.mono HB0.out.size))
 clear hb hbA
 go_wp2_with (first
   | (refine wpList_load_row rfl 25 (.tmp 10) rfl w1.heap.size rfl 25 _ (0,0) _ ZK.out Tryz.underlying25 rfl (by kernel_rfl) ?_)
   | (refine wpList_store_row rfl 25 (.tmp 4) (.tmp 40) rfl (w.heap.size+1) #[.int .u64 (Oc.U (Cl.cw k 0)),.int .u64 (Oc.U (Cl.cw k 1)),.int .u64 (Oc.U (Cl.cw k 2)),.int .u64 (Oc.U (Cl.cw k 3))] rfl rfl 25 _ Z.out (by kernel_rfl) rfl setC_one ?_)
   | fail)
 exact bodyPost_ret (results_row_two rfl _ _ (w.heap.size+1) 25 #[.int .u64 (Oc.U (Cl.cw k 0)),.int .u64 (Oc.U (Cl.cw k 1)),.int .u64 (Oc.U (Cl.cw k 2)),.int .u64 (Oc.U (Cl.cw k 3))] (0,0) _ _ _ rfl rfl rfl (heap_setRow Z.out) Tryz.underlying25 rfl (by kernel_rfl)) rfl ⟨by exact rfl,below_setRow HB.out (Nat.le_succ _) _⟩
theorem britem_coll (A:Nat→Addr) (s:ByteArray) (_hs:s.size ≤ 4294967280) (a i:Nat) (hi:i < s.size) (hd:Br.dotted (bt s) i=true) (w:World) (hE:BrEnv w A) :
   Calls Tryz.prog 214 #[.agg #[.string s,.int .i64 a],.int .i64 i] w (ItEnd A (.err 7 i) w):=by
 have hi1:(0:Int) ≤ i:=by omega
 have hi2:(i:Int) ≤ s.size:=by omega
 have HD:=Lib.hid (coll_at s i _ hd)
 have HE:=Lib.hid hE
 clear hE hd
 clear hi _hs
 have hz0:i ≤ s.size:=by omega
 go_enter Tryz.func214,Tryz.ntmps214
 go_wp2_with fail
 refine (HD.out _).mono ?_;rintro e w' ⟨rfl,rfl⟩
 generalize hW:World.alloc (World.alloc _ _) _=W at *
 have Z:W.heap[w.heap.size+1]? = some (.cells noSet 25):=by rw [← hW];exact (two_new w _ _).2
 have Z0:W.heap[w.heap.size]? = some (.cells #[.string s,.int .i64 a] 215):=by rw [← hW];exact (two_new w _ _).1
 have hb0:Below w.heap.size w W:=by rw [← hW];go_grown
 have hsz:W.heap.size=w.heap.size+2:=by rw [← hW];simp
 have HE':=Lib.hid (HE.out.below hb0)
 have c6:W.cell? ⟨6,0,none⟩=some (.iface 232 (.pointer (some (A 6)))):=(HE'.out.errs 6 (by omega)).1
 have ZZ:=Lib.hid Z;have HB0:=Lib.hid hb0;have HSZ:=Lib.hid hsz
 clear hW Z hb0 hsz
 have ZR:=Lib.hid Z0
 clear Z0
 go_wp2_with fail
 refine (at_err A 6 (by omega) i _).mono ?_
 rintro e w1 ⟨v,rfl,hv,hb⟩
 have Z:=Lib.hid (keep_blk hb ZZ.out)
 have HB:=Lib.hid (HB0.out.trans (hb.mono HB0.out.size))
 have HV:=Lib.hid hv
 clear hb hv
 go_wp2_with (first
   | (refine wpList_store_row rfl 25 (.tmp 4) (.tmp 15) rfl (w.heap.size+1) noSet rfl rfl 25 _ Z.out (by kernel_rfl) rfl noSet_one ?_)
   | fail)
 exact bodyPost_ret (results_row_two rfl _ _ (w.heap.size+1) 25 noSet (0,0) _ _ _ rfl rfl rfl (heap_setRow Z.out) Tryz.underlying25 rfl (by kernel_rfl)) rfl ⟨⟨v,rfl,(HV.out.setRow (by rw [HSZ.out];omega) noSet).down HB0.out.size⟩,below_setRow HB.out (Nat.le_succ _) _⟩
theorem britem_class_ok (A:Nat→Addr) (s:ByteArray) (_hs:s.size ≤ 4294967280) (a i:Nat) (hi:i < s.size) (hd:Br.dotted (bt s) i=false) (hc:Br.colon (bt s) i=true) (P:Nat→Bool) (j:Nat) (HI:∀ w,BrEnv w A→Calls Tryz.prog 222 #[.agg #[.string s,.int .i64 a],.int .i64 i] w (ItEnd A (.ok P j) w)) (w:World) (hE:BrEnv w A) :
   Calls Tryz.prog 214 #[.agg #[.string s,.int .i64 a],.int .i64 i] w (ItEnd A (.ok P j) w):=by
 have hi1:(0:Int) ≤ i:=by omega
 have hi2:(i:Int) ≤ s.size:=by omega
 have HD:=Lib.hid (coll_at s i _ hd)
 have HC:=Lib.hid (class_at s i _ hc)
 have HE:=Lib.hid hE
 have HX:=Lib.hid HI
 clear HI
 clear hE hd hc
 have hz0:i ≤ s.size:=by omega
 go_enter Tryz.func214,Tryz.ntmps214
 go_wp2_with fail
 refine (HD.out _).mono ?_;rintro e w' ⟨rfl,rfl⟩
 generalize hW:World.alloc (World.alloc _ _) _=W at *
 have Z:W.heap[w.heap.size+1]? = some (.cells noSet 25):=by rw [← hW];exact (two_new w _ _).2
 have Z0:W.heap[w.heap.size]? = some (.cells #[.string s,.int .i64 a] 215):=by rw [← hW];exact (two_new w _ _).1
 have hb0:Below w.heap.size w W:=by rw [← hW];go_grown
 have hsz:W.heap.size=w.heap.size+2:=by rw [← hW];simp
 have HE':=Lib.hid (HE.out.below hb0)
 have ZZ:=Lib.hid Z;have HB0:=Lib.hid hb0;have HSZ:=Lib.hid hsz
 clear hW Z hb0 hsz
 have ZR:=Lib.hid Z0
 clear Z0
 go_wp2_with fail
 refine (HC.out _).mono ?_;rintro e w' ⟨rfl,rfl⟩
 go_wp2_with (first
   | (refine wpList_load_row rfl 215 (.tmp 2) rfl w.heap.size rfl 215 _ (0,0) _ ZR.out Tryz.underlying215 rfl (by kernel_rfl) ?_)
   | fail)
 refine (HX.out _ HE'.out).mono ?_
 intro e w1 he
 obtain ⟨rfl,hb⟩:=he.ok rfl
 have Z:=Lib.hid (keep_blk hb ZZ.out)
 have HB:=Lib.hid (HB0.out.trans (hb.mono HB0.out.size))
 clear hb he
 go_wp2_with (first
   | (refine wpList_store_row rfl 25 (.tmp 4) (.tmp 25) rfl (w.heap.size+1) #[.int .u64 (Oc.U (Oc.mk (P) 0)),.int .u64 (Oc.U (Oc.mk (P) 1)),.int .u64 (Oc.U (Oc.mk (P) 2)),.int .u64 (Oc.U (Oc.mk (P) 3))] rfl rfl 25 _ Z.out (by kernel_rfl) rfl (setP_one _) ?_)
   | fail)
 exact bodyPost_ret (results_row_two rfl _ _ (w.heap.size+1) 25 #[.int .u64 (Oc.U (Oc.mk (P) 0)),.int .u64 (Oc.U (Oc.mk (P) 1)),.int .u64 (Oc.U (Oc.mk (P) 2)),.int .u64 (Oc.U (Oc.mk (P) 3))] (0,0) _ _ _ rfl rfl rfl (heap_setRow Z.out) Tryz.underlying25 rfl (by kernel_rfl)) rfl ⟨by exact rfl,below_setRow HB.out (Nat.le_succ _) _⟩
theorem britem_class_err (A:Nat→Addr) (s:ByteArray) (_hs:s.size ≤ 4294967280) (a i:Nat) (hi:i < s.size) (hd:Br.dotted (bt s) i=false) (hc:Br.colon (bt s) i=true) (c:Nat) (q:Int) (HI:∀ w,BrEnv w A→Calls Tryz.prog 222 #[.agg #[.string s,.int .i64 a],.int .i64 i] w (ItEnd A (.err c q) w)) (w:World) (hE:BrEnv w A) :
   Calls Tryz.prog 214 #[.agg #[.string s,.int .i64 a],.int .i64 i] w (ItEnd A (.err c q) w):=by
 have hi1:(0:Int) ≤ i:=by omega
 have hi2:(i:Int) ≤ s.size:=by omega
 have HD:=Lib.hid (coll_at s i _ hd)
 have HC:=Lib.hid (class_at s i _ hc)
 have HE:=Lib.hid hE
 have HX:=Lib.hid HI
 clear HI
 clear hE hd hc
 have hz0:i ≤ s.size:=by omega
 go_enter Tryz.func214,Tryz.ntmps214
 go_wp2_with fail
 refine (HD.out _).mono ?_;rintro e w' ⟨rfl,rfl⟩
 generalize hW:World.alloc (World.alloc _ _) _=W at *
 have Z:W.heap[w.heap.size+1]? = some (.cells noSet 25):=by rw [← hW];exact (two_new w _ _).2
 have Z0:W.heap[w.heap.size]? = some (.cells #[.string s,.int .i64 a] 215):=by rw [← hW];exact (two_new w _ _).1
 have hb0:Below w.heap.size w W:=by rw [← hW];go_grown
 have hsz:W.heap.size=w.heap.size+2:=by rw [← hW];simp
 have HE':=Lib.hid (HE.out.below hb0)
 have ZZ:=Lib.hid Z;have HB0:=Lib.hid hb0;have HSZ:=Lib.hid hsz
 clear hW Z hb0 hsz
 have ZR:=Lib.hid Z0
 clear Z0
 go_wp2_with fail
 refine (HC.out _).mono ?_;rintro e w' ⟨rfl,rfl⟩
 go_wp2_with (first
   | (refine wpList_load_row rfl 215 (.tmp 2) rfl w.heap.size rfl 215 _ (0,0) _ ZR.out Tryz.underlying215 rfl (by kernel_rfl) ?_)
   | fail)
 refine (HX.out _ HE'.out).mono ?_
 intro e w1 he
 obtain ⟨v,rfl,hv,hb⟩:=he.err rfl
 obtain ⟨q',rfl⟩:=hv.iface
 have Z:=Lib.hid (keep_blk hb ZZ.out)
 have HB:=Lib.hid (HB0.out.trans (hb.mono HB0.out.size))
 have HV:=Lib.hid hv
 clear hb hv he
 go_wp2_with (first
   | (refine wpList_store_row rfl 25 (.tmp 4) (.tmp 25) rfl (w.heap.size+1) noSet rfl rfl 25 _ Z.out (by kernel_rfl) rfl noSet_one ?_)
   | fail)
 exact bodyPost_ret (results_row_two rfl _ _ (w.heap.size+1) 25 noSet (0,0) _ _ _ rfl rfl rfl (heap_setRow Z.out) Tryz.underlying25 rfl (by kernel_rfl)) rfl ⟨⟨_,rfl,(HV.out.setRow (by rw [HSZ.out];omega) noSet).down HB0.out.size⟩,below_setRow HB.out (Nat.le_succ _) _⟩
theorem britem_range_ok (A:Nat→Addr) (s:ByteArray) (_hs:s.size ≤ 4294967280) (a i:Nat) (hi:i < s.size) (hd:Br.dotted (bt s) i=false) (hc:Br.colon (bt s) i=false) (h2:i+2 < s.size) (h45:bt s (i+1)=45) (h93:bt s (i+2) ≠ 93) (P:Nat→Bool) (j:Nat) (HI:∀ w,BrEnv w A→Calls Tryz.prog 223 #[.agg #[.string s,.int .i64 a],.int .i64 i] w (ItEnd A (.ok P j) w)) (w:World) (hE:BrEnv w A) :
   Calls Tryz.prog 214 #[.agg #[.string s,.int .i64 a],.int .i64 i] w (ItEnd A (.ok P j) w):=by
 have hi1:(0:Int) ≤ i:=by omega
 have hi2:(i:Int) ≤ s.size:=by omega
 have HD:=Lib.hid (coll_at s i _ hd)
 have HC:=Lib.hid (class_at s i _ hc)
 have HE:=Lib.hid hE
 have HX:=Lib.hid HI
 clear HI
 have hlz:(s.extract i s.size).size=s.size - i:=by simp
 have dL:decide ((2:Int) < ((s.extract i s.size).size:Int))=true:=by rw [hlz];simp;omega
 have dM:decide (2 < (s.extract i s.size).size)=true:=by rw [hlz];simp;omega
 have dl1:1 < (s.extract i s.size).size:=by omega
 have dl2:2 < (s.extract i s.size).size:=by omega
 have q1:(s.extract i s.size)[1].toNat=bt s (i+1):=by rw [bt_at dl1,bt_ext]
 have q2:(s.extract i s.size)[2].toNat=bt s (i+2):=by rw [bt_at dl2,bt_ext]
 have e1:(((s.extract i s.size)[1].toNat:Int) == 45)=true:=by rw [q1];simp;omega
 have e2:(((s.extract i s.size)[2].toNat:Int) != 93)=true:=by rw [q2];simp;omega
 clear q1 q2
 clear hE hd hc h2 h45 h93
 clear hlz
 have hz0:i ≤ s.size:=by omega
 go_enter Tryz.func214,Tryz.ntmps214
 go_wp2_with fail
 refine (HD.out _).mono ?_;rintro e w' ⟨rfl,rfl⟩
 generalize s.extract i s.size=t at *
 generalize hW:World.alloc (World.alloc _ _) _=W at *
 have Z:W.heap[w.heap.size+1]? = some (.cells noSet 25):=by rw [← hW];exact (two_new w _ _).2
 have Z0:W.heap[w.heap.size]? = some (.cells #[.string s,.int .i64 a] 215):=by rw [← hW];exact (two_new w _ _).1
 have hb0:Below w.heap.size w W:=by rw [← hW];go_grown
 have hsz:W.heap.size=w.heap.size+2:=by rw [← hW];simp
 have HE':=Lib.hid (HE.out.below hb0)
 have ZZ:=Lib.hid Z;have HB0:=Lib.hid hb0;have HSZ:=Lib.hid hsz
 clear hW Z hb0 hsz
 have ZR:=Lib.hid Z0
 clear Z0
 go_wp2_with fail
 refine (HC.out _).mono ?_;rintro e w' ⟨rfl,rfl⟩
 go_wp2_with (first
   | (refine wpList_load_row rfl 215 (.tmp 2) rfl w.heap.size rfl 215 _ (0,0) _ ZR.out Tryz.underlying215 rfl (by kernel_rfl) ?_)
   | fail)
 refine (HX.out _ HE'.out).mono ?_
 intro e w1 he
 obtain ⟨rfl,hb⟩:=he.ok rfl
 have Z:=Lib.hid (keep_blk hb ZZ.out)
 have HB:=Lib.hid (HB0.out.trans (hb.mono HB0.out.size))
 clear hb he
 go_wp2_with (first
   | (refine wpList_store_row rfl 25 (.tmp 4) (.tmp 45) rfl (w.heap.size+1) #[.int .u64 (Oc.U (Oc.mk (P) 0)),.int .u64 (Oc.U (Oc.mk (P) 1)),.int .u64 (Oc.U (Oc.mk (P) 2)),.int .u64 (Oc.U (Oc.mk (P) 3))] rfl rfl 25 _ Z.out (by kernel_rfl) rfl (setP_one _) ?_)
   | fail)
 exact bodyPost_ret (results_row_two rfl _ _ (w.heap.size+1) 25 #[.int .u64 (Oc.U (Oc.mk (P) 0)),.int .u64 (Oc.U (Oc.mk (P) 1)),.int .u64 (Oc.U (Oc.mk (P) 2)),.int .u64 (Oc.U (Oc.mk (P) 3))] (0,0) _ _ _ rfl rfl rfl (heap_setRow Z.out) Tryz.underlying25 rfl (by kernel_rfl)) rfl ⟨by exact rfl,below_setRow HB.out (Nat.le_succ _) _⟩
theorem britem_range_err (A:Nat→Addr) (s:ByteArray) (_hs:s.size ≤ 4294967280) (a i:Nat) (hi:i < s.size) (hd:Br.dotted (bt s) i=false) (hc:Br.colon (bt s) i=false) (h2:i+2 < s.size) (h45:bt s (i+1)=45) (h93:bt s (i+2) ≠ 93) (c:Nat) (q:Int) (HI:∀ w,BrEnv w A→Calls Tryz.prog 223 #[.agg #[.string s,.int .i64 a],.int .i64 i] w (ItEnd A (.err c q) w)) (w:World) (hE:BrEnv w A) :
   Calls Tryz.prog 214 #[.agg #[.string s,.int .i64 a],.int .i64 i] w (ItEnd A (.err c q) w):=by
 have hi1:(0:Int) ≤ i:=by omega
 have hi2:(i:Int) ≤ s.size:=by omega
 have HD:=Lib.hid (coll_at s i _ hd)
 have HC:=Lib.hid (class_at s i _ hc)
 have HE:=Lib.hid hE
 have HX:=Lib.hid HI
 clear HI
 have hlz:(s.extract i s.size).size=s.size - i:=by simp
 have dL:decide ((2:Int) < ((s.extract i s.size).size:Int))=true:=by rw [hlz];simp;omega
 have dM:decide (2 < (s.extract i s.size).size)=true:=by rw [hlz];simp;omega
 have dl1:1 < (s.extract i s.size).size:=by omega
 have dl2:2 < (s.extract i s.size).size:=by omega
 have q1:(s.extract i s.size)[1].toNat=bt s (i+1):=by rw [bt_at dl1,bt_ext]
 have q2:(s.extract i s.size)[2].toNat=bt s (i+2):=by rw [bt_at dl2,bt_ext]
 have e1:(((s.extract i s.size)[1].toNat:Int) == 45)=true:=by rw [q1];simp;omega
 have e2:(((s.extract i s.size)[2].toNat:Int) != 93)=true:=by rw [q2];simp;omega
 clear q1 q2
 clear hE hd hc h2 h45 h93
 clear hlz
 have hz0:i ≤ s.size:=by omega
 go_enter Tryz.func214,Tryz.ntmps214
 go_wp2_with fail
 refine (HD.out _).mono ?_;rintro e w' ⟨rfl,rfl⟩
 generalize s.extract i s.size=t at *
 generalize hW:World.alloc (World.alloc _ _) _=W at *
 have Z:W.heap[w.heap.size+1]? = some (.cells noSet 25):=by rw [← hW];exact (two_new w _ _).2
 have Z0:W.heap[w.heap.size]? = some (.cells #[.string s,.int .i64 a] 215):=by rw [← hW];exact (two_new w _ _).1
 have hb0:Below w.heap.size w W:=by rw [← hW];go_grown
 have hsz:W.heap.size=w.heap.size+2:=by rw [← hW];simp
 have HE':=Lib.hid (HE.out.below hb0)
 have ZZ:=Lib.hid Z;have HB0:=Lib.hid hb0;have HSZ:=Lib.hid hsz
 clear hW Z hb0 hsz
 have ZR:=Lib.hid Z0
 clear Z0
 go_wp2_with fail
 refine (HC.out _).mono ?_;rintro e w' ⟨rfl,rfl⟩
 go_wp2_with (first
   | (refine wpList_load_row rfl 215 (.tmp 2) rfl w.heap.size rfl 215 _ (0,0) _ ZR.out Tryz.underlying215 rfl (by kernel_rfl) ?_)
   | fail)
 refine (HX.out _ HE'.out).mono ?_
 intro e w1 he
 obtain ⟨v,rfl,hv,hb⟩:=he.err rfl
 obtain ⟨q',rfl⟩:=hv.iface
 have Z:=Lib.hid (keep_blk hb ZZ.out)
 have HB:=Lib.hid (HB0.out.trans (hb.mono HB0.out.size))
 have HV:=Lib.hid hv
 clear hb hv he
 go_wp2_with (first
   | (refine wpList_store_row rfl 25 (.tmp 4) (.tmp 45) rfl (w.heap.size+1) noSet rfl rfl 25 _ Z.out (by kernel_rfl) rfl noSet_one ?_)
   | fail)
 exact bodyPost_ret (results_row_two rfl _ _ (w.heap.size+1) 25 noSet (0,0) _ _ _ rfl rfl rfl (heap_setRow Z.out) Tryz.underlying25 rfl (by kernel_rfl)) rfl ⟨⟨_,rfl,(HV.out.setRow (by rw [HSZ.out];omega) noSet).down HB0.out.size⟩,below_setRow HB.out (Nat.le_succ _) _⟩
theorem britem_short (A:Nat→Addr) (s:ByteArray) (_hs:s.size ≤ 4294967280) (a i:Nat) (hi:i < s.size) (hd:Br.dotted (bt s) i=false) (hc:Br.colon (bt s) i=false) (h2:s.size ≤ i+2) (w:World) (hE:BrEnv w A) :
   Calls Tryz.prog 214 #[.agg #[.string s,.int .i64 a],.int .i64 i] w (ItEnd A (.ok (fun b=>b == bt s i) (i+1)) w):=by
 have hi1:(0:Int) ≤ i:=by omega
 have hi2:(i:Int) ≤ s.size:=by omega
 have HD:=Lib.hid (coll_at s i _ hd)
 have HC:=Lib.hid (class_at s i _ hc)
 have HE:=Lib.hid hE
 have hlz:(s.extract i s.size).size=s.size - i:=by simp
 have dL:decide ((2:Int) < ((s.extract i s.size).size:Int))=false:=by rw [hlz];simp;omega
 have dM:decide (2 < (s.extract i s.size).size)=false:=by rw [hlz];simp;omega
 have ql:0 < (s.extract i s.size).size:=by omega
 have q0:(s.extract i s.size)[0].toNat=bt s i:=by rw [bt_at ql,bt_ext];rfl
 have hx256:bt s i < 256:=(bt_txt s).1 i hi
 have hw:IntKind.i64.wrap ((i:Int)+1)=(i:Int)+1:=IntWalk.i64_in _ (by omega)
 clear hE hd hc h2
 clear hlz
 generalize bt s i=x at *
 have hz0:i ≤ s.size:=by omega
 go_enter Tryz.func214,Tryz.ntmps214
 go_wp2_with fail
 refine (HD.out _).mono ?_;rintro e w' ⟨rfl,rfl⟩
 generalize s.extract i s.size=t at *
 generalize hW:World.alloc (World.alloc _ _) _=W at *
 have Z:W.heap[w.heap.size+1]? = some (.cells noSet 25):=by rw [← hW];exact (two_new w _ _).2
 have Z0:W.heap[w.heap.size]? = some (.cells #[.string s,.int .i64 a] 215):=by rw [← hW];exact (two_new w _ _).1
 have hb0:Below w.heap.size w W:=by rw [← hW];go_grown
 have hsz:W.heap.size=w.heap.size+2:=by rw [← hW];simp
 have HE':=Lib.hid (HE.out.below hb0)
 have ZZ:=Lib.hid Z;have HB0:=Lib.hid hb0;have HSZ:=Lib.hid hsz
 clear hW Z hb0 hsz
 have ZR:=Lib.hid Z0
 clear Z0
 go_wp2_with fail
 refine (HC.out _).mono ?_;rintro e w' ⟨rfl,rfl⟩
 go_wp2_with fail
 refine (of_p x hx256 _ (by first | rfl | rw [q0]) _ _ rfl _).mono ?_
 rintro e w1 ⟨rfl,hb⟩
 have hbA:Below W.heap.size W w1:=((Below.refl _ _).alloc (Nat.le_refl _) _).trans (hb.mono (by simp))
 have Z:=Lib.hid (keep_blk hbA ZZ.out)
 have HB:=Lib.hid (HB0.out.trans (hbA.mono HB0.out.size))
 clear hb hbA
 go_wp2_with (first
   | (refine wpList_store_row rfl 25 (.tmp 4) (.tmp 51) rfl (w.heap.size+1) #[.int .u64 (Oc.U (Oc.mk (fun b=>b == x) 0)),.int .u64 (Oc.U (Oc.mk (fun b=>b == x) 1)),.int .u64 (Oc.U (Oc.mk (fun b=>b == x) 2)),.int .u64 (Oc.U (Oc.mk (fun b=>b == x) 3))] rfl rfl 25 _ Z.out (by kernel_rfl) rfl (setP_one _) ?_)
   | fail)
 exact bodyPost_ret (results_row_two rfl _ _ (w.heap.size+1) 25 #[.int .u64 (Oc.U (Oc.mk (fun b=>b == x) 0)),.int .u64 (Oc.U (Oc.mk (fun b=>b == x) 1)),.int .u64 (Oc.U (Oc.mk (fun b=>b == x) 2)),.int .u64 (Oc.U (Oc.mk (fun b=>b == x) 3))] (0,0) _ _ _ rfl rfl rfl (heap_setRow Z.out) Tryz.underlying25 rfl (by kernel_rfl)) rfl ⟨by exact rfl,below_setRow HB.out (Nat.le_succ _) _⟩
theorem britem_nodash (A:Nat→Addr) (s:ByteArray) (_hs:s.size ≤ 4294967280) (a i:Nat) (hi:i < s.size) (hd:Br.dotted (bt s) i=false) (hc:Br.colon (bt s) i=false) (h2:i+2 < s.size) (h45:bt s (i+1) ≠ 45) (w:World) (hE:BrEnv w A) :
   Calls Tryz.prog 214 #[.agg #[.string s,.int .i64 a],.int .i64 i] w (ItEnd A (.ok (fun b=>b == bt s i) (i+1)) w):=by
 have hi1:(0:Int) ≤ i:=by omega
 have hi2:(i:Int) ≤ s.size:=by omega
 have HD:=Lib.hid (coll_at s i _ hd)
 have HC:=Lib.hid (class_at s i _ hc)
 have HE:=Lib.hid hE
 have hlz:(s.extract i s.size).size=s.size - i:=by simp
 have dL:decide ((2:Int) < ((s.extract i s.size).size:Int))=true:=by rw [hlz];simp;omega
 have dM:decide (2 < (s.extract i s.size).size)=true:=by rw [hlz];simp;omega
 have dl1:1 < (s.extract i s.size).size:=by omega
 have dl2:2 < (s.extract i s.size).size:=by omega
 have q1:(s.extract i s.size)[1].toNat=bt s (i+1):=by rw [bt_at dl1,bt_ext]
 have q2:(s.extract i s.size)[2].toNat=bt s (i+2):=by rw [bt_at dl2,bt_ext]
 have e1:(((s.extract i s.size)[1].toNat:Int) == 45)=false:=by rw [q1];simp;omega
 clear q1 q2
 have ql:0 < (s.extract i s.size).size:=by omega
 have q0:(s.extract i s.size)[0].toNat=bt s i:=by rw [bt_at ql,bt_ext];rfl
 have hx256:bt s i < 256:=(bt_txt s).1 i hi
 have hw:IntKind.i64.wrap ((i:Int)+1)=(i:Int)+1:=IntWalk.i64_in _ (by omega)
 clear hE hd hc h2 h45
 clear hlz
 generalize bt s i=x at *
 have hz0:i ≤ s.size:=by omega
 go_enter Tryz.func214,Tryz.ntmps214
 go_wp2_with fail
 refine (HD.out _).mono ?_;rintro e w' ⟨rfl,rfl⟩
 generalize s.extract i s.size=t at *
 generalize hW:World.alloc (World.alloc _ _) _=W at *
 have Z:W.heap[w.heap.size+1]? = some (.cells noSet 25):=by rw [← hW];exact (two_new w _ _).2
 have Z0:W.heap[w.heap.size]? = some (.cells #[.string s,.int .i64 a] 215):=by rw [← hW];exact (two_new w _ _).1
 have hb0:Below w.heap.size w W:=by rw [← hW];go_grown
 have hsz:W.heap.size=w.heap.size+2:=by rw [← hW];simp
 have HE':=Lib.hid (HE.out.below hb0)
 have ZZ:=Lib.hid Z;have HB0:=Lib.hid hb0;have HSZ:=Lib.hid hsz
 clear hW Z hb0 hsz
 have ZR:=Lib.hid Z0
 clear Z0
 go_wp2_with fail
 refine (HC.out _).mono ?_;rintro e w' ⟨rfl,rfl⟩
 go_wp2_with fail
 refine (of_p x hx256 _ (by first | rfl | rw [q0]) _ _ rfl _).mono ?_
 rintro e w1 ⟨rfl,hb⟩
 have hbA:Below W.heap.size W w1:=((Below.refl _ _).alloc (Nat.le_refl _) _).trans (hb.mono (by simp))
 have Z:=Lib.hid (keep_blk hbA ZZ.out)
 have HB:=Lib.hid (HB0.out.trans (hbA.mono HB0.out.size))
 clear hb hbA
 go_wp2_with (first
   | (refine wpList_store_row rfl 25 (.tmp 4) (.tmp 51) rfl (w.heap.size+1) #[.int .u64 (Oc.U (Oc.mk (fun b=>b == x) 0)),.int .u64 (Oc.U (Oc.mk (fun b=>b == x) 1)),.int .u64 (Oc.U (Oc.mk (fun b=>b == x) 2)),.int .u64 (Oc.U (Oc.mk (fun b=>b == x) 3))] rfl rfl 25 _ Z.out (by kernel_rfl) rfl (setP_one _) ?_)
   | fail)
 exact bodyPost_ret (results_row_two rfl _ _ (w.heap.size+1) 25 #[.int .u64 (Oc.U (Oc.mk (fun b=>b == x) 0)),.int .u64 (Oc.U (Oc.mk (fun b=>b == x) 1)),.int .u64 (Oc.U (Oc.mk (fun b=>b == x) 2)),.int .u64 (Oc.U (Oc.mk (fun b=>b == x) 3))] (0,0) _ _ _ rfl rfl rfl (heap_setRow Z.out) Tryz.underlying25 rfl (by kernel_rfl)) rfl ⟨by exact rfl,below_setRow HB.out (Nat.le_succ _) _⟩
theorem britem_brack (A:Nat→Addr) (s:ByteArray) (_hs:s.size ≤ 4294967280) (a i:Nat) (hi:i < s.size) (hd:Br.dotted (bt s) i=false) (hc:Br.colon (bt s) i=false) (h2:i+2 < s.size) (h45:bt s (i+1)=45) (h93:bt s (i+2)=93) (w:World) (hE:BrEnv w A) :
   Calls Tryz.prog 214 #[.agg #[.string s,.int .i64 a],.int .i64 i] w (ItEnd A (.ok (fun b=>b == bt s i) (i+1)) w):=by
 have hi1:(0:Int) ≤ i:=by omega
 have hi2:(i:Int) ≤ s.size:=by omega
 have HD:=Lib.hid (coll_at s i _ hd)
 have HC:=Lib.hid (class_at s i _ hc)
 have HE:=Lib.hid hE
 have hlz:(s.extract i s.size).size=s.size - i:=by simp
 have dL:decide ((2:Int) < ((s.extract i s.size).size:Int))=true:=by rw [hlz];simp;omega
 have dM:decide (2 < (s.extract i s.size).size)=true:=by rw [hlz];simp;omega
 have dl1:1 < (s.extract i s.size).size:=by omega
 have dl2:2 < (s.extract i s.size).size:=by omega
 have q1:(s.extract i s.size)[1].toNat=bt s (i+1):=by rw [bt_at dl1,bt_ext]
 have q2:(s.extract i s.size)[2].toNat=bt s (i+2):=by rw [bt_at dl2,bt_ext]
 have e1:(((s.extract i s.size)[1].toNat:Int) == 45)=true:=by rw [q1];simp;omega
 have e2:(((s.extract i s.size)[2].toNat:Int) != 93)=false:=by rw [q2];simp;omega
 clear q1 q2
 have ql:0 < (s.extract i s.size).size:=by omega
 have q0:(s.extract i s.size)[0].toNat=bt s i:=by rw [bt_at ql,bt_ext];rfl
 have hx256:bt s i < 256:=(bt_txt s).1 i hi
 have hw:IntKind.i64.wrap ((i:Int)+1)=(i:Int)+1:=IntWalk.i64_in _ (by omega)
 clear hE hd hc h2 h45 h93
 clear hlz
 generalize bt s i=x at *
 have hz0:i ≤ s.size:=by omega
 go_enter Tryz.func214,Tryz.ntmps214
 go_wp2_with fail
 refine (HD.out _).mono ?_;rintro e w' ⟨rfl,rfl⟩
 generalize s.extract i s.size=t at *
 generalize hW:World.alloc (World.alloc _ _) _=W at *
 have Z:W.heap[w.heap.size+1]? = some (.cells noSet 25):=by rw [← hW];exact (two_new w _ _).2
 have Z0:W.heap[w.heap.size]? = some (.cells #[.string s,.int .i64 a] 215):=by rw [← hW];exact (two_new w _ _).1
 have hb0:Below w.heap.size w W:=by rw [← hW];go_grown
 have hsz:W.heap.size=w.heap.size+2:=by rw [← hW];simp
 have HE':=Lib.hid (HE.out.below hb0)
 have ZZ:=Lib.hid Z;have HB0:=Lib.hid hb0;have HSZ:=Lib.hid hsz
 clear hW Z hb0 hsz
 have ZR:=Lib.hid Z0
 clear Z0
 go_wp2_with fail
 refine (HC.out _).mono ?_;rintro e w' ⟨rfl,rfl⟩
 go_wp2_with fail
 refine (of_p x hx256 _ (by first | rfl | rw [q0]) _ _ rfl _).mono ?_
 rintro e w1 ⟨rfl,hb⟩
 have hbA:Below W.heap.size W w1:=((Below.refl _ _).alloc (Nat.le_refl _) _).trans (hb.mono (by simp))
 have Z:=Lib.hid (keep_blk hbA ZZ.out)
 have HB:=Lib.hid (HB0.out.trans (hbA.mono HB0.out.size))
 clear hb hbA
 go_wp2_with (first
   | (refine wpList_store_row rfl 25 (.tmp 4) (.tmp 51) rfl (w.heap.size+1) #[.int .u64 (Oc.U (Oc.mk (fun b=>b == x) 0)),.int .u64 (Oc.U (Oc.mk (fun b=>b == x) 1)),.int .u64 (Oc.U (Oc.mk (fun b=>b == x) 2)),.int .u64 (Oc.U (Oc.mk (fun b=>b == x) 3))] rfl rfl 25 _ Z.out (by kernel_rfl) rfl (setP_one _) ?_)
   | fail)
 exact bodyPost_ret (results_row_two rfl _ _ (w.heap.size+1) 25 #[.int .u64 (Oc.U (Oc.mk (fun b=>b == x) 0)),.int .u64 (Oc.U (Oc.mk (fun b=>b == x) 1)),.int .u64 (Oc.U (Oc.mk (fun b=>b == x) 2)),.int .u64 (Oc.U (Oc.mk (fun b=>b == x) 3))] (0,0) _ _ _ rfl rfl rfl (heap_setRow Z.out) Tryz.underlying25 rfl (by kernel_rfl)) rfl ⟨by exact rfl,below_setRow HB.out (Nat.le_succ _) _⟩
end Go.Proofs.YtfcilopifjddpaaGreatDoor
namespace Go.Proofs.YtfcilopifjddpaaGreatDoor
open Go.RowKit
theorem classed_any (A:Nat→Addr) (s:ByteArray) (hs:s.size ≤ 4294967280) (a i:Nat) (hc:Br.colon (bt s) i=true) (w:World) (hE:BrEnv w A) :
   Calls Tryz.prog 222 #[.agg #[.string s,.int .i64 a],.int .i64 i] w (ItEnd A (Br.classed (bt s) s.size i a) w):=by
 unfold Br.colon at hc
 simp only [Bool.and_eq_true,beq_iff_eq] at hc
 have h1:=(bt_txt s).lt hc.2 (by omega)
 unfold Br.classed
 cases hk:Br.clos (bt s) (s.size - (i+3)) (i+2) with
 | none=>exact brnamed_open A s hs a i (by omega) hk w hE
 | some e =>
   obtain ⟨g1,g2,g3,g4,-⟩:=Br.clos_some hk
   have hlt:=(bt_txt s).lt g4 (by omega)
   obtain ⟨m,rfl⟩:∃ m,e=i+2+m:=⟨e - (i+2),by omega⟩
   show Calls _ _ _ _ (ItEnd A (Br.named (bt s) i (i+2+m)) w)
   unfold Br.named
   rw [name_part s (i+2) (i+2+m) (by omega) (by omega)]
   cases hn:Br.clsAt ((s.extract (i+2) (i+2+m)).data.toList.map (·.toNat)) with
   | none=>exact brnamed_no A s hs a i m (by omega) hk (clsAt_none hn) w hE
   | some k =>
     obtain ⟨hk12,hnm⟩:=clsAt_some hn
     exact brnamed_yes A s hs a i m k (by omega) hk (hnm ▸ known k hk12) w hE
theorem item_any (A:Nat→Addr) (s:ByteArray) (hs:s.size ≤ 4294967280) (a i:Nat) (hi:i < s.size) (w:World) (hE:BrEnv w A) :
   Calls Tryz.prog 214 #[.agg #[.string s,.int .i64 a],.int .i64 i] w (ItEnd A (Br.item (bt s) s.size i a) w):=by
 unfold Br.item
 cases hd:Br.dotted (bt s) i with
 | true=>exact britem_coll A s hs a i hi hd w hE
 | false =>
   rw [if_neg (by simp)]
   cases hc:Br.colon (bt s) i with
   | true =>
     rw [if_pos rfl]
     have HI:=fun w hE=>classed_any A s hs a i hc w hE
     cases hR:Br.classed (bt s) s.size i a with
     | ok P j=>rw [hR] at HI;exact britem_class_ok A s hs a i hi hd hc P j HI w hE
     | err c q=>rw [hR] at HI;exact britem_class_err A s hs a i hi hd hc c q HI w hE
   | false =>
     rw [if_neg (by simp)]
     unfold Br.isRange
     by_cases h2:i+2 < s.size
     · by_cases h45:bt s (i+1)=45
       · by_cases h93:bt s (i+2)=93
         · rw [if_neg (by simp [h93])]
           exact britem_brack A s hs a i hi hd hc h2 h45 h93 w hE
         · rw [if_pos (by simp [h93,h45,h2])]
           have HI:=fun w hE=>span_any A s hs a i h2 w hE
           cases hR:Br.ranged (bt s) i with
           | ok P j=>rw [hR] at HI;exact britem_range_ok A s hs a i hi hd hc h2 h45 h93 P j HI w hE
           | err c q=>rw [hR] at HI;exact britem_range_err A s hs a i hi hd hc h2 h45 h93 c q HI w hE
       · rw [if_neg (by simp [h45])]
         exact britem_nodash A s hs a i hi hd hc h2 h45 w hE
     · rw [if_neg (by simp [h2])]
       exact britem_short A s hs a i hi hd hc (by omega) w hE
theorem join_p {w:World} {v:Value} {P Q:Nat→Bool} (h:Sl2 w v (Oc.mk P 0) (Oc.mk P 1) (Oc.mk P 2) (Oc.mk P 3) (Oc.mk Q 0) (Oc.mk Q 1) (Oc.mk Q 2) (Oc.mk Q 3)):Calls Tryz.prog 181 #[v] w fun e w' =>
   e=.returned (.agg #[.int .u64 (Oc.U (Oc.mk (fun x=>P x || Q x) 0)),.int .u64 (Oc.U (Oc.mk (fun x=>P x || Q x) 1)),.int .u64 (Oc.U (Oc.mk (fun x=>P x || Q x) 2)),.int .u64 (Oc.U (Oc.mk (fun x=>P x || Q x) 3))])∧Below w.heap.size w w':=by
 have h2:=join2_any h
 rw [Br.mk_or,Br.mk_or,Br.mk_or,Br.mk_or] at h2
 exact h2
theorem britems_any (A:Nat→Addr) (s:ByteArray) (hs:s.size ≤ 4294967280) (a first:Nat) (hf:first ≤ s.size) (R:Br.Ans) (hR:Br.items (bt s) s.size a (s.size+1) first (fun _=>false) false=R) (w:World) (hE:BrEnv w A) :
   Calls Tryz.prog 202 #[.agg #[.string s,.int .i64 a],.int .i64 first] w (ItEnd A R w):=by
 have HR:=Lib.hid hR;have HE:=Lib.hid hE
 clear hR hE
 go_enter Tryz.func202,Tryz.ntmps202
 go_wp2_with fail
 go_loopw [8] (fun iv wr=>∃ (P:Nat→Bool) (i k:Nat),iv=.int .i64 i∧first ≤ i∧i ≤ s.size∧s.size < i+k∧Hid (Br.items (bt s) s.size a k i P (decide (first < i))=R)∧Hid (Below w.heap.size w wr)∧w.heap.size+2 < wr.heap.size ∧
   Hid (wr.heap[w.heap.size]? = some (.cells #[.string s,.int .i64 a] 215))∧Hid (wr.heap[w.heap.size+1]? = some (.cells noSet 25)) ∧
   Hid (wr.heap[w.heap.size+2]? = some (.cells #[.int .u64 (Oc.U (Oc.mk (P) 0)),.int .u64 (Oc.U (Oc.mk (P) 1)),.int .u64 (Oc.U (Oc.mk (P) 2)),.int .u64 (Oc.U (Oc.mk (P) 3))] 25))) (fun iv _=>s.size - (intOf iv).toNat)
 case atStart =>
   have h3:=three_new w (.cells #[.string s,.int .i64 a] 215) (.cells noSet 25) (.cells noSet 25)
   exact ⟨fun _=>false,first,s.size+1,rfl,Nat.le_refl _,hf,by omega,Lib.hid (by rw [show decide (first < first)=false by simp];exact HR.out),Lib.hid (by go_grown),by simp,Lib.hid h3.1,Lib.hid h3.2.1,Lib.hid (h3.2.2.trans (by rw [Oc.mk_none,Oc.mk_none,Oc.mk_none,Oc.mk_none];rfl))⟩
 case round =>
   obtain ⟨P,i,k,rfl,hfi,hi,hk,hit,HB,hsz,ZR,Z1,Z2⟩:=hrel
   obtain ⟨k,rfl⟩:∃ k',k=k'+1:=⟨k - 1,by omega⟩
   have HE1:=Lib.hid (HE.out.below HB.out)
   have c0:wr.cell? ⟨w.heap.size,0,none⟩=some (.string s):=by unfold World.cell?;rw [ZR.out];rfl
   have hit':=hit.out
   clear hit
   unfold Br.items at hit'
   by_cases hlt:i < s.size
   · have hd:decide ((i:Int) < s.size)=true:=by simp;omega
     have hi0:(0:Int) ≤ i:=by omega
     by_cases hx:(decide (first < i) && bt s i == 93)=true
     · rw [if_pos hx] at hit'
       simp only [Bool.and_eq_true,decide_eq_true_eq,beq_iff_eq] at hx
       have e93:((s[i].toNat:Int) == 93)=true:=by rw [bt_at hlt,hx.2];rfl
       have hg:decide (first < i)=true:=by simpa using hx.1
       subst hit'
       clear hx
       go_wp2_with (first
         | (refine wpList_load_row rfl 25 (.tmp 7) rfl (w.heap.size+2) rfl 25 _ (0,0) _ Z2.out Tryz.underlying25 rfl (by kernel_rfl) ?_)
         | (refine wpList_store_row rfl 25 (.tmp 4) (.tmp 28) rfl (w.heap.size+1) #[.int .u64 (Oc.U (Oc.mk (P) 0)),.int .u64 (Oc.U (Oc.mk (P) 1)),.int .u64 (Oc.U (Oc.mk (P) 2)),.int .u64 (Oc.U (Oc.mk (P) 3))] rfl rfl 25 _ Z1.out (by kernel_rfl) rfl setC_one ?_)
         | fail)
       exact bodyPost_ret (results_row_two rfl _ _ (w.heap.size+1) 25 #[.int .u64 (Oc.U (Oc.mk (P) 0)),.int .u64 (Oc.U (Oc.mk (P) 1)),.int .u64 (Oc.U (Oc.mk (P) 2)),.int .u64 (Oc.U (Oc.mk (P) 3))] (0,0) _ _ _ rfl rfl rfl (heap_setRow Z1.out) Tryz.underlying25 rfl (by kernel_rfl)) rfl ⟨by exact rfl,below_setRow HB.out (Nat.le_succ _) _⟩
     · rw [if_neg hx,if_neg (by omega)] at hit'
       have hb93:(((s[i].toNat:Int) == 93)=false∧decide (i=i)=true) ∨ (((s[i].toNat:Int) == 93)=true∧decide (first < i)=false):=by
         rw [bt_at hlt]
         by_cases h93:bt s i=93
         · refine .inr ⟨by rw [h93];rfl, ?_⟩
           cases hq:decide (first < i) with
           | false=>rfl
           | true=>rw [hq,h93] at hx;exact absurd rfl hx
         · exact .inl ⟨by simp;omega,by simp⟩
       have hitem:=fun w hE=>item_any A s hs a i hlt w hE
       clear hx
       cases hI:Br.item (bt s) s.size i a with
       | err c q =>
         rw [hI] at hit' hitem
         simp only at hit'
         subst hit'
         have HI:=Lib.hid hitem
         clear hitem hI
         rcases hb93 with ⟨e93,hg⟩ | ⟨e93,hg⟩
         all_goals
           go_wp2_with (first
             | (refine wpList_load_row rfl 215 (.tmp 2) rfl w.heap.size rfl 215 _ (0,0) _ ZR.out Tryz.underlying215 rfl (by kernel_rfl) ?_)
             | fail)
           refine (HI.out _ HE1.out).mono ?_
           intro e w1 he
           obtain ⟨v,rfl,hv,hb⟩:=he.err rfl
           obtain ⟨q',rfl⟩:=hv.iface
           have hbA:Below wr.heap.size wr (w1.alloc (.cells noSet 25)):=hb.alloc hb.size _
           have Y1:=Lib.hid (keep_blk hbA Z1.out)
           have HB1:=Lib.hid (HB.out.trans (hbA.mono HB.out.size))
           have HV:=Lib.hid (hv.later ((Below.refl w1.heap.size w1).alloc (Nat.le_refl _) (.cells noSet 25)))
           clear hb hbA hv he c0
           go_wp2_with (first
             | (refine wpList_store_row rfl 25 (.tmp 4) (.tmp 39) rfl (w.heap.size+1) noSet rfl rfl 25 _ Y1.out (by kernel_rfl) rfl noSet_one ?_)
             | fail)
           exact bodyPost_ret (results_row_two rfl _ _ (w.heap.size+1) 25 noSet (0,0) _ _ _ rfl rfl rfl (heap_setRow Y1.out) Tryz.underlying25 rfl (by kernel_rfl)) rfl ⟨⟨_,rfl,(HV.out.setRow (by omega) noSet).down HB.out.size⟩,below_setRow HB1.out (Nat.le_succ _) _⟩
       | ok Q j =>
         rw [hI] at hit' hitem
         simp only at hit'
         obtain ⟨hj1,hj2⟩:=Br.item_next hlt hI
         have HI:=Lib.hid hitem
         have HIT:Hid (Br.items (bt s) s.size a k j (fun x=>P x || Q x) (decide (first < j))=R):=Lib.hid (by rw [show decide (first < j)=true by simp;omega];exact hit')
         clear hitem hI hit'
         rcases hb93 with ⟨e93,hg⟩ | ⟨e93,hg⟩
         all_goals
           go_wp2_with (first
             | (refine wpList_load_row rfl 215 (.tmp 2) rfl w.heap.size rfl 215 _ (0,0) _ ZR.out Tryz.underlying215 rfl (by kernel_rfl) ?_)
             | fail)
           refine (HI.out _ HE1.out).mono ?_
           intro e w1 he
           obtain ⟨rfl,hb⟩:=he.ok rfl
           have hbA:Below wr.heap.size wr (w1.alloc (.cells #[.int .u64 (Oc.U (Oc.mk (Q) 0)),.int .u64 (Oc.U (Oc.mk (Q) 1)),.int .u64 (Oc.U (Oc.mk (Q) 2)),.int .u64 (Oc.U (Oc.mk (Q) 3))] 25)):=hb.alloc hb.size _
           have YR:=Lib.hid (keep_blk hbA ZR.out)
           have Y1:=Lib.hid (keep_blk hbA Z1.out)
           have Y2:=Lib.hid (keep_blk hbA Z2.out)
           have Y3:=Lib.hid (heap_alloc_new w1 (.cells #[.int .u64 (Oc.U (Oc.mk (Q) 0)),.int .u64 (Oc.U (Oc.mk (Q) 1)),.int .u64 (Oc.U (Oc.mk (Q) 2)),.int .u64 (Oc.U (Oc.mk (Q) 3))] 25))
           have HB1:=Lib.hid (HB.out.trans (hbA.mono HB.out.size))
           have hsz1:wr.heap.size ≤ w1.heap.size:=hb.size
           clear hb hbA he c0
           go_wp2_with (first
             | (refine wpList_load_row rfl 25 (.tmp 7) rfl (w.heap.size+2) rfl 25 _ (0,0) _ Y2.out Tryz.underlying25 rfl (by kernel_rfl) ?_)
             | (refine wpList_load_row rfl 25 (.tmp 9) rfl w1.heap.size rfl 25 _ (0,0) _ Y3.out Tryz.underlying25 rfl (by kernel_rfl) ?_)
             | fail)
           have hsl:Sl2 ((w1.alloc (.cells #[.int .u64 (Oc.U (Oc.mk Q 0)),.int .u64 (Oc.U (Oc.mk Q 1)),.int .u64 (Oc.U (Oc.mk Q 2)),.int .u64 (Oc.U (Oc.mk Q 3))] 25)).alloc (.cells #[.int .u64 (Oc.U (Oc.mk P 0)),.int .u64 (Oc.U (Oc.mk P 1)),.int .u64 (Oc.U (Oc.mk P 2)),.int .u64 (Oc.U (Oc.mk P 3)),.int .u64 (Oc.U (Oc.mk Q 0)),.int .u64 (Oc.U (Oc.mk Q 1)),.int .u64 (Oc.U (Oc.mk Q 2)),.int .u64 (Oc.U (Oc.mk Q 3))] 25))
               (.slice (some ⟨w1.heap.size+1,0,none⟩) 2 2) (Oc.mk P 0) (Oc.mk P 1) (Oc.mk P 2) (Oc.mk P 3) (Oc.mk Q 0) (Oc.mk Q 1) (Oc.mk Q 2) (Oc.mk Q 3):=⟨_,rfl,(two_new w1 _ _).2⟩
           refine (join_p hsl).mono ?_
           rintro e w3 ⟨rfl,hb3⟩
           have hbA:Below (w1.alloc (.cells #[.int .u64 (Oc.U (Oc.mk Q 0)),.int .u64 (Oc.U (Oc.mk Q 1)),.int .u64 (Oc.U (Oc.mk Q 2)),.int .u64 (Oc.U (Oc.mk Q 3))] 25)).heap.size (w1.alloc (.cells #[.int .u64 (Oc.U (Oc.mk Q 0)),.int .u64 (Oc.U (Oc.mk Q 1)),.int .u64 (Oc.U (Oc.mk Q 2)),.int .u64 (Oc.U (Oc.mk Q 3))] 25)) w3:=((Below.refl _ _).alloc (Nat.le_refl _) _).trans (hb3.mono (by simp))
           have X0:=Lib.hid (keep_blk hbA YR.out)
           have X1:=Lib.hid (keep_blk hbA Y1.out)
           have X2:=Lib.hid (keep_blk hbA Y2.out)
           have HB3:=Lib.hid (HB1.out.trans (hbA.mono HB1.out.size))
           have hsz3:w1.heap.size+1 ≤ w3.heap.size:=by have:=hbA.size;simpa using this
           clear hb3 hbA hsl Y1 Y2 Y3 YR
           go_wp2_with (first
             | (refine wpList_store_row rfl 25 (.tmp 7) (.tmp 44) rfl (w.heap.size+2) #[.int .u64 (Oc.U (Oc.mk (fun x=>P x || Q x) 0)),.int .u64 (Oc.U (Oc.mk (fun x=>P x || Q x) 1)),.int .u64 (Oc.U (Oc.mk (fun x=>P x || Q x) 2)),.int .u64 (Oc.U (Oc.mk (fun x=>P x || Q x) 3))] rfl rfl 25 _ X2.out (by kernel_rfl) rfl setC_one ?_)
             | fail)
           go_roundw
           case rel=>exact ⟨fun x=>P x || Q x,j,k,rfl,by omega,hj2,by omega,HIT,Lib.hid (below_setRow HB3.out (by omega) _),by simp;omega,Lib.hid ((heap_setRow_other _ _ _ (by omega)).trans X0.out),Lib.hid ((heap_setRow_other _ _ _ (by omega)).trans X1.out),Lib.hid (heap_setRow X2.out)⟩
           case measure=>simp [intOf];omega
   · have hd:decide ((i:Int) < s.size)=false:=by simp;omega
     have h256:bt s i=256:=bt_out (by omega)
     rw [if_neg (by simp [h256]),if_pos (by omega)] at hit'
     subst hit'
     go_wp2_with (first
       | (refine wpList_load_row rfl 215 (.tmp 2) rfl w.heap.size rfl 215 _ (0,0) _ ZR.out Tryz.underlying215 rfl (by kernel_rfl) ?_)
       | fail)
     refine (open_any A s a _ HE1.out).mono ?_
     intro e w1 he
     obtain ⟨v,rfl,hv,hb⟩:=he.err rfl
     obtain ⟨q',rfl⟩:=hv.iface
     have Y1:=Lib.hid (keep_blk hb Z1.out)
     have HB1:=Lib.hid (HB.out.trans (hb.mono HB.out.size))
     have HV:=Lib.hid hv
     clear hb hv he c0
     go_wp2_with (first
       | (refine wpList_store_row rfl 25 (.tmp 4) (.tmp 48) rfl (w.heap.size+1) noSet rfl rfl 25 _ Y1.out (by kernel_rfl) rfl noSet_one ?_)
       | fail)
     exact bodyPost_ret (results_row_two rfl _ _ (w.heap.size+1) 25 noSet (0,0) _ _ _ rfl rfl rfl (heap_setRow Y1.out) Tryz.underlying25 rfl (by kernel_rfl)) rfl ⟨⟨_,rfl,(HV.out.setRow (by omega) noSet).down HB.out.size⟩,below_setRow HB1.out (Nat.le_succ _) _⟩
end Go.Proofs.YtfcilopifjddpaaGreatDoor
namespace Go.Proofs.YtfcilopifjddpaaGreatDoor
open Go.RowKit
def Sl2N (B:Nat) (w:World) (v:Value) (a b c d a' b' c' d':BitVec 64):Prop:=∃ g,B ≤ g∧v=.slice (some ⟨g,0,none⟩) 2 2∧w.heap[g]? = some (.cells #[.int .u64 (Oc.U a),.int .u64 (Oc.U b),.int .u64 (Oc.U c),.int .u64 (Oc.U d),.int .u64 (Oc.U a'),.int .u64 (Oc.U b'),.int .u64 (Oc.U c'),.int .u64 (Oc.U d')] 25)
theorem Sl2N.plain {B:Nat} {w:World} {v:Value} {a b c d a' b' c' d':BitVec 64} (h:Sl2N B w v a b c d a' b' c' d'):Sl2 w v a b c d a' b' c' d':=by
 obtain ⟨g,-,e,hg⟩:=h;exact ⟨g,e,hg⟩
theorem Sl2N.below {B:Nat} {w w':World} {v:Value} {a b c d a' b' c' d':BitVec 64} (h:Sl2N B w v a b c d a' b' c' d') (hb:Below w.heap.size w w'):Sl2N B w' v a b c d a' b' c' d':=by
 obtain ⟨g,hB,e,hg⟩:=h;exact ⟨g,hB,e,keep_blk hb hg⟩
theorem Sl2N.setRow {B:Nat} {w:World} {v:Value} {a b c d a' b' c' d':BitVec 64} (h:Sl2N B w v a b c d a' b' c' d') {g:Nat} (hg:g < B) (cs:Array Value):Sl2N B (w.setRow g cs) v a b c d a' b' c' d':=by
 obtain ⟨k,hB,e,hk⟩:=h;exact ⟨k,hB,e,(heap_setRow_other _ _ _ (by omega)).trans hk⟩
def One (w:World) (v:Value) (m:Nat):Prop:=∃ g,v=.slice (some ⟨g,0,none⟩) 1 1∧w.heap[g]? = some (.cells #[.int .u8 m] 5)
def OneN (B:Nat) (w:World) (v:Value) (m:Nat):Prop:=∃ g,B ≤ g∧v=.slice (some ⟨g,0,none⟩) 1 1∧w.heap[g]? = some (.cells #[.int .u8 m] 5)
theorem OneN.plain {B:Nat} {w:World} {v:Value} {m:Nat} (h:OneN B w v m):One w v m:=by
 obtain ⟨g,-,e,hg⟩:=h;exact ⟨g,e,hg⟩
theorem OneN.below {B:Nat} {w w':World} {v:Value} {m:Nat} (h:OneN B w v m) (hb:Below w.heap.size w w'):OneN B w' v m:=by
 obtain ⟨g,hB,e,hg⟩:=h;exact ⟨g,hB,e,keep_blk hb hg⟩
theorem OneN.setRow {B:Nat} {w:World} {v:Value} {m:Nat} (h:OneN B w v m) {g:Nat} (hg:g < B) (cs:Array Value):OneN B (w.setRow g cs) v m:=by
 obtain ⟨k,hB,e,hk⟩:=h;exact ⟨k,hB,e,(heap_setRow_other _ _ _ (by omega)).trans hk⟩
theorem wp_bytes1 {o:Oper} {x:Act} {w:World} {K:Act→World→Prop} {Q:Exit→Act→World→Prop} (m:Int) (ho:o.op=.buildSlice 74 1 #[(0,.const (.int .u8 m))])
   (h:K (x.put o.dst (.slice (some ⟨w.heap.size,0,none⟩) 1 1)) (w.alloc (.cells #[.int .u8 m] 5))):o.wp Tryz.prog x w K Q:=by
 obtain ⟨ie,hi,hz0,hz1,-⟩:=info_parts Tryz.infoByte
 refine wp_buildSlice 74 5 1 _ ho _ ie _ Tryz.underlying74 hi hz0 (by rw [hz1];decide) (by rw [hz1];decide) ?_ h
 rw [hz1]
 simp only [List.map_toArray,List.map_cons,List.map_nil,Act.eval]
 kernel_rfl
theorem one_any {w:World} {v:Value} {m:Nat} (hm:m < 256) (h:One w v m):Calls Tryz.prog 114 #[v] w fun e w'=>e=.returned (.agg #[.int .u64 (Oc.U (Oc.mk (fun b=>b == m) 0)),.int .u64 (Oc.U (Oc.mk (fun b=>b == m) 1)),.int .u64 (Oc.U (Oc.mk (fun b=>b == m) 2)),.int .u64 (Oc.U (Oc.mk (fun b=>b == m) 3))])∧Below w.heap.size w w':=by
 obtain ⟨g,rfl,hg⟩:=h
 have hb:Oc.anyB (fun _=>m) 1=fun b=>b == m:=by funext b;simp [Oc.anyB]
 have:=of_any (some ⟨g,0,none⟩) 1 1 (fun _=>m) (by omega) w (fun _ _=>hm) (fun i hi=>by
   obtain rfl:i=0:=by omega
   exact ⟨g,0,rfl,(Array.getElem?_eq_some_iff.1 hg).1,by unfold World.cell?;rw [hg];rfl⟩)
 rw [hb] at this
 exact this
theorem not_p (P:Nat→Bool) (w:World):Calls Tryz.prog 113 #[(.agg #[.int .u64 (Oc.U (Oc.mk P 0)),.int .u64 (Oc.U (Oc.mk P 1)),.int .u64 (Oc.U (Oc.mk P 2)),.int .u64 (Oc.U (Oc.mk P 3))])] w fun e w' =>
   e=.returned (.agg #[.int .u64 (Oc.U (Oc.mk (fun x=>!P x) 0)),.int .u64 (Oc.U (Oc.mk (fun x=>!P x) 1)),.int .u64 (Oc.U (Oc.mk (fun x=>!P x) 2)),.int .u64 (Oc.U (Oc.mk (fun x=>!P x) 3))])∧Below w.heap.size w w':=by
 have h:=not_any (Oc.mk P 0) (Oc.mk P 1) (Oc.mk P 2) (Oc.mk P 3) w
 rw [Br.mk_not,Br.mk_not,Br.mk_not,Br.mk_not] at h
 exact h
end Go.Proofs.YtfcilopifjddpaaGreatDoor
namespace Go.Proofs.YtfcilopifjddpaaGreatDoor
open Go.RowKit
namespace Cl
def capOf (j:Nat):Nat:=if 65 ≤ j∧j ≤ 90 then j else if 97 ≤ j∧j ≤ 122 then j - 32 else 300
def foldU (p:Nat→Bool) (m:Nat):Nat→Bool:=fun j=>p j || (p (oth j) && decide (capOf j < m))
theorem foldU_start (p:Nat→Bool) (j:Nat):foldU p 65 j=p j:=by
 unfold foldU
 have:¬ capOf j < 65:=by unfold capOf;split <;> (try split) <;> omega
 simp [this]
theorem foldU_end (p:Nat→Bool) (j:Nat):foldU p 91 j=fold p j:=by
 unfold foldU fold
 by_cases h:capOf j < 91
 · simp [h]
 · have:oth j=j:=by
     unfold capOf at h;unfold oth
     split at h
     · omega
     · rename_i h1
       split at h
       · omega
       · rename_i h2;rw [if_neg h1,if_neg h2]
   simp [this,h]
theorem foldU_yes {p:Nat→Bool} {m:Nat} (h1:65 ≤ m) (h2:m ≤ 90) (h:(p m || p (m+32))=true) (j:Nat):foldU p (m+1) j=(foldU p m j || (j == m || j == m+32)):=by
 by_cases e1:j=m
 · subst e1
   have:oth j=j+32:=by unfold oth;rw [if_pos ⟨h1,h2⟩]
   have hc:capOf j=j:=by unfold capOf;rw [if_pos ⟨h1,h2⟩]
   unfold foldU;rw [this,hc];simp only [Nat.lt_succ_self,decide_true,Bool.and_true,h];simp
 · by_cases e2:j=m+32
   · subst e2
     have:oth (m+32)=m:=by unfold oth;rw [if_neg (by omega),if_pos (by omega)];omega
     have hc:capOf (m+32)=m:=by unfold capOf;rw [if_neg (by omega),if_pos (by omega)];omega
     unfold foldU;rw [this,hc];simp only [Nat.lt_succ_self,decide_true,Bool.and_true];rw [Bool.or_comm,h];simp
   · have hc:decide (capOf j < m+1)=decide (capOf j < m):=by
       have:capOf j ≠ m:=by unfold capOf;split <;> (try split) <;> omega
       rw [decide_eq_decide];omega
     unfold foldU;rw [hc];simp [e1,e2]
theorem foldU_no {p:Nat→Bool} {m:Nat} (h1:65 ≤ m) (h2:m ≤ 90) (h:(p m || p (m+32))=false) (j:Nat):foldU p (m+1) j=foldU p m j:=by
 rw [Bool.or_eq_false_iff] at h
 by_cases e1:j=m
 · subst e1
   have:oth j=j+32:=by unfold oth;rw [if_pos ⟨h1,h2⟩]
   unfold foldU;rw [this,h.1,h.2];simp
 · by_cases e2:j=m+32
   · subst e2
     have:oth (m+32)=m:=by unfold oth;rw [if_neg (by omega),if_pos (by omega)];omega
     unfold foldU;rw [this,h.1,h.2];simp
   · have hc:decide (capOf j < m+1)=decide (capOf j < m):=by
       have:capOf j ≠ m:=by unfold capOf;split <;> (try split) <;> omega
       rw [decide_eq_decide];omega
     unfold foldU;rw [hc]
def pair (m q:Nat):BitVec 64:=Oc.mk (fun j=>j == m || j == m+32) q
theorem mk_or (p q:Nat→Bool) (k:Nat):Oc.mk p k ||| Oc.mk q k=Oc.mk (fun j=>p j || q j) k:=by
 apply BitVec.eq_of_getLsbD_eq
 intro i hi
 rw [BitVec.getLsbD_or,Oc.mk_bit _ _ _ hi,Oc.mk_bit _ _ _ hi,Oc.mk_bit _ _ _ hi]
theorem mk_congr {p q:Nat→Bool} (h:∀ j,p j=q j) (k:Nat):Oc.mk p k=Oc.mk q k:=by rw [funext h]
def fw (p:Nat→Bool) (m q:Nat):BitVec 64:=Oc.mk (foldU p m) q
theorem fw_yes {p:Nat→Bool} {m:Nat} (h1:65 ≤ m) (h2:m ≤ 90) (h:(p m || p (m+32))=true) (q:Nat):fw p m q ||| pair m q=fw p (m+1) q:=by
 unfold fw pair;rw [mk_or];exact (mk_congr (foldU_yes h1 h2 h) q).symm
theorem fw_no {p:Nat→Bool} {m:Nat} (h1:65 ≤ m) (h2:m ≤ 90) (h:(p m || p (m+32))=false) (q:Nat):fw p (m+1) q=fw p m q:=mk_congr (foldU_no h1 h2 h) q
theorem fw_start (a b c d:BitVec 64):fw (Oc.mem a b c d) 65 0=a∧fw (Oc.mem a b c d) 65 1=b∧fw (Oc.mem a b c d) 65 2=c∧fw (Oc.mem a b c d) 65 3=d:=by
 have h:=mk_mem a b c d
 unfold fw
 rw [mk_congr (foldU_start _),mk_congr (foldU_start _),mk_congr (foldU_start _),mk_congr (foldU_start _)]
 exact h
theorem fw_end (p:Nat→Bool) (q:Nat):fw p 91 q=Oc.mk (fold p) q:=mk_congr (foldU_end p) q
theorem zero_word {x:BitVec 64} : (Oc.U x == 0)=(x == 0#64):=by
 rw [Bool.eq_iff_iff,beq_iff_eq,beq_iff_eq]
 constructor
 · intro h;exact Oc.U_inj (y:=0#64) (by rw [h];rfl)
 · rintro rfl;rfl
theorem meets {a b c d:BitVec 64} {m:Nat} (hm:m+32 < 256) :
   (Oc.U (a &&& pair m 0) == 0 && (Oc.U (b &&& pair m 1) == 0 && (Oc.U (c &&& pair m 2) == 0 && Oc.U (d &&& pair m 3) == 0))) = !(Oc.mem a b c d m || Oc.mem a b c d (m+32)):=by
 have key:∀ i,i < 256→Oc.mem (a &&& pair m 0) (b &&& pair m 1) (c &&& pair m 2) (d &&& pair m 3) i=(Oc.mem a b c d i && (i == m || i == m+32)):=fun i hi=>by
   rw [Oc.mem_and];unfold pair;rw [Oc.mem_mk _ _ hi]
 rw [zero_word,zero_word,zero_word,zero_word,Bool.eq_iff_iff]
 simp only [Bool.and_eq_true,beq_iff_eq,Bool.not_eq_true',Bool.or_eq_false_iff]
 constructor
 · rintro ⟨h0,h1,h2,h3⟩
   rw [h0,h1,h2,h3] at key
   have z:∀ i,Oc.mem 0#64 0#64 0#64 0#64 i=false:=fun i=>by unfold Oc.mem Oc.w4;split <;> (try split) <;> (try split) <;> simp
   have k1:=key m (by omega)
   have k2:=key (m+32) hm
   rw [z] at k1 k2
   simp at k1 k2
   exact ⟨k1,k2⟩
 · rintro ⟨h0,h1⟩
   have:=Oc.ext4 (a:=a &&& pair m 0) (b:=b &&& pair m 1) (c:=c &&& pair m 2) (d:=d &&& pair m 3) (a':=0#64) (b':=0#64) (c':=0#64) (d':=0#64) (fun i hi=>by
     rw [key i hi]
     have z:Oc.mem 0#64 0#64 0#64 0#64 i=false:=by unfold Oc.mem Oc.w4;split <;> (try split) <;> (try split) <;> simp
     rw [z]
     by_cases e1:i=m
     · subst e1;simp [h0]
     · by_cases e2:i=m+32
       · subst e2;simp [h1]
       · simp [e1,e2])
   exact this
end Cl
def caseOf (m n:Nat):Nat→Nat:=fun i=>if i=0 then m else n
theorem of_pair (m:Nat) (h1:m+32 < 256) (v z:Int) (hv:v=(m:Int)) (hz:z=((m+32:Nat):Int)) (g:Nat) (w:World) (hg:w.heap.size=g) (t:TypeId) :
   Calls Tryz.prog 114 #[.slice (some ⟨g,0,none⟩) 2 2] (w.alloc (.cells #[.int .u8 v,.int .u8 z] t))
     fun e w'=>e=.returned (.agg #[.int .u64 (Oc.U (Cl.pair m 0)),.int .u64 (Oc.U (Cl.pair m 1)),.int .u64 (Oc.U (Cl.pair m 2)),.int .u64 (Oc.U (Cl.pair m 3))])∧Below (w.heap.size+1) (w.alloc (.cells #[.int .u8 v,.int .u8 z] t)) w':=by
 subst hv hz hg
 refine (of_any (some ⟨w.heap.size,0,none⟩) 2 2 (caseOf m (m+32)) (by omega) _ (fun i _=>by unfold caseOf;split <;> omega) ?_).mono ?_
 · intro i hi
   refine ⟨w.heap.size,0,rfl,by simp, ?_⟩
   rcases (show i=0 ∨ i=1 by omega) with rfl | rfl <;> (rw [cell_new];rfl)
 · rintro e w' ⟨rfl,hb⟩
   have key:∀ q,Oc.mk (Oc.anyB (caseOf m (m+32)) 2) q=Cl.pair m q:=fun q=>Cl.mk_congr (fun j=>by simp [Oc.anyB,caseOf]) q
   exact ⟨by rw [key,key,key,key],by simpa using hb⟩
theorem meet2_new (a b c d a1 b1 c1 d1:BitVec 64) (g:Nat) (w:World) (hg:w.heap.size=g) :
   Calls Tryz.prog 174 #[.slice (some ⟨g,0,none⟩) 2 2]
     (w.alloc (.cells #[.int .u64 (Oc.U a),.int .u64 (Oc.U b),.int .u64 (Oc.U c),.int .u64 (Oc.U d),.int .u64 (Oc.U a1),.int .u64 (Oc.U b1),.int .u64 (Oc.U c1),.int .u64 (Oc.U d1)] 25))
     fun e w'=>e=.returned (.agg #[.int .u64 (Oc.U (a &&& a1)),.int .u64 (Oc.U (b &&& b1)),.int .u64 (Oc.U (c &&& c1)),.int .u64 (Oc.U (d &&& d1))])∧Below (w.heap.size+1) (w.alloc (.cells #[.int .u64 (Oc.U a),.int .u64 (Oc.U b),.int .u64 (Oc.U c),.int .u64 (Oc.U d),.int .u64 (Oc.U a1),.int .u64 (Oc.U b1),.int .u64 (Oc.U c1),.int .u64 (Oc.U d1)] 25)) w':=by
 subst hg
 refine (meet2_any ⟨_,rfl,heap_alloc_new w _⟩).mono ?_
 rintro e w' ⟨rfl,hb⟩
 exact ⟨rfl,by simpa using hb⟩
theorem join2_at (a b c d a1 b1 c1 d1 e0 e1 e2 e3:BitVec 64) (g:Nat) (w:World) (hg:w.heap.size=g) (he0:a ||| a1=e0) (he1:b ||| b1=e1) (he2:c ||| c1=e2) (he3:d ||| d1=e3) :
   Calls Tryz.prog 181 #[.slice (some ⟨g,0,none⟩) 2 2]
     (w.alloc (.cells #[.int .u64 (Oc.U a),.int .u64 (Oc.U b),.int .u64 (Oc.U c),.int .u64 (Oc.U d),.int .u64 (Oc.U a1),.int .u64 (Oc.U b1),.int .u64 (Oc.U c1),.int .u64 (Oc.U d1)] 25))
     fun e w'=>e=.returned (.agg #[.int .u64 (Oc.U e0),.int .u64 (Oc.U e1),.int .u64 (Oc.U e2),.int .u64 (Oc.U e3)])∧Below (w.heap.size+1) (w.alloc (.cells #[.int .u64 (Oc.U a),.int .u64 (Oc.U b),.int .u64 (Oc.U c),.int .u64 (Oc.U d),.int .u64 (Oc.U a1),.int .u64 (Oc.U b1),.int .u64 (Oc.U c1),.int .u64 (Oc.U d1)] 25)) w':=by
 subst hg
 refine (join2_any ⟨_,rfl,heap_alloc_new w _⟩).mono ?_
 rintro e w' ⟨rfl,hb⟩
 exact ⟨by rw [he0,he1,he2,he3],by simpa using hb⟩
theorem fold_any (a b c d:BitVec 64) (w:World) :
   Calls Tryz.prog 159 #[(.agg #[.int .u64 (Oc.U a),.int .u64 (Oc.U b),.int .u64 (Oc.U c),.int .u64 (Oc.U d)])] w fun e w'=>e=.returned (.agg #[.int .u64 (Oc.U (Oc.mk (Cl.fold (Oc.mem a b c d)) 0)),.int .u64 (Oc.U (Oc.mk (Cl.fold (Oc.mem a b c d)) 1)),.int .u64 (Oc.U (Oc.mk (Cl.fold (Oc.mem a b c d)) 2)),.int .u64 (Oc.U (Oc.mk (Cl.fold (Oc.mem a b c d)) 3))])∧Below w.heap.size w w':=by
 have he:=eq4
 have hst:=Cl.fw_start a b c d
 have HST:=Lib.hid hst;clear hst
 go_enter Tryz.func159,Tryz.ntmps159
 go_wp2
 go_loopw [4] (fun i wr=>∃ m:Nat,65 ≤ m∧m ≤ 91∧i=.int .u8 m∧Below w.heap.size w wr∧w.heap.size+2 < wr.heap.size∧wr.heap[w.heap.size]? = some (.cells #[.int .u64 (Oc.U a),.int .u64 (Oc.U b),.int .u64 (Oc.U c),.int .u64 (Oc.U d)] 25)∧wr.heap[w.heap.size+1]? = some (.cells #[.int .u64 0,.int .u64 0,.int .u64 0,.int .u64 0] 25) ∧
   wr.heap[w.heap.size+1+1]? = some (.cells #[.int .u64 (Oc.U (Cl.fw (Oc.mem a b c d) m 0)),.int .u64 (Oc.U (Cl.fw (Oc.mem a b c d) m 1)),.int .u64 (Oc.U (Cl.fw (Oc.mem a b c d) m 2)),.int .u64 (Oc.U (Cl.fw (Oc.mem a b c d) m 3))] 25)) (fun i _=>91 - (intOf i).toNat)
 case atStart=>exact ⟨65,Nat.le_refl _,by omega,rfl,by go_grown,by simp,(three_new _ _ _ _).1,(three_new _ _ _ _).2.1,by rw [HST.out.1,HST.out.2.1,HST.out.2.2.1,HST.out.2.2.2];exact (three_new _ _ _ _).2.2⟩
 case round =>
   obtain ⟨m,h65,h91,rfl,hbel,hsz,hz0,hz1,hz2⟩:=hrel
   by_cases hlt:m ≤ 90
   · have hi:(m:Int) ≤ 90:=by omega
     have ho:Cl.oth m=m+32:=by unfold Cl.oth;rw [if_pos ⟨h65,hlt⟩]
     have hm0:=Cl.meets (a:=a) (b:=b) (c:=c) (d:=d) (m:=m) (by omega)
     have HO:=Lib.hid ho;have HM:=Lib.hid hm0
     have HB:=Lib.hid hbel;have Z0:=Lib.hid hz0;have Z1:=Lib.hid hz1;have Z2:=Lib.hid hz2
     clear ho hm0 hbel hz0 hz1 hz2
     go_wp2_with fail
     refine (other_any m (by omega) _).mono ?_
     rintro e w' ⟨rfl,rfl⟩
     rw [HO.out]
     go_wp2_with fail
     refine (of_pair m (by omega) _ _ rfl rfl _ _ rfl _).mono ?_
     rintro e w1 ⟨rfl,hb1⟩
     have hsz1:w.heap.size+2 < w1.heap.size:=by have:=hb1.size;simp at this;omega
     have B1:=Lib.hid ((HB.out.alloc HB.out.size _).trans (hb1.mono (by have:=HB.out.size;omega)))
     have Y0:=Lib.hid (keep_new hb1 Z0.out);have Y1:=Lib.hid (keep_new hb1 Z1.out);have Y2:=Lib.hid (keep_new hb1 Z2.out)
     clear hb1 HB Z0 Z1 Z2
     have s0:=fun o=>(four (heap_alloc_lt (o:=o) Y0.out)).1
     have s1:=fun o=>(four (heap_alloc_lt (o:=o) Y0.out)).2.1
     have s2:=fun o=>(four (heap_alloc_lt (o:=o) Y0.out)).2.2.1
     have s3:=fun o=>(four (heap_alloc_lt (o:=o) Y0.out)).2.2.2.1
     go_wp2_with fail
     clear s0 s1 s2 s3
     refine (meet2_new _ _ _ _ _ _ _ _ (w1.heap.size+1) _ (by simp)).mono ?_
     rintro e w2 ⟨rfl,hb2⟩
     have hsz2:w.heap.size+2 < w2.heap.size:=by have:=hb2.size;simp at this;omega
     have hsz3:w1.heap.size < w2.heap.size:=by have:=hb2.size;simp at this;omega
     have B2:=Lib.hid (((B1.out.alloc B1.out.size _).alloc (by have:=B1.out.size;simp;omega) _).trans (hb2.mono (by have:=B1.out.size;simp;omega)))
     have X0:=Lib.hid (keep_new hb2 (heap_alloc_lt Y0.out));have X1:=Lib.hid (keep_new hb2 (heap_alloc_lt Y1.out));have X2:=Lib.hid (keep_new hb2 (heap_alloc_lt Y2.out))
     have X3:=Lib.hid (keep_new hb2 (heap_alloc_new w1 _))
     clear hb2 B1 Y0 Y1 Y2
     cases hp:(Oc.mem a b c d m || Oc.mem a b c d (m+32)) with
     | false =>
       have hm:=HM.out
       rw [hp] at hm
       simp only [Bool.not_false] at hm
       have hn:=Cl.fw_no (p:=Oc.mem a b c d) h65 hlt hp
       have HN:=Lib.hid hn
       clear hn hp HM
       go_wp2
       refine ⟨⟨m+1,by omega,by omega,by go_num,B2.out,hsz2,X0.out,X1.out, ?_⟩,by simp [intOf];omega⟩
       rw [HN.out,HN.out,HN.out,HN.out]
       exact X2.out
     | true =>
       have hm:=HM.out
       rw [hp] at hm
       simp only [Bool.not_true] at hm
       have hn:=Cl.fw_yes (p:=Oc.mem a b c d) h65 hlt hp
       have HN:=Lib.hid hn
       clear hn hp HM
       obtain ⟨c0,c1,c2,c3,-⟩:=four X3.out
       obtain ⟨f0,f1,f2,f3,-⟩:=four X2.out
       go_wp2_with fail
       clear c0 c1 c2 c3 f0 f1 f2 f3
       refine (join2_at _ _ _ _ _ _ _ _ _ _ _ _ _ _ rfl (HN.out 0) (HN.out 1) (HN.out 2) (HN.out 3)).mono ?_
       rintro e w3 ⟨rfl,hb3⟩
       have hsz4:w.heap.size+2 < w3.heap.size:=by have:=hb3.size;simp at this;omega
       have B3:=Lib.hid ((B2.out.alloc B2.out.size _).trans (hb3.mono (by have:=B2.out.size;omega)))
       have V0:=Lib.hid (keep_new hb3 X0.out);have V1:=Lib.hid (keep_new hb3 X1.out);have V2:=Lib.hid (keep_new hb3 X2.out)
       clear hb3 B2 X0 X1 X2 X3
       obtain ⟨f0,g0,f1,g1,f2,g2,f3,g3,-⟩:=four_st V2.out
       go_wp2
       refine ⟨⟨m+1,by omega,by omega,by go_num, ?_,by simpa using hsz4, ?_, ?_, ?_⟩,by simp [intOf];omega⟩
       · have hb:=B3.out
         go_grown
       · exact set4_other _ _ _ _ V0.out (by omega)
       · exact set4_other _ _ _ _ V1.out (by omega)
       · exact set4 _ _ _ _ V2.out
   · obtain rfl:m=91:=by omega
     have HB:=Lib.hid hbel
     rw [Cl.fw_end,Cl.fw_end,Cl.fw_end,Cl.fw_end] at hz2
     obtain ⟨c0,c1,c2,c3,-⟩:=four hz2
     obtain ⟨d0,e0,d1,e1,d2,e2,d3,e3,r0,r1,r2,r3⟩:=four_st hz1
     clear hbel hz0 hz1 hz2
     go_wp2
     have hb:=HB.out
     refine bodyPost_ret (v:=(.agg #[.int .u64 (Oc.U (Oc.mk (Cl.fold (Oc.mem a b c d)) 0)),.int .u64 (Oc.U (Oc.mk (Cl.fold (Oc.mem a b c d)) 1)),.int .u64 (Oc.U (Oc.mk (Cl.fold (Oc.mem a b c d)) 2)),.int .u64 (Oc.U (Oc.mk (Cl.fold (Oc.mem a b c d)) 3))])) (by simp [results,Tryz.results159,go_sem,r0,r1,r2,r3]) rfl ⟨rfl, ?_⟩
     go_grown
end Go.Proofs.YtfcilopifjddpaaGreatDoor
namespace Go.Proofs.YtfcilopifjddpaaGreatDoor
open Go.RowKit
theorem wrap_pow:∀ k,k < 64→IntKind.i64.wrap ((2 ^ k:Nat):Int) ≠ 0:=by decide +kernel
theorem and_bit (fl:Int) (k:Nat) (hk:k < 64):(bits .and .i64 fl ((2 ^ k:Nat):Int) != 0)=(BitVec.ofInt 64 fl).getLsbD k:=by
 show (IntKind.i64.wrap ((BitVec.ofInt 64 fl &&& BitVec.ofInt 64 ((2 ^ k:Nat):Int)).toNat:Int) != 0)=_
 generalize BitVec.ofInt 64 fl=x
 have e:BitVec.ofInt 64 ((2 ^ k:Nat):Int)=BitVec.twoPow 64 k:=by
   apply BitVec.eq_of_toNat_eq
   rw [BitVec.toNat_ofInt,BitVec.toNat_twoPow]
   have:(((2 ^ k:Nat):Int) % ((2 ^ 64:Nat):Int)).toNat=2 ^ k % 2 ^ 64:=by omega
   exact this
 rw [e,BitVec.and_twoPow]
 cases hb:x.getLsbD k with
 | false=>simp;decide
 | true =>
   simp only [if_true,BitVec.toNat_twoPow,bne_iff_ne]
   have h1:2 ^ k % 2 ^ 64=2 ^ k:=Nat.mod_eq_of_lt (Nat.pow_lt_pow_right (by omega) hk)
   rw [h1]
   intro h0
   have h2:IntKind.i64.wrap ((2 ^ k:Nat):Int)=0:=h0
   exact wrap_pow k hk h2
theorem bit2 (fl:Int):(bits .and .i64 fl 2 != 0)=icB fl:=and_bit fl 1 (by omega)
theorem bit4 (fl:Int):(bits .and .i64 fl 4 != 0)=nlB fl:=and_bit fl 2 (by omega)
theorem fold_p (P:Nat→Bool) (w:World):Calls Tryz.prog 159 #[(.agg #[.int .u64 (Oc.U (Oc.mk P 0)),.int .u64 (Oc.U (Oc.mk P 1)),.int .u64 (Oc.U (Oc.mk P 2)),.int .u64 (Oc.U (Oc.mk P 3))])] w fun e w' =>
   e=.returned (.agg #[.int .u64 (Oc.U (Oc.mk (Cl.fold P) 0)),.int .u64 (Oc.U (Oc.mk (Cl.fold P) 1)),.int .u64 (Oc.U (Oc.mk (Cl.fold P) 2)),.int .u64 (Oc.U (Oc.mk (Cl.fold P) 3))])∧Below w.heap.size w w':=by
 have h:=fold_any (Oc.mk P 0) (Oc.mk P 1) (Oc.mk P 2) (Oc.mk P 3) w
 rw [Br.mk_fold P 0 (by omega),Br.mk_fold P 1 (by omega),Br.mk_fold P 2 (by omega),Br.mk_fold P 3 (by omega)] at h
 exact h
theorem others_no (P:Nat→Bool) (fl:Int) (hfl:nlB fl=false) (w:World):Calls Tryz.prog 203 #[.agg #[.int .u64 (Oc.U (Oc.mk (P) 0)),.int .u64 (Oc.U (Oc.mk (P) 1)),.int .u64 (Oc.U (Oc.mk (P) 2)),.int .u64 (Oc.U (Oc.mk (P) 3))],.int .i64 fl] w fun e w' =>
   e=.returned (.agg #[.int .u64 (Oc.U (Oc.mk (fun x=>!P x) 0)),.int .u64 (Oc.U (Oc.mk (fun x=>!P x) 1)),.int .u64 (Oc.U (Oc.mk (fun x=>!P x) 2)),.int .u64 (Oc.U (Oc.mk (fun x=>!P x) 3))])∧Below w.heap.size w w':=by
 have hb4:=bit4 fl
 rw [hfl] at hb4
 clear hfl
 have eN:(fun x=>!(P x || x == 10))=fun x=>!P x && !(x == 10):=by funext x;simp
 have hn:=fun w=>not_p (fun x=>P x || x == 10) w
 rw [show (fun x=>!(fun x=>P x || x == 10) x)=fun x=>!P x && !(x == 10) from eN] at hn
 have HN:=Lib.hid hn
 clear eN hn
 go_enter Tryz.func203,Tryz.ntmps203
 go_wp2_with fail
 have hb0:Below w.heap.size w ((w.alloc (.cells #[.int .u64 (Oc.U (Oc.mk (P) 0)),.int .u64 (Oc.U (Oc.mk (P) 1)),.int .u64 (Oc.U (Oc.mk (P) 2)),.int .u64 (Oc.U (Oc.mk (P) 3))] 25)).alloc (.cells noSet 25)):=by go_grown
 obtain ⟨z0,z1⟩:=two_new w (.cells #[.int .u64 (Oc.U (Oc.mk (P) 0)),.int .u64 (Oc.U (Oc.mk (P) 1)),.int .u64 (Oc.U (Oc.mk (P) 2)),.int .u64 (Oc.U (Oc.mk (P) 3))] 25) (.cells noSet 25)
 have Z0:=Lib.hid z0;have Z1:=Lib.hid z1;have HB0:=Lib.hid hb0
 clear z0 z1 hb0
 generalize World.alloc (World.alloc _ _) _=W at *
 go_wp2_with (first
   | (refine wpList_load_row rfl 25 (.tmp 2) rfl w.heap.size rfl 25 _ (0,0) _ Z0.out Tryz.underlying25 rfl (by kernel_rfl) ?_)
   | fail)
 refine (not_p P _).mono ?_
 rintro e w1 ⟨rfl,hb⟩
 have Y1:=Lib.hid (keep_blk hb Z1.out)
 have HB:=Lib.hid (HB0.out.trans (hb.mono HB0.out.size))
 clear hb
 go_wp2_with (first
   | (refine wpList_store_row rfl 25 (.tmp 4) (.tmp 14) rfl (w.heap.size+1) #[.int .u64 (Oc.U (Oc.mk (fun x=>!P x) 0)),.int .u64 (Oc.U (Oc.mk (fun x=>!P x) 1)),.int .u64 (Oc.U (Oc.mk (fun x=>!P x) 2)),.int .u64 (Oc.U (Oc.mk (fun x=>!P x) 3))] rfl rfl 25 _ Y1.out (by kernel_rfl) rfl setC_one ?_)
   | fail)
 exact bodyPost_ret (results_cell_row rfl _ _ (w.heap.size+1) 25 #[.int .u64 (Oc.U (Oc.mk (fun x=>!P x) 0)),.int .u64 (Oc.U (Oc.mk (fun x=>!P x) 1)),.int .u64 (Oc.U (Oc.mk (fun x=>!P x) 2)),.int .u64 (Oc.U (Oc.mk (fun x=>!P x) 3))] (0,0) _ rfl (heap_setRow Y1.out) Tryz.underlying25 rfl (by kernel_rfl)) rfl ⟨rfl,by exact below_setRow HB.out (Nat.le_succ _) _⟩
theorem others_nl (P:Nat→Bool) (fl:Int) (hfl:nlB fl=true) (w:World):Calls Tryz.prog 203 #[.agg #[.int .u64 (Oc.U (Oc.mk (P) 0)),.int .u64 (Oc.U (Oc.mk (P) 1)),.int .u64 (Oc.U (Oc.mk (P) 2)),.int .u64 (Oc.U (Oc.mk (P) 3))],.int .i64 fl] w fun e w' =>
   e=.returned (.agg #[.int .u64 (Oc.U (Oc.mk (fun x=>!P x && !(x == 10)) 0)),.int .u64 (Oc.U (Oc.mk (fun x=>!P x && !(x == 10)) 1)),.int .u64 (Oc.U (Oc.mk (fun x=>!P x && !(x == 10)) 2)),.int .u64 (Oc.U (Oc.mk (fun x=>!P x && !(x == 10)) 3))])∧Below w.heap.size w w':=by
 have hb4:=bit4 fl
 rw [hfl] at hb4
 clear hfl
 have eN:(fun x=>!(P x || x == 10))=fun x=>!P x && !(x == 10):=by funext x;simp
 have hn:=fun w=>not_p (fun x=>P x || x == 10) w
 rw [show (fun x=>!(fun x=>P x || x == 10) x)=fun x=>!P x && !(x == 10) from eN] at hn
 have HN:=Lib.hid hn
 clear eN hn
 go_enter Tryz.func203,Tryz.ntmps203
 go_wp2_with fail
 have hb0:Below w.heap.size w ((w.alloc (.cells #[.int .u64 (Oc.U (Oc.mk (P) 0)),.int .u64 (Oc.U (Oc.mk (P) 1)),.int .u64 (Oc.U (Oc.mk (P) 2)),.int .u64 (Oc.U (Oc.mk (P) 3))] 25)).alloc (.cells noSet 25)):=by go_grown
 obtain ⟨z0,z1⟩:=two_new w (.cells #[.int .u64 (Oc.U (Oc.mk (P) 0)),.int .u64 (Oc.U (Oc.mk (P) 1)),.int .u64 (Oc.U (Oc.mk (P) 2)),.int .u64 (Oc.U (Oc.mk (P) 3))] 25) (.cells noSet 25)
 have Z0:=Lib.hid z0;have Z1:=Lib.hid z1;have HB0:=Lib.hid hb0
 clear z0 z1 hb0
 generalize World.alloc (World.alloc _ _) _=W at *
 refine Ri.wp_region_frame (by kernel_rfl) (by kernel_rfl) (by kernel_rfl) (by kernel_rfl)
   (fun L v w'=>Below w.heap.size w w'∧W.heap.size ≤ w'.heap.size∧(L 5=true→w'.heap[w.heap.size]? = some (.cells #[.int .u64 (Oc.U (Oc.mk (fun x=>P x || x == 10) 0)),.int .u64 (Oc.U (Oc.mk (fun x=>P x || x == 10) 1)),.int .u64 (Oc.U (Oc.mk (fun x=>P x || x == 10) 2)),.int .u64 (Oc.U (Oc.mk (fun x=>P x || x == 10) 3))] 25))∧(L 5=false→w'.heap[w.heap.size]? = some (.cells #[.int .u64 (Oc.U (Oc.mk (P) 0)),.int .u64 (Oc.U (Oc.mk (P) 1)),.int .u64 (Oc.U (Oc.mk (P) 2)),.int .u64 (Oc.U (Oc.mk (P) 3))] 25))∧(L 5=true→L 0=true)∧w'.heap[(w.heap.size+1)]? = some (.cells noSet 25)∧(L 0=true→v 0=(.agg #[.int .u64 (Oc.U (Oc.mk (P) 0)),.int .u64 (Oc.U (Oc.mk (P) 1)),.int .u64 (Oc.U (Oc.mk (P) 2)),.int .u64 (Oc.U (Oc.mk (P) 3))]))∧(L 1=true→OneN W.heap.size w' (v 1) 10)∧(L 2=true→v 2=(.agg #[.int .u64 (Oc.U (Oc.mk (fun b=>b == 10) 0)),.int .u64 (Oc.U (Oc.mk (fun b=>b == 10) 1)),.int .u64 (Oc.U (Oc.mk (fun b=>b == 10) 2)),.int .u64 (Oc.U (Oc.mk (fun b=>b == 10) 3))]))∧(L 3=true→Sl2N W.heap.size w' (v 3) (Oc.mk (P) 0) (Oc.mk (P) 1) (Oc.mk (P) 2) (Oc.mk (P) 3) (Oc.mk (fun b=>b == 10) 0) (Oc.mk (fun b=>b == 10) 1) (Oc.mk (fun b=>b == 10) 2) (Oc.mk (fun b=>b == 10) 3))∧(L 4=true→v 4=(.agg #[.int .u64 (Oc.U (Oc.mk (fun x=>P x || x == 10) 0)),.int .u64 (Oc.U (Oc.mk (fun x=>P x || x == 10) 1)),.int .u64 (Oc.U (Oc.mk (fun x=>P x || x == 10) 2)),.int .u64 (Oc.U (Oc.mk (fun x=>P x || x == 10) 3))])))
   ?_ ?_ ?_
 · exact ⟨HB0.out.drew,Nat.le_refl _,(by simp),(fun _=>Z0.out),by simp,Z1.out,by simp,by simp,by simp,by simp,by simp⟩
 · intro i hi9 L v w9 xa hI hL hd hv ho
   have hi':i=0 ∨ i=1 ∨ i=2 ∨ i=3 ∨ i=4 ∨ i=5:=by simp at hi9;omega
   obtain ⟨hb,hz,qn,qo,qm0,k0,q0,q1,q2,q3,q4⟩:=hI
   rcases hi' with rfl | rfl | rfl | rfl | rfl | rfl
   · have e2:xa.tmps.getD 2 undef=.pointer (some ⟨w.heap.size,0,none⟩):=ho 2 (by kernel_rfl)
     refine Ri.step_plain rfl rfl (fun K' hK=>?_)
     have hl9:L 5=false:=by cases h:L 5 with | false=>rfl | true=>rw [qm0 h] at hL;cases hL
     refine wp_load_row _ _ rfl _ e2 _ _ _ _ (qo hl9) Tryz.underlying25 rfl (by kernel_rfl) ?_
     exact hK _ _ ⟨_,_,rfl,rfl,hb,hz,qn,qo,(fun _=>rfl),k0,fun _=>rfl,q1,q2,q3,q4⟩
   · refine Ri.step_plain rfl rfl (fun K' hK=>?_)
     refine wp_bytes1 _ rfl ?_
     exact hK _ _ ⟨_,_,rfl,rfl,hb.alloc hb.size _,Nat.le_trans hz (by simp),(fun l=>heap_alloc_lt (qn l)),(fun l=>heap_alloc_lt (qo l)),qm0,(heap_alloc_lt k0),q0,fun _=>⟨_,hz,rfl,heap_alloc_new _ _⟩,q2,fun l=>(q3 l).below ((Below.refl _ _).alloc (Nat.le_refl _) _),q4⟩
   · have l0:L 1=true:=by have:=hd _ rfl;simp [Region.binds] at this;simp [this]
     have f1:=hv 1 9 rfl l0
     refine Ri.step_plain rfl rfl (fun K' hK=>?_)
     go_simp
     refine (one_any (by omega) (q1 l0).plain).mono ?_
     rintro e w8 ⟨rfl,hb8⟩
     exact hK _ _ ⟨_,_,rfl,rfl,hb.trans (hb8.mono hb.size),Nat.le_trans hz hb8.size,(fun l=>keep_blk hb8 (qn l)),(fun l=>keep_blk hb8 (qo l)),qm0,(keep_blk hb8 k0),q0,fun l=>(q1 l).below hb8,fun _=>rfl,fun l=>(q3 l).below hb8,q4⟩
   · have l0:L 0=true∧L 2=true:=by have:=hd _ rfl;simp [Region.binds] at this;simp [this]
     have f0:=(hv 0 8 rfl l0.1).trans (q0 l0.1)
     have f2:=(hv 2 10 rfl l0.2).trans (q2 l0.2)
     refine Ri.step_plain rfl rfl (fun K' hK=>?_)
     refine wp_pair _ _ rfl f0 f2 ?_
     exact hK _ _ ⟨_,_,rfl,rfl,hb.alloc hb.size _,Nat.le_trans hz (by simp),(fun l=>heap_alloc_lt (qn l)),(fun l=>heap_alloc_lt (qo l)),qm0,(heap_alloc_lt k0),q0,fun l=>(q1 l).below ((Below.refl _ _).alloc (Nat.le_refl _) _),q2,fun _=>⟨_,hz,rfl,heap_alloc_new _ _⟩,q4⟩
   · have l0:L 3=true:=by have:=hd _ rfl;simp [Region.binds] at this;simp [this]
     have f3:=hv 3 11 rfl l0
     refine Ri.step_plain rfl rfl (fun K' hK=>?_)
     go_simp
     refine (join_p (q3 l0).plain).mono ?_
     rintro e w8 ⟨rfl,hb8⟩
     exact hK _ _ ⟨_,_,rfl,rfl,hb.trans (hb8.mono hb.size),Nat.le_trans hz hb8.size,(fun l=>keep_blk hb8 (qn l)),(fun l=>keep_blk hb8 (qo l)),qm0,(keep_blk hb8 k0),q0,fun l=>(q1 l).below hb8,q2,fun l=>(q3 l).below hb8,fun _=>rfl⟩
   · have l0:L 4=true:=by have:=hd _ rfl;simp [Region.binds] at this;simp [this]
     have f4:=(hv 4 12 rfl l0).trans (q4 l0)
     have e2:xa.tmps.getD 2 undef=.pointer (some ⟨w.heap.size,0,none⟩):=ho 2 (by kernel_rfl)
     refine Ri.step_plain rfl rfl (fun K' hK=>?_)
     have h0:L 0=true:=by have:=hd _ rfl;simp [Region.binds] at this;simp [this]
     refine wp_store_row _ _ _ rfl w.heap.size #[.int .u64 (Oc.U (Oc.mk (fun x=>P x || x == 10) 0)),.int .u64 (Oc.U (Oc.mk (fun x=>P x || x == 10) 1)),.int .u64 (Oc.U (Oc.mk (fun x=>P x || x == 10) 2)),.int .u64 (Oc.U (Oc.mk (fun x=>P x || x == 10) 3))] e2 f4 25 _ (qo hL) (by kernel_rfl) (by kernel_rfl) setC_one ?_
     exact hK _ _ ⟨_,undef,rfl,rfl,below_setRow hb (Nat.le_refl _) _,by simpa using hz,(fun _=>heap_setRow (qo hL)),(fun h=>by cases h),(fun _=>h0),(heap_setRow_other _ _ _ (by omega)).trans k0,q0,fun l=>(q1 l).setRow (block_lt Z0.out) _,q2,fun l=>(q3 l).setRow (block_lt Z0.out) _,q4⟩
 · rintro v w9 ⟨hb,hz,qn,-,-,k0,-,-,-,-,-⟩
   have zN:=qn rfl;clear qn
   simp only [Ri.frame,List.zipIdx,List.foldl_cons,List.foldl_nil,if_true,List.setIfInBounds_toArray,List.set_cons_zero,List.set_cons_succ,Nat.reduceAdd]
   generalize v 0=y0;generalize v 1=y1;generalize v 2=y2;generalize v 3=y3;generalize v 4=y4
   go_wp2_with (first
     | (refine wpList_load_row rfl 25 (.tmp 2) rfl w.heap.size rfl 25 _ (0,0) _ zN Tryz.underlying25 rfl (by kernel_rfl) ?_)
     | fail)
   refine (HN.out _).mono ?_
   rintro e w1 ⟨rfl,hb1⟩
   have Y1:=Lib.hid (keep_blk hb1 k0)
   have HB:=Lib.hid (hb.trans (hb1.mono hb.size))
   clear hb1
   go_wp2_with (first
     | (refine wpList_store_row rfl 25 (.tmp 4) (.tmp 14) rfl (w.heap.size+1) #[.int .u64 (Oc.U (Oc.mk (fun x=>!P x && !(x == 10)) 0)),.int .u64 (Oc.U (Oc.mk (fun x=>!P x && !(x == 10)) 1)),.int .u64 (Oc.U (Oc.mk (fun x=>!P x && !(x == 10)) 2)),.int .u64 (Oc.U (Oc.mk (fun x=>!P x && !(x == 10)) 3))] rfl rfl 25 _ Y1.out (by kernel_rfl) rfl setC_one ?_)
     | fail)
   exact bodyPost_ret (results_cell_row rfl _ _ (w.heap.size+1) 25 #[.int .u64 (Oc.U (Oc.mk (fun x=>!P x && !(x == 10)) 0)),.int .u64 (Oc.U (Oc.mk (fun x=>!P x && !(x == 10)) 1)),.int .u64 (Oc.U (Oc.mk (fun x=>!P x && !(x == 10)) 2)),.int .u64 (Oc.U (Oc.mk (fun x=>!P x && !(x == 10)) 3))] (0,0) _ rfl (heap_setRow Y1.out) Tryz.underlying25 rfl (by kernel_rfl)) rfl ⟨rfl,by exact below_setRow HB.out (Nat.le_succ _) _⟩
theorem one_prefix (l:List UInt8) (x:UInt8):[x].isPrefixOf l=((l[0]?).elim 256 UInt8.toNat == x.toNat):=by
 have hx:=UInt8.toNat_lt x
 match l with
 | []=>simp;omega
 | a :: r =>
   simp only [List.isPrefixOf,Bool.and_true,List.getElem?_cons_zero,Option.elim_some,u8_beq]
   exact Bool.beq_comm
theorem caret_at (s:ByteArray) (i:Nat) (b:Bool) (hb:(bt s i == 94)=b) (w:World) :
   Calls Tryz.prog 130 #[.string (s.extract i s.size),.string ⟨#[94]⟩] w fun e w'=>e=.returned (.bool b)∧w=w':=by
 refine (Tryz.strings_HasPrefix (s.extract i s.size) ⟨#[94]⟩ w).mono ?_
 rintro e w' ⟨rfl,rfl⟩
 refine ⟨?_,rfl⟩
 rw [← hb]
 have:=bt_ext s i 0
 rw [bt_list,Nat.add_zero] at this
 rw [← this]
 exact ret_bool (one_prefix _ 94)
theorem read_far (A:Nat→Addr) (s:ByteArray) (_hs:s.size ≤ 4294967280) (a:Nat) (h:s.size ≤ a) (fl:Int) (w:World) (hE:BrEnv w A) :
   Calls Tryz.prog 183 #[.string s,.int .i64 a,.int .i64 fl] w (ReadEnd A (.err 15 (-1)) w):=by
 have h0:(0:Int) ≤ a:=by omega
 have h1:decide (s.size ≤ a)=true:=by simpa using h
 have hg:14 < w.heap.size:=block_lt_of_cell (hE.errs 14 (by omega)).1
 have HE:=Lib.hid hE
 clear hE
 go_enter Tryz.func183,Tryz.ntmps183
 go_wp2_with fail
 have hb0:Below w.heap.size w (w.alloc (.cells noSet 25)):=by go_grown
 have z0:=heap_alloc_new w (.cells noSet 25)
 have c14:(w.alloc (.cells noSet 25)).cell? ⟨14,0,none⟩=some (.iface 232 (.pointer (some (A 14)))):=((HE.out.below hb0).errs 14 (by omega)).1
 generalize World.alloc w _=W at *
 obtain ⟨d0,e0,d1,e1',d2,e2,d3,e3,r0,r1,r2,r3⟩:=four_st z0
 have HB:=Lib.hid hb0
 clear hb0 z0
 go_region
 all_goals
   go_wp2
   have hb:=HB.out
   refine bodyPost_ret (v:=.tuple #[.agg noSet,.int .i64 0,.iface 232 (.pointer (some (A 14)))]) (by simp [results,Tryz.results183,go_sem,r0,r1,r2,r3]) rfl ⟨⟨_,rfl,14,[],by omega,rfl,.base,rfl⟩, ?_⟩
   go_grown
theorem read_err_false (A:Nat→Addr) (s:ByteArray) (hs:s.size ≤ 4294967280) (a:Nat) (ha:bt s a=91) (ht:(bt s (a+1) == 94)=false) (c:Nat) (q:Int) (hR:Br.items (bt s) s.size a (s.size+1) (a+1) (fun _=>false) false=.err c q) (fl:Int) (w:World) (hE:BrEnv w A) :
   Calls Tryz.prog 183 #[.string s,.int .i64 a,.int .i64 fl] w (ItEnd A (.err c q) w):=by
 have hal:=(bt_txt s).lt ha (by omega)
 have h0:(0:Int) ≤ a:=by omega
 have h1:decide (s.size ≤ a)=false:=by simp;omega
 have e1:((s[a].toNat:Int) != 91)=false:=by rw [bt_at hal,ha];rfl
 have hw1:IntKind.i64.wrap ((a:Int)+1)=(a:Int)+1:=IntWalk.i64_in _ (by omega)
 have hw2:IntKind.i64.wrap ((a:Int)+1+1)=(a:Int)+1+1:=IntWalk.i64_in _ (by omega)
 have h3:(0:Int) ≤ (a:Int)+1:=by omega
 have h4:(a:Int)+1 ≤ s.size:=by omega
 have HC:=Lib.hid (caret_at s (a+1) _ ht)
 have hit:=fun w hE=>britems_any A s hs a (a+1) (by omega) _ hR w hE
 rw [show ((a+1:Nat):Int)=(a:Int)+1 by omega] at hit
 have HI:=Lib.hid hit;have HE:=Lib.hid hE
 clear hit hE ha ht hR
 go_enter Tryz.func183,Tryz.ntmps183
 go_wp2_with fail
 refine (HC.out _).mono ?_;rintro e w' ⟨rfl,rfl⟩
 go_wp2_with fail
 have hb0:Below w.heap.size w ((w.alloc (.cells noSet 25)).alloc (.cells #[.string s,.int .i64 a] 215)):=by go_grown
 obtain ⟨z0,z1⟩:=two_new w (.cells noSet 25) (.cells #[.string s,.int .i64 a] 215)
 have hsz:((w.alloc (.cells noSet 25)).alloc (.cells #[.string s,.int .i64 a] 215)).heap.size=w.heap.size+2:=by simp
 generalize World.alloc (World.alloc _ _) _=W at *
 have HB0:=Lib.hid hb0;have Z0:=Lib.hid z0;have HSZ:=Lib.hid hsz
 clear hb0 z0 z1 hsz
 refine (HI.out _ (HE.out.below HB0.out)).mono ?_
 intro e w1 he
 obtain ⟨v,rfl,hv,hb⟩:=he.err rfl
 obtain ⟨q',rfl⟩:=hv.iface
 have hbA:Below W.heap.size W (w1.alloc (.cells noSet 25)):=hb.alloc hb.size _
 have Y0:=Lib.hid (keep_blk hbA Z0.out)
 have HB:=Lib.hid (HB0.out.trans (hbA.mono HB0.out.size))
 have HV:=Lib.hid (hv.later ((Below.refl w1.heap.size w1).alloc (Nat.le_refl _) (.cells noSet 25)))
 clear hb hbA hv he
 go_wp2_with (first
   | (refine wpList_store_row rfl 25 (.tmp 6) (.tmp 52) rfl (w.heap.size) noSet rfl rfl 25 _ Y0.out (by kernel_rfl) rfl setC_one ?_)
   | fail)
 exact bodyPost_ret (results_row_two rfl _ _ w.heap.size 25 noSet (0,0) _ _ _ rfl rfl rfl (heap_setRow Y0.out) Tryz.underlying25 rfl (by kernel_rfl)) rfl ⟨⟨_,rfl,(HV.out.setRow (by rw [HSZ.out];omega) noSet).down (by rw [HSZ.out];omega)⟩,by exact below_setRow HB.out (Nat.le_refl _) _⟩
theorem read_ok_false (A:Nat→Addr) (s:ByteArray) (hs:s.size ≤ 4294967280) (a:Nat) (ha:bt s a=91) (ht:(bt s (a+1) == 94)=false) (P:Nat→Bool) (j:Nat) (hR:Br.items (bt s) s.size a (s.size+1) (a+1) (fun _=>false) false=.ok P j) (fl:Int) (hic:icB fl=false) (nl:Bool) (w:World) (hE:BrEnv w A) :
   Calls Tryz.prog 183 #[.string s,.int .i64 a,.int .i64 fl] w (ItEnd A (.ok (Br.fin false nl false P) (j+1)) w):=by
 have hjn:=(Br.items_ok (bt_txt s) (by have:=(bt_txt s).lt ha (by omega);omega) hR).2.1
 have hwj:IntKind.i64.wrap ((j:Int)+1)=(j:Int)+1:=IntWalk.i64_in _ (by omega)
 have hb2:=bit2 fl
 rw [hic] at hb2
 have hal:=(bt_txt s).lt ha (by omega)
 have h0:(0:Int) ≤ a:=by omega
 have h1:decide (s.size ≤ a)=false:=by simp;omega
 have e1:((s[a].toNat:Int) != 91)=false:=by rw [bt_at hal,ha];rfl
 have hw1:IntKind.i64.wrap ((a:Int)+1)=(a:Int)+1:=IntWalk.i64_in _ (by omega)
 have hw2:IntKind.i64.wrap ((a:Int)+1+1)=(a:Int)+1+1:=IntWalk.i64_in _ (by omega)
 have h3:(0:Int) ≤ (a:Int)+1:=by omega
 have h4:(a:Int)+1 ≤ s.size:=by omega
 have HC:=Lib.hid (caret_at s (a+1) _ ht)
 have hit:=fun w hE=>britems_any A s hs a (a+1) (by omega) _ hR w hE
 rw [show ((a+1:Nat):Int)=(a:Int)+1 by omega] at hit
 have HI:=Lib.hid hit;have HE:=Lib.hid hE
 clear hit hE ha ht hR
 clear hic
 go_enter Tryz.func183,Tryz.ntmps183
 go_wp2_with fail
 refine (HC.out _).mono ?_;rintro e w' ⟨rfl,rfl⟩
 go_wp2_with fail
 have hb0:Below w.heap.size w ((w.alloc (.cells noSet 25)).alloc (.cells #[.string s,.int .i64 a] 215)):=by go_grown
 obtain ⟨z0,z1⟩:=two_new w (.cells noSet 25) (.cells #[.string s,.int .i64 a] 215)
 have hsz:((w.alloc (.cells noSet 25)).alloc (.cells #[.string s,.int .i64 a] 215)).heap.size=w.heap.size+2:=by simp
 generalize World.alloc (World.alloc _ _) _=W at *
 have HB0:=Lib.hid hb0;have Z0:=Lib.hid z0;have HSZ:=Lib.hid hsz
 clear hb0 z0 z1 hsz
 refine (HI.out _ (HE.out.below HB0.out)).mono ?_
 intro e w1 he
 obtain ⟨rfl,hb⟩:=he.ok rfl
 have hbA:Below W.heap.size W (w1.alloc (.cells #[.int .u64 (Oc.U (Oc.mk (P) 0)),.int .u64 (Oc.U (Oc.mk (P) 1)),.int .u64 (Oc.U (Oc.mk (P) 2)),.int .u64 (Oc.U (Oc.mk (P) 3))] 25)):=hb.alloc hb.size _
 have Y0:=Lib.hid (keep_blk hbA Z0.out)
 have Y1:=Lib.hid (heap_alloc_new w1 (.cells #[.int .u64 (Oc.U (Oc.mk (P) 0)),.int .u64 (Oc.U (Oc.mk (P) 1)),.int .u64 (Oc.U (Oc.mk (P) 2)),.int .u64 (Oc.U (Oc.mk (P) 3))] 25))
 have HB:=Lib.hid (HB0.out.trans (hbA.mono HB0.out.size))
 have hlt:w.heap.size < w1.heap.size:=by have:=hb.size;have:=HSZ.out;omega
 clear hb hbA he
 go_wp2_with (first
   | (refine wpList_load_row rfl 25 (.tmp 12) rfl (w1.heap.size) rfl 25 _ (0,0) _ Y1.out Tryz.underlying25 rfl (by kernel_rfl) ?_)
   | (refine wpList_store_row rfl 25 (.tmp 6) (.tmp 63) rfl (w.heap.size) #[.int .u64 (Oc.U (Oc.mk (P) 0)),.int .u64 (Oc.U (Oc.mk (P) 1)),.int .u64 (Oc.U (Oc.mk (P) 2)),.int .u64 (Oc.U (Oc.mk (P) 3))] rfl rfl 25 _ Y0.out (by kernel_rfl) rfl setC_one ?_)
   | fail)
 exact bodyPost_ret (results_row_two rfl _ _ w.heap.size 25 #[.int .u64 (Oc.U (Oc.mk (P) 0)),.int .u64 (Oc.U (Oc.mk (P) 1)),.int .u64 (Oc.U (Oc.mk (P) 2)),.int .u64 (Oc.U (Oc.mk (P) 3))] (0,0) _ _ _ rfl rfl rfl (heap_setRow Y0.out) Tryz.underlying25 rfl (by kernel_rfl)) rfl ⟨by exact rfl,by exact below_setRow HB.out (Nat.le_refl _) _⟩
theorem read_ok_false_ic (A:Nat→Addr) (s:ByteArray) (hs:s.size ≤ 4294967280) (a:Nat) (ha:bt s a=91) (ht:(bt s (a+1) == 94)=false) (P:Nat→Bool) (j:Nat) (hR:Br.items (bt s) s.size a (s.size+1) (a+1) (fun _=>false) false=.ok P j) (fl:Int) (hic:icB fl=true) (nl:Bool) (w:World) (hE:BrEnv w A) :
   Calls Tryz.prog 183 #[.string s,.int .i64 a,.int .i64 fl] w (ItEnd A (.ok (Br.fin true nl false P) (j+1)) w):=by
 have hjn:=(Br.items_ok (bt_txt s) (by have:=(bt_txt s).lt ha (by omega);omega) hR).2.1
 have hwj:IntKind.i64.wrap ((j:Int)+1)=(j:Int)+1:=IntWalk.i64_in _ (by omega)
 have hb2:=bit2 fl
 rw [hic] at hb2
 have hal:=(bt_txt s).lt ha (by omega)
 have h0:(0:Int) ≤ a:=by omega
 have h1:decide (s.size ≤ a)=false:=by simp;omega
 have e1:((s[a].toNat:Int) != 91)=false:=by rw [bt_at hal,ha];rfl
 have hw1:IntKind.i64.wrap ((a:Int)+1)=(a:Int)+1:=IntWalk.i64_in _ (by omega)
 have hw2:IntKind.i64.wrap ((a:Int)+1+1)=(a:Int)+1+1:=IntWalk.i64_in _ (by omega)
 have h3:(0:Int) ≤ (a:Int)+1:=by omega
 have h4:(a:Int)+1 ≤ s.size:=by omega
 have HC:=Lib.hid (caret_at s (a+1) _ ht)
 have hit:=fun w hE=>britems_any A s hs a (a+1) (by omega) _ hR w hE
 rw [show ((a+1:Nat):Int)=(a:Int)+1 by omega] at hit
 have HI:=Lib.hid hit;have HE:=Lib.hid hE
 clear hit hE ha ht hR
 clear hic
 go_enter Tryz.func183,Tryz.ntmps183
 go_wp2_with fail
 refine (HC.out _).mono ?_;rintro e w' ⟨rfl,rfl⟩
 go_wp2_with fail
 have hb0:Below w.heap.size w ((w.alloc (.cells noSet 25)).alloc (.cells #[.string s,.int .i64 a] 215)):=by go_grown
 obtain ⟨z0,z1⟩:=two_new w (.cells noSet 25) (.cells #[.string s,.int .i64 a] 215)
 have hsz:((w.alloc (.cells noSet 25)).alloc (.cells #[.string s,.int .i64 a] 215)).heap.size=w.heap.size+2:=by simp
 generalize World.alloc (World.alloc _ _) _=W at *
 have HB0:=Lib.hid hb0;have Z0:=Lib.hid z0;have HSZ:=Lib.hid hsz
 clear hb0 z0 z1 hsz
 refine (HI.out _ (HE.out.below HB0.out)).mono ?_
 intro e w1 he
 obtain ⟨rfl,hb⟩:=he.ok rfl
 have hbA:Below W.heap.size W (w1.alloc (.cells #[.int .u64 (Oc.U (Oc.mk (P) 0)),.int .u64 (Oc.U (Oc.mk (P) 1)),.int .u64 (Oc.U (Oc.mk (P) 2)),.int .u64 (Oc.U (Oc.mk (P) 3))] 25)):=hb.alloc hb.size _
 have Y0:=Lib.hid (keep_blk hbA Z0.out)
 have Y1:=Lib.hid (heap_alloc_new w1 (.cells #[.int .u64 (Oc.U (Oc.mk (P) 0)),.int .u64 (Oc.U (Oc.mk (P) 1)),.int .u64 (Oc.U (Oc.mk (P) 2)),.int .u64 (Oc.U (Oc.mk (P) 3))] 25))
 have HB:=Lib.hid (HB0.out.trans (hbA.mono HB0.out.size))
 have hlt:w.heap.size < w1.heap.size:=by have:=hb.size;have:=HSZ.out;omega
 clear hb hbA he
 go_wp2_with (first
   | (refine wpList_load_row rfl 25 (.tmp 12) rfl (w1.heap.size) rfl 25 _ (0,0) _ Y1.out Tryz.underlying25 rfl (by kernel_rfl) ?_)
   | fail)
 refine (fold_p P _).mono ?_
 rintro e w2 ⟨rfl,hb⟩
 have Y0a:=Lib.hid (keep_blk hb Y0.out)
 have Y1a:=Lib.hid (keep_blk hb Y1.out)
 have HBa:=Lib.hid (HB.out.trans (hb.mono HB.out.size))
 have Y0b:Hid ((w2.setRow w1.heap.size #[.int .u64 (Oc.U (Oc.mk (Cl.fold P) 0)),.int .u64 (Oc.U (Oc.mk (Cl.fold P) 1)),.int .u64 (Oc.U (Oc.mk (Cl.fold P) 2)),.int .u64 (Oc.U (Oc.mk (Cl.fold P) 3))]).heap[w.heap.size]? = some (.cells noSet 25)):=Lib.hid ((heap_setRow_other _ _ _ (by omega)).trans Y0a.out)
 have Y1b:Hid ((w2.setRow w1.heap.size #[.int .u64 (Oc.U (Oc.mk (Cl.fold P) 0)),.int .u64 (Oc.U (Oc.mk (Cl.fold P) 1)),.int .u64 (Oc.U (Oc.mk (Cl.fold P) 2)),.int .u64 (Oc.U (Oc.mk (Cl.fold P) 3))]).heap[w1.heap.size]? = some (.cells #[.int .u64 (Oc.U (Oc.mk (Cl.fold P) 0)),.int .u64 (Oc.U (Oc.mk (Cl.fold P) 1)),.int .u64 (Oc.U (Oc.mk (Cl.fold P) 2)),.int .u64 (Oc.U (Oc.mk (Cl.fold P) 3))] 25)):=Lib.hid (heap_setRow Y1a.out)
 have HBb:Hid (Below w.heap.size w (w2.setRow w1.heap.size #[.int .u64 (Oc.U (Oc.mk (Cl.fold P) 0)),.int .u64 (Oc.U (Oc.mk (Cl.fold P) 1)),.int .u64 (Oc.U (Oc.mk (Cl.fold P) 2)),.int .u64 (Oc.U (Oc.mk (Cl.fold P) 3))])):=Lib.hid (below_setRow HBa.out (Nat.le_of_lt hlt) _)
 clear hb
 go_wp2_with (first
   | (refine wpList_load_row rfl 25 (.tmp 12) rfl (w1.heap.size) rfl 25 _ (0,0) _ Y1b.out Tryz.underlying25 rfl (by kernel_rfl) ?_)
   | (refine wpList_store_row rfl 25 (.tmp 12) (.tmp 58) rfl (w1.heap.size) #[.int .u64 (Oc.U (Oc.mk (Cl.fold P) 0)),.int .u64 (Oc.U (Oc.mk (Cl.fold P) 1)),.int .u64 (Oc.U (Oc.mk (Cl.fold P) 2)),.int .u64 (Oc.U (Oc.mk (Cl.fold P) 3))] rfl rfl 25 _ Y1a.out (by kernel_rfl) rfl setC_one ?_)
   | (refine wpList_store_row rfl 25 (.tmp 6) (.tmp 63) rfl (w.heap.size) #[.int .u64 (Oc.U (Oc.mk (Cl.fold P) 0)),.int .u64 (Oc.U (Oc.mk (Cl.fold P) 1)),.int .u64 (Oc.U (Oc.mk (Cl.fold P) 2)),.int .u64 (Oc.U (Oc.mk (Cl.fold P) 3))] rfl rfl 25 _ Y0b.out (by kernel_rfl) rfl setC_one ?_)
   | fail)
 exact bodyPost_ret (results_row_two rfl _ _ w.heap.size 25 #[.int .u64 (Oc.U (Oc.mk (Cl.fold P) 0)),.int .u64 (Oc.U (Oc.mk (Cl.fold P) 1)),.int .u64 (Oc.U (Oc.mk (Cl.fold P) 2)),.int .u64 (Oc.U (Oc.mk (Cl.fold P) 3))] (0,0) _ _ _ rfl rfl rfl (heap_setRow Y0b.out) Tryz.underlying25 rfl (by kernel_rfl)) rfl ⟨by exact rfl,by exact below_setRow HBb.out (Nat.le_refl _) _⟩
theorem read_err_true (A:Nat→Addr) (s:ByteArray) (hs:s.size ≤ 4294967280) (a:Nat) (ha:bt s a=91) (ht:(bt s (a+1) == 94)=true) (c:Nat) (q:Int) (hR:Br.items (bt s) s.size a (s.size+1) (a+2) (fun _=>false) false=.err c q) (fl:Int) (w:World) (hE:BrEnv w A) :
   Calls Tryz.prog 183 #[.string s,.int .i64 a,.int .i64 fl] w (ItEnd A (.err c q) w):=by
 have hal:=(bt_txt s).lt ha (by omega)
 have h0:(0:Int) ≤ a:=by omega
 have h1:decide (s.size ≤ a)=false:=by simp;omega
 have e1:((s[a].toNat:Int) != 91)=false:=by rw [bt_at hal,ha];rfl
 have hw1:IntKind.i64.wrap ((a:Int)+1)=(a:Int)+1:=IntWalk.i64_in _ (by omega)
 have hw2:IntKind.i64.wrap ((a:Int)+1+1)=(a:Int)+1+1:=IntWalk.i64_in _ (by omega)
 have h3:(0:Int) ≤ (a:Int)+1:=by omega
 have h4:(a:Int)+1 ≤ s.size:=by omega
 have HC:=Lib.hid (caret_at s (a+1) _ ht)
 have hal2:=(bt_txt s).lt (beq_iff_eq.1 ht) (by omega)
 have hit:=fun w hE=>britems_any A s hs a (a+2) (by omega) _ hR w hE
 rw [show ((a+2:Nat):Int)=(a:Int)+1+1 by omega] at hit
 have HI:=Lib.hid hit;have HE:=Lib.hid hE
 clear hit hE ha ht hR
 go_enter Tryz.func183,Tryz.ntmps183
 go_wp2_with fail
 refine (HC.out _).mono ?_;rintro e w' ⟨rfl,rfl⟩
 go_wp2_with fail
 have hb0:Below w.heap.size w ((w.alloc (.cells noSet 25)).alloc (.cells #[.string s,.int .i64 a] 215)):=by go_grown
 obtain ⟨z0,z1⟩:=two_new w (.cells noSet 25) (.cells #[.string s,.int .i64 a] 215)
 have hsz:((w.alloc (.cells noSet 25)).alloc (.cells #[.string s,.int .i64 a] 215)).heap.size=w.heap.size+2:=by simp
 generalize World.alloc (World.alloc _ _) _=W at *
 have HB0:=Lib.hid hb0;have Z0:=Lib.hid z0;have HSZ:=Lib.hid hsz
 clear hb0 z0 z1 hsz
 refine (HI.out _ (HE.out.below HB0.out)).mono ?_
 intro e w1 he
 obtain ⟨v,rfl,hv,hb⟩:=he.err rfl
 obtain ⟨q',rfl⟩:=hv.iface
 have hbA:Below W.heap.size W (w1.alloc (.cells noSet 25)):=hb.alloc hb.size _
 have Y0:=Lib.hid (keep_blk hbA Z0.out)
 have HB:=Lib.hid (HB0.out.trans (hbA.mono HB0.out.size))
 have HV:=Lib.hid (hv.later ((Below.refl w1.heap.size w1).alloc (Nat.le_refl _) (.cells noSet 25)))
 clear hb hbA hv he
 go_wp2_with (first
   | (refine wpList_store_row rfl 25 (.tmp 6) (.tmp 52) rfl (w.heap.size) noSet rfl rfl 25 _ Y0.out (by kernel_rfl) rfl setC_one ?_)
   | fail)
 exact bodyPost_ret (results_row_two rfl _ _ w.heap.size 25 noSet (0,0) _ _ _ rfl rfl rfl (heap_setRow Y0.out) Tryz.underlying25 rfl (by kernel_rfl)) rfl ⟨⟨_,rfl,(HV.out.setRow (by rw [HSZ.out];omega) noSet).down (by rw [HSZ.out];omega)⟩,by exact below_setRow HB.out (Nat.le_refl _) _⟩
theorem read_ok_true_no (A:Nat→Addr) (s:ByteArray) (hs:s.size ≤ 4294967280) (a:Nat) (ha:bt s a=91) (ht:(bt s (a+1) == 94)=true) (P:Nat→Bool) (j:Nat) (hR:Br.items (bt s) s.size a (s.size+1) (a+2) (fun _=>false) false=.ok P j) (fl:Int) (hic:icB fl=false) (hnl:nlB fl=false) (w:World) (hE:BrEnv w A) :
   Calls Tryz.prog 183 #[.string s,.int .i64 a,.int .i64 fl] w (ItEnd A (.ok (Br.fin false false true P) (j+1)) w):=by
 have hjn:=(Br.items_ok (bt_txt s) (by have:=(bt_txt s).lt ha (by omega);have:=(bt_txt s).lt (beq_iff_eq.1 ht) (by omega);omega) hR).2.1
 have hwj:IntKind.i64.wrap ((j:Int)+1)=(j:Int)+1:=IntWalk.i64_in _ (by omega)
 have hb2:=bit2 fl
 rw [hic] at hb2
 have hal:=(bt_txt s).lt ha (by omega)
 have h0:(0:Int) ≤ a:=by omega
 have h1:decide (s.size ≤ a)=false:=by simp;omega
 have e1:((s[a].toNat:Int) != 91)=false:=by rw [bt_at hal,ha];rfl
 have hw1:IntKind.i64.wrap ((a:Int)+1)=(a:Int)+1:=IntWalk.i64_in _ (by omega)
 have hw2:IntKind.i64.wrap ((a:Int)+1+1)=(a:Int)+1+1:=IntWalk.i64_in _ (by omega)
 have h3:(0:Int) ≤ (a:Int)+1:=by omega
 have h4:(a:Int)+1 ≤ s.size:=by omega
 have HC:=Lib.hid (caret_at s (a+1) _ ht)
 have hal2:=(bt_txt s).lt (beq_iff_eq.1 ht) (by omega)
 have hit:=fun w hE=>britems_any A s hs a (a+2) (by omega) _ hR w hE
 rw [show ((a+2:Nat):Int)=(a:Int)+1+1 by omega] at hit
 have HI:=Lib.hid hit;have HE:=Lib.hid hE
 clear hit hE ha ht hR
 have HO:=Lib.hid (others_no (P) fl hnl)
 clear hnl
 clear hic
 go_enter Tryz.func183,Tryz.ntmps183
 go_wp2_with fail
 refine (HC.out _).mono ?_;rintro e w' ⟨rfl,rfl⟩
 go_wp2_with fail
 have hb0:Below w.heap.size w ((w.alloc (.cells noSet 25)).alloc (.cells #[.string s,.int .i64 a] 215)):=by go_grown
 obtain ⟨z0,z1⟩:=two_new w (.cells noSet 25) (.cells #[.string s,.int .i64 a] 215)
 have hsz:((w.alloc (.cells noSet 25)).alloc (.cells #[.string s,.int .i64 a] 215)).heap.size=w.heap.size+2:=by simp
 generalize World.alloc (World.alloc _ _) _=W at *
 have HB0:=Lib.hid hb0;have Z0:=Lib.hid z0;have HSZ:=Lib.hid hsz
 clear hb0 z0 z1 hsz
 refine (HI.out _ (HE.out.below HB0.out)).mono ?_
 intro e w1 he
 obtain ⟨rfl,hb⟩:=he.ok rfl
 have hbA:Below W.heap.size W (w1.alloc (.cells #[.int .u64 (Oc.U (Oc.mk (P) 0)),.int .u64 (Oc.U (Oc.mk (P) 1)),.int .u64 (Oc.U (Oc.mk (P) 2)),.int .u64 (Oc.U (Oc.mk (P) 3))] 25)):=hb.alloc hb.size _
 have Y0:=Lib.hid (keep_blk hbA Z0.out)
 have Y1:=Lib.hid (heap_alloc_new w1 (.cells #[.int .u64 (Oc.U (Oc.mk (P) 0)),.int .u64 (Oc.U (Oc.mk (P) 1)),.int .u64 (Oc.U (Oc.mk (P) 2)),.int .u64 (Oc.U (Oc.mk (P) 3))] 25))
 have HB:=Lib.hid (HB0.out.trans (hbA.mono HB0.out.size))
 have hlt:w.heap.size < w1.heap.size:=by have:=hb.size;have:=HSZ.out;omega
 clear hb hbA he
 go_wp2_with (first
   | (refine wpList_load_row rfl 25 (.tmp 12) rfl (w1.heap.size) rfl 25 _ (0,0) _ Y1.out Tryz.underlying25 rfl (by kernel_rfl) ?_)
   | fail)
 refine (HO.out _).mono ?_
 rintro e w3 ⟨rfl,hb⟩
 have Y0a:=Lib.hid (keep_blk hb Y0.out)
 have Y1a:=Lib.hid (keep_blk hb Y1.out)
 have HBa:=Lib.hid (HB.out.trans (hb.mono HB.out.size))
 have Y0b:Hid ((w3.setRow w1.heap.size #[.int .u64 (Oc.U (Oc.mk (fun b=>!(P) b) 0)),.int .u64 (Oc.U (Oc.mk (fun b=>!(P) b) 1)),.int .u64 (Oc.U (Oc.mk (fun b=>!(P) b) 2)),.int .u64 (Oc.U (Oc.mk (fun b=>!(P) b) 3))]).heap[w.heap.size]? = some (.cells noSet 25)):=Lib.hid ((heap_setRow_other _ _ _ (by omega)).trans Y0a.out)
 have Y1b:Hid ((w3.setRow w1.heap.size #[.int .u64 (Oc.U (Oc.mk (fun b=>!(P) b) 0)),.int .u64 (Oc.U (Oc.mk (fun b=>!(P) b) 1)),.int .u64 (Oc.U (Oc.mk (fun b=>!(P) b) 2)),.int .u64 (Oc.U (Oc.mk (fun b=>!(P) b) 3))]).heap[w1.heap.size]? = some (.cells #[.int .u64 (Oc.U (Oc.mk (fun b=>!(P) b) 0)),.int .u64 (Oc.U (Oc.mk (fun b=>!(P) b) 1)),.int .u64 (Oc.U (Oc.mk (fun b=>!(P) b) 2)),.int .u64 (Oc.U (Oc.mk (fun b=>!(P) b) 3))] 25)):=Lib.hid (heap_setRow Y1a.out)
 have HBb:Hid (Below w.heap.size w (w3.setRow w1.heap.size #[.int .u64 (Oc.U (Oc.mk (fun b=>!(P) b) 0)),.int .u64 (Oc.U (Oc.mk (fun b=>!(P) b) 1)),.int .u64 (Oc.U (Oc.mk (fun b=>!(P) b) 2)),.int .u64 (Oc.U (Oc.mk (fun b=>!(P) b) 3))])):=Lib.hid (below_setRow HBa.out (Nat.le_of_lt hlt) _)
 clear hb
 go_wp2_with (first
   | (refine wpList_load_row rfl 25 (.tmp 12) rfl (w1.heap.size) rfl 25 _ (0,0) _ Y1b.out Tryz.underlying25 rfl (by kernel_rfl) ?_)
   | (refine wpList_store_row rfl 25 (.tmp 12) (.tmp 62) rfl (w1.heap.size) #[.int .u64 (Oc.U (Oc.mk (fun b=>!(P) b) 0)),.int .u64 (Oc.U (Oc.mk (fun b=>!(P) b) 1)),.int .u64 (Oc.U (Oc.mk (fun b=>!(P) b) 2)),.int .u64 (Oc.U (Oc.mk (fun b=>!(P) b) 3))] rfl rfl 25 _ Y1a.out (by kernel_rfl) rfl setC_one ?_)
   | (refine wpList_store_row rfl 25 (.tmp 6) (.tmp 63) rfl (w.heap.size) #[.int .u64 (Oc.U (Oc.mk (fun b=>!(P) b) 0)),.int .u64 (Oc.U (Oc.mk (fun b=>!(P) b) 1)),.int .u64 (Oc.U (Oc.mk (fun b=>!(P) b) 2)),.int .u64 (Oc.U (Oc.mk (fun b=>!(P) b) 3))] rfl rfl 25 _ Y0b.out (by kernel_rfl) rfl setC_one ?_)
   | fail)
 exact bodyPost_ret (results_row_two rfl _ _ w.heap.size 25 #[.int .u64 (Oc.U (Oc.mk (fun b=>!(P) b) 0)),.int .u64 (Oc.U (Oc.mk (fun b=>!(P) b) 1)),.int .u64 (Oc.U (Oc.mk (fun b=>!(P) b) 2)),.int .u64 (Oc.U (Oc.mk (fun b=>!(P) b) 3))] (0,0) _ _ _ rfl rfl rfl (heap_setRow Y0b.out) Tryz.underlying25 rfl (by kernel_rfl)) rfl ⟨by exact rfl,by exact below_setRow HBb.out (Nat.le_refl _) _⟩
theorem read_ok_true_nl (A:Nat→Addr) (s:ByteArray) (hs:s.size ≤ 4294967280) (a:Nat) (ha:bt s a=91) (ht:(bt s (a+1) == 94)=true) (P:Nat→Bool) (j:Nat) (hR:Br.items (bt s) s.size a (s.size+1) (a+2) (fun _=>false) false=.ok P j) (fl:Int) (hic:icB fl=false) (hnl:nlB fl=true) (w:World) (hE:BrEnv w A) :
   Calls Tryz.prog 183 #[.string s,.int .i64 a,.int .i64 fl] w (ItEnd A (.ok (Br.fin false true true P) (j+1)) w):=by
 have hjn:=(Br.items_ok (bt_txt s) (by have:=(bt_txt s).lt ha (by omega);have:=(bt_txt s).lt (beq_iff_eq.1 ht) (by omega);omega) hR).2.1
 have hwj:IntKind.i64.wrap ((j:Int)+1)=(j:Int)+1:=IntWalk.i64_in _ (by omega)
 have hb2:=bit2 fl
 rw [hic] at hb2
 have hal:=(bt_txt s).lt ha (by omega)
 have h0:(0:Int) ≤ a:=by omega
 have h1:decide (s.size ≤ a)=false:=by simp;omega
 have e1:((s[a].toNat:Int) != 91)=false:=by rw [bt_at hal,ha];rfl
 have hw1:IntKind.i64.wrap ((a:Int)+1)=(a:Int)+1:=IntWalk.i64_in _ (by omega)
 have hw2:IntKind.i64.wrap ((a:Int)+1+1)=(a:Int)+1+1:=IntWalk.i64_in _ (by omega)
 have h3:(0:Int) ≤ (a:Int)+1:=by omega
 have h4:(a:Int)+1 ≤ s.size:=by omega
 have HC:=Lib.hid (caret_at s (a+1) _ ht)
 have hal2:=(bt_txt s).lt (beq_iff_eq.1 ht) (by omega)
 have hit:=fun w hE=>britems_any A s hs a (a+2) (by omega) _ hR w hE
 rw [show ((a+2:Nat):Int)=(a:Int)+1+1 by omega] at hit
 have HI:=Lib.hid hit;have HE:=Lib.hid hE
 clear hit hE ha ht hR
 have HO:=Lib.hid (others_nl (P) fl hnl)
 clear hnl
 clear hic
 go_enter Tryz.func183,Tryz.ntmps183
 go_wp2_with fail
 refine (HC.out _).mono ?_;rintro e w' ⟨rfl,rfl⟩
 go_wp2_with fail
 have hb0:Below w.heap.size w ((w.alloc (.cells noSet 25)).alloc (.cells #[.string s,.int .i64 a] 215)):=by go_grown
 obtain ⟨z0,z1⟩:=two_new w (.cells noSet 25) (.cells #[.string s,.int .i64 a] 215)
 have hsz:((w.alloc (.cells noSet 25)).alloc (.cells #[.string s,.int .i64 a] 215)).heap.size=w.heap.size+2:=by simp
 generalize World.alloc (World.alloc _ _) _=W at *
 have HB0:=Lib.hid hb0;have Z0:=Lib.hid z0;have HSZ:=Lib.hid hsz
 clear hb0 z0 z1 hsz
 refine (HI.out _ (HE.out.below HB0.out)).mono ?_
 intro e w1 he
 obtain ⟨rfl,hb⟩:=he.ok rfl
 have hbA:Below W.heap.size W (w1.alloc (.cells #[.int .u64 (Oc.U (Oc.mk (P) 0)),.int .u64 (Oc.U (Oc.mk (P) 1)),.int .u64 (Oc.U (Oc.mk (P) 2)),.int .u64 (Oc.U (Oc.mk (P) 3))] 25)):=hb.alloc hb.size _
 have Y0:=Lib.hid (keep_blk hbA Z0.out)
 have Y1:=Lib.hid (heap_alloc_new w1 (.cells #[.int .u64 (Oc.U (Oc.mk (P) 0)),.int .u64 (Oc.U (Oc.mk (P) 1)),.int .u64 (Oc.U (Oc.mk (P) 2)),.int .u64 (Oc.U (Oc.mk (P) 3))] 25))
 have HB:=Lib.hid (HB0.out.trans (hbA.mono HB0.out.size))
 have hlt:w.heap.size < w1.heap.size:=by have:=hb.size;have:=HSZ.out;omega
 clear hb hbA he
 go_wp2_with (first
   | (refine wpList_load_row rfl 25 (.tmp 12) rfl (w1.heap.size) rfl 25 _ (0,0) _ Y1.out Tryz.underlying25 rfl (by kernel_rfl) ?_)
   | fail)
 refine (HO.out _).mono ?_
 rintro e w3 ⟨rfl,hb⟩
 have Y0a:=Lib.hid (keep_blk hb Y0.out)
 have Y1a:=Lib.hid (keep_blk hb Y1.out)
 have HBa:=Lib.hid (HB.out.trans (hb.mono HB.out.size))
 have Y0b:Hid ((w3.setRow w1.heap.size #[.int .u64 (Oc.U (Oc.mk (fun b=>!(P) b && !(b == 10)) 0)),.int .u64 (Oc.U (Oc.mk (fun b=>!(P) b && !(b == 10)) 1)),.int .u64 (Oc.U (Oc.mk (fun b=>!(P) b && !(b == 10)) 2)),.int .u64 (Oc.U (Oc.mk (fun b=>!(P) b && !(b == 10)) 3))]).heap[w.heap.size]? = some (.cells noSet 25)):=Lib.hid ((heap_setRow_other _ _ _ (by omega)).trans Y0a.out)
 have Y1b:Hid ((w3.setRow w1.heap.size #[.int .u64 (Oc.U (Oc.mk (fun b=>!(P) b && !(b == 10)) 0)),.int .u64 (Oc.U (Oc.mk (fun b=>!(P) b && !(b == 10)) 1)),.int .u64 (Oc.U (Oc.mk (fun b=>!(P) b && !(b == 10)) 2)),.int .u64 (Oc.U (Oc.mk (fun b=>!(P) b && !(b == 10)) 3))]).heap[w1.heap.size]? = some (.cells #[.int .u64 (Oc.U (Oc.mk (fun b=>!(P) b && !(b == 10)) 0)),.int .u64 (Oc.U (Oc.mk (fun b=>!(P) b && !(b == 10)) 1)),.int .u64 (Oc.U (Oc.mk (fun b=>!(P) b && !(b == 10)) 2)),.int .u64 (Oc.U (Oc.mk (fun b=>!(P) b && !(b == 10)) 3))] 25)):=Lib.hid (heap_setRow Y1a.out)
 have HBb:Hid (Below w.heap.size w (w3.setRow w1.heap.size #[.int .u64 (Oc.U (Oc.mk (fun b=>!(P) b && !(b == 10)) 0)),.int .u64 (Oc.U (Oc.mk (fun b=>!(P) b && !(b == 10)) 1)),.int .u64 (Oc.U (Oc.mk (fun b=>!(P) b && !(b == 10)) 2)),.int .u64 (Oc.U (Oc.mk (fun b=>!(P) b && !(b == 10)) 3))])):=Lib.hid (below_setRow HBa.out (Nat.le_of_lt hlt) _)
 clear hb
 go_wp2_with (first
   | (refine wpList_load_row rfl 25 (.tmp 12) rfl (w1.heap.size) rfl 25 _ (0,0) _ Y1b.out Tryz.underlying25 rfl (by kernel_rfl) ?_)
   | (refine wpList_store_row rfl 25 (.tmp 12) (.tmp 62) rfl (w1.heap.size) #[.int .u64 (Oc.U (Oc.mk (fun b=>!(P) b && !(b == 10)) 0)),.int .u64 (Oc.U (Oc.mk (fun b=>!(P) b && !(b == 10)) 1)),.int .u64 (Oc.U (Oc.mk (fun b=>!(P) b && !(b == 10)) 2)),.int .u64 (Oc.U (Oc.mk (fun b=>!(P) b && !(b == 10)) 3))] rfl rfl 25 _ Y1a.out (by kernel_rfl) rfl setC_one ?_)
   | (refine wpList_store_row rfl 25 (.tmp 6) (.tmp 63) rfl (w.heap.size) #[.int .u64 (Oc.U (Oc.mk (fun b=>!(P) b && !(b == 10)) 0)),.int .u64 (Oc.U (Oc.mk (fun b=>!(P) b && !(b == 10)) 1)),.int .u64 (Oc.U (Oc.mk (fun b=>!(P) b && !(b == 10)) 2)),.int .u64 (Oc.U (Oc.mk (fun b=>!(P) b && !(b == 10)) 3))] rfl rfl 25 _ Y0b.out (by kernel_rfl) rfl setC_one ?_)
   | fail)
 exact bodyPost_ret (results_row_two rfl _ _ w.heap.size 25 #[.int .u64 (Oc.U (Oc.mk (fun b=>!(P) b && !(b == 10)) 0)),.int .u64 (Oc.U (Oc.mk (fun b=>!(P) b && !(b == 10)) 1)),.int .u64 (Oc.U (Oc.mk (fun b=>!(P) b && !(b == 10)) 2)),.int .u64 (Oc.U (Oc.mk (fun b=>!(P) b && !(b == 10)) 3))] (0,0) _ _ _ rfl rfl rfl (heap_setRow Y0b.out) Tryz.underlying25 rfl (by kernel_rfl)) rfl ⟨by exact rfl,by exact below_setRow HBb.out (Nat.le_refl _) _⟩
theorem read_ok_true_ic_no (A:Nat→Addr) (s:ByteArray) (hs:s.size ≤ 4294967280) (a:Nat) (ha:bt s a=91) (ht:(bt s (a+1) == 94)=true) (P:Nat→Bool) (j:Nat) (hR:Br.items (bt s) s.size a (s.size+1) (a+2) (fun _=>false) false=.ok P j) (fl:Int) (hic:icB fl=true) (hnl:nlB fl=false) (w:World) (hE:BrEnv w A) :
   Calls Tryz.prog 183 #[.string s,.int .i64 a,.int .i64 fl] w (ItEnd A (.ok (Br.fin true false true P) (j+1)) w):=by
 have hjn:=(Br.items_ok (bt_txt s) (by have:=(bt_txt s).lt ha (by omega);have:=(bt_txt s).lt (beq_iff_eq.1 ht) (by omega);omega) hR).2.1
 have hwj:IntKind.i64.wrap ((j:Int)+1)=(j:Int)+1:=IntWalk.i64_in _ (by omega)
 have hb2:=bit2 fl
 rw [hic] at hb2
 have hal:=(bt_txt s).lt ha (by omega)
 have h0:(0:Int) ≤ a:=by omega
 have h1:decide (s.size ≤ a)=false:=by simp;omega
 have e1:((s[a].toNat:Int) != 91)=false:=by rw [bt_at hal,ha];rfl
 have hw1:IntKind.i64.wrap ((a:Int)+1)=(a:Int)+1:=IntWalk.i64_in _ (by omega)
 have hw2:IntKind.i64.wrap ((a:Int)+1+1)=(a:Int)+1+1:=IntWalk.i64_in _ (by omega)
 have h3:(0:Int) ≤ (a:Int)+1:=by omega
 have h4:(a:Int)+1 ≤ s.size:=by omega
 have HC:=Lib.hid (caret_at s (a+1) _ ht)
 have hal2:=(bt_txt s).lt (beq_iff_eq.1 ht) (by omega)
 have hit:=fun w hE=>britems_any A s hs a (a+2) (by omega) _ hR w hE
 rw [show ((a+2:Nat):Int)=(a:Int)+1+1 by omega] at hit
 have HI:=Lib.hid hit;have HE:=Lib.hid hE
 clear hit hE ha ht hR
 have HO:=Lib.hid (others_no (Cl.fold P) fl hnl)
 clear hnl
 clear hic
 go_enter Tryz.func183,Tryz.ntmps183
 go_wp2_with fail
 refine (HC.out _).mono ?_;rintro e w' ⟨rfl,rfl⟩
 go_wp2_with fail
 have hb0:Below w.heap.size w ((w.alloc (.cells noSet 25)).alloc (.cells #[.string s,.int .i64 a] 215)):=by go_grown
 obtain ⟨z0,z1⟩:=two_new w (.cells noSet 25) (.cells #[.string s,.int .i64 a] 215)
 have hsz:((w.alloc (.cells noSet 25)).alloc (.cells #[.string s,.int .i64 a] 215)).heap.size=w.heap.size+2:=by simp
 generalize World.alloc (World.alloc _ _) _=W at *
 have HB0:=Lib.hid hb0;have Z0:=Lib.hid z0;have HSZ:=Lib.hid hsz
 clear hb0 z0 z1 hsz
 refine (HI.out _ (HE.out.below HB0.out)).mono ?_
 intro e w1 he
 obtain ⟨rfl,hb⟩:=he.ok rfl
 have hbA:Below W.heap.size W (w1.alloc (.cells #[.int .u64 (Oc.U (Oc.mk (P) 0)),.int .u64 (Oc.U (Oc.mk (P) 1)),.int .u64 (Oc.U (Oc.mk (P) 2)),.int .u64 (Oc.U (Oc.mk (P) 3))] 25)):=hb.alloc hb.size _
 have Y0:=Lib.hid (keep_blk hbA Z0.out)
 have Y1:=Lib.hid (heap_alloc_new w1 (.cells #[.int .u64 (Oc.U (Oc.mk (P) 0)),.int .u64 (Oc.U (Oc.mk (P) 1)),.int .u64 (Oc.U (Oc.mk (P) 2)),.int .u64 (Oc.U (Oc.mk (P) 3))] 25))
 have HB:=Lib.hid (HB0.out.trans (hbA.mono HB0.out.size))
 have hlt:w.heap.size < w1.heap.size:=by have:=hb.size;have:=HSZ.out;omega
 clear hb hbA he
 go_wp2_with (first
   | (refine wpList_load_row rfl 25 (.tmp 12) rfl (w1.heap.size) rfl 25 _ (0,0) _ Y1.out Tryz.underlying25 rfl (by kernel_rfl) ?_)
   | fail)
 refine (fold_p P _).mono ?_
 rintro e w2 ⟨rfl,hb⟩
 have Y0a:=Lib.hid (keep_blk hb Y0.out)
 have Y1a:=Lib.hid (keep_blk hb Y1.out)
 have HBa:=Lib.hid (HB.out.trans (hb.mono HB.out.size))
 have Y0b:Hid ((w2.setRow w1.heap.size #[.int .u64 (Oc.U (Oc.mk (Cl.fold P) 0)),.int .u64 (Oc.U (Oc.mk (Cl.fold P) 1)),.int .u64 (Oc.U (Oc.mk (Cl.fold P) 2)),.int .u64 (Oc.U (Oc.mk (Cl.fold P) 3))]).heap[w.heap.size]? = some (.cells noSet 25)):=Lib.hid ((heap_setRow_other _ _ _ (by omega)).trans Y0a.out)
 have Y1b:Hid ((w2.setRow w1.heap.size #[.int .u64 (Oc.U (Oc.mk (Cl.fold P) 0)),.int .u64 (Oc.U (Oc.mk (Cl.fold P) 1)),.int .u64 (Oc.U (Oc.mk (Cl.fold P) 2)),.int .u64 (Oc.U (Oc.mk (Cl.fold P) 3))]).heap[w1.heap.size]? = some (.cells #[.int .u64 (Oc.U (Oc.mk (Cl.fold P) 0)),.int .u64 (Oc.U (Oc.mk (Cl.fold P) 1)),.int .u64 (Oc.U (Oc.mk (Cl.fold P) 2)),.int .u64 (Oc.U (Oc.mk (Cl.fold P) 3))] 25)):=Lib.hid (heap_setRow Y1a.out)
 have HBb:Hid (Below w.heap.size w (w2.setRow w1.heap.size #[.int .u64 (Oc.U (Oc.mk (Cl.fold P) 0)),.int .u64 (Oc.U (Oc.mk (Cl.fold P) 1)),.int .u64 (Oc.U (Oc.mk (Cl.fold P) 2)),.int .u64 (Oc.U (Oc.mk (Cl.fold P) 3))])):=Lib.hid (below_setRow HBa.out (Nat.le_of_lt hlt) _)
 clear hb
 go_wp2_with (first
   | (refine wpList_load_row rfl 25 (.tmp 12) rfl (w1.heap.size) rfl 25 _ (0,0) _ Y1b.out Tryz.underlying25 rfl (by kernel_rfl) ?_)
   | (refine wpList_store_row rfl 25 (.tmp 12) (.tmp 58) rfl (w1.heap.size) #[.int .u64 (Oc.U (Oc.mk (Cl.fold P) 0)),.int .u64 (Oc.U (Oc.mk (Cl.fold P) 1)),.int .u64 (Oc.U (Oc.mk (Cl.fold P) 2)),.int .u64 (Oc.U (Oc.mk (Cl.fold P) 3))] rfl rfl 25 _ Y1a.out (by kernel_rfl) rfl setC_one ?_)
   | fail)
 refine (HO.out _).mono ?_
 rintro e w3 ⟨rfl,hb⟩
 have Y0ba:=Lib.hid (keep_blk hb Y0b.out)
 have Y1ba:=Lib.hid (keep_blk hb Y1b.out)
 have HBba:=Lib.hid (HBb.out.trans (hb.mono HBb.out.size))
 have Y0bb:Hid ((w3.setRow w1.heap.size #[.int .u64 (Oc.U (Oc.mk (fun b=>!(Cl.fold P) b) 0)),.int .u64 (Oc.U (Oc.mk (fun b=>!(Cl.fold P) b) 1)),.int .u64 (Oc.U (Oc.mk (fun b=>!(Cl.fold P) b) 2)),.int .u64 (Oc.U (Oc.mk (fun b=>!(Cl.fold P) b) 3))]).heap[w.heap.size]? = some (.cells noSet 25)):=Lib.hid ((heap_setRow_other _ _ _ (by omega)).trans Y0ba.out)
 have Y1bb:Hid ((w3.setRow w1.heap.size #[.int .u64 (Oc.U (Oc.mk (fun b=>!(Cl.fold P) b) 0)),.int .u64 (Oc.U (Oc.mk (fun b=>!(Cl.fold P) b) 1)),.int .u64 (Oc.U (Oc.mk (fun b=>!(Cl.fold P) b) 2)),.int .u64 (Oc.U (Oc.mk (fun b=>!(Cl.fold P) b) 3))]).heap[w1.heap.size]? = some (.cells #[.int .u64 (Oc.U (Oc.mk (fun b=>!(Cl.fold P) b) 0)),.int .u64 (Oc.U (Oc.mk (fun b=>!(Cl.fold P) b) 1)),.int .u64 (Oc.U (Oc.mk (fun b=>!(Cl.fold P) b) 2)),.int .u64 (Oc.U (Oc.mk (fun b=>!(Cl.fold P) b) 3))] 25)):=Lib.hid (heap_setRow Y1ba.out)
 have HBbb:Hid (Below w.heap.size w (w3.setRow w1.heap.size #[.int .u64 (Oc.U (Oc.mk (fun b=>!(Cl.fold P) b) 0)),.int .u64 (Oc.U (Oc.mk (fun b=>!(Cl.fold P) b) 1)),.int .u64 (Oc.U (Oc.mk (fun b=>!(Cl.fold P) b) 2)),.int .u64 (Oc.U (Oc.mk (fun b=>!(Cl.fold P) b) 3))])):=Lib.hid (below_setRow HBba.out (Nat.le_of_lt hlt) _)
 clear hb
 go_wp2_with (first
   | (refine wpList_load_row rfl 25 (.tmp 12) rfl (w1.heap.size) rfl 25 _ (0,0) _ Y1bb.out Tryz.underlying25 rfl (by kernel_rfl) ?_)
   | (refine wpList_store_row rfl 25 (.tmp 12) (.tmp 62) rfl (w1.heap.size) #[.int .u64 (Oc.U (Oc.mk (fun b=>!(Cl.fold P) b) 0)),.int .u64 (Oc.U (Oc.mk (fun b=>!(Cl.fold P) b) 1)),.int .u64 (Oc.U (Oc.mk (fun b=>!(Cl.fold P) b) 2)),.int .u64 (Oc.U (Oc.mk (fun b=>!(Cl.fold P) b) 3))] rfl rfl 25 _ Y1ba.out (by kernel_rfl) rfl setC_one ?_)
   | (refine wpList_store_row rfl 25 (.tmp 6) (.tmp 63) rfl (w.heap.size) #[.int .u64 (Oc.U (Oc.mk (fun b=>!(Cl.fold P) b) 0)),.int .u64 (Oc.U (Oc.mk (fun b=>!(Cl.fold P) b) 1)),.int .u64 (Oc.U (Oc.mk (fun b=>!(Cl.fold P) b) 2)),.int .u64 (Oc.U (Oc.mk (fun b=>!(Cl.fold P) b) 3))] rfl rfl 25 _ Y0bb.out (by kernel_rfl) rfl setC_one ?_)
   | fail)
 exact bodyPost_ret (results_row_two rfl _ _ w.heap.size 25 #[.int .u64 (Oc.U (Oc.mk (fun b=>!(Cl.fold P) b) 0)),.int .u64 (Oc.U (Oc.mk (fun b=>!(Cl.fold P) b) 1)),.int .u64 (Oc.U (Oc.mk (fun b=>!(Cl.fold P) b) 2)),.int .u64 (Oc.U (Oc.mk (fun b=>!(Cl.fold P) b) 3))] (0,0) _ _ _ rfl rfl rfl (heap_setRow Y0bb.out) Tryz.underlying25 rfl (by kernel_rfl)) rfl ⟨by exact rfl,by exact below_setRow HBbb.out (Nat.le_refl _) _⟩
theorem read_ok_true_ic_nl (A:Nat→Addr) (s:ByteArray) (hs:s.size ≤ 4294967280) (a:Nat) (ha:bt s a=91) (ht:(bt s (a+1) == 94)=true) (P:Nat→Bool) (j:Nat) (hR:Br.items (bt s) s.size a (s.size+1) (a+2) (fun _=>false) false=.ok P j) (fl:Int) (hic:icB fl=true) (hnl:nlB fl=true) (w:World) (hE:BrEnv w A) :
   Calls Tryz.prog 183 #[.string s,.int .i64 a,.int .i64 fl] w (ItEnd A (.ok (Br.fin true true true P) (j+1)) w):=by
 have hjn:=(Br.items_ok (bt_txt s) (by have:=(bt_txt s).lt ha (by omega);have:=(bt_txt s).lt (beq_iff_eq.1 ht) (by omega);omega) hR).2.1
 have hwj:IntKind.i64.wrap ((j:Int)+1)=(j:Int)+1:=IntWalk.i64_in _ (by omega)
 have hb2:=bit2 fl
 rw [hic] at hb2
 have hal:=(bt_txt s).lt ha (by omega)
 have h0:(0:Int) ≤ a:=by omega
 have h1:decide (s.size ≤ a)=false:=by simp;omega
 have e1:((s[a].toNat:Int) != 91)=false:=by rw [bt_at hal,ha];rfl
 have hw1:IntKind.i64.wrap ((a:Int)+1)=(a:Int)+1:=IntWalk.i64_in _ (by omega)
 have hw2:IntKind.i64.wrap ((a:Int)+1+1)=(a:Int)+1+1:=IntWalk.i64_in _ (by omega)
 have h3:(0:Int) ≤ (a:Int)+1:=by omega
 have h4:(a:Int)+1 ≤ s.size:=by omega
 have HC:=Lib.hid (caret_at s (a+1) _ ht)
 have hal2:=(bt_txt s).lt (beq_iff_eq.1 ht) (by omega)
 have hit:=fun w hE=>britems_any A s hs a (a+2) (by omega) _ hR w hE
 rw [show ((a+2:Nat):Int)=(a:Int)+1+1 by omega] at hit
 have HI:=Lib.hid hit;have HE:=Lib.hid hE
 clear hit hE ha ht hR
 have HO:=Lib.hid (others_nl (Cl.fold P) fl hnl)
 clear hnl
 clear hic
 go_enter Tryz.func183,Tryz.ntmps183
 go_wp2_with fail
 refine (HC.out _).mono ?_;rintro e w' ⟨rfl,rfl⟩
 go_wp2_with fail
 have hb0:Below w.heap.size w ((w.alloc (.cells noSet 25)).alloc (.cells #[.string s,.int .i64 a] 215)):=by go_grown
 obtain ⟨z0,z1⟩:=two_new w (.cells noSet 25) (.cells #[.string s,.int .i64 a] 215)
 have hsz:((w.alloc (.cells noSet 25)).alloc (.cells #[.string s,.int .i64 a] 215)).heap.size=w.heap.size+2:=by simp
 generalize World.alloc (World.alloc _ _) _=W at *
 have HB0:=Lib.hid hb0;have Z0:=Lib.hid z0;have HSZ:=Lib.hid hsz
 clear hb0 z0 z1 hsz
 refine (HI.out _ (HE.out.below HB0.out)).mono ?_
 intro e w1 he
 obtain ⟨rfl,hb⟩:=he.ok rfl
 have hbA:Below W.heap.size W (w1.alloc (.cells #[.int .u64 (Oc.U (Oc.mk (P) 0)),.int .u64 (Oc.U (Oc.mk (P) 1)),.int .u64 (Oc.U (Oc.mk (P) 2)),.int .u64 (Oc.U (Oc.mk (P) 3))] 25)):=hb.alloc hb.size _
 have Y0:=Lib.hid (keep_blk hbA Z0.out)
 have Y1:=Lib.hid (heap_alloc_new w1 (.cells #[.int .u64 (Oc.U (Oc.mk (P) 0)),.int .u64 (Oc.U (Oc.mk (P) 1)),.int .u64 (Oc.U (Oc.mk (P) 2)),.int .u64 (Oc.U (Oc.mk (P) 3))] 25))
 have HB:=Lib.hid (HB0.out.trans (hbA.mono HB0.out.size))
 have hlt:w.heap.size < w1.heap.size:=by have:=hb.size;have:=HSZ.out;omega
 clear hb hbA he
 go_wp2_with (first
   | (refine wpList_load_row rfl 25 (.tmp 12) rfl (w1.heap.size) rfl 25 _ (0,0) _ Y1.out Tryz.underlying25 rfl (by kernel_rfl) ?_)
   | fail)
 refine (fold_p P _).mono ?_
 rintro e w2 ⟨rfl,hb⟩
 have Y0a:=Lib.hid (keep_blk hb Y0.out)
 have Y1a:=Lib.hid (keep_blk hb Y1.out)
 have HBa:=Lib.hid (HB.out.trans (hb.mono HB.out.size))
 have Y0b:Hid ((w2.setRow w1.heap.size #[.int .u64 (Oc.U (Oc.mk (Cl.fold P) 0)),.int .u64 (Oc.U (Oc.mk (Cl.fold P) 1)),.int .u64 (Oc.U (Oc.mk (Cl.fold P) 2)),.int .u64 (Oc.U (Oc.mk (Cl.fold P) 3))]).heap[w.heap.size]? = some (.cells noSet 25)):=Lib.hid ((heap_setRow_other _ _ _ (by omega)).trans Y0a.out)
 have Y1b:Hid ((w2.setRow w1.heap.size #[.int .u64 (Oc.U (Oc.mk (Cl.fold P) 0)),.int .u64 (Oc.U (Oc.mk (Cl.fold P) 1)),.int .u64 (Oc.U (Oc.mk (Cl.fold P) 2)),.int .u64 (Oc.U (Oc.mk (Cl.fold P) 3))]).heap[w1.heap.size]? = some (.cells #[.int .u64 (Oc.U (Oc.mk (Cl.fold P) 0)),.int .u64 (Oc.U (Oc.mk (Cl.fold P) 1)),.int .u64 (Oc.U (Oc.mk (Cl.fold P) 2)),.int .u64 (Oc.U (Oc.mk (Cl.fold P) 3))] 25)):=Lib.hid (heap_setRow Y1a.out)
 have HBb:Hid (Below w.heap.size w (w2.setRow w1.heap.size #[.int .u64 (Oc.U (Oc.mk (Cl.fold P) 0)),.int .u64 (Oc.U (Oc.mk (Cl.fold P) 1)),.int .u64 (Oc.U (Oc.mk (Cl.fold P) 2)),.int .u64 (Oc.U (Oc.mk (Cl.fold P) 3))])):=Lib.hid (below_setRow HBa.out (Nat.le_of_lt hlt) _)
 clear hb
 go_wp2_with (first
   | (refine wpList_load_row rfl 25 (.tmp 12) rfl (w1.heap.size) rfl 25 _ (0,0) _ Y1b.out Tryz.underlying25 rfl (by kernel_rfl) ?_)
   | (refine wpList_store_row rfl 25 (.tmp 12) (.tmp 58) rfl (w1.heap.size) #[.int .u64 (Oc.U (Oc.mk (Cl.fold P) 0)),.int .u64 (Oc.U (Oc.mk (Cl.fold P) 1)),.int .u64 (Oc.U (Oc.mk (Cl.fold P) 2)),.int .u64 (Oc.U (Oc.mk (Cl.fold P) 3))] rfl rfl 25 _ Y1a.out (by kernel_rfl) rfl setC_one ?_)
   | fail)
 refine (HO.out _).mono ?_
 rintro e w3 ⟨rfl,hb⟩
 have Y0ba:=Lib.hid (keep_blk hb Y0b.out)
 have Y1ba:=Lib.hid (keep_blk hb Y1b.out)
 have HBba:=Lib.hid (HBb.out.trans (hb.mono HBb.out.size))
 have Y0bb:Hid ((w3.setRow w1.heap.size #[.int .u64 (Oc.U (Oc.mk (fun b=>!(Cl.fold P) b && !(b == 10)) 0)),.int .u64 (Oc.U (Oc.mk (fun b=>!(Cl.fold P) b && !(b == 10)) 1)),.int .u64 (Oc.U (Oc.mk (fun b=>!(Cl.fold P) b && !(b == 10)) 2)),.int .u64 (Oc.U (Oc.mk (fun b=>!(Cl.fold P) b && !(b == 10)) 3))]).heap[w.heap.size]? = some (.cells noSet 25)):=Lib.hid ((heap_setRow_other _ _ _ (by omega)).trans Y0ba.out)
 have Y1bb:Hid ((w3.setRow w1.heap.size #[.int .u64 (Oc.U (Oc.mk (fun b=>!(Cl.fold P) b && !(b == 10)) 0)),.int .u64 (Oc.U (Oc.mk (fun b=>!(Cl.fold P) b && !(b == 10)) 1)),.int .u64 (Oc.U (Oc.mk (fun b=>!(Cl.fold P) b && !(b == 10)) 2)),.int .u64 (Oc.U (Oc.mk (fun b=>!(Cl.fold P) b && !(b == 10)) 3))]).heap[w1.heap.size]? = some (.cells #[.int .u64 (Oc.U (Oc.mk (fun b=>!(Cl.fold P) b && !(b == 10)) 0)),.int .u64 (Oc.U (Oc.mk (fun b=>!(Cl.fold P) b && !(b == 10)) 1)),.int .u64 (Oc.U (Oc.mk (fun b=>!(Cl.fold P) b && !(b == 10)) 2)),.int .u64 (Oc.U (Oc.mk (fun b=>!(Cl.fold P) b && !(b == 10)) 3))] 25)):=Lib.hid (heap_setRow Y1ba.out)
 have HBbb:Hid (Below w.heap.size w (w3.setRow w1.heap.size #[.int .u64 (Oc.U (Oc.mk (fun b=>!(Cl.fold P) b && !(b == 10)) 0)),.int .u64 (Oc.U (Oc.mk (fun b=>!(Cl.fold P) b && !(b == 10)) 1)),.int .u64 (Oc.U (Oc.mk (fun b=>!(Cl.fold P) b && !(b == 10)) 2)),.int .u64 (Oc.U (Oc.mk (fun b=>!(Cl.fold P) b && !(b == 10)) 3))])):=Lib.hid (below_setRow HBba.out (Nat.le_of_lt hlt) _)
 clear hb
 go_wp2_with (first
   | (refine wpList_load_row rfl 25 (.tmp 12) rfl (w1.heap.size) rfl 25 _ (0,0) _ Y1bb.out Tryz.underlying25 rfl (by kernel_rfl) ?_)
   | (refine wpList_store_row rfl 25 (.tmp 12) (.tmp 62) rfl (w1.heap.size) #[.int .u64 (Oc.U (Oc.mk (fun b=>!(Cl.fold P) b && !(b == 10)) 0)),.int .u64 (Oc.U (Oc.mk (fun b=>!(Cl.fold P) b && !(b == 10)) 1)),.int .u64 (Oc.U (Oc.mk (fun b=>!(Cl.fold P) b && !(b == 10)) 2)),.int .u64 (Oc.U (Oc.mk (fun b=>!(Cl.fold P) b && !(b == 10)) 3))] rfl rfl 25 _ Y1ba.out (by kernel_rfl) rfl setC_one ?_)
   | (refine wpList_store_row rfl 25 (.tmp 6) (.tmp 63) rfl (w.heap.size) #[.int .u64 (Oc.U (Oc.mk (fun b=>!(Cl.fold P) b && !(b == 10)) 0)),.int .u64 (Oc.U (Oc.mk (fun b=>!(Cl.fold P) b && !(b == 10)) 1)),.int .u64 (Oc.U (Oc.mk (fun b=>!(Cl.fold P) b && !(b == 10)) 2)),.int .u64 (Oc.U (Oc.mk (fun b=>!(Cl.fold P) b && !(b == 10)) 3))] rfl rfl 25 _ Y0bb.out (by kernel_rfl) rfl setC_one ?_)
   | fail)
 exact bodyPost_ret (results_row_two rfl _ _ w.heap.size 25 #[.int .u64 (Oc.U (Oc.mk (fun b=>!(Cl.fold P) b && !(b == 10)) 0)),.int .u64 (Oc.U (Oc.mk (fun b=>!(Cl.fold P) b && !(b == 10)) 1)),.int .u64 (Oc.U (Oc.mk (fun b=>!(Cl.fold P) b && !(b == 10)) 2)),.int .u64 (Oc.U (Oc.mk (fun b=>!(Cl.fold P) b && !(b == 10)) 3))] (0,0) _ _ _ rfl rfl rfl (heap_setRow Y0bb.out) Tryz.underlying25 rfl (by kernel_rfl)) rfl ⟨by exact rfl,by exact below_setRow HBbb.out (Nat.le_refl _) _⟩
theorem whole_does (A:Nat→Addr) (s:ByteArray) (hs:s.size ≤ 4294967280) (a:Nat) (ha:bt s a=91) (fl:Int) (w:World) (hE:BrEnv w A) :
   Calls Tryz.prog 183 #[.string s,.int .i64 a,.int .i64 fl] w (ItEnd A (Br.whole (bt s) s.size a (icB fl) (nlB fl)) w):=by
 unfold Br.whole
 cases ht:(bt s (a+1) == 94) with
 | true =>
   simp only [if_true]
   cases hR:Br.items (bt s) s.size a (s.size+1) (a+2) (fun _=>false) false with
   | err c q=>exact read_err_true A s hs a ha ht c q hR fl w hE
   | ok P j =>
     show Calls _ _ _ _ (ItEnd A (.ok (Br.fin (icB fl) (nlB fl) true P) (j+1)) w)
     cases hic:icB fl <;> cases hnl:nlB fl
     · exact read_ok_true_no A s hs a ha ht P j hR fl hic hnl w hE
     · exact read_ok_true_nl A s hs a ha ht P j hR fl hic hnl w hE
     · exact read_ok_true_ic_no A s hs a ha ht P j hR fl hic hnl w hE
     · exact read_ok_true_ic_nl A s hs a ha ht P j hR fl hic hnl w hE
 | false =>
   simp only [Bool.false_eq_true,if_false]
   cases hR:Br.items (bt s) s.size a (s.size+1) (a+1) (fun _=>false) false with
   | err c q=>exact read_err_false A s hs a ha ht c q hR fl w hE
   | ok P j =>
     show Calls _ _ _ _ (ItEnd A (.ok (Br.fin (icB fl) (nlB fl) false P) (j+1)) w)
     cases hic:icB fl
     · exact read_ok_false A s hs a ha ht P j hR fl hic _ w hE
     · exact read_ok_false_ic A s hs a ha ht P j hR fl hic _ w hE
end Go.Proofs.YtfcilopifjddpaaGreatDoor
namespace Go.Proofs.YtfcilopifjddpaaGreatDoor
open Go.RowKit
theorem ErrOne.below {A:Nat→Addr} {B:Nat} {w w':World} {v:Value} {c:Nat} {n:Int} (h:ErrOne A B w v c n) (hb:Below w.heap.size w w'):ErrOne A B w' v c n:=h.later hb
abbrev rdC (s:ByteArray) (fl:Int) (i g d:Nat):Array Value:=#[.string s,.int .i64 fl,.int .i64 i,.int .i64 g,.int .i64 d]
structure RdAt (w0:World) (A:Nat→Addr) (w:World) (R:Nat) (s:ByteArray) (fl:Int) (i g d:Nat):Prop where
 env:BrEnv w0 A
 old:w0.heap.size ≤ R
 bel:Below w0.heap.size w0 w
 cell:w.heap[R]? = some (.cells (rdC s fl i g d) 85)
theorem RdAt.lt {w0:World} {A:Nat→Addr} {w:World} {R:Nat} {s:ByteArray} {fl:Int} {i g d:Nat} (h:RdAt w0 A w R s fl i g d):R < w.heap.size:=(Array.getElem?_eq_some_iff.1 h.cell).1
theorem RdAt.now {w0:World} {A:Nat→Addr} {w:World} {R:Nat} {s:ByteArray} {fl:Int} {i g d:Nat} (h:RdAt w0 A w R s fl i g d):BrEnv w A:=h.env.below h.bel
theorem RdAt.next {w0:World} {A:Nat→Addr} {w w':World} {R:Nat} {s:ByteArray} {fl:Int} {i g d i' g' d':Nat} (h:RdAt w0 A w R s fl i g d) (ht:Touch [R] w w') (hc:w'.heap[R]? = some (.cells (rdC s fl i' g' d') 85)):RdAt w0 A w' R s fl i' g' d' :=
 ⟨h.env,h.old,h.bel.trans (ht.below (fun k hk=>by rw [List.mem_singleton.1 hk];exact h.old) h.bel.size),hc⟩
theorem RdAt.later {w0:World} {A:Nat→Addr} {w w':World} {R:Nat} {s:ByteArray} {fl:Int} {i g d:Nat} (h:RdAt w0 A w R s fl i g d) (hb:Below w.heap.size w w'):RdAt w0 A w' R s fl i g d :=
 h.next (Touch.of_below _ hb) (keep_blk hb h.cell)
theorem rd5 {w:World} {R:Nat} {s:ByteArray} {fl:Int} {i g d:Nat} (h:w.heap[R]? = some (.cells (rdC s fl i g d) 85)) :
   w.cell? ⟨R,0,none⟩=some (.string s)∧w.cell? ⟨R,1,none⟩=some (.int .i64 fl)∧w.cell? ⟨R,2,none⟩=some (.int .i64 i)∧w.cell? ⟨R,3,none⟩=some (.int .i64 g)∧w.cell? ⟨R,4,none⟩=some (.int .i64 d):=by
 simp [World.cell?,h]
theorem rdf {w:World} {R:Nat} {s:ByteArray} {fl:Int} {i g d:Nat} (h:w.heap[R]? = some (.cells (rdC s fl i g d) 85)):w.frozen? ⟨R,2,none⟩=false∧w.frozen? ⟨R,3,none⟩=false∧w.frozen? ⟨R,4,none⟩=false:=by
 simp [World.frozen?,h]
theorem rd_place {w:World} {R:Nat} {s:ByteArray} {fl:Int} {i g d:Nat} (h:w.heap[R]? = some (.cells (rdC s fl i g d) 85)) (j:Nat) {v:Int} (hv:v=(j:Int)):(w.setCell ⟨R,2,none⟩ (.int .i64 v)).heap[R]? = some (.cells (rdC s fl j g d) 85):=by
 subst hv;simp [World.setCell,Array.getElem?_modify,h]
theorem rd_groups {w:World} {R:Nat} {s:ByteArray} {fl:Int} {i g d:Nat} (h:w.heap[R]? = some (.cells (rdC s fl i g d) 85)) (j:Nat) {v:Int} (hv:v=(j:Int)):(w.setCell ⟨R,3,none⟩ (.int .i64 v)).heap[R]? = some (.cells (rdC s fl i j d) 85):=by
 subst hv;simp [World.setCell,Array.getElem?_modify,h]
theorem rd_open {w:World} {R:Nat} {s:ByteArray} {fl:Int} {i g d:Nat} (h:w.heap[R]? = some (.cells (rdC s fl i g d) 85)) (j:Nat) {v:Int} (hv:v=(j:Int)):(w.setCell ⟨R,4,none⟩ (.int .i64 v)).heap[R]? = some (.cells (rdC s fl i g j) 85):=by
 subst hv;simp [World.setCell,Array.getElem?_modify,h]
theorem Touch.setCell {F:List Nat} {a w:World} {b:Nat} (h:Touch F a w) (hb:b ∈ F) (o:Nat) (v:Value):Touch F a (w.setCell ⟨b,o,none⟩ v) :=
 h.setCells hb o [v]
theorem Touch.refl (F:List Nat) (w:World):Touch F w w:=⟨rfl,rfl,rfl,Nat.le_refl _,fun _ _ _=>rfl⟩
theorem Touch.later {F:List Nat} {a w w':World} (h:Touch F a w) (hb:Below w.heap.size w w'):Touch F a w':=h.trans (Touch.of_below F hb)
theorem Touch.drewN {F:List Nat} {a w:World} (h:Touch F a w) (n:Nat):Touch F a (w.drewN n):=h.trans ⟨rfl,rfl,rfl,Nat.le_refl _,fun _ _ _=>rfl⟩
def NdEnd (A:Nat→Addr) (R:Nat) (s:ByteArray) (fl:Int) (d:Nat) (O:Ep.Out) (w:World) (e:Ending) (w':World):Prop :=
 (match O with
 | .ok t j g=>∃ v F,e=.returned (.tuple #[.agg (t.cells v),.nilIface])∧Owned w' v t.subs F∧(∀ b,b ∈ F→w.heap.size ≤ b)∧w'.heap[R]? = some (.cells (rdC s fl j g d) 85)
 | .err c p=>∃ v,e=.returned (.tuple #[.agg noNode,v])∧ErrOne A w.heap.size w' v c p)∧Touch [R] w w'
theorem NdEnd.ok {A:Nat→Addr} {R:Nat} {s:ByteArray} {fl:Int} {d:Nat} {O:Ep.Out} {w:World} {e:Ending} {w':World} (h:NdEnd A R s fl d O w e w') {t:Tr} {j g:Nat} (hO:O=.ok t j g) :
   ∃ v F,e=.returned (.tuple #[.agg (t.cells v),.nilIface])∧Owned w' v t.subs F∧(∀ b,b ∈ F→w.heap.size ≤ b)∧w'.heap[R]? = some (.cells (rdC s fl j g d) 85)∧Touch [R] w w':=by
 subst hO;obtain ⟨⟨v,F,h1,h2,h3,h4⟩,h5⟩:=h;exact ⟨v,F,h1,h2,h3,h4,h5⟩
theorem NdEnd.err {A:Nat→Addr} {R:Nat} {s:ByteArray} {fl:Int} {d:Nat} {O:Ep.Out} {w:World} {e:Ending} {w':World} (h:NdEnd A R s fl d O w e w') {c:Nat} {p:Int} (hO:O=.err c p) :
   ∃ v,e=.returned (.tuple #[.agg noNode,v])∧ErrOne A w.heap.size w' v c p∧Touch [R] w w':=by
 subst hO;obtain ⟨⟨v,h1,h2⟩,h5⟩:=h;exact ⟨v,h1,h2,h5⟩
theorem results_row_1 {P:Program} {fn:Func} {p q:Tmp} {ty:TypeId} (h:fn.results=#[.cell p ty,.tmp q]) (tmps:Array Value) (w:World) (g:Nat) (t:TypeId) (cs:Array Value) (fr:Nat × Nat) (d:TypeDesc) (y:Value)
   (hp:tmps.getD p undef=.pointer (some ⟨g,0,none⟩)) (hy:tmps.getD q undef=y) (hg:w.heap[g]? = some (.cells cs t fr))
   (hu:P.underlying ty=some d) (hd:(match d with | .struct _ | .array _ _=>true | _=>false)=true) (hi:(P.info? ty).map (·.size)=some cs.size) :
   (results fn tmps).run P w=.ok (.tuple #[.agg cs,y]) w:=by
 have hp':tmps[p]?.getD undef=.pointer (some ⟨g,0,none⟩):=by simpa using hp
 have hy':tmps[q]?.getD undef=y:=by simpa using hy
 simp [results,h,hp',hy',asAddr,run_loadVar_row w g t ty cs fr d hg hu hd hi]
theorem idx_any (l:List UInt8) (c:UInt8):decide (0 ≤ Lib.indexByte l c)=l.any (fun x=>x == c):=by
 rw [Bool.eq_iff_iff,decide_eq_true_eq,List.any_eq_true]
 constructor
 · intro h
   obtain ⟨o,ho⟩:∃ o:Nat,Lib.indexByte l c=o:=⟨(Lib.indexByte l c).toNat,by omega⟩
   obtain ⟨h1,-⟩:=Lib.indexByte_some ho
   exact ⟨c,List.mem_of_getElem? h1,by simp⟩
 · rintro ⟨x,hx,hc⟩
   obtain rfl:=beq_iff_eq.1 hc
   by_cases h:0 ≤ Lib.indexByte l x
   · exact h
   · have h1:=Lib.indexByte_ge l x
     obtain ⟨k,hk⟩:=List.mem_iff_getElem?.1 hx
     exact absurd hk (Lib.indexByte_none (by omega) k)
theorem stands_any (cs:List UInt8) (b:Bool) (w0:World) (A:Nat→Addr) (w:World) (R:Nat) (s:ByteArray) (fl:Int) (i g d:Nat) (hR:RdAt w0 A w R s fl i g d) (hb:cs.any (fun c=>c.toNat == bt s i)=b) :
   Calls Tryz.prog 128 #[.pointer (some ⟨R,0,none⟩),.string ⟨cs.toArray⟩] w fun e w'=>e=.returned (.bool b)∧∃ n,w'=w.drewN n:=by
 obtain ⟨c0,c1,c2,-,-⟩:=rd5 hR.cell
 clear hR
 by_cases hi:i < s.size
 · have hd:decide ((i:Int) < s.size)=true:=by simpa using hi
   have hd':decide (i < s.size)=true:=by simpa using hi
   have hx:decide (0 ≤ Lib.indexByte cs s[i])=b:=by
     rw [idx_any,← hb]
     congr 1;funext c
     rw [u8_beq,bt_at hi]
   have hib:=fun w=>Tryz.strings_IndexByte ⟨cs.toArray⟩ (s[i].toNat:Int) w
   rw [show ((s[i].toNat:Int)).toNat.toUInt8=s[i] by simp] at hib
   generalize hN:Lib.indexByte cs s[i]=N at *
   have HI:=Lib.hid hib
   have hi0:(0:Int) ≤ i:=by omega
   have hi1:(i:Int) < s.size:=by omega
   clear hb hN hib
   go_enter Tryz.func128,Tryz.ntmps128
   go_wp2
   go_quiet ((go_at_call 88;exact Calls.quiet_of_same (HI.out _)))
   go_wp2
   go_ret
   exact ⟨rfl,_,rfl⟩
 · have hd:decide ((i:Int) < s.size)=false:=by simpa using hi
   have hd':decide (i < s.size)=false:=by simpa using hi
   have hbf:b=false:=by
     rw [← hb,bt_out (by omega),List.any_eq_false]
     intro c _
     have:=UInt8.toNat_lt c
     simp;omega
   subst hbf
   clear hb hi
   go_enter Tryz.func128,Tryz.ntmps128
   go_wp2
   go_quiet (fail)
   go_wp2
   go_ret
   exact ⟨rfl,_,rfl⟩
theorem fails_any (w0:World) (A:Nat→Addr) (k:Nat) (hk:k < 21) (w:World) (R:Nat) (s:ByteArray) (fl:Int) (i g d:Nat) (hR:RdAt w0 A w R s fl i g d) :
   Calls Tryz.prog 90 #[.pointer (some ⟨R,0,none⟩),.iface 232 (.pointer (some (A k)))] w (NdEnd A R s fl d (.err (k+1) i) w):=by
 have hlt:=hR.lt
 obtain ⟨c0,c1,c2,-,-⟩:=rd5 (hR.later ((Below.refl w.heap.size w).alloc (Nat.le_refl _) (.cells noNode 28))).cell
 have z0:=heap_alloc_new w (.cells noNode 28)
 have Z0:=Lib.hid z0
 clear hR z0
 go_enter Tryz.func90,Tryz.ntmps90
 go_wp2_with fail
 refine (at_err A k hk i _).mono ?_
 rintro e w1 ⟨v,rfl,hv,hb⟩
 have Z1:=Lib.hid (keep_blk hb Z0.out)
 have HB:=Lib.hid (((Below.refl w.heap.size w).alloc (Nat.le_refl _) (.cells noNode 28)).trans (hb.mono (by simp)))
 have HV:=Lib.hid hv
 clear hb hv Z0 c0 c1 c2
 go_wp2_with (first
   | (refine wpList_store_row rfl 28 (.tmp 4) (.tmp 6) rfl w.heap.size noNode rfl rfl 28 _ Z1.out (by kernel_rfl) rfl (by simp [Value.oneCell']) ?_)
   | fail)
 exact bodyPost_ret (results_row_1 rfl _ _ w.heap.size 28 noNode (0,0) _ _ rfl rfl (heap_setRow Z1.out) Tryz.underlying28 rfl (by kernel_rfl)) rfl ⟨⟨v,rfl,(HV.out.setRow (by simp) noNode).down (by simp)⟩,Touch.of_below _ (below_setRow HB.out (Nat.le_refl _) _)⟩
end Go.Proofs.YtfcilopifjddpaaGreatDoor
namespace Go.Proofs.YtfcilopifjddpaaGreatDoor
open Go.RowKit
def cntV:Option Nat→Value
 | some m=>.tuple #[.int .i64 m,.bool true]
 | none=>.tuple #[.int .i64 0,.bool false]
theorem toList_len (s:ByteArray):s.toList.length=s.size:=by rw [toList_eq];simp
theorem empty_yes {s:ByteArray} (h:s.size=0):s.toList=[]∧(!s.toList.isEmpty)=false:=by
 have:s.toList=[]:=List.eq_nil_of_length_eq_zero (by rw [toList_len];exact h)
 rw [this];exact ⟨rfl,rfl⟩
theorem empty_no {s:ByteArray} (h:0 < s.size):s.toList.isEmpty=false:=by
 cases hl:s.toList with
 | nil=>have:=toList_len s;rw [hl] at this;simp at this;omega
 | cons a r=>rfl
def few (k a:Nat):Prop:=(k=0∧a=0) ∨ (k=1∧a ≤ 9) ∨ (k=2∧a ≤ 99) ∨ (k=3∧a ≤ 999)
theorem erecount_any (t:ByteArray) (O:Option Nat) (hO:Ep.num (bt t) 0 t.size=O) (w:World) :
   Calls Tryz.prog 179 #[.string t] w fun e w'=>e=.returned (cntV O)∧w=w':=by
 unfold Ep.num at hO
 by_cases h0:t.size=0
 · rw [if_pos (by omega)] at hO
   subst hO
   obtain ⟨e1,e2⟩:=empty_yes h0
   clear h0
   go_enter Tryz.func179,Tryz.ntmps179
   go_wp2
   go_ret2
   exact ⟨rfl,rfl⟩
 · have e1:=empty_no (s:=t) (by omega)
   by_cases h3:3 < t.size
   · rw [if_pos (by omega)] at hO
     subst hO
     have d3:decide ((3:Int) < t.size)=true:=by simp;omega
     have d3':decide (3 < t.size)=true:=by simp;omega
     clear h0 h3
     go_enter Tryz.func179,Tryz.ntmps179
     go_wp2
     go_ret2
     exact ⟨rfl,rfl⟩
   · rw [if_neg (by omega)] at hO
     have hsz:t.size ≤ 3:=by omega
     have d3:decide ((3:Int) < t.size)=false:=by simp;omega
     have d3':decide (3 < t.size)=false:=by simp;omega
     generalize hD:Ep.digs (bt t) (t.size - 0) 0 0=D at *
     have HO:=Lib.hid hO;have HD:=Lib.hid hD
     clear hO hD h3 h0
     go_enter Tryz.func179,Tryz.ntmps179
     go_wp2
     clear e1 d3 d3'
     go_loop [4,15] (fun nv iv=>∃ k a:Nat,iv=.int .i64 k∧nv=.int .i64 a∧k ≤ t.size∧Hid (few k a)∧Hid (Ep.digs (bt t) (t.size - k) k a=D)) (fun _ iv=>t.size - (intOf iv).toNat)
     case atStart=>exact ⟨0,0,rfl,rfl,Nat.zero_le _,Lib.hid (.inl ⟨rfl,rfl⟩),HD⟩
     case round =>
       obtain ⟨k,a,rfl,rfl,hk,HF,HD2⟩:=hrel
       have hk3:k ≤ 3:=by omega
       have hfew:=HF.out
       unfold few at hfew
       have ha:a ≤ 999:=by omega
       by_cases hlt:k < t.size
       · have wm:IntKind.i64.wrap ((k:Int)+1)=(k:Int)+1:=IntWalk.i64_in _ (by omega)
         have w10:IntKind.i64.wrap (10 * (a:Int))=10 * (a:Int):=IntWalk.i64_in _ (by omega)
         have hd2:=HD2.out
         rw [show t.size - k=t.size - (k+1)+1 by omega,Ep.digs] at hd2
         have hbt:=bt_at hlt
         have hx:=UInt8.toNat_lt t[k]
         by_cases hdig:48 ≤ bt t k∧bt t k ≤ 57
         · rw [if_pos hdig,← hbt] at hd2
           rw [← hbt] at hdig
           have g1:decide ((t[k].toNat:Int) < 48)=false:=by simp;omega
           have g2:decide ((57:Int) < t[k].toNat)=false:=by simp;omega
           have g1':decide (t[k].toNat < 48)=false:=by simp;omega
           have g2':decide (57 < t[k].toNat)=false:=by simp;omega
           generalize hc:t[k].toNat=c at *
           have w48:IntKind.u8.wrap ((c:Int) - 48)=(c:Int) - 48:=by rw [IntKind.wrap_u8];omega
           have w49:IntKind.i64.wrap ((c:Int) - 48)=(c:Int) - 48:=IntWalk.i64_in _ (by omega)
           have wsum:IntKind.i64.wrap (10 * (a:Int)+((c:Int) - 48))=10 * (a:Int)+((c:Int) - 48):=IntWalk.i64_in _ (by omega)
           have HD3:=Lib.hid hd2
           have HC:=Lib.hid hdig;have HCC:=Lib.hid hc;have HBT:=Lib.hid hbt
           have HF2:=Lib.hid hfew
           clear hd2 hdig hbt hfew
           go_wp2
           have hdg:=HC.out
           have hfw:=HF2.out
           refine ⟨⟨k+1,10 * a+(c - 48),by go_num,by congr 1;omega,by omega,Lib.hid (by unfold few;omega),HD3⟩,by simp [intOf];omega⟩
         · rw [if_neg hdig] at hd2
           subst hd2
           rw [← hbt] at hdig
           have HO2:Hid (O=none):=Lib.hid HO.out.symm
           by_cases hlow:t[k].toNat < 48
           · have g1:decide ((t[k].toNat:Int) < 48)=true:=by simp;omega
             have g1':decide (t[k].toNat < 48)=true:=by simp;omega
             clear hdig hlow hbt hfew HD HD2
             go_wp2
             go_ret2
             exact ⟨by rw [HO2.out];rfl,rfl⟩
           · have g1:decide ((t[k].toNat:Int) < 48)=false:=by simp;omega
             have g1':decide (t[k].toNat < 48)=false:=by simp;omega
             have g2:decide ((57:Int) < t[k].toNat)=true:=by simp;omega
             have g2':decide (57 < t[k].toNat)=true:=by simp;omega
             clear hdig hlow hbt hfew HD HD2
             go_wp2
             go_ret2
             exact ⟨by rw [HO2.out];rfl,rfl⟩
       · obtain rfl:k=t.size:=by omega
         have hd2:=HD2.out
         rw [Nat.sub_self,Ep.digs] at hd2
         subst hd2
         have hO:=HO.out
         simp only at hO
         by_cases h255:a ≤ 255
         · rw [if_pos h255] at hO
           have HO2:=Lib.hid hO
           have g1:decide ((255:Int) < a)=false:=by simp;omega
           have g1':decide (255 < a)=false:=by simp;omega
           clear hO HO h255 HD HD2 hfew
           go_wp2
           go_ret2
           exact ⟨by rw [← HO2.out];rfl,rfl⟩
         · rw [if_neg h255] at hO
           have HO2:=Lib.hid hO
           have g1:decide ((255:Int) < a)=true:=by simp;omega
           have g1':decide (255 < a)=true:=by simp;omega
           clear hO HO h255 HD HD2 hfew
           go_wp2
           go_ret2
           exact ⟨by rw [← HO2.out];rfl,rfl⟩
end Go.Proofs.YtfcilopifjddpaaGreatDoor
namespace Go.Proofs.YtfcilopifjddpaaGreatDoor
open Go.RowKit
theorem bt_mid (s:ByteArray) (a b i:Nat) (hb:b ≤ s.size) (hi:i < b - a):bt (s.extract a b) i=bt s (a+i):=by
 have hz:(s.extract a b).size=b - a:=by simp;omega
 have h1:i < (s.extract a b).size:=by omega
 have h2:a+i < s.size:=by omega
 rw [← bt_at h1,← bt_at h2,ByteArray.getElem_extract]
theorem digs_mid (s:ByteArray) (a b:Nat) (hb:b ≤ s.size):∀ k i x,i+k ≤ b - a→Ep.digs (bt (s.extract a b)) k i x=Ep.digs (bt s) k (a+i) x
 | 0,_,_,_=>rfl
 | k+1,i,x,h=>by
   rw [Ep.digs,Ep.digs,bt_mid s a b i hb (by omega),digs_mid s a b hb k (i+1) _ (by omega),show a+i+1=a+(i+1) by omega]
theorem num_mid (s:ByteArray) (a b:Nat) (hab:a ≤ b) (hb:b ≤ s.size):Ep.num (bt (s.extract a b)) 0 (s.extract a b).size=Ep.num (bt s) a b:=by
 have hz:(s.extract a b).size=b - a:=by simp;omega
 unfold Ep.num
 rw [hz,Nat.sub_zero,digs_mid s a b hb (b - a) 0 0 (by omega),Nat.add_zero]
 by_cases h:b ≤ a ∨ a+3 < b
 · rw [if_pos h,if_pos (by omega)]
 · rw [if_neg h,if_neg (by omega)];rfl
theorem find_mid (s:ByteArray) (a b c:Nat) (hb:b ≤ s.size):∀ k i,i+k ≤ b - a→Ep.find (bt (s.extract a b)) c k i=(Ep.find (bt s) c k (a+i)).map (· - a)
 | 0,_,_=>rfl
 | k+1,i,h=>by
   rw [Ep.find,Ep.find,bt_mid s a b i hb (by omega),find_mid s a b c hb k (i+1) (by omega),show a+i+1=a+(i+1) by omega]
   split
   · simp
   · rfl
theorem occ_one (t:ByteArray) (c:UInt8) (j:Nat):Lib.occAt t.data.toList [c] j=(bt t j == c.toNat):=by
 unfold Lib.occAt
 rw [one_prefix,bt_list,List.getElem?_drop];rfl
theorem cut1_none {A:Nat→Addr} (t:ByteArray) (ht:t.size ≤ 4294967280) (c:UInt8) (hc:Ep.find (bt t) c.toNat t.size 0=none) (w:World) (hE:BrEnv w A) :
   Calls Tryz.prog 157 #[.string t,.string ⟨#[c]⟩] w fun e w'=>e=.returned (.tuple #[.string t,.string ByteArray.empty,.bool false])∧∃ n,w'=w.drewN n:=by
 obtain ⟨m,hm⟩:=hE.idx
 have h:=Tryz.strings_Cut t ⟨#[c]⟩ m w (by omega) hm
 have hi:Lib.indexB t ⟨#[c]⟩ = -1:=Lib.index_none fun j hj=>by
   show Lib.occAt t.data.toList [c] j=false
   rw [occ_one]
   by_cases hl:j < t.size
   · have:=Ep.find_none hc j (by omega) (by omega)
     simpa using this
   · rw [bt_out (by omega)];have:=UInt8.toNat_lt c;simp;omega
 obtain ⟨e1,e2,e3⟩:=Lib.cutB_miss _ _ hi
 rw [e1,e2,e3] at h;exact h
theorem cut1_some {A:Nat→Addr} (t:ByteArray) (ht:t.size ≤ 4294967280) (c:UInt8) (k:Nat) (hc:Ep.find (bt t) c.toNat t.size 0=some k) (w:World) (hE:BrEnv w A) :
   Calls Tryz.prog 157 #[.string t,.string ⟨#[c]⟩] w fun e w'=>e=.returned (.tuple #[.string (t.extract 0 k),.string (t.extract (k+1) t.size),.bool true])∧∃ n,w'=w.drewN n:=by
 obtain ⟨m,hm⟩:=hE.idx
 have h:=Tryz.strings_Cut t ⟨#[c]⟩ m w (by omega) hm
 obtain ⟨h1,h2,h3,h4⟩:=Ep.find_some hc
 have hi:Lib.indexB t ⟨#[c]⟩=(k:Int):=Lib.index_first (by simp;show k ≤ t.size;omega) (by show Lib.occAt t.data.toList [c] k=true;rw [occ_one,h3];simp) (fun j hj=>by
   show Lib.occAt t.data.toList [c] j=false
   rw [occ_one]
   have:=h4 j (by omega) hj
   simpa using this)
 obtain ⟨e1,e2,e3⟩:=Lib.cutB_hit _ _ k hi
 rw [e1,e2,e3] at h;exact h
def cntsV:Option (Int × Int)→Value
 | some (a,b)=>.tuple #[.agg #[.int .i64 a,.int .i64 b],.bool true]
 | none=>.tuple #[.agg #[.int .i64 0,.int .i64 0],.bool false]
theorem two_one {a b:Int} : (#[.int .i64 a,.int .i64 b]:Array Value).all (·.oneCell')=true:=by simp [Value.oneCell']
theorem counts_one_no (A:Nat→Addr) (t:ByteArray) (ht:t.size ≤ 4294967280) (hf:Ep.find (bt t) 44 t.size 0=none) (hn:Ep.num (bt t) 0 t.size=none) (w:World) (hE:BrEnv w A) :
   Calls Tryz.prog 158 #[.string t] w fun e w'=>e=.returned (cntsV none)∧Below w.heap.size w w':=by
 have HCUT:=Lib.hid (fun w hE=>cut1_none (A:=A) t ht 44 hf w hE)
 have HNA:=Lib.hid (fun w=>erecount_any t _ hn w)
 clear hf hn
 have z0:=heap_alloc_new w (.cells #[.int .i64 0,.int .i64 0] 163)
 have hb0:Below w.heap.size w (w.alloc (.cells #[.int .i64 0,.int .i64 0] 163)):=(Below.refl _ _).alloc (Nat.le_refl _) _
 have Z0:=Lib.hid z0;have HB0:=Lib.hid hb0;have HE:=Lib.hid hE
 clear z0 hb0 hE
 go_enter Tryz.func158,Tryz.ntmps158
 go_wp2_with fail
 refine (HCUT.out _ (HE.out.below HB0.out)).mono ?_
 rintro e w1 ⟨rfl,n,rfl⟩
 have Z:Hid (((w.alloc (.cells #[.int .i64 0,.int .i64 0] 163)).drewN n).heap[w.heap.size]? = some (.cells #[.int .i64 0,.int .i64 0] 163)):=Lib.hid Z0.out
 have HB:=Lib.hid (drewN_below HB0.out n)
 clear Z0 HB0
 generalize World.drewN _ _=W at *
 go_wp2_with fail
 refine (HNA.out _).mono ?_
 rintro e w2 ⟨rfl,rfl⟩
 unfold cntV
 go_wp2_with (first
   | (refine wpList_store_row rfl 163 (.tmp 2) (.tmp 23) rfl w.heap.size #[.int .i64 0,.int .i64 0] rfl rfl 163 _ Z.out (by kernel_rfl) rfl two_one ?_)
   | fail)
 exact bodyPost_ret (results_row_1 rfl _ _ w.heap.size 163 #[.int .i64 0,.int .i64 0] (0,0) _ _ rfl rfl (heap_setRow Z.out) Tryz.underlying163 rfl (by kernel_rfl)) rfl ⟨by first | rfl | (rw [← HC.out];rfl),below_setRow HB.out (Nat.le_refl _) _⟩
theorem counts_one (A:Nat→Addr) (t:ByteArray) (ht:t.size ≤ 4294967280) (hf:Ep.find (bt t) 44 t.size 0=none) (m:Nat) (hn:Ep.num (bt t) 0 t.size=some m) (w:World) (hE:BrEnv w A) :
   Calls Tryz.prog 158 #[.string t] w fun e w'=>e=.returned (cntsV (some (m,m)))∧Below w.heap.size w w':=by
 have HCUT:=Lib.hid (fun w hE=>cut1_none (A:=A) t ht 44 hf w hE)
 have HNA:=Lib.hid (fun w=>erecount_any t _ hn w)
 clear hf hn
 have z0:=heap_alloc_new w (.cells #[.int .i64 0,.int .i64 0] 163)
 have hb0:Below w.heap.size w (w.alloc (.cells #[.int .i64 0,.int .i64 0] 163)):=(Below.refl _ _).alloc (Nat.le_refl _) _
 have Z0:=Lib.hid z0;have HB0:=Lib.hid hb0;have HE:=Lib.hid hE
 clear z0 hb0 hE
 go_enter Tryz.func158,Tryz.ntmps158
 go_wp2_with fail
 refine (HCUT.out _ (HE.out.below HB0.out)).mono ?_
 rintro e w1 ⟨rfl,n,rfl⟩
 have Z:Hid (((w.alloc (.cells #[.int .i64 0,.int .i64 0] 163)).drewN n).heap[w.heap.size]? = some (.cells #[.int .i64 0,.int .i64 0] 163)):=Lib.hid Z0.out
 have HB:=Lib.hid (drewN_below HB0.out n)
 clear Z0 HB0
 generalize World.drewN _ _=W at *
 go_wp2_with fail
 refine (HNA.out _).mono ?_
 rintro e w2 ⟨rfl,rfl⟩
 unfold cntV
 go_wp2_with (first
   | (refine wpList_store_row rfl 163 (.tmp 2) (.tmp 28) rfl w.heap.size #[.int .i64 m,.int .i64 m] rfl rfl 163 _ Z.out (by kernel_rfl) rfl two_one ?_)
   | fail)
 exact bodyPost_ret (results_row_1 rfl _ _ w.heap.size 163 #[.int .i64 m,.int .i64 m] (0,0) _ _ rfl rfl (heap_setRow Z.out) Tryz.underlying163 rfl (by kernel_rfl)) rfl ⟨by first | rfl | (rw [← HC.out];rfl),below_setRow HB.out (Nat.le_refl _) _⟩
theorem counts_two_no (A:Nat→Addr) (t:ByteArray) (ht:t.size ≤ 4294967280) (k:Nat) (hf:Ep.find (bt t) 44 t.size 0=some k) (hn:Ep.num (bt t) 0 k=none) (w:World) (hE:BrEnv w A) :
   Calls Tryz.prog 158 #[.string t] w fun e w'=>e=.returned (cntsV none)∧Below w.heap.size w w':=by
 have hk:=(Ep.find_some hf).2.1
 have HCUT:=Lib.hid (fun w hE=>cut1_some (A:=A) t ht 44 k hf w hE)
 have HNA:=Lib.hid (fun w=>erecount_any (t.extract 0 k) _ ((num_mid t 0 k (by omega) (by omega)).trans hn) w)
 clear hf hn
 generalize t.extract 0 k=ta at *
 generalize t.extract (k+1) t.size=tb at *
 have z0:=heap_alloc_new w (.cells #[.int .i64 0,.int .i64 0] 163)
 have hb0:Below w.heap.size w (w.alloc (.cells #[.int .i64 0,.int .i64 0] 163)):=(Below.refl _ _).alloc (Nat.le_refl _) _
 have Z0:=Lib.hid z0;have HB0:=Lib.hid hb0;have HE:=Lib.hid hE
 clear z0 hb0 hE
 go_enter Tryz.func158,Tryz.ntmps158
 go_wp2_with fail
 refine (HCUT.out _ (HE.out.below HB0.out)).mono ?_
 rintro e w1 ⟨rfl,n,rfl⟩
 have Z:Hid (((w.alloc (.cells #[.int .i64 0,.int .i64 0] 163)).drewN n).heap[w.heap.size]? = some (.cells #[.int .i64 0,.int .i64 0] 163)):=Lib.hid Z0.out
 have HB:=Lib.hid (drewN_below HB0.out n)
 clear Z0 HB0
 generalize World.drewN _ _=W at *
 go_wp2_with fail
 refine (HNA.out _).mono ?_
 rintro e w2 ⟨rfl,rfl⟩
 unfold cntV
 go_wp2_with (first
   | (refine wpList_store_row rfl 163 (.tmp 2) (.tmp 23) rfl w.heap.size #[.int .i64 0,.int .i64 0] rfl rfl 163 _ Z.out (by kernel_rfl) rfl two_one ?_)
   | fail)
 exact bodyPost_ret (results_row_1 rfl _ _ w.heap.size 163 #[.int .i64 0,.int .i64 0] (0,0) _ _ rfl rfl (heap_setRow Z.out) Tryz.underlying163 rfl (by kernel_rfl)) rfl ⟨by first | rfl | (rw [← HC.out];rfl),below_setRow HB.out (Nat.le_refl _) _⟩
theorem counts_two_end (A:Nat→Addr) (t:ByteArray) (ht:t.size ≤ 4294967280) (k:Nat) (hf:Ep.find (bt t) 44 t.size 0=some k) (m:Nat) (hn:Ep.num (bt t) 0 k=some m) (he:k+1=t.size) (w:World) (hE:BrEnv w A) :
   Calls Tryz.prog 158 #[.string t] w fun e w'=>e=.returned (cntsV (some (m,-1)))∧Below w.heap.size w w':=by
 have hk:=(Ep.find_some hf).2.1
 have HCUT:=Lib.hid (fun w hE=>cut1_some (A:=A) t ht 44 k hf w hE)
 have HNA:=Lib.hid (fun w=>erecount_any (t.extract 0 k) _ ((num_mid t 0 k (by omega) (by omega)).trans hn) w)
 obtain ⟨e1,e2⟩:=empty_yes (s:=t.extract (k+1) t.size) (by simp;omega)
 clear hf hn
 clear he
 generalize t.extract 0 k=ta at *
 generalize t.extract (k+1) t.size=tb at *
 have z0:=heap_alloc_new w (.cells #[.int .i64 0,.int .i64 0] 163)
 have hb0:Below w.heap.size w (w.alloc (.cells #[.int .i64 0,.int .i64 0] 163)):=(Below.refl _ _).alloc (Nat.le_refl _) _
 have Z0:=Lib.hid z0;have HB0:=Lib.hid hb0;have HE:=Lib.hid hE
 clear z0 hb0 hE
 go_enter Tryz.func158,Tryz.ntmps158
 go_wp2_with fail
 refine (HCUT.out _ (HE.out.below HB0.out)).mono ?_
 rintro e w1 ⟨rfl,n,rfl⟩
 have Z:Hid (((w.alloc (.cells #[.int .i64 0,.int .i64 0] 163)).drewN n).heap[w.heap.size]? = some (.cells #[.int .i64 0,.int .i64 0] 163)):=Lib.hid Z0.out
 have HB:=Lib.hid (drewN_below HB0.out n)
 clear Z0 HB0
 generalize World.drewN _ _=W at *
 go_wp2_with fail
 refine (HNA.out _).mono ?_
 rintro e w2 ⟨rfl,rfl⟩
 unfold cntV
 go_wp2_with (first
   | (refine wpList_store_row rfl 163 (.tmp 2) (.tmp 32) rfl w.heap.size #[.int .i64 m,.int .i64 (-1)] rfl rfl 163 _ Z.out (by kernel_rfl) rfl two_one ?_)
   | fail)
 exact bodyPost_ret (results_row_1 rfl _ _ w.heap.size 163 #[.int .i64 m,.int .i64 (-1)] (0,0) _ _ rfl rfl (heap_setRow Z.out) Tryz.underlying163 rfl (by kernel_rfl)) rfl ⟨by first | rfl | (rw [← HC.out];rfl),below_setRow HB.out (Nat.le_refl _) _⟩
theorem counts_two_bad (A:Nat→Addr) (t:ByteArray) (ht:t.size ≤ 4294967280) (k:Nat) (hf:Ep.find (bt t) 44 t.size 0=some k) (m:Nat) (hn:Ep.num (bt t) 0 k=some m) (he:k+1 < t.size) (hn2:Ep.num (bt t) (k+1) t.size=none) (w:World) (hE:BrEnv w A) :
   Calls Tryz.prog 158 #[.string t] w fun e w'=>e=.returned (cntsV none)∧Below w.heap.size w w':=by
 have hk:=(Ep.find_some hf).2.1
 have HCUT:=Lib.hid (fun w hE=>cut1_some (A:=A) t ht 44 k hf w hE)
 have HNA:=Lib.hid (fun w=>erecount_any (t.extract 0 k) _ ((num_mid t 0 k (by omega) (by omega)).trans hn) w)
 have HNB:=Lib.hid (fun w=>erecount_any (t.extract (k+1) t.size) _ ((num_mid t (k+1) t.size (by omega) (Nat.le_refl _)).trans hn2) w)
 have e1:=empty_no (s:=t.extract (k+1) t.size) (by simp;omega)
 clear hn2
 clear hf hn
 clear he
 generalize t.extract 0 k=ta at *
 generalize t.extract (k+1) t.size=tb at *
 have z0:=heap_alloc_new w (.cells #[.int .i64 0,.int .i64 0] 163)
 have hb0:Below w.heap.size w (w.alloc (.cells #[.int .i64 0,.int .i64 0] 163)):=(Below.refl _ _).alloc (Nat.le_refl _) _
 have Z0:=Lib.hid z0;have HB0:=Lib.hid hb0;have HE:=Lib.hid hE
 clear z0 hb0 hE
 go_enter Tryz.func158,Tryz.ntmps158
 go_wp2_with fail
 refine (HCUT.out _ (HE.out.below HB0.out)).mono ?_
 rintro e w1 ⟨rfl,n,rfl⟩
 have Z:Hid (((w.alloc (.cells #[.int .i64 0,.int .i64 0] 163)).drewN n).heap[w.heap.size]? = some (.cells #[.int .i64 0,.int .i64 0] 163)):=Lib.hid Z0.out
 have HB:=Lib.hid (drewN_below HB0.out n)
 clear Z0 HB0
 generalize World.drewN _ _=W at *
 go_wp2_with fail
 refine (HNA.out _).mono ?_
 rintro e w2 ⟨rfl,rfl⟩
 unfold cntV
 go_wp2_with fail
 refine (HNB.out _).mono ?_
 rintro e w2 ⟨rfl,rfl⟩
 unfold cntV
 go_wp2_with (first
   | (refine wpList_store_row rfl 163 (.tmp 2) (.tmp 45) rfl w.heap.size #[.int .i64 0,.int .i64 0] rfl rfl 163 _ Z.out (by kernel_rfl) rfl two_one ?_)
   | fail)
 exact bodyPost_ret (results_row_1 rfl _ _ w.heap.size 163 #[.int .i64 0,.int .i64 0] (0,0) _ _ rfl rfl (heap_setRow Z.out) Tryz.underlying163 rfl (by kernel_rfl)) rfl ⟨by first | rfl | (rw [← HC.out];rfl),below_setRow HB.out (Nat.le_refl _) _⟩
theorem counts_two_less (A:Nat→Addr) (t:ByteArray) (ht:t.size ≤ 4294967280) (k:Nat) (hf:Ep.find (bt t) 44 t.size 0=some k) (m:Nat) (hn:Ep.num (bt t) 0 k=some m) (he:k+1 < t.size) (x:Nat) (hn2:Ep.num (bt t) (k+1) t.size=some x) (hl:x < m) (w:World) (hE:BrEnv w A) :
   Calls Tryz.prog 158 #[.string t] w fun e w'=>e=.returned (cntsV none)∧Below w.heap.size w w':=by
 have hk:=(Ep.find_some hf).2.1
 have HCUT:=Lib.hid (fun w hE=>cut1_some (A:=A) t ht 44 k hf w hE)
 have HNA:=Lib.hid (fun w=>erecount_any (t.extract 0 k) _ ((num_mid t 0 k (by omega) (by omega)).trans hn) w)
 have HNB:=Lib.hid (fun w=>erecount_any (t.extract (k+1) t.size) _ ((num_mid t (k+1) t.size (by omega) (Nat.le_refl _)).trans hn2) w)
 have e1:=empty_no (s:=t.extract (k+1) t.size) (by simp;omega)
 clear hn2
 have g1:decide ((x:Int) < m)=true:=by simp;omega
 have g1':decide (x < m)=true:=by simp;omega
 clear hf hn
 clear he
 clear hl
 generalize t.extract 0 k=ta at *
 generalize t.extract (k+1) t.size=tb at *
 have z0:=heap_alloc_new w (.cells #[.int .i64 0,.int .i64 0] 163)
 have hb0:Below w.heap.size w (w.alloc (.cells #[.int .i64 0,.int .i64 0] 163)):=(Below.refl _ _).alloc (Nat.le_refl _) _
 have Z0:=Lib.hid z0;have HB0:=Lib.hid hb0;have HE:=Lib.hid hE
 clear z0 hb0 hE
 go_enter Tryz.func158,Tryz.ntmps158
 go_wp2_with fail
 refine (HCUT.out _ (HE.out.below HB0.out)).mono ?_
 rintro e w1 ⟨rfl,n,rfl⟩
 have Z:Hid (((w.alloc (.cells #[.int .i64 0,.int .i64 0] 163)).drewN n).heap[w.heap.size]? = some (.cells #[.int .i64 0,.int .i64 0] 163)):=Lib.hid Z0.out
 have HB:=Lib.hid (drewN_below HB0.out n)
 clear Z0 HB0
 generalize World.drewN _ _=W at *
 go_wp2_with fail
 refine (HNA.out _).mono ?_
 rintro e w2 ⟨rfl,rfl⟩
 unfold cntV
 go_wp2_with fail
 refine (HNB.out _).mono ?_
 rintro e w2 ⟨rfl,rfl⟩
 unfold cntV
 go_wp2_with (first
   | (refine wpList_store_row rfl 163 (.tmp 2) (.tmp 45) rfl w.heap.size #[.int .i64 0,.int .i64 0] rfl rfl 163 _ Z.out (by kernel_rfl) rfl two_one ?_)
   | fail)
 exact bodyPost_ret (results_row_1 rfl _ _ w.heap.size 163 #[.int .i64 0,.int .i64 0] (0,0) _ _ rfl rfl (heap_setRow Z.out) Tryz.underlying163 rfl (by kernel_rfl)) rfl ⟨by first | rfl | (rw [← HC.out];rfl),below_setRow HB.out (Nat.le_refl _) _⟩
theorem counts_two (A:Nat→Addr) (t:ByteArray) (ht:t.size ≤ 4294967280) (k:Nat) (hf:Ep.find (bt t) 44 t.size 0=some k) (m:Nat) (hn:Ep.num (bt t) 0 k=some m) (he:k+1 < t.size) (x:Nat) (hn2:Ep.num (bt t) (k+1) t.size=some x) (hl:m ≤ x) (w:World) (hE:BrEnv w A) :
   Calls Tryz.prog 158 #[.string t] w fun e w'=>e=.returned (cntsV (some (m,x)))∧Below w.heap.size w w':=by
 have hk:=(Ep.find_some hf).2.1
 have HCUT:=Lib.hid (fun w hE=>cut1_some (A:=A) t ht 44 k hf w hE)
 have HNA:=Lib.hid (fun w=>erecount_any (t.extract 0 k) _ ((num_mid t 0 k (by omega) (by omega)).trans hn) w)
 have HNB:=Lib.hid (fun w=>erecount_any (t.extract (k+1) t.size) _ ((num_mid t (k+1) t.size (by omega) (Nat.le_refl _)).trans hn2) w)
 have e1:=empty_no (s:=t.extract (k+1) t.size) (by simp;omega)
 clear hn2
 have g1:decide ((x:Int) < m)=false:=by simp;omega
 have g1':decide (x < m)=false:=by simp;omega
 clear hf hn
 clear he
 clear hl
 generalize t.extract 0 k=ta at *
 generalize t.extract (k+1) t.size=tb at *
 have z0:=heap_alloc_new w (.cells #[.int .i64 0,.int .i64 0] 163)
 have hb0:Below w.heap.size w (w.alloc (.cells #[.int .i64 0,.int .i64 0] 163)):=(Below.refl _ _).alloc (Nat.le_refl _) _
 have Z0:=Lib.hid z0;have HB0:=Lib.hid hb0;have HE:=Lib.hid hE
 clear z0 hb0 hE
 go_enter Tryz.func158,Tryz.ntmps158
 go_wp2_with fail
 refine (HCUT.out _ (HE.out.below HB0.out)).mono ?_
 rintro e w1 ⟨rfl,n,rfl⟩
 have Z:Hid (((w.alloc (.cells #[.int .i64 0,.int .i64 0] 163)).drewN n).heap[w.heap.size]? = some (.cells #[.int .i64 0,.int .i64 0] 163)):=Lib.hid Z0.out
 have HB:=Lib.hid (drewN_below HB0.out n)
 clear Z0 HB0
 generalize World.drewN _ _=W at *
 go_wp2_with fail
 refine (HNA.out _).mono ?_
 rintro e w2 ⟨rfl,rfl⟩
 unfold cntV
 go_wp2_with fail
 refine (HNB.out _).mono ?_
 rintro e w2 ⟨rfl,rfl⟩
 unfold cntV
 go_wp2_with (first
   | (refine wpList_store_row rfl 163 (.tmp 2) (.tmp 48) rfl w.heap.size #[.int .i64 m,.int .i64 x] rfl rfl 163 _ Z.out (by kernel_rfl) rfl two_one ?_)
   | fail)
 exact bodyPost_ret (results_row_1 rfl _ _ w.heap.size 163 #[.int .i64 m,.int .i64 x] (0,0) _ _ rfl rfl (heap_setRow Z.out) Tryz.underlying163 rfl (by kernel_rfl)) rfl ⟨by first | rfl | (rw [← HC.out];rfl),below_setRow HB.out (Nat.le_refl _) _⟩
theorem erecounts_any (A:Nat→Addr) (t:ByteArray) (ht:t.size ≤ 4294967280) (O:Option (Int × Int)) (hO:Ep.counts (bt t) 0 t.size=O) (w:World) (hE:BrEnv w A) :
   Calls Tryz.prog 158 #[.string t] w fun e w'=>e=.returned (cntsV O)∧Below w.heap.size w w':=by
 unfold Ep.counts at hO
 rw [Nat.sub_zero] at hO
 cases hf:Ep.find (bt t) 44 t.size 0 with
 | none =>
   rw [hf] at hO
   cases hn:Ep.num (bt t) 0 t.size with
   | none=>rw [hn] at hO;subst hO;exact counts_one_no A t ht hf hn w hE
   | some m=>rw [hn] at hO;subst hO;exact counts_one A t ht hf m hn w hE
 | some k =>
   have hk:=(Ep.find_some hf).2.1
   rw [hf] at hO
   cases hn:Ep.num (bt t) 0 k with
   | none=>simp only [hn] at hO;subst hO;exact counts_two_no A t ht k hf hn w hE
   | some m =>
     simp only [hn] at hO
     by_cases he:k+1=t.size
     · rw [if_pos he] at hO;subst hO;exact counts_two_end A t ht k hf m hn he w hE
     · rw [if_neg he] at hO
       cases hn2:Ep.num (bt t) (k+1) t.size with
       | none=>simp only [hn2] at hO;subst hO;exact counts_two_bad A t ht k hf m hn (by omega) hn2 w hE
       | some x =>
         simp only [hn2] at hO
         by_cases hl:m ≤ x
         · rw [if_pos hl] at hO;subst hO;exact counts_two A t ht k hf m hn (by omega) x hn2 hl w hE
         · rw [if_neg hl] at hO;subst hO;exact counts_two_less A t ht k hf m hn (by omega) x hn2 (by omega) w hE
end Go.Proofs.YtfcilopifjddpaaGreatDoor
namespace Go.Proofs.YtfcilopifjddpaaGreatDoor
open Go.RowKit
def TmEnd (A:Nat→Addr) (R:Nat) (s:ByteArray) (fl:Int) (i g d:Nat) (O:Option (Int × Int × Nat)) (c:Nat) (w:World) (e:Ending) (w':World):Prop :=
 (match O with
 | some (a,b,j)=>e=.returned (.tuple #[.agg #[.int .i64 a,.int .i64 b],.nilIface])∧w'.heap[R]? = some (.cells (rdC s fl j g d) 85)
 | none=>∃ v,e=.returned (.tuple #[.agg #[.int .i64 0,.int .i64 0],v])∧ErrOne A w.heap.size w' v c i)∧Touch [R] w w'
theorem TmEnd.ok {A:Nat→Addr} {R:Nat} {s:ByteArray} {fl:Int} {i g d c:Nat} {O:Option (Int × Int × Nat)} {w:World} {e:Ending} {w':World} (h:TmEnd A R s fl i g d O c w e w') {a b:Int} {j:Nat} (hO:O=some (a,b,j)) :
   e=.returned (.tuple #[.agg #[.int .i64 a,.int .i64 b],.nilIface])∧w'.heap[R]? = some (.cells (rdC s fl j g d) 85)∧Touch [R] w w':=by subst hO;exact ⟨h.1.1,h.1.2,h.2⟩
theorem TmEnd.err {A:Nat→Addr} {R:Nat} {s:ByteArray} {fl:Int} {i g d c:Nat} {O:Option (Int × Int × Nat)} {w:World} {e:Ending} {w':World} (h:TmEnd A R s fl i g d O c w e w') (hO:O=none) :
   ∃ v,e=.returned (.tuple #[.agg #[.int .i64 0,.int .i64 0],v])∧ErrOne A w.heap.size w' v c i∧Touch [R] w w':=by
 subst hO;obtain ⟨⟨v,h1,h2⟩,h3⟩:=h;exact ⟨v,h1,h2,h3⟩
theorem cell_keep {w w':World} {b o:Nat} {v:Value} (hb:Below w.heap.size w w') (h:w.cell? ⟨b,o,none⟩=some v):w'.cell? ⟨b,o,none⟩=some v:=(hb.cell (p:=⟨b,o,none⟩) (block_lt_of_cell h)).trans h
theorem Touch.setRow_new {F:List Nat} {a w:World} {g:Nat} (h:Touch F a w) (hg:a.heap.size ≤ g) (cs:Array Value):Touch F a (w.setRow g cs) :=
 ⟨h.os,h.tape,h.output,by simpa using h.size,fun k hk hn=>(heap_setRow_other _ _ _ (by omega)).trans (h.block k hk hn)⟩
theorem num_in (s:ByteArray) (a b x y:Nat) (hb:b ≤ s.size) (hy:y ≤ b - a):Ep.num (bt (s.extract a b)) x y=Ep.num (bt s) (a+x) (a+y):=by
 unfold Ep.num
 by_cases h:y ≤ x ∨ x+3 < y
 · rw [if_pos h,if_pos (by omega)]
 · rw [if_neg h,if_neg (by omega),digs_mid s a b hb (y - x) x 0 (by omega),show a+y - (a+x)=y - x by omega]
theorem counts_mid (s:ByteArray) (a b:Nat) (hab:a ≤ b) (hb:b ≤ s.size):Ep.counts (bt (s.extract a b)) 0 (s.extract a b).size=Ep.counts (bt s) a b:=by
 have hz:(s.extract a b).size=b - a:=by simp;omega
 unfold Ep.counts
 rw [hz,Nat.sub_zero,find_mid s a b 44 hb _ _ (by omega),Nat.add_zero]
 cases hf:Ep.find (bt s) 44 (b - a) a with
 | none =>
   simp only [Option.map_none]
   rw [num_in s a b 0 (b - a) hb (by omega),Nat.add_zero,show a+(b - a)=b by omega]
 | some m =>
   obtain ⟨h1,h2,-,-⟩:=Ep.find_some hf
   simp only [Option.map_some]
   rw [num_in s a b 0 (m - a) hb (by omega),Nat.add_zero,show a+(m - a)=m by omega,num_in s a b (m - a+1) (b - a) hb (by omega),show a+(m - a+1)=m+1 by omega,show a+(b - a)=b by omega]
   by_cases he:m+1=b
   · simp only [he,if_true,show m - a+1=b - a by omega]
   · simp only [he,if_false,show ¬ m - a+1=b - a by omega]
theorem braced_open (w0:World) (A:Nat→Addr) (w:World) (R:Nat) (s:ByteArray) (hs:s.size ≤ 4294967280) (fl:Int) (i g d:Nat) (hR:RdAt w0 A w R s fl i g d) (hi:i < s.size) (hf:Ep.find (bt s) 125 (s.size - (i+1)) (i+1)=none) :
   Calls Tryz.prog 210 #[.pointer (some ⟨R,0,none⟩)] w (TmEnd A R s fl i g d none 3 w):=by
 have hlt:=hR.lt
 have HRW:=Lib.hid hR.cell
 have HCE:Hid (w.cell? ⟨2,0,none⟩=some (.iface 232 (.pointer (some (A 2))))):=Lib.hid (hR.now.errs 2 (by omega)).1
 have hz:(s.extract (i+1) s.size).size=s.size - (i+1):=by simp
 have hb0:Below w.heap.size w (w.alloc (.cells #[.int .i64 0,.int .i64 0] 163)):=(Below.refl _ _).alloc (Nat.le_refl _) _
 have hR1:=hR.later hb0
 have hff:Ep.find (bt (s.extract (i+1) s.size)) 125 (s.extract (i+1) s.size).size 0=(Ep.find (bt s) 125 (s.size - (i+1)) (i+1)).map (· - (i+1)):=by
   rw [hz,find_mid s (i+1) s.size 125 (Nat.le_refl _) _ _ (by omega),Nat.add_zero]
 rw [hf] at hff
 have hcut:=fun n=>cut1_none (A:=A) (s.extract (i+1) s.size) (by rw [hz];omega) 125 hff _ (hR1.now.below (drewN_below (Below.refl _ _) n))
 obtain ⟨c0,c1,c2,-,-⟩:=rd5 hR1.cell
 have hw:IntKind.i64.wrap ((i:Int)+1)=(i:Int)+1:=IntWalk.i64_in _ (by omega)
 have h1:(0:Int) ≤ (i:Int)+1:=by omega
 have h2:(i:Int)+1 ≤ s.size:=by omega
 have h3:((i:Int)+1).toNat=i+1:=by omega
 have HCUT:=Lib.hid hcut;have HR1:=Lib.hid hR1
 clear hff hcut hf hR hR1 hz
 go_enter Tryz.func210,Tryz.ntmps210
 go_wp2
 go_quiet ((go_at_call 157;exact Calls.quiet_of (HCUT.out _)))
 have Z0:=Lib.hid (heap_alloc_new w (.cells #[.int .i64 0,.int .i64 0] 163))
 have HR:=Lib.hid (HR1.out.later (drewN_below (Below.refl _ _) nq))
 have HB0:Hid (Below w.heap.size w ((w.alloc (.cells #[.int .i64 0,.int .i64 0] 163)).drewN nq)):=Lib.hid (drewN_below (by go_grown) nq)
 have Z1:Hid (((w.alloc (.cells #[.int .i64 0,.int .i64 0] 163)).drewN nq).heap[w.heap.size]? = some (.cells #[.int .i64 0,.int .i64 0] 163)):=Lib.hid Z0.out
 have hsW:w.heap.size < ((w.alloc (.cells #[.int .i64 0,.int .i64 0] 163)).drewN nq).heap.size:=by simp
 clear c0 c1 c2 HR1 HCUT Z0
 go_wp2
 generalize World.drewN _ _=W at *
 refine Ri.wp_region_frame (by kernel_rfl) (by kernel_rfl) (by kernel_rfl) (by kernel_rfl)
   (fun L v w'=>Below w.heap.size w w'∧W.heap.size ≤ w'.heap.size∧(L 7=true→w'.heap[w.heap.size]? = some (.cells #[.int .i64 0,.int .i64 0] 163))∧(L 7=false→w'.heap[w.heap.size]? = some (.cells #[.int .i64 0,.int .i64 0] 163))∧(L 0=true→v 0=.agg #[.int .i64 0,.int .i64 0])∧(L 1=true→v 1=.pointer (some ⟨R,0,none⟩))∧(L 2=true→v 2=.pointer (some ⟨R,0,none⟩))∧(L 3=true→v 3=.pointer (some ⟨R,2,none⟩))∧(L 4=true→v 4=.int .i64 i)∧(L 5=true→v 5=.iface 232 (.pointer (some (A 2))))∧(L 6=true→ErrOne A W.heap.size w' (v 6) 3 i)∧(L 8=true→ErrOne A W.heap.size w' (v 8) 3 i))
   ?_ ?_ ?_
 · exact ⟨HB0.out.drew,Nat.le_refl _,(by simp),(fun _=>Z1.out),by simp,by simp,by simp,by simp,by simp,by simp,by simp,by simp⟩
 · intro i hi9 L v w9 xa hI hL hd hv ho
   have hi':i=0 ∨ i=1 ∨ i=2 ∨ i=3 ∨ i=4 ∨ i=5 ∨ i=6 ∨ i=7 ∨ i=8:=by simp at hi9;omega
   obtain ⟨hb,hz,qn,qo,q0,q1,q2,q3,q4,q5,q6,q8⟩:=hI
   rcases hi' with rfl | rfl | rfl | rfl | rfl | rfl | rfl | rfl | rfl
   · refine Ri.step_plain rfl rfl (fun K' hK=>?_)
     go_simp
     exact hK _ _ ⟨_,_,rfl,rfl,hb,hz,qn,qo,fun _=>rfl,q1,q2,q3,q4,q5,q6,q8⟩
   · have e0:xa.tmps.getD 0 undef=.pointer (some ⟨R,0,none⟩):=ho 0 (by kernel_rfl)
     refine Ri.step_plain rfl rfl (fun K' hK=>?_)
     go_simp
     exact hK _ _ ⟨_,_,rfl,rfl,hb,hz,qn,qo,q0,fun _=>rfl,q2,q3,q4,q5,q6,q8⟩
   · have l0:L 1=true:=by have:=hd _ rfl;simp [Region.binds] at this;simp [this]
     have f1:=(hv 1 27 rfl l0).trans (q1 l0)
     refine Ri.step_plain rfl rfl (fun K' hK=>?_)
     go_simp
     exact hK _ _ ⟨_,_,rfl,rfl,hb,hz,qn,qo,q0,q1,fun _=>rfl,q3,q4,q5,q6,q8⟩
   · have l0:L 2=true:=by have:=hd _ rfl;simp [Region.binds] at this;simp [this]
     have f2:=(hv 2 28 rfl l0).trans (q2 l0)
     refine Ri.step_plain rfl rfl (fun K' hK=>?_)
     go_simp
     exact hK _ _ ⟨_,_,rfl,rfl,hb,hz,qn,qo,q0,q1,q2,fun _=>rfl,q4,q5,q6,q8⟩
   · have l0:L 3=true:=by have:=hd _ rfl;simp [Region.binds] at this;simp [this]
     have f3:=(hv 3 29 rfl l0).trans (q3 l0)
     refine Ri.step_plain rfl rfl (fun K' hK=>?_)
     obtain ⟨_,_,k2,_,_⟩:=rd5 (keep_blk hb HRW.out)
     go_simp
     exact hK _ _ ⟨_,_,rfl,rfl,hb,hz,qn,qo,q0,q1,q2,q3,fun _=>rfl,q5,q6,q8⟩
   · refine Ri.step_plain rfl rfl (fun K' hK=>?_)
     obtain ⟨k5,_⟩:=And.intro (cell_keep hb HCE.out) trivial
     go_simp
     exact hK _ _ ⟨_,_,rfl,rfl,hb,hz,qn,qo,q0,q1,q2,q3,q4,fun _=>rfl,q6,q8⟩
   · have l0:L 4=true∧L 5=true:=by have:=hd _ rfl;simp [Region.binds] at this;simp [this]
     have f4:=(hv 4 30 rfl l0.1).trans (q4 l0.1)
     have f5:=(hv 5 31 rfl l0.2).trans (q5 l0.2)
     refine Ri.step_plain rfl rfl (fun K' hK=>?_)
     go_simp
     refine (at_err A 2 (by omega) i _).mono ?_
     rintro e w8 ⟨v8,rfl,hv8,hb8⟩
     exact hK _ _ ⟨_,_,rfl,rfl,hb.trans (hb8.mono hb.size),Nat.le_trans hz hb8.size,(fun l=>keep_blk hb8 (qn l)),(fun l=>keep_blk hb8 (qo l)),q0,q1,q2,q3,q4,q5,fun _=>hv8.down hz,fun l=>(q8 l).below hb8⟩
   · have l0:L 0=true:=by have:=hd _ rfl;simp [Region.binds] at this;simp [this]
     have f0:=(hv 0 26 rfl l0).trans (q0 l0)
     have e2:xa.tmps.getD 2 undef=.pointer (some ⟨w.heap.size,0,none⟩):=ho 2 (by kernel_rfl)
     refine Ri.step_plain rfl rfl (fun K' hK=>?_)
     refine wp_store_row _ _ _ rfl w.heap.size #[.int .i64 0,.int .i64 0] e2 f0 163 _ (qo hL) (by kernel_rfl) (by kernel_rfl) two_one ?_
     exact hK _ _ ⟨_,undef,rfl,rfl,below_setRow hb (Nat.le_refl _) _,by simpa using hz,(fun _=>heap_setRow (qo hL)),(fun h=>by cases h),q0,q1,q2,q3,q4,q5,fun l=>(q6 l).setRow hsW _,fun l=>(q8 l).setRow hsW _⟩
   · have l0:L 6=true:=by have:=hd _ rfl;simp [Region.binds] at this;simp [this]
     have f6:=hv 6 32 rfl l0
     refine Ri.step_plain rfl rfl (fun K' hK=>?_)
     go_simp
     exact hK _ _ ⟨_,_,rfl,rfl,hb,hz,qn,qo,q0,q1,q2,q3,q4,q5,q6,fun _=>q6 l0⟩
 · rintro v w9 ⟨hb,hz,qn,-,-,-,-,-,-,-,-,q8⟩
   have zN:=qn rfl;clear qn
   have E8:=Lib.hid (q8 rfl)
   simp only [Ri.frame,List.zipIdx,List.foldl_cons,List.foldl_nil,if_true,List.setIfInBounds_toArray,List.set_cons_zero,List.set_cons_succ,Nat.reduceAdd]
   clear q8
   generalize v 0=y0;generalize v 1=y1;generalize v 2=y2;generalize v 3=y3;generalize v 4=y4;generalize v 5=y5;generalize v 6=y6;generalize v 8=y8 at *
   clear hw h1 h2 h3 hi
   go_wp2
   exact bodyPost_ret (results_row_1 rfl _ _ w.heap.size 163 #[.int .i64 0,.int .i64 0] (0,0) _ _ rfl rfl zN Tryz.underlying163 rfl (by kernel_rfl)) rfl ⟨⟨_,rfl,by exact E8.out.down (Nat.le_of_lt hsW)⟩,by exact Touch.of_below _ hb⟩
theorem braced_bad (w0:World) (A:Nat→Addr) (w:World) (R:Nat) (s:ByteArray) (hs:s.size ≤ 4294967280) (fl:Int) (i g d:Nat) (hR:RdAt w0 A w R s fl i g d) (hi:i < s.size) (k:Nat) (hf:Ep.find (bt s) 125 (s.size - (i+1)) (i+1)=some (i+1+k)) (hn:Ep.counts (bt s) (i+1) (i+1+k)=none) :
   Calls Tryz.prog 210 #[.pointer (some ⟨R,0,none⟩)] w (TmEnd A R s fl i g d none 4 w):=by
 have hlt:=hR.lt
 have HRW:=Lib.hid hR.cell
 have HCE:Hid (w.cell? ⟨3,0,none⟩=some (.iface 232 (.pointer (some (A 3))))):=Lib.hid (hR.now.errs 3 (by omega)).1
 have hz:(s.extract (i+1) s.size).size=s.size - (i+1):=by simp
 have hb0:Below w.heap.size w (w.alloc (.cells #[.int .i64 0,.int .i64 0] 163)):=(Below.refl _ _).alloc (Nat.le_refl _) _
 have hR1:=hR.later hb0
 have hff:Ep.find (bt (s.extract (i+1) s.size)) 125 (s.extract (i+1) s.size).size 0=(Ep.find (bt s) 125 (s.size - (i+1)) (i+1)).map (· - (i+1)):=by
   rw [hz,find_mid s (i+1) s.size 125 (Nat.le_refl _) _ _ (by omega),Nat.add_zero]
 rw [hf] at hff
 rw [show (some (i+1+k)).map (· - (i+1))=some k by simp] at hff
 have hk:=(Ep.find_some hf).2.1
 have hcut:=fun n=>cut1_some (A:=A) (s.extract (i+1) s.size) (by rw [hz];omega) 125 k hff _ (hR1.now.below (drewN_below (Below.refl _ _) n))
 have hcnt:=fun w hE=>erecounts_any A (s.extract (i+1) (i+1+k)) (by simp;omega) _ ((counts_mid s (i+1) (i+1+k) (by omega) (by omega)).trans hn) w hE
 have hl:(s.extract (i+1) (i+1+k)).size=k:=by simp;omega
 rw [ext_ext s (i+1) k (by omega)] at hcut
 generalize s.extract (i+1) (i+1+k)=ta at *
 have HCNT:=Lib.hid hcnt
 obtain ⟨c0,c1,c2,-,-⟩:=rd5 hR1.cell
 have hw:IntKind.i64.wrap ((i:Int)+1)=(i:Int)+1:=IntWalk.i64_in _ (by omega)
 have h1:(0:Int) ≤ (i:Int)+1:=by omega
 have h2:(i:Int)+1 ≤ s.size:=by omega
 have h3:((i:Int)+1).toNat=i+1:=by omega
 have HCUT:=Lib.hid hcut;have HR1:=Lib.hid hR1
 clear hff hcut hf hR hR1 hz hcnt hn
 go_enter Tryz.func210,Tryz.ntmps210
 go_wp2
 go_quiet ((go_at_call 157;exact Calls.quiet_of (HCUT.out _)))
 have Z0:=Lib.hid (heap_alloc_new w (.cells #[.int .i64 0,.int .i64 0] 163))
 have HR:=Lib.hid (HR1.out.later (drewN_below (Below.refl _ _) nq))
 have HB0:Hid (Below w.heap.size w ((w.alloc (.cells #[.int .i64 0,.int .i64 0] 163)).drewN nq)):=Lib.hid (drewN_below (by go_grown) nq)
 have Z1:Hid (((w.alloc (.cells #[.int .i64 0,.int .i64 0] 163)).drewN nq).heap[w.heap.size]? = some (.cells #[.int .i64 0,.int .i64 0] 163)):=Lib.hid Z0.out
 have hsW:w.heap.size < ((w.alloc (.cells #[.int .i64 0,.int .i64 0] 163)).drewN nq).heap.size:=by simp
 clear c0 c1 c2 HR1 HCUT Z0
 go_wp2_with fail
 generalize World.drewN _ _=W at *
 refine (HCNT.out _ HR.out.now).mono ?_
 rintro e w2 ⟨rfl,hb2⟩
 unfold cntsV
 have hbA:Below W.heap.size W (w2.alloc (.cells #[.int .i64 0,.int .i64 0] 163)):=hb2.alloc hb2.size _
 have Z2:=Lib.hid (keep_blk hbA Z1.out)
 have HR2:=Lib.hid (HR.out.later hbA)
 have HB2:=Lib.hid (HB0.out.trans (hbA.mono HB0.out.size))
 have Y2:=Lib.hid (heap_alloc_new w2 (.cells #[.int .i64 0,.int .i64 0] 163))
 have hs2:w.heap.size < w2.heap.size:=Nat.lt_of_lt_of_le hsW hb2.size
 have hsA:w.heap.size < (w2.alloc (.cells #[.int .i64 0,.int .i64 0] 163)).heap.size:=by simp;omega
 clear hb2 hbA Z1 HB0 HR hsW
 clear hl HCNT
 go_wp2
 generalize World.alloc w2 _=W at *
 have hsW:=hsA
 refine Ri.wp_region_frame (by kernel_rfl) (by kernel_rfl) (by kernel_rfl) (by kernel_rfl)
   (fun L v w'=>Below w.heap.size w w'∧W.heap.size ≤ w'.heap.size∧(L 7=true→w'.heap[w.heap.size]? = some (.cells #[.int .i64 0,.int .i64 0] 163))∧(L 7=false→w'.heap[w.heap.size]? = some (.cells #[.int .i64 0,.int .i64 0] 163))∧(L 0=true→v 0=.agg #[.int .i64 0,.int .i64 0])∧(L 1=true→v 1=.pointer (some ⟨R,0,none⟩))∧(L 2=true→v 2=.pointer (some ⟨R,0,none⟩))∧(L 3=true→v 3=.pointer (some ⟨R,2,none⟩))∧(L 4=true→v 4=.int .i64 i)∧(L 5=true→v 5=.iface 232 (.pointer (some (A 3))))∧(L 6=true→ErrOne A W.heap.size w' (v 6) 4 i)∧(L 8=true→ErrOne A W.heap.size w' (v 8) 4 i))
   ?_ ?_ ?_
 · exact ⟨HB2.out.drew,Nat.le_refl _,(by simp),(fun _=>Z2.out),by simp,by simp,by simp,by simp,by simp,by simp,by simp,by simp⟩
 · intro i hi9 L v w9 xa hI hL hd hv ho
   have hi':i=0 ∨ i=1 ∨ i=2 ∨ i=3 ∨ i=4 ∨ i=5 ∨ i=6 ∨ i=7 ∨ i=8:=by simp at hi9;omega
   obtain ⟨hb,hz,qn,qo,q0,q1,q2,q3,q4,q5,q6,q8⟩:=hI
   rcases hi' with rfl | rfl | rfl | rfl | rfl | rfl | rfl | rfl | rfl
   · refine Ri.step_plain rfl rfl (fun K' hK=>?_)
     go_simp
     exact hK _ _ ⟨_,_,rfl,rfl,hb,hz,qn,qo,fun _=>rfl,q1,q2,q3,q4,q5,q6,q8⟩
   · have e0:xa.tmps.getD 0 undef=.pointer (some ⟨R,0,none⟩):=ho 0 (by kernel_rfl)
     refine Ri.step_plain rfl rfl (fun K' hK=>?_)
     go_simp
     exact hK _ _ ⟨_,_,rfl,rfl,hb,hz,qn,qo,q0,fun _=>rfl,q2,q3,q4,q5,q6,q8⟩
   · have l0:L 1=true:=by have:=hd _ rfl;simp [Region.binds] at this;simp [this]
     have f1:=(hv 1 41 rfl l0).trans (q1 l0)
     refine Ri.step_plain rfl rfl (fun K' hK=>?_)
     go_simp
     exact hK _ _ ⟨_,_,rfl,rfl,hb,hz,qn,qo,q0,q1,fun _=>rfl,q3,q4,q5,q6,q8⟩
   · have l0:L 2=true:=by have:=hd _ rfl;simp [Region.binds] at this;simp [this]
     have f2:=(hv 2 42 rfl l0).trans (q2 l0)
     refine Ri.step_plain rfl rfl (fun K' hK=>?_)
     go_simp
     exact hK _ _ ⟨_,_,rfl,rfl,hb,hz,qn,qo,q0,q1,q2,fun _=>rfl,q4,q5,q6,q8⟩
   · have l0:L 3=true:=by have:=hd _ rfl;simp [Region.binds] at this;simp [this]
     have f3:=(hv 3 43 rfl l0).trans (q3 l0)
     refine Ri.step_plain rfl rfl (fun K' hK=>?_)
     obtain ⟨_,_,k2,_,_⟩:=rd5 (keep_blk hb HRW.out)
     go_simp
     exact hK _ _ ⟨_,_,rfl,rfl,hb,hz,qn,qo,q0,q1,q2,q3,fun _=>rfl,q5,q6,q8⟩
   · refine Ri.step_plain rfl rfl (fun K' hK=>?_)
     obtain ⟨k5,_⟩:=And.intro (cell_keep hb HCE.out) trivial
     go_simp
     exact hK _ _ ⟨_,_,rfl,rfl,hb,hz,qn,qo,q0,q1,q2,q3,q4,fun _=>rfl,q6,q8⟩
   · have l0:L 4=true∧L 5=true:=by have:=hd _ rfl;simp [Region.binds] at this;simp [this]
     have f4:=(hv 4 44 rfl l0.1).trans (q4 l0.1)
     have f5:=(hv 5 45 rfl l0.2).trans (q5 l0.2)
     refine Ri.step_plain rfl rfl (fun K' hK=>?_)
     go_simp
     refine (at_err A 3 (by omega) i _).mono ?_
     rintro e w8 ⟨v8,rfl,hv8,hb8⟩
     exact hK _ _ ⟨_,_,rfl,rfl,hb.trans (hb8.mono hb.size),Nat.le_trans hz hb8.size,(fun l=>keep_blk hb8 (qn l)),(fun l=>keep_blk hb8 (qo l)),q0,q1,q2,q3,q4,q5,fun _=>hv8.down hz,fun l=>(q8 l).below hb8⟩
   · have l0:L 0=true:=by have:=hd _ rfl;simp [Region.binds] at this;simp [this]
     have f0:=(hv 0 40 rfl l0).trans (q0 l0)
     have e2:xa.tmps.getD 2 undef=.pointer (some ⟨w.heap.size,0,none⟩):=ho 2 (by kernel_rfl)
     refine Ri.step_plain rfl rfl (fun K' hK=>?_)
     refine wp_store_row _ _ _ rfl w.heap.size #[.int .i64 0,.int .i64 0] e2 f0 163 _ (qo hL) (by kernel_rfl) (by kernel_rfl) two_one ?_
     exact hK _ _ ⟨_,undef,rfl,rfl,below_setRow hb (Nat.le_refl _) _,by simpa using hz,(fun _=>heap_setRow (qo hL)),(fun h=>by cases h),q0,q1,q2,q3,q4,q5,fun l=>(q6 l).setRow hsW _,fun l=>(q8 l).setRow hsW _⟩
   · have l0:L 6=true:=by have:=hd _ rfl;simp [Region.binds] at this;simp [this]
     have f6:=hv 6 46 rfl l0
     refine Ri.step_plain rfl rfl (fun K' hK=>?_)
     go_simp
     exact hK _ _ ⟨_,_,rfl,rfl,hb,hz,qn,qo,q0,q1,q2,q3,q4,q5,q6,fun _=>q6 l0⟩
 · rintro v w9 ⟨hb,hz,qn,-,-,-,-,-,-,-,-,q8⟩
   have zN:=qn rfl;clear qn
   have E8:=Lib.hid (q8 rfl)
   simp only [Ri.frame,List.zipIdx,List.foldl_cons,List.foldl_nil,if_true,List.setIfInBounds_toArray,List.set_cons_zero,List.set_cons_succ,Nat.reduceAdd]
   clear q8
   generalize v 0=y0;generalize v 1=y1;generalize v 2=y2;generalize v 3=y3;generalize v 4=y4;generalize v 5=y5;generalize v 6=y6;generalize v 8=y8 at *
   clear hw h1 h2 h3 hi
   go_wp2
   exact bodyPost_ret (results_row_1 rfl _ _ w.heap.size 163 #[.int .i64 0,.int .i64 0] (0,0) _ _ rfl rfl zN Tryz.underlying163 rfl (by kernel_rfl)) rfl ⟨⟨_,rfl,by exact E8.out.down (Nat.le_of_lt hsW)⟩,by exact Touch.of_below _ hb⟩
theorem braced_ok (w0:World) (A:Nat→Addr) (w:World) (R:Nat) (s:ByteArray) (hs:s.size ≤ 4294967280) (fl:Int) (i g d:Nat) (hR:RdAt w0 A w R s fl i g d) (hi:i < s.size) (k:Nat) (hf:Ep.find (bt s) 125 (s.size - (i+1)) (i+1)=some (i+1+k)) (a b:Int) (hn:Ep.counts (bt s) (i+1) (i+1+k)=some (a,b)) :
   Calls Tryz.prog 210 #[.pointer (some ⟨R,0,none⟩)] w (TmEnd A R s fl i g d (some (a,b,i+1+k+1)) 0 w):=by
 have hlt:=hR.lt
 have HRW:=Lib.hid hR.cell
 have HCE:Hid (w.cell? ⟨3,0,none⟩=some (.iface 232 (.pointer (some (A 3))))):=Lib.hid (hR.now.errs 3 (by omega)).1
 have hz:(s.extract (i+1) s.size).size=s.size - (i+1):=by simp
 have hb0:Below w.heap.size w (w.alloc (.cells #[.int .i64 0,.int .i64 0] 163)):=(Below.refl _ _).alloc (Nat.le_refl _) _
 have hR1:=hR.later hb0
 have hff:Ep.find (bt (s.extract (i+1) s.size)) 125 (s.extract (i+1) s.size).size 0=(Ep.find (bt s) 125 (s.size - (i+1)) (i+1)).map (· - (i+1)):=by
   rw [hz,find_mid s (i+1) s.size 125 (Nat.le_refl _) _ _ (by omega),Nat.add_zero]
 rw [hf] at hff
 rw [show (some (i+1+k)).map (· - (i+1))=some k by simp] at hff
 have hk:=(Ep.find_some hf).2.1
 have hcut:=fun n=>cut1_some (A:=A) (s.extract (i+1) s.size) (by rw [hz];omega) 125 k hff _ (hR1.now.below (drewN_below (Below.refl _ _) n))
 have hcnt:=fun w hE=>erecounts_any A (s.extract (i+1) (i+1+k)) (by simp;omega) _ ((counts_mid s (i+1) (i+1+k) (by omega) (by omega)).trans hn) w hE
 have hl:(s.extract (i+1) (i+1+k)).size=k:=by simp;omega
 rw [ext_ext s (i+1) k (by omega)] at hcut
 generalize s.extract (i+1) (i+1+k)=ta at *
 have HCNT:=Lib.hid hcnt
 obtain ⟨c0,c1,c2,-,-⟩:=rd5 hR1.cell
 have hw:IntKind.i64.wrap ((i:Int)+1)=(i:Int)+1:=IntWalk.i64_in _ (by omega)
 have h1:(0:Int) ≤ (i:Int)+1:=by omega
 have h2:(i:Int)+1 ≤ s.size:=by omega
 have h3:((i:Int)+1).toNat=i+1:=by omega
 have HCUT:=Lib.hid hcut;have HR1:=Lib.hid hR1
 clear hff hcut hf hR hR1 hz hcnt hn
 go_enter Tryz.func210,Tryz.ntmps210
 go_wp2
 go_quiet ((go_at_call 157;exact Calls.quiet_of (HCUT.out _)))
 have Z0:=Lib.hid (heap_alloc_new w (.cells #[.int .i64 0,.int .i64 0] 163))
 have HR:=Lib.hid (HR1.out.later (drewN_below (Below.refl _ _) nq))
 have HB0:Hid (Below w.heap.size w ((w.alloc (.cells #[.int .i64 0,.int .i64 0] 163)).drewN nq)):=Lib.hid (drewN_below (by go_grown) nq)
 have Z1:Hid (((w.alloc (.cells #[.int .i64 0,.int .i64 0] 163)).drewN nq).heap[w.heap.size]? = some (.cells #[.int .i64 0,.int .i64 0] 163)):=Lib.hid Z0.out
 have hsW:w.heap.size < ((w.alloc (.cells #[.int .i64 0,.int .i64 0] 163)).drewN nq).heap.size:=by simp
 clear c0 c1 c2 HR1 HCUT Z0
 go_wp2_with fail
 generalize World.drewN _ _=W at *
 refine (HCNT.out _ HR.out.now).mono ?_
 rintro e w2 ⟨rfl,hb2⟩
 unfold cntsV
 have hbA:Below W.heap.size W (w2.alloc (.cells #[.int .i64 a,.int .i64 b] 163)):=hb2.alloc hb2.size _
 have Z2:=Lib.hid (keep_blk hbA Z1.out)
 have HR2:=Lib.hid (HR.out.later hbA)
 have HB2:=Lib.hid (HB0.out.trans (hbA.mono HB0.out.size))
 have Y2:=Lib.hid (heap_alloc_new w2 (.cells #[.int .i64 a,.int .i64 b] 163))
 have hs2:w.heap.size < w2.heap.size:=Nat.lt_of_lt_of_le hsW hb2.size
 have hsA:w.heap.size < (w2.alloc (.cells #[.int .i64 a,.int .i64 b] 163)).heap.size:=by simp;omega
 clear hb2 hbA Z1 HB0 HR hsW
 clear HCNT HCE
 have w1:IntKind.i64.wrap (1+(ta.size:Int))=1+(ta.size:Int):=IntWalk.i64_in _ (by omega)
 have w2':IntKind.i64.wrap (1+(ta.size:Int)+1)=1+(ta.size:Int)+1:=IntWalk.i64_in _ (by omega)
 have w3:IntKind.i64.wrap ((i:Int)+(1+(ta.size:Int)+1))=(i:Int)+(1+(ta.size:Int)+1):=IntWalk.i64_in _ (by omega)
 obtain ⟨-,-,c2,-,-⟩:=rd5 HR2.out.cell
 obtain ⟨g2,-,-⟩:=rdf HR2.out.cell
 have Y2s:=Lib.hid (fun v=>(Below.heap_setCell (w2.alloc (.cells #[.int .i64 a,.int .i64 b] 163)) ⟨R,2,none⟩ v w2.heap.size (by simp;omega)).trans Y2.out)
 have Z2s:=Lib.hid (fun v=>(Below.heap_setCell (w2.alloc (.cells #[.int .i64 a,.int .i64 b] 163)) ⟨R,2,none⟩ v w.heap.size (by simp;omega)).trans Z2.out)
 have HP:=Lib.hid (rd_place HR2.out.cell (i+1+k+1) (v:=(i:Int)+(1+(ta.size:Int)+1)) (by omega))
 have HT:=Lib.hid (((Touch.of_below [R] HB2.out).setCell List.mem_cons_self 2 (.int .i64 ((i:Int)+(1+(ta.size:Int)+1)))))
 have hRne:R ≠ w.heap.size:=by omega
 clear hw h1 h2 h3 hi hl hk hb0 Y2 Z2 HB2 HR2
 go_wp2_with (first
   | (refine wpList_load_row rfl 163 (.tmp 7) rfl w2.heap.size rfl 163 _ (0,0) _ (Y2s.out _) Tryz.underlying163 rfl (by kernel_rfl) ?_)
   | (refine wpList_store_row rfl 163 (.tmp 2) (.tmp 58) rfl w.heap.size #[.int .i64 a,.int .i64 b] rfl rfl 163 _ (Z2s.out _) (by kernel_rfl) rfl two_one ?_)
   | fail)
 exact bodyPost_ret (results_row_1 rfl _ _ w.heap.size 163 #[.int .i64 a,.int .i64 b] (0,0) _ _ rfl rfl (heap_setRow (Z2s.out _)) Tryz.underlying163 rfl (by kernel_rfl)) rfl ⟨⟨rfl,(heap_setRow_other _ _ _ hRne).trans HP.out⟩,HT.out.setRow_new (Nat.le_refl _) _⟩
end Go.Proofs.YtfcilopifjddpaaGreatDoor
