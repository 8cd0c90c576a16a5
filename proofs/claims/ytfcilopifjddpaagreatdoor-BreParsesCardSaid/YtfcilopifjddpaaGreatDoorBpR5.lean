/- Part 5 of what these proofs need. -/
import Derived.Test.YtfcilopifjddpaaGreatDoorBpR4
set_option maxRecDepth 100000
set_option maxHeartbeats 16000000
namespace Go.Proofs.YtfcilopifjddpaaGreatDoor
open Go.RowKit
theorem esbyte_text (b:UInt8) (g:Nat) (w:World) (h:w.heap[g]? = some (.cells #[.int .u8 (b.toNat:Int)] 5)):(convert 74 9 (.slice (some ⟨g,0,none⟩) 1 1)).run Tryz.prog w=.ok (.string ⟨#[b]⟩) w:=by
 have:=run_convert_bytes_back (P:=Tryz.prog) w 74 9 5 ⟨g,0,none⟩ 1 [b] Tryz.underlying74 Tryz.underlying5 Tryz.underlying9 (fun j hj=>by
   obtain rfl:j=0:=by simp at hj;omega
   rw [Addr.add_mid]
   simp [World.cell?,h])
 exact this
theorem esof_byte (b:UInt8) (w:World):Calls Tryz.prog 136 #[.string ⟨#[b]⟩] w fun e w'=>e=.returned (.agg #[.int .u64 (Oc.U (Oc.mk (fun x=>x == b.toNat) 0)),.int .u64 (Oc.U (Oc.mk (fun x=>x == b.toNat) 1)),.int .u64 (Oc.U (Oc.mk (fun x=>x == b.toNat) 2)),.int .u64 (Oc.U (Oc.mk (fun x=>x == b.toNat) 3))])∧Below w.heap.size w w':=by
 have h:=refof_any ⟨#[b]⟩ (by show (1:Nat) ≤ _;unfold maxLen;decide) w
 have he:Oc.anyB (byteAt ⟨#[b]⟩) (⟨#[b]⟩:ByteArray).size=fun x=>x == b.toNat:=by
   funext x
   have hz:(⟨#[b]⟩:ByteArray).size=1:=rfl
   have h0:byteAt ⟨#[b]⟩ 0=b.toNat:=rfl
   rw [hz,Bool.eq_iff_iff]
   simp [Oc.anyB,h0]
 rw [he] at h
 exact h
theorem esof_none (w:World):Calls Tryz.prog 136 #[.string ⟨#[]⟩] w fun e w'=>e=.returned (.agg #[.int .u64 (Oc.U (Oc.mk (fun _=>false) 0)),.int .u64 (Oc.U (Oc.mk (fun _=>false) 1)),.int .u64 (Oc.U (Oc.mk (fun _=>false) 2)),.int .u64 (Oc.U (Oc.mk (fun _=>false) 3))])∧Below w.heap.size w w':=by
 have h:=refof_any ⟨#[]⟩ (by show (0:Nat) ≤ _;omega) w
 exact h
def LfEnd (t:Tr) (w:World) (e:Ending) (w':World):Prop:=e=.returned (.agg (t.cells (.slice none 0 0)))∧Below w.heap.size w w'
theorem esone_any (b:UInt8) (fl:Int) (w:World):Calls Tryz.prog 100 #[.int .u8 (b.toNat:Int),.int .i64 fl] w (LfEnd (Ep.one (icB fl) b.toNat) w):=by
 have hcv:=esbyte_text b (w.heap.size+1) _ (two_new w (.cells #[.int .i64 0,.int .u64 0,.int .u64 0,.int .u64 0,.int .u64 0,.slice none 0 0,.int .i64 0,.int .i64 0,.int .i64 0,.bool false] 28) (.cells #[.int .u8 (b.toNat:Int)] 5)).2
 have HFL:=Lib.hid (esflag2 fl)
 have Z0:=Lib.hid (two_new w (.cells #[.int .i64 0,.int .u64 0,.int .u64 0,.int .u64 0,.int .u64 0,.slice none 0 0,.int .i64 0,.int .i64 0,.int .i64 0,.bool false] 28) (.cells #[.int .u8 (b.toNat:Int)] 5)).1
 have HB0:=Lib.hid (((Below.refl w.heap.size w).alloc (Nat.le_refl _) (.cells #[.int .i64 0,.int .u64 0,.int .u64 0,.int .u64 0,.int .u64 0,.slice none 0 0,.int .i64 0,.int .i64 0,.int .i64 0,.bool false] 28)).alloc (by simp) (.cells #[.int .u8 (b.toNat:Int)] 5))
 cases hic:icB fl with
 | false =>
   rw [hic] at HFL
   clear hic
   go_enter Tryz.func100,Tryz.ntmps100
   go_wp2_with fail
   refine (esof_byte b _).mono ?_;rintro e w1 ⟨rfl,hb1⟩
   have Z1:=Lib.hid (heap_alloc_lt (o:=.cells #[.int .u64 (Oc.U (Oc.mk (fun x=>x == b.toNat) 0)),.int .u64 (Oc.U (Oc.mk (fun x=>x == b.toNat) 1)),.int .u64 (Oc.U (Oc.mk (fun x=>x == b.toNat) 2)),.int .u64 (Oc.U (Oc.mk (fun x=>x == b.toNat) 3))] 25) (keep_blk hb1 Z0.out));have HB1:=Lib.hid ((HB0.out.trans (hb1.mono HB0.out.size)).alloc (HB0.out.trans (hb1.mono HB0.out.size)).size (.cells #[.int .u64 (Oc.U (Oc.mk (fun x=>x == b.toNat) 0)),.int .u64 (Oc.U (Oc.mk (fun x=>x == b.toNat) 1)),.int .u64 (Oc.U (Oc.mk (fun x=>x == b.toNat) 2)),.int .u64 (Oc.U (Oc.mk (fun x=>x == b.toNat) 3))] 25))
   clear hb1 hcv
   go_wp2_with fail
   refine (HFL.out _).mono ?_;rintro e w2 ⟨rfl,rfl⟩
   go_wp2_with (first
     | (refine wpList_store_row rfl 28 (.tmp 4) (.tmp 15) rfl w.heap.size #[.int .i64 2,.int .u64 (Oc.U (Oc.mk (fun x=>x == b.toNat) 0)),.int .u64 (Oc.U (Oc.mk (fun x=>x == b.toNat) 1)),.int .u64 (Oc.U (Oc.mk (fun x=>x == b.toNat) 2)),.int .u64 (Oc.U (Oc.mk (fun x=>x == b.toNat) 3)),.slice none 0 0,.int .i64 0,.int .i64 0,.int .i64 0,.bool false] rfl rfl 28 _ Z1.out (by kernel_rfl) rfl (by simp [Value.oneCell']) ?_)
     | fail)
   exact bodyPost_ret (results_cell_row rfl _ _ w.heap.size 28 #[.int .i64 2,.int .u64 (Oc.U (Oc.mk (fun x=>x == b.toNat) 0)),.int .u64 (Oc.U (Oc.mk (fun x=>x == b.toNat) 1)),.int .u64 (Oc.U (Oc.mk (fun x=>x == b.toNat) 2)),.int .u64 (Oc.U (Oc.mk (fun x=>x == b.toNat) 3)),.slice none 0 0,.int .i64 0,.int .i64 0,.int .i64 0,.bool false] (0,0) _ rfl (heap_setRow Z1.out) Tryz.underlying28 rfl (by kernel_rfl)) rfl ⟨rfl,below_setRow HB1.out (Nat.le_refl _) _⟩
 | true =>
   rw [hic] at HFL
   clear hic
   go_enter Tryz.func100,Tryz.ntmps100
   go_wp2_with fail
   refine (esof_byte b _).mono ?_;rintro e w1 ⟨rfl,hb1⟩
   have Z1:=Lib.hid (heap_alloc_lt (o:=.cells #[.int .u64 (Oc.U (Oc.mk (fun x=>x == b.toNat) 0)),.int .u64 (Oc.U (Oc.mk (fun x=>x == b.toNat) 1)),.int .u64 (Oc.U (Oc.mk (fun x=>x == b.toNat) 2)),.int .u64 (Oc.U (Oc.mk (fun x=>x == b.toNat) 3))] 25) (keep_blk hb1 Z0.out));have HB1:=Lib.hid ((HB0.out.trans (hb1.mono HB0.out.size)).alloc (HB0.out.trans (hb1.mono HB0.out.size)).size (.cells #[.int .u64 (Oc.U (Oc.mk (fun x=>x == b.toNat) 0)),.int .u64 (Oc.U (Oc.mk (fun x=>x == b.toNat) 1)),.int .u64 (Oc.U (Oc.mk (fun x=>x == b.toNat) 2)),.int .u64 (Oc.U (Oc.mk (fun x=>x == b.toNat) 3))] 25))
   have S1:=Lib.hid (heap_alloc_new w1 (.cells #[.int .u64 (Oc.U (Oc.mk (fun x=>x == b.toNat) 0)),.int .u64 (Oc.U (Oc.mk (fun x=>x == b.toNat) 1)),.int .u64 (Oc.U (Oc.mk (fun x=>x == b.toNat) 2)),.int .u64 (Oc.U (Oc.mk (fun x=>x == b.toNat) 3))] 25))
   have hsz1:=Lib.hid (show w.heap.size < w1.heap.size from (Array.getElem?_eq_some_iff.1 (keep_blk hb1 Z0.out)).1)
   clear hb1 hcv
   go_wp2_with fail
   refine (HFL.out _).mono ?_;rintro e w2 ⟨rfl,rfl⟩
   go_wp2_with fail
   refine (reffold_p (fun x=>x == b.toNat) _).mono ?_;rintro e w3 ⟨rfl,hb3⟩
   have S3:=Lib.hid (keep_blk hb3 S1.out);have Z3:=Lib.hid (keep_blk hb3 Z1.out);have HB3:=Lib.hid (HB1.out.trans (hb3.mono HB1.out.size))
   clear hb3
   have S4:=Lib.hid (heap_setRow (cs:=#[.int .u64 (Oc.U (Oc.mk (Cl.fold (fun x=>x == b.toNat)) 0)),.int .u64 (Oc.U (Oc.mk (Cl.fold (fun x=>x == b.toNat)) 1)),.int .u64 (Oc.U (Oc.mk (Cl.fold (fun x=>x == b.toNat)) 2)),.int .u64 (Oc.U (Oc.mk (Cl.fold (fun x=>x == b.toNat)) 3))]) S3.out)
   have Z4:=Lib.hid ((heap_setRow_other w3 w1.heap.size (#[.int .u64 (Oc.U (Oc.mk (Cl.fold (fun x=>x == b.toNat)) 0)),.int .u64 (Oc.U (Oc.mk (Cl.fold (fun x=>x == b.toNat)) 1)),.int .u64 (Oc.U (Oc.mk (Cl.fold (fun x=>x == b.toNat)) 2)),.int .u64 (Oc.U (Oc.mk (Cl.fold (fun x=>x == b.toNat)) 3))]) (show w.heap.size ≠ w1.heap.size by have:=hsz1.out;omega)).trans Z3.out)
   have HB4:=Lib.hid (below_setRow HB3.out (show w.heap.size ≤ w1.heap.size by have:=hsz1.out;omega) (#[.int .u64 (Oc.U (Oc.mk (Cl.fold (fun x=>x == b.toNat)) 0)),.int .u64 (Oc.U (Oc.mk (Cl.fold (fun x=>x == b.toNat)) 1)),.int .u64 (Oc.U (Oc.mk (Cl.fold (fun x=>x == b.toNat)) 2)),.int .u64 (Oc.U (Oc.mk (Cl.fold (fun x=>x == b.toNat)) 3))]))
   go_wp2_with (first
     | (refine wpList_store_row rfl 25 (.tmp 5) (.tmp 13) rfl w1.heap.size #[.int .u64 (Oc.U (Oc.mk (Cl.fold (fun x=>x == b.toNat)) 0)),.int .u64 (Oc.U (Oc.mk (Cl.fold (fun x=>x == b.toNat)) 1)),.int .u64 (Oc.U (Oc.mk (Cl.fold (fun x=>x == b.toNat)) 2)),.int .u64 (Oc.U (Oc.mk (Cl.fold (fun x=>x == b.toNat)) 3))] rfl rfl 25 _ S3.out (by kernel_rfl) rfl (by simp [Value.oneCell']) ?_)
     | (refine wpList_load_row rfl 25 (.tmp 5) rfl w1.heap.size rfl 25 _ (0,0) _ S4.out Tryz.underlying25 rfl (by kernel_rfl) ?_)
     | (refine wpList_store_row rfl 28 (.tmp 4) (.tmp 15) rfl w.heap.size #[.int .i64 2,.int .u64 (Oc.U (Oc.mk (Cl.fold (fun x=>x == b.toNat)) 0)),.int .u64 (Oc.U (Oc.mk (Cl.fold (fun x=>x == b.toNat)) 1)),.int .u64 (Oc.U (Oc.mk (Cl.fold (fun x=>x == b.toNat)) 2)),.int .u64 (Oc.U (Oc.mk (Cl.fold (fun x=>x == b.toNat)) 3)),.slice none 0 0,.int .i64 0,.int .i64 0,.int .i64 0,.bool false] rfl rfl 28 _ Z4.out (by kernel_rfl) rfl (by simp [Value.oneCell']) ?_)
     | fail)
   exact bodyPost_ret (results_cell_row rfl _ _ w.heap.size 28 #[.int .i64 2,.int .u64 (Oc.U (Oc.mk (Cl.fold (fun x=>x == b.toNat)) 0)),.int .u64 (Oc.U (Oc.mk (Cl.fold (fun x=>x == b.toNat)) 1)),.int .u64 (Oc.U (Oc.mk (Cl.fold (fun x=>x == b.toNat)) 2)),.int .u64 (Oc.U (Oc.mk (Cl.fold (fun x=>x == b.toNat)) 3)),.slice none 0 0,.int .i64 0,.int .i64 0,.int .i64 0,.bool false] (0,0) _ rfl (heap_setRow Z4.out) Tryz.underlying28 rfl (by kernel_rfl)) rfl ⟨rfl,below_setRow HB4.out (Nat.le_refl _) _⟩
theorem esdot_any (fl:Int) (w:World):Calls Tryz.prog 97 #[.int .i64 fl] w (LfEnd (Ep.dot (nlB fl)) w):=by
 have HFL:=Lib.hid (esflag4 fl)
 have Z0:=Lib.hid (heap_alloc_new w (.cells #[.int .i64 0,.int .u64 0,.int .u64 0,.int .u64 0,.int .u64 0,.slice none 0 0,.int .i64 0,.int .i64 0,.int .i64 0,.bool false] 28))
 have HB0:=Lib.hid ((Below.refl w.heap.size w).alloc (Nat.le_refl _) (.cells #[.int .i64 0,.int .u64 0,.int .u64 0,.int .u64 0,.int .u64 0,.slice none 0 0,.int .i64 0,.int .i64 0,.int .i64 0,.bool false] 28))
 cases hnl:nlB fl with
 | false =>
   rw [hnl] at HFL
   clear hnl
   go_enter Tryz.func97,Tryz.ntmps97
   go_wp2_with fail
   refine (HFL.out _).mono ?_;rintro e w2 ⟨rfl,rfl⟩
   go_wp2_with fail
   refine (esof_none _).mono ?_;rintro e w3 ⟨rfl,hb3⟩
   have Z3:=Lib.hid (keep_blk hb3 Z0.out);have HB3:=Lib.hid (HB0.out.trans (hb3.mono HB0.out.size))
   clear hb3
   go_wp2_with fail
   refine (refnot_p (fun _=>false) _).mono ?_;rintro e w4 ⟨rfl,hb4⟩
   have Z4:=Lib.hid (keep_blk hb4 Z3.out);have HB4:=Lib.hid (HB3.out.trans (hb4.mono HB3.out.size))
   clear hb4
   go_wp2_with (first
     | (refine wpList_store_row rfl 28 (.tmp 2) (.tmp 9) rfl w.heap.size #[.int .i64 2,.int .u64 (Oc.U (Oc.mk (fun x=>!false) 0)),.int .u64 (Oc.U (Oc.mk (fun x=>!false) 1)),.int .u64 (Oc.U (Oc.mk (fun x=>!false) 2)),.int .u64 (Oc.U (Oc.mk (fun x=>!false) 3)),.slice none 0 0,.int .i64 0,.int .i64 0,.int .i64 0,.bool false] rfl rfl 28 _ Z4.out (by kernel_rfl) rfl (by simp [Value.oneCell']) ?_)
     | fail)
   exact bodyPost_ret (results_cell_row rfl _ _ w.heap.size 28 #[.int .i64 2,.int .u64 (Oc.U (Oc.mk (fun x=>!false) 0)),.int .u64 (Oc.U (Oc.mk (fun x=>!false) 1)),.int .u64 (Oc.U (Oc.mk (fun x=>!false) 2)),.int .u64 (Oc.U (Oc.mk (fun x=>!false) 3)),.slice none 0 0,.int .i64 0,.int .i64 0,.int .i64 0,.bool false] (0,0) _ rfl (heap_setRow Z4.out) Tryz.underlying28 rfl (by kernel_rfl)) rfl ⟨rfl,below_setRow HB4.out (Nat.le_refl _) _⟩
 | true =>
   rw [hnl] at HFL
   clear hnl
   go_enter Tryz.func97,Tryz.ntmps97
   go_wp2_with fail
   refine (HFL.out _).mono ?_;rintro e w2 ⟨rfl,rfl⟩
   go_wp2_with fail
   refine (of_nl _).mono ?_;rintro e w3 ⟨rfl,hb3⟩
   have Z3:=Lib.hid (keep_blk hb3 Z0.out);have HB3:=Lib.hid (HB0.out.trans (hb3.mono HB0.out.size))
   clear hb3
   go_wp2_with fail
   refine (refnot_p (fun x=>x == 10) _).mono ?_;rintro e w4 ⟨rfl,hb4⟩
   have Z4:=Lib.hid (keep_blk hb4 Z3.out);have HB4:=Lib.hid (HB3.out.trans (hb4.mono HB3.out.size))
   clear hb4
   go_wp2_with (first
     | (refine wpList_store_row rfl 28 (.tmp 2) (.tmp 9) rfl w.heap.size #[.int .i64 2,.int .u64 (Oc.U (Oc.mk (fun x=>!(x == 10)) 0)),.int .u64 (Oc.U (Oc.mk (fun x=>!(x == 10)) 1)),.int .u64 (Oc.U (Oc.mk (fun x=>!(x == 10)) 2)),.int .u64 (Oc.U (Oc.mk (fun x=>!(x == 10)) 3)),.slice none 0 0,.int .i64 0,.int .i64 0,.int .i64 0,.bool false] rfl rfl 28 _ Z4.out (by kernel_rfl) rfl (by simp [Value.oneCell']) ?_)
     | fail)
   exact bodyPost_ret (results_cell_row rfl _ _ w.heap.size 28 #[.int .i64 2,.int .u64 (Oc.U (Oc.mk (fun x=>!(x == 10)) 0)),.int .u64 (Oc.U (Oc.mk (fun x=>!(x == 10)) 1)),.int .u64 (Oc.U (Oc.mk (fun x=>!(x == 10)) 2)),.int .u64 (Oc.U (Oc.mk (fun x=>!(x == 10)) 3)),.slice none 0 0,.int .i64 0,.int .i64 0,.int .i64 0,.bool false] (0,0) _ rfl (heap_setRow Z4.out) Tryz.underlying28 rfl (by kernel_rfl)) rfl ⟨rfl,below_setRow HB4.out (Nat.le_refl _) _⟩
end Go.Proofs.YtfcilopifjddpaaGreatDoor
namespace Go.Proofs.YtfcilopifjddpaaGreatDoor
open Go.RowKit
theorem espunct_any (n:Nat) (hn:n < 256) (w:World):Calls Tryz.prog 99 #[.int .u8 (n:Int)] w fun e w'=>e=.returned (.bool (Cl.cls 8 n))∧Below w.heap.size w w':=by
 have h1:=fun w=>refnamed_8 w
 have h2:=fun w=>refhas_any (Cl.cw 8 0) (Cl.cw 8 1) (Cl.cw 8 2) (Cl.cw 8 3) n hn w
 have hm:Oc.mem (Cl.cw 8 0) (Cl.cw 8 1) (Cl.cw 8 2) (Cl.cw 8 3) n=Cl.cls 8 n:=Oc.mem_mk (Cl.cls 8) n hn
 rw [hm] at h2
 have H1:=Lib.hid h1;have H2:=Lib.hid h2
 clear h1 h2 hm
 go_enter Tryz.func99,Tryz.ntmps99
 go_wp2_with fail
 refine (H1.out _).mono ?_;rintro e w1 ⟨rfl,hb1⟩
 have HB1:=Lib.hid (hb1.alloc hb1.size (.cells #[.int .u64 (Oc.U (Cl.cw 8 0)),.int .u64 (Oc.U (Cl.cw 8 1)),.int .u64 (Oc.U (Cl.cw 8 2)),.int .u64 (Oc.U (Cl.cw 8 3))] 25))
 clear hb1
 go_wp2_with fail
 refine (H2.out _).mono ?_;rintro e w2 ⟨rfl,hb2⟩
 have HB2:=Lib.hid (HB1.out.trans (hb2.mono HB1.out.size))
 clear hb2
 go_wp2
 go_ret
 exact ⟨rfl,HB2.out⟩
def cntN:Option Nat→Int
 | some m=>m
 | none=>-1
theorem escount_any (t:ByteArray) (O:Option Nat) (hO:Ep.num (bt t) 0 t.size=O) (w:World) :
   Calls Tryz.prog 141 #[.string t] w fun e w'=>e=.returned (.int .i64 (cntN O))∧w=w':=by
 unfold Ep.num at hO
 by_cases h0:t.size=0
 · rw [if_pos (by omega)] at hO
   subst hO
   have e1:((t.size:Int) == 0)=true:=by rw [h0];rfl
   have e1':(t.size == 0)=true:=by simpa using h0
   clear h0
   go_enter Tryz.func141,Tryz.ntmps141
   go_wp2
   go_ret
   exact ⟨rfl,rfl⟩
 · have e1:((t.size:Int) == 0)=false:=by rw [beq_eq_false_iff_ne];omega
   have e1':(t.size == 0)=false:=by simpa using h0
   by_cases h3:3 < t.size
   · rw [if_pos (by omega)] at hO
     subst hO
     have d3:decide ((3:Int) < t.size)=true:=by simp;omega
     have d3':decide (3 < t.size)=true:=by simp;omega
     clear h0 h3
     go_enter Tryz.func141,Tryz.ntmps141
     go_wp2
     go_ret
     exact ⟨rfl,rfl⟩
   · rw [if_neg (by omega)] at hO
     have hsz:t.size ≤ 3:=by omega
     have d3:decide ((3:Int) < t.size)=false:=by simp;omega
     have d3':decide (3 < t.size)=false:=by simp;omega
     generalize hD:Ep.digs (bt t) (t.size - 0) 0 0=D at *
     have HO:=Lib.hid hO;have HD:=Lib.hid hD
     clear hO hD h3 h0
     go_enter Tryz.func141,Tryz.ntmps141
     go_wp2
     clear e1 e1' d3 d3'
     go_loop [3,4] (fun nv iv=>∃ k a:Nat,iv=.int .i64 k∧nv=.int .i64 a∧k ≤ t.size∧Hid (few k a)∧Hid (Ep.digs (bt t) (t.size - k) k a=D)) (fun _ iv=>t.size - (intOf iv).toNat)
     case atStart=>exact ⟨0,0,rfl,rfl,Nat.zero_le _,Lib.hid (.inl ⟨rfl,rfl⟩),HD⟩
     case round =>
       obtain ⟨k,a,rfl,rfl,hk,HF,HD2⟩:=hrel
       have hk3:k ≤ 3:=by omega
       have hfew:=HF.out
       unfold few at hfew
       have ha:a ≤ 999:=by omega
       by_cases hlt:k < t.size
       · have wm:IntKind.i64.wrap ((k:Int)+1)=(k:Int)+1:=IntWalk.i64_in _ (by omega)
         have w10:IntKind.i64.wrap ((a:Int) * 10)=(a:Int) * 10:=IntWalk.i64_in _ (by omega)
         have hd2:=HD2.out
         rw [show t.size - k=t.size - (k+1)+1 by omega,Ep.digs] at hd2
         have hbt:=bt_at hlt
         have hx:=UInt8.toNat_lt t[k]
         by_cases hdig:48 ≤ bt t k∧bt t k ≤ 57
         · rw [if_pos hdig,← hbt] at hd2
           rw [← hbt] at hdig
           have g1:decide ((t[k].toNat:Int) < 48)=false:=by simp;omega
           have g2:decide ((57:Int) < t[k].toNat)=false:=by simp;omega
           have g1':decide (t[k].toNat < 48)=false:=by simp;omega
           have g2':decide (57 < t[k].toNat)=false:=by simp;omega
           generalize hc:t[k].toNat=c at *
           have w48:IntKind.u8.wrap ((c:Int) - 48)=(c:Int) - 48:=by rw [IntKind.wrap_u8];omega
           have w49:IntKind.i64.wrap ((c:Int) - 48)=(c:Int) - 48:=IntWalk.i64_in _ (by omega)
           have wsum:IntKind.i64.wrap ((a:Int) * 10+((c:Int) - 48))=(a:Int) * 10+((c:Int) - 48):=IntWalk.i64_in _ (by omega)
           have HD3:=Lib.hid hd2
           have HC:=Lib.hid hdig;have HCC:=Lib.hid hc;have HBT:=Lib.hid hbt
           have HF2:=Lib.hid hfew
           clear hd2 hdig hbt hfew
           go_wp2
           have hdg:=HC.out
           have hfw:=HF2.out
           refine ⟨⟨k+1,10 * a+(c - 48),by go_num,by congr 1;omega,by omega,Lib.hid (by unfold few;omega),HD3⟩,by simp [intOf];omega⟩
         · rw [if_neg hdig] at hd2
           subst hd2
           rw [← hbt] at hdig
           have HO2:Hid (O=none):=Lib.hid HO.out.symm
           by_cases hlow:t[k].toNat < 48
           · have g1:decide ((t[k].toNat:Int) < 48)=true:=by simp;omega
             have g1':decide (t[k].toNat < 48)=true:=by simp;omega
             clear hdig hlow hbt hfew HD HD2
             go_wp2
             go_ret
             exact ⟨by rw [HO2.out];rfl,rfl⟩
           · have g1:decide ((t[k].toNat:Int) < 48)=false:=by simp;omega
             have g1':decide (t[k].toNat < 48)=false:=by simp;omega
             have g2:decide ((57:Int) < t[k].toNat)=true:=by simp;omega
             have g2':decide (57 < t[k].toNat)=true:=by simp;omega
             clear hdig hlow hbt hfew HD HD2
             go_wp2
             go_ret
             exact ⟨by rw [HO2.out];rfl,rfl⟩
       · obtain rfl:k=t.size:=by omega
         have hd2:=HD2.out
         rw [Nat.sub_self,Ep.digs] at hd2
         subst hd2
         have hO:=HO.out
         simp only at hO
         by_cases h255:a ≤ 255
         · rw [if_pos h255] at hO
           have HO2:=Lib.hid hO
           have g1:decide ((255:Int) < a)=false:=by simp;omega
           have g1':decide (255 < a)=false:=by simp;omega
           clear hO HO h255 HD HD2 hfew
           go_wp2
           go_ret
           exact ⟨by rw [← HO2.out];rfl,rfl⟩
         · rw [if_neg h255] at hO
           have HO2:=Lib.hid hO
           have g1:decide ((255:Int) < a)=true:=by simp;omega
           have g1':decide (255 < a)=true:=by simp;omega
           clear hO HO h255 HD HD2 hfew
           go_wp2
           go_ret
           exact ⟨by rw [← HO2.out];rfl,rfl⟩
def comma (f:Nat→Nat) (m n:Nat):Int:=match Ep.find f 44 (n - m) m with
 | some j=>j
 | none=>-1
theorem comma_step {f:Nat→Nat} {m n:Nat} (h:m < n):comma f m n=if f m=44 then (m:Int) else comma f (m+1) n:=by
 unfold comma
 rw [show n - m=n - (m+1)+1 by omega,Ep.find]
 by_cases hc:f m=44
 · rw [if_pos hc,if_pos hc]
 · rw [if_neg hc,if_neg hc]
def CtsEnd (O:Option (Int × Int)) (w:World) (e:Ending) (w':World):Prop:=w=w'∧match O with
 | some (a,b)=>e=.returned (.tuple #[.int .i64 a,.int .i64 b,.bool true])
 | none=>∃ a b:Int,e=.returned (.tuple #[.int .i64 a,.int .i64 b,.bool false])
theorem escounts_any (t:ByteArray) (ht:t.size ≤ 4294967280) (O:Option (Int × Int)) (hO:Ep.counts (bt t) 0 t.size=O) (w:World):Calls Tryz.prog 102 #[.string t] w (CtsEnd O w):=by
 have HO:=Lib.hid hO
 have HCN:=Lib.hid (fun (u:ByteArray) (w:World)=>escount_any u _ rfl w)
 clear hO
 go_enter Tryz.func102,Tryz.ntmps102
 have wz:IntKind.i64.wrap ((t.size:Int) - 1)=(t.size:Int) - 1:=IntWalk.i64_in _ (by omega)
 go_wp2
 go_loop [5,6] (fun cv iv=>∃ k:Nat,k ≤ t.size∧iv=.int .i64 ((k:Int) - 1)∧cv=.int .i64 (comma (bt t) k t.size)) (fun _ iv=>(intOf iv+1).toNat)
 case atStart=>exact ⟨t.size,Nat.le_refl _,rfl,by unfold comma;rw [Nat.sub_self,Ep.find]⟩
 case round =>
   obtain ⟨k,hk,rfl,rfl⟩:=hrel
   by_cases hk0:k=0
   · subst hk0
     have hz:((0:Nat):Int) - 1 = -1:=rfl
     rw [hz]
     have hOO:=HO.out
     unfold Ep.counts at hOO
     rw [Nat.sub_zero] at hOO
     cases hf:Ep.find (bt t) 44 t.size 0 with
     | none =>
       have hcm:comma (bt t) 0 t.size = -1:=by unfold comma;rw [Nat.sub_zero,hf]
       rw [hf] at hOO
       simp only at hOO
       rw [hcm]
       clear hcm hf HO
       cases hn:Ep.num (bt t) 0 t.size with
       | none =>
         rw [hn] at hOO
         have HN:=Lib.hid hn;have HO2:=Lib.hid hOO
         clear hn hOO
         go_wp2_with fail
         refine (HCN.out t _).mono ?_;rintro e w1 ⟨rfl,rfl⟩
         rw [HN.out]
         unfold cntN
         go_wp2
         exact bodyPost_ret (v:=.tuple #[.int .i64 (-1),.int .i64 (-1),.bool false]) (by simp [results,Tryz.results102,go_sem]) rfl ⟨rfl,by rw [← HO2.out];exact ⟨_,_,rfl⟩⟩
       | some m =>
         rw [hn] at hOO
         have HN:=Lib.hid hn;have HO2:=Lib.hid hOO
         clear hn hOO
         go_wp2_with fail
         refine (HCN.out t _).mono ?_;rintro e w1 ⟨rfl,rfl⟩
         rw [HN.out]
         unfold cntN
         have hge:decide (0 ≤ (m:Int))=true:=by simp
         go_wp2
         exact bodyPost_ret (v:=.tuple #[.int .i64 (m:Int),.int .i64 (m:Int),.bool true]) (by simp [results,Tryz.results102,go_sem]) rfl ⟨rfl,by rw [← HO2.out]⟩
     | some j =>
       obtain ⟨-,hjt,-,-⟩:=Ep.find_some hf
       have hcm:comma (bt t) 0 t.size=j:=by unfold comma;rw [Nat.sub_zero,hf]
       rw [hf] at hOO
       simp only at hOO
       rw [hcm]
       have hn1:=num_mid t 0 j (by omega) (by omega)
       have hn2:=num_mid t (j+1) t.size (by omega) (Nat.le_refl _)
       have hlt0:decide ((j:Int) < 0)=false:=by simp
       have wz:IntKind.i64.wrap ((t.size:Int) - 1)=(t.size:Int) - 1:=IntWalk.i64_in _ (by omega)
       have wj:IntKind.i64.wrap ((j:Int)+1)=(j:Int)+1:=IntWalk.i64_in _ (by omega)
       have HN1:=Lib.hid hn1;have HN2:=Lib.hid hn2;have HOO:=Lib.hid hOO
       clear hcm hf HO hn1 hn2 hOO
       go_wp2_with fail
       refine (HCN.out (t.extract 0 j) _).mono ?_;rintro e w1 ⟨rfl,rfl⟩
       rw [HN1.out]
       have hlast:decide ((j:Int)=(t.size:Int) - 1)=decide (j+1=t.size):=by congr 1;apply propext;omega
       by_cases hl:j+1=t.size
       · have e1:((j:Int) == (t.size:Int) - 1)=true:=by rw [beq_iff_eq];omega
         clear hlast
         have hOO:=HOO.out
         cases hn:Ep.num (bt t) 0 j with
         | none =>
           rw [hn] at hOO
           have HO2:=Lib.hid hOO
           unfold cntN
           clear hOO hn HN1 HN2 HOO
           go_wp2
           exact bodyPost_ret (v:=.tuple #[.int .i64 (-1),.int .i64 (-1),.bool false]) (by simp [results,Tryz.results102,go_sem]) rfl ⟨rfl,by rw [← HO2.out];exact ⟨_,_,rfl⟩⟩
         | some a =>
           rw [hn] at hOO
           simp only [hl,if_true] at hOO
           have HO2:=Lib.hid hOO
           have hge:decide (0 ≤ (a:Int))=true:=by simp
           unfold cntN
           clear hOO hn HN1 HN2 HOO
           go_wp2
           exact bodyPost_ret (v:=.tuple #[.int .i64 (a:Int),.int .i64 (-1),.bool true]) (by simp [results,Tryz.results102,go_sem]) rfl ⟨rfl,by rw [← HO2.out]⟩
       · have e1:((j:Int) == (t.size:Int) - 1)=false:=by rw [beq_eq_false_iff_ne];omega
         clear hlast
         have hOO:=HOO.out
         cases hn:Ep.num (bt t) 0 j with
         | none =>
           rw [hn] at hOO
           have HO2:=Lib.hid hOO
           unfold cntN
           clear hOO hn HN1 HOO
           go_wp2_with fail
           refine (HCN.out (t.extract (j+1) t.size) _).mono ?_;rintro e w2 ⟨rfl,rfl⟩
           rw [HN2.out]
           generalize cntN (Ep.num (bt t) (j+1) t.size)=B
           go_wp2
           exact bodyPost_ret (v:=.tuple #[.int .i64 (-1),.int .i64 B,.bool false]) (by simp [results,Tryz.results102,go_sem]) rfl ⟨rfl,by rw [← HO2.out];exact ⟨_,_,rfl⟩⟩
         | some a =>
           rw [hn] at hOO
           simp only [hl,if_false] at hOO
           have hge:decide (0 ≤ (a:Int))=true:=by simp
           have HO2:=Lib.hid hOO
           unfold cntN
           clear hOO hn HN1 HOO
           go_wp2_with fail
           refine (HCN.out (t.extract (j+1) t.size) _).mono ?_;rintro e w2 ⟨rfl,rfl⟩
           rw [HN2.out]
           cases hm:Ep.num (bt t) (j+1) t.size with
           | none =>
             have HO3:Hid (none=O):=Lib.hid (by rw [← HO2.out,hm])
             have hab:decide ((a:Int) ≤ -1)=false:=by simp;omega
             unfold cntN
             clear hm HN2 HO2
             go_wp2
             exact bodyPost_ret (v:=.tuple #[.int .i64 (a:Int),.int .i64 (-1),.bool false]) (by simp [results,Tryz.results102,go_sem]) rfl ⟨rfl,by rw [← HO3.out];exact ⟨_,_,rfl⟩⟩
           | some b =>
             by_cases hle:a ≤ b
             · have HO3:Hid (some ((a:Int),(b:Int))=O):=Lib.hid (by rw [← HO2.out,hm];simp only [hle,if_true])
               have hab:decide ((a:Int) ≤ (b:Int))=true:=by simp;omega
               have hab':decide (a ≤ b)=true:=by simpa using hle
               unfold cntN
               clear hm HN2 HO2 hle
               go_wp2
               exact bodyPost_ret (v:=.tuple #[.int .i64 (a:Int),.int .i64 (b:Int),.bool true]) (by simp [results,Tryz.results102,go_sem]) rfl ⟨rfl,by rw [← HO3.out]⟩
             · have HO3:Hid (none=O):=Lib.hid (by rw [← HO2.out,hm];simp only [hle,if_false])
               have hab:decide ((a:Int) ≤ (b:Int))=false:=by simp;omega
               have hab':decide (a ≤ b)=false:=by simpa using hle
               unfold cntN
               clear hm HN2 HO2 hle
               go_wp2
               exact bodyPost_ret (v:=.tuple #[.int .i64 (a:Int),.int .i64 (b:Int),.bool false]) (by simp [results,Tryz.results102,go_sem]) rfl ⟨rfl,by rw [← HO3.out];exact ⟨_,_,rfl⟩⟩
   · obtain ⟨m,rfl⟩:∃ m,k=m+1:=⟨k - 1,by omega⟩
     have hst:=comma_step (f:=bt t) (show m < t.size by omega)
     have hz:((m+1:Nat):Int) - 1=(m:Int):=by omega
     rw [hz]
     have hge:decide (0 ≤ (m:Int))=true:=by simp
     have wm:IntKind.i64.wrap ((m:Int) - 1)=(m:Int) - 1:=IntWalk.i64_in _ (by omega)
     have hlt:m < t.size:=by omega
     have hbt:=bt_at hlt
     by_cases hc:bt t m=44
     · rw [if_pos hc] at hst
       rw [hc] at hbt
       have HST:=Lib.hid hst
       clear hst hc
       go_wp2
       exact ⟨⟨m,by omega,rfl,by rw [HST.out]⟩,by simp [intOf]⟩
     · rw [if_neg hc] at hst
       have hb1:(t[m].toNat == 44)=false:=by rw [hbt];simpa using hc
       have hb2:((t[m].toNat:Int) == 44)=false:=by rw [beq_eq_false_iff_ne];omega
       have HST:=Lib.hid hst
       rw [← hst]
       clear hst hc hbt
       go_wp2
       exact ⟨⟨m,by omega,rfl,rfl⟩,by simp [intOf]⟩
end Go.Proofs.YtfcilopifjddpaaGreatDoor
namespace Go.Proofs.YtfcilopifjddpaaGreatDoor
open Go.RowKit
theorem allTen {w:World} {b:Nat} {x0 x1 x2 x3 x4 x5 x6 x7 x8 x9:Value} {t:TypeId} (h:w.heap[b]? = some (.cells #[x0,x1,x2,x3,x4,x5,x6,x7,x8,x9] t)):w.cell? ⟨b,0,none⟩=some x0∧w.cell? ⟨b,1,none⟩=some x1∧w.cell? ⟨b,2,none⟩=some x2∧w.cell? ⟨b,3,none⟩=some x3∧w.cell? ⟨b,4,none⟩=some x4∧w.cell? ⟨b,5,none⟩=some x5∧w.cell? ⟨b,6,none⟩=some x6∧w.cell? ⟨b,7,none⟩=some x7∧w.cell? ⟨b,8,none⟩=some x8∧w.cell? ⟨b,9,none⟩=some x9:=by
 simp [World.cell?,h]
end Go.Proofs.YtfcilopifjddpaaGreatDoor
namespace Go.Proofs.YtfcilopifjddpaaGreatDoor
open Go.RowKit
def obs (R:Nat) (ov:Value):List Nat:=R :: ov.ownBlock.toList
theorem mem_obs {R:Nat} {ov:Value} {b:Nat} : b ∈ obs R ov ↔ b=R ∨ ov.ownBlock=some b:=by
 unfold obs;cases ov.ownBlock <;> simp [eq_comm]
def Opn (w:World) (R d:Nat) (ov:Value):Prop:=∃ xs,w.ownsRow (R+1) 3 1 ov d xs
theorem Opn.later {w w':World} {R d:Nat} {ov:Value} (h:Opn w R d ov) (hb:Below w.heap.size w w'):Opn w' R d ov:=by
 obtain ⟨xs,h⟩:=h
 refine ⟨xs,h.kept (w':=w') (row:=none) ⟨hb.os,hb.tape,hb.output,hb.size,fun k hk _=>hb.block k hk⟩ ?_⟩
 cases hv:ov.ownBlock with
 | none=>exact .inl rfl
 | some g=>exact .inr (by simp)
theorem Opn.touch {w w':World} {R d:Nat} {ov:Value} (h:Opn w R d ov) (ht:Touch [R] w w'):Opn w' R d ov:=by
 obtain ⟨xs,h⟩:=h
 refine ⟨xs,h.kept (w':=w') (row:=some R) ⟨ht.os,ht.tape,ht.output,ht.size,fun k hk hne=>ht.block k hk (by simp;exact fun e=>hne (by rw [e]))⟩ ?_⟩
 cases hv:ov.ownBlock with
 | none=>exact .inl rfl
 | some g=>exact .inr fun e=>by have:=(h.lt g hv).1;have:=Option.some.inj e;omega
theorem Opn.slice {w:World} {R d:Nat} {ov:Value} (h:Opn w R d ov):∃ p cap,ov=.slice p d cap:=by
 obtain ⟨xs,h⟩:=h
 rcases h.2 with ⟨rfl,rfl⟩ | ⟨g,cap,cur,rfl,-⟩
 · exact ⟨_,_,rfl⟩
 · exact ⟨_,_,rfl⟩
theorem Opn.lt {w:World} {R d:Nat} {ov:Value} (h:Opn w R d ov) {g:Nat} (hg:ov.ownBlock=some g):R < g∧g < w.heap.size:=by
 obtain ⟨xs,h⟩:=h;have:=h.lt g hg;omega
def EsEnd (P:Nat→Prop) (R:Nat) (s:ByteArray) (fl:Int) (d:Nat) (ov:Value) (O:Ep.Out) (w:World) (e:Ending) (w':World):Prop :=
 ∃ ov',(ov'.ownBlock=ov.ownBlock ∨ ∃ b,ov'.ownBlock=some b∧w.heap.size ≤ b)∧Opn w' R d ov'∧Touch (obs R ov) w w' ∧
   match O with
   | .ok t j g=>∃ v,e=.returned (.agg (t.cells v))∧TreesAt w' (fun b=>(P b ∨ w.heap.size ≤ b)∧ov'.ownBlock ≠ some b) v t.subs∧w'.heap[R]? = some (.cells (stC s j fl g ov' 0 0) 58)
   | .err c q=>c ≠ 0∧∃ (x:Tr) (p:Option Addr) (l k i g:Nat),e=.returned (.agg (x.cells (.slice p l k)))∧w'.heap[R]? = some (.cells (stC s i fl g ov' c q) 58)∧i+d ≤ s.size+64∧g ≤ s.size
theorem EsEnd.ok {P:Nat→Prop} {R:Nat} {s:ByteArray} {fl:Int} {d:Nat} {ov:Value} {O:Ep.Out} {w:World} {e:Ending} {w':World} (h:EsEnd P R s fl d ov O w e w') {t:Tr} {j g:Nat} (hO:O=.ok t j g) :
   ∃ ov' v,e=.returned (.agg (t.cells v))∧TreesAt w' (fun b=>(P b ∨ w.heap.size ≤ b)∧ov'.ownBlock ≠ some b) v t.subs∧w'.heap[R]? = some (.cells (stC s j fl g ov' 0 0) 58)∧(ov'.ownBlock=ov.ownBlock ∨ ∃ b,ov'.ownBlock=some b∧w.heap.size ≤ b)∧Opn w' R d ov'∧Touch (obs R ov) w w':=by
 subst hO;obtain ⟨ov',h1,h2,h3,v,h4,h5,h6⟩:=h;exact ⟨ov',v,h4,h5,h6,h1,h2,h3⟩
theorem EsEnd.err {P:Nat→Prop} {R:Nat} {s:ByteArray} {fl:Int} {d:Nat} {ov:Value} {O:Ep.Out} {w:World} {e:Ending} {w':World} (h:EsEnd P R s fl d ov O w e w') {c:Nat} {q:Int} (hO:O=.err c q) :
   ∃ (ov':Value) (x:Tr) (p:Option Addr) (l k i g:Nat),e=.returned (.agg (x.cells (.slice p l k)))∧w'.heap[R]? = some (.cells (stC s i fl g ov' c q) 58)∧c ≠ 0∧i+d ≤ s.size+64∧g ≤ s.size∧(ov'.ownBlock=ov.ownBlock ∨ ∃ b,ov'.ownBlock=some b∧w.heap.size ≤ b)∧Opn w' R d ov'∧Touch (obs R ov) w w':=by
 subst hO;obtain ⟨ov',h1,h2,h3,h4,x,p,l,k,i,g,h5,h6,h7,h8⟩:=h;exact ⟨ov',x,p,l,k,i,g,h5,h6,h4,h7,h8,h1,h2,h3⟩
theorem Opn.setRow {w:World} {R d:Nat} {ov:Value} (h:Opn w R d ov) {g:Nat} (hg:ov.ownBlock ≠ some g) (cs:Array Value):Opn (w.setRow g cs) R d ov:=by
 obtain ⟨xs,h⟩:=h
 refine ⟨xs,h.kept (w':=w.setRow g cs) (row:=some g) ⟨rfl,rfl,rfl,by simp,fun k hk hne=>heap_setRow_other _ _ _ (fun e=>hne (by rw [e]))⟩ ?_⟩
 exact .inr hg
theorem EsEnd.pass {P P':Nat→Prop} {R:Nat} {s:ByteArray} {fl:Int} {d:Nat} {ov:Value} {O:Ep.Out} {w W1 W2:World} {e:Ending} (h:EsEnd P' R s fl d ov O W1 e W2) (ht:Touch (obs R ov) w W1) (hP:∀ q,P' q→P q∧q < w.heap.size) {g:Nat} (hg:w.heap.size ≤ g) (hg2:g < W1.heap.size) (hR:R ≠ g) (hov:ov.ownBlock ≠ some g) (cs:Array Value) :
   EsEnd P R s fl d ov O w e (W2.setRow g cs):=by
 obtain ⟨ov',h1,h2,h3,h4⟩:=h
 have hs:=ht.size
 have hov':ov'.ownBlock ≠ some g:=by
   rcases h1 with e1 | ⟨b,e1,e2⟩
   · rw [e1];exact hov
   · rw [e1];intro h;have:=Option.some.inj h;omega
 refine ⟨ov', ?_,h2.setRow hov' cs,(ht.trans h3).setRow_new hg cs, ?_⟩
 · rcases h1 with e1 | ⟨b,e1,e2⟩
   · exact .inl e1
   · exact .inr ⟨b,e1,by omega⟩
 · cases O with
   | ok t j g' =>
     obtain ⟨v,h5,h6,h7⟩:=h4
     refine ⟨v,h5,(h6.keep fun q _ hq=>heap_setRow_other _ _ _ (fun e=>?_)).mono fun q _ hq=>⟨?_,hq.2⟩,(heap_setRow_other _ _ _ hR).trans h7⟩
     · rcases hq.1 with hp | hp
       · have:=(hP q hp).2;omega
       · omega
     · rcases hq.1 with hp | hp
       · exact .inl (hP q hp).1
       · exact .inr (by omega)
   | err c q =>
     obtain ⟨h5,x,p,l,k,i,g',h6,h7,h8⟩:=h4
     exact ⟨h5,x,p,l,k,i,g',h6,(heap_setRow_other _ _ _ hR).trans h7,h8⟩
def sevS (v:Value):List (Tr × Value)→Value
 | []=>.slice none 0 0
 | [x]=>x.2
 | _=>v
theorem row_ten {w:World} {base n:Nat} {v:Value} {ps:List (Tr × Value)} (h:w.ownsRow base 28 10 v n (rowOf ps)) {i:Nat} {t:Tr} {s:Value} (hi:ps[i]? = some (t,s)):∃ g cap,v=.slice (some ⟨g,0,none⟩) n cap∧TenAt w g (0+i * 10) t s:=by
 have hcells:=fun g hv=>World.ownsRow.cells h (g:=g) hv
 rcases h.2 with ⟨rfl,hn0⟩ | ⟨g,cap,cur,rfl,hbg,hheap,-⟩
 · have hl:=h.1
   rw [rowOf_length] at hl
   have:i < ps.length:=by
     by_cases h:i < ps.length
     · exact h
     · rw [List.getElem?_eq_none (by omega)] at hi;cases hi
   omega
 · have hc:=hcells g rfl
   have get:∀ j u,j < 10→(t.cells s)[j]? = some u→w.cell? ⟨g,0+i * 10+j,none⟩=some u:=by
     intro j u hj hu
     have:=hc (i * 10+j) u (by rw [rowOf_get ps i t s hi j hj];exact hu)
     have ea:(⟨g,0,none⟩:Addr).add (i * 10+j)=⟨g,0+i * 10+j,none⟩:=by unfold Addr.add;split <;> simp_all <;> omega
     rw [ea] at this;exact this
   exact ⟨g,cap,rfl,get 0 _ (by omega) rfl,get 1 _ (by omega) rfl,get 2 _ (by omega) rfl,get 3 _ (by omega) rfl,get 4 _ (by omega) rfl,get 5 _ (by omega) rfl,get 6 _ (by omega) rfl,get 7 _ (by omega) rfl,get 8 _ (by omega) rfl,get 9 _ (by omega) rfl⟩
theorem esseveral_any (k:Int) (ps:List (Tr × Value)) (v:Value) (base:Nat) (w:World) (h:w.ownsRow base 28 10 v ps.length (rowOf ps)) (hs:∀ (t:Tr) (s:Value),ps[0]? = some (t,s)→∃ p l c,s=.slice p l c) (hn:ps.length * 96 ≤ 140737488351232) :
   Calls Tryz.prog 63 #[.int .i64 k,v] w fun e w'=>e=.returned (.agg ((Tr.several k (ps.map (·.1))).cells (sevS v ps)))∧Below w.heap.size w w':=by
 have Z0:=Lib.hid (heap_alloc_new w (.cells #[.int .i64 0,.int .u64 0,.int .u64 0,.int .u64 0,.int .u64 0,.slice none 0 0,.int .i64 0,.int .i64 0,.int .i64 0,.bool false] 28))
 have HB0:=Lib.hid ((Below.refl w.heap.size w).alloc (Nat.le_refl _) (.cells #[.int .i64 0,.int .u64 0,.int .u64 0,.int .u64 0,.int .u64 0,.slice none 0 0,.int .i64 0,.int .i64 0,.int .i64 0,.bool false] 28))
 obtain ⟨q,c,rfl⟩:∃ q c,v=.slice q ps.length c:=by
   rcases h.2 with ⟨rfl,h0⟩ | ⟨g,cap,cur,rfl,-⟩
   · exact ⟨none,0,by rw [h0]⟩
   · exact ⟨_,_,rfl⟩
 match ps,h,hs with
 | [],_,_ =>
   clear hn
   go_enter Tryz.func63,Tryz.ntmps63
   go_wp2_with (first
     | (refine wpList_store_row rfl 28 (.tmp 4) (.tmp 9) rfl w.heap.size #[.int .i64 1,.int .u64 0,.int .u64 0,.int .u64 0,.int .u64 0,.slice none 0 0,.int .i64 0,.int .i64 0,.int .i64 0,.bool false] rfl rfl 28 _ Z0.out (by kernel_rfl) rfl (by simp [Value.oneCell']) ?_)
     | fail)
   exact bodyPost_ret (results_cell_row rfl _ _ w.heap.size 28 #[.int .i64 1,.int .u64 0,.int .u64 0,.int .u64 0,.int .u64 0,.slice none 0 0,.int .i64 0,.int .i64 0,.int .i64 0,.bool false] (0,0) _ rfl (heap_setRow Z0.out) Tryz.underlying28 rfl (by kernel_rfl)) rfl ⟨rfl,below_setRow HB0.out (Nat.le_refl _) _⟩
 | [(t,s)],h,hs =>
   obtain ⟨p,l,c',rfl⟩:=hs t s rfl
   obtain ⟨g,cap,hv,h10⟩:=row_ten h (i:=0) (t:=t) (s:=.slice p l c') rfl
   injection hv with hv1 hv2 hv3
   subst hv1 hv3
   obtain ⟨d0,d1,d2,d3,d4,d5,d6,d7,d8,d9⟩:=h10.keep (w':=w.alloc (.cells #[.int .i64 0,.int .u64 0,.int .u64 0,.int .u64 0,.int .u64 0,.slice none 0 0,.int .i64 0,.int .i64 0,.int .i64 0,.bool false] 28)) (HB0.out.block _ h10.lt)
   simp only [Nat.zero_mul,Nat.zero_add] at d0 d1 d2 d3 d4 d5 d6 d7 d8 d9
   clear h10 hn hv2 h hs
   show Calls _ _ _ _ fun e w'=>e=.returned (.agg (t.cells (.slice p l c')))∧_
   unfold Tr.cells
   go_enter Tryz.func63,Tryz.ntmps63
   go_wp2_with (first
     | (refine wpList_store_row rfl 28 (.tmp 4) (.tmp 14) rfl w.heap.size #[.int .i64 t.kind,.int .u64 (Oc.U t.w0),.int .u64 (Oc.U t.w1),.int .u64 (Oc.U t.w2),.int .u64 (Oc.U t.w3),.slice p l c',.int .i64 t.num,.int .i64 t.least,.int .i64 t.most,.bool t.bare] rfl rfl 28 _ Z0.out (by kernel_rfl) rfl (by simp [Value.oneCell']) ?_)
     | fail)
   exact bodyPost_ret (results_cell_row rfl _ _ w.heap.size 28 #[.int .i64 t.kind,.int .u64 (Oc.U t.w0),.int .u64 (Oc.U t.w1),.int .u64 (Oc.U t.w2),.int .u64 (Oc.U t.w3),.slice p l c',.int .i64 t.num,.int .i64 t.least,.int .i64 t.most,.bool t.bare] (0,0) _ rfl (heap_setRow Z0.out) Tryz.underlying28 rfl (by kernel_rfl)) rfl ⟨rfl,below_setRow HB0.out (Nat.le_refl _) _⟩
 | a :: b :: r,h,hs =>
   have hl:(a :: b :: r).length=r.length+2:=rfl
   generalize hL:(a :: b :: r).length=L at *
   have e0:((L:Int) == 0)=false:=by rw [beq_eq_false_iff_ne];omega
   have e1:((L:Int) == 1)=false:=by rw [beq_eq_false_iff_ne];omega
   have e0':(L == 0)=false:=by rw [beq_eq_false_iff_ne];omega
   have e1':(L == 1)=false:=by rw [beq_eq_false_iff_ne];omega
   clear h hs hn hl hL
   show Calls _ _ _ _ fun e w'=>e=.returned (.agg ((Tr.many k _).cells (.slice q L c)))∧_
   go_enter Tryz.func63,Tryz.ntmps63
   go_wp2_with (first
     | (refine wpList_store_row rfl 28 (.tmp 4) (.tmp 17) rfl w.heap.size #[.int .i64 k,.int .u64 0,.int .u64 0,.int .u64 0,.int .u64 0,.slice q L c,.int .i64 0,.int .i64 0,.int .i64 0,.bool false] rfl rfl 28 _ Z0.out (by kernel_rfl) rfl (by simp [Value.oneCell']) ?_)
     | fail)
   exact bodyPost_ret (results_cell_row rfl _ _ w.heap.size 28 #[.int .i64 k,.int .u64 0,.int .u64 0,.int .u64 0,.int .u64 0,.slice q L c,.int .i64 0,.int .i64 0,.int .i64 0,.bool false] (0,0) _ rfl (heap_setRow Z0.out) Tryz.underlying28 rfl (by kernel_rfl)) rfl ⟨rfl,below_setRow HB0.out (Nat.le_refl _) _⟩
end Go.Proofs.YtfcilopifjddpaaGreatDoor
namespace Go.Proofs.YtfcilopifjddpaaGreatDoor
open Go.RowKit
theorem TreesAt.one {w:World} {P:Nat→Prop} {t:Tr} {s:Value} (h:TreesAt w P s t.subs) (hP:P w.heap.size):TreesAt (w.alloc (.cells (t.cells s) 28)) P (.slice (some ⟨w.heap.size,0,none⟩) 1 1) [t]:=by
 have hb:Below w.heap.size w (w.alloc (.cells (t.cells s) 28)):=(Below.refl _ _).alloc (Nat.le_refl _) _
 refine TreesAt.mk (ts:=[t]) (some ⟨w.heap.size,0,none⟩) 1 (fun _=>s) (by simp) (fun i t' hi=>?_) (fun i t' hi=>?_)
 · obtain ⟨rfl,rfl⟩:i=0∧t=t':=by
     cases i with
     | zero=>simpa using hi
     | succ i=>simp at hi
   obtain ⟨d0,d1,d2,d3,d4,d5,d6,d7,d8,d9⟩:=allTen (heap_alloc_new w (.cells (t.cells s) 28))
   exact ⟨_,0,rfl,hP,d0,d1,d2,d3,d4,d5,d6,d7,d8,d9⟩
 · obtain ⟨rfl,rfl⟩:i=0∧t=t':=by
     cases i with
     | zero=>simpa using hi
     | succ i=>simp at hi
   exact h.later hb
theorem blk_lt {w:World} {b:Nat} {x:Obj} (h:w.heap[b]? = some x):b < w.heap.size:=(Array.getElem?_eq_some_iff.1 h).1
theorem escounted_err (w:World) (R:Nat) (s:ByteArray) (i:Nat) (fl:Int) (g:Nat) (ov:Value) (d:Nat) (hR:w.heap[R]? = some (.cells (stC s i fl g ov 0 0) 58)) (hop:Opn w R d ov) (t:Tr) (hf:t.InForm) (v:Value) (P:Nat→Prop)
   (ht:TreesAt w (fun q=>P q∧ov.ownBlock ≠ some q) v t.subs) (a b:Int) (ha:0 ≤ a) (ha2:a ≤ 255) (hb:b = -1 ∨ (a ≤ b∧b ≤ 255)) (at_:Nat) (hat:i+d ≤ s.size+64) (hgs:g ≤ s.size) (hbig:2000 < (Tr.rep a b t).szT) :
   Calls Tryz.prog 101 #[.pointer (some ⟨R,0,none⟩),.agg (t.cells v),.int .i64 a,.int .i64 b,.int .i64 (at_:Int)] w (EsEnd P R s fl d ov (.err 10 (at_:Nat)) w):=by
 obtain ⟨p,c,rfl,hlen⟩:=ht.slice
 have HW4:=Lib.hid (show ((((w.alloc (.cells #[.int .i64 t.kind,.int .u64 (Oc.U t.w0),.int .u64 (Oc.U t.w1),.int .u64 (Oc.U t.w2),.int .u64 (Oc.U t.w3),.slice p t.subs.length c,.int .i64 t.num,.int .i64 t.least,.int .i64 t.most,.bool t.bare] 28)).alloc (.cells #[.int .i64 0,.int .u64 0,.int .u64 0,.int .u64 0,.int .u64 0,.slice none 0 0,.int .i64 0,.int .i64 0,.int .i64 0,.bool false] 28)).alloc (.cells #[.int .i64 t.kind,.int .u64 (Oc.U t.w0),.int .u64 (Oc.U t.w1),.int .u64 (Oc.U t.w2),.int .u64 (Oc.U t.w3),.slice p t.subs.length c,.int .i64 t.num,.int .i64 t.least,.int .i64 t.most,.bool t.bare] 28)).alloc (.cells #[.int .i64 8,.int .u64 0,.int .u64 0,.int .u64 0,.int .u64 0,.slice (some ⟨w.heap.size+2,0,none⟩) 1 1,.int .i64 0,.int .i64 a,.int .i64 b,.bool false] 28))=((((w.alloc (.cells #[.int .i64 t.kind,.int .u64 (Oc.U t.w0),.int .u64 (Oc.U t.w1),.int .u64 (Oc.U t.w2),.int .u64 (Oc.U t.w3),.slice p t.subs.length c,.int .i64 t.num,.int .i64 t.least,.int .i64 t.most,.bool t.bare] 28)).alloc (.cells #[.int .i64 0,.int .u64 0,.int .u64 0,.int .u64 0,.int .u64 0,.slice none 0 0,.int .i64 0,.int .i64 0,.int .i64 0,.bool false] 28)).alloc (.cells #[.int .i64 t.kind,.int .u64 (Oc.U t.w0),.int .u64 (Oc.U t.w1),.int .u64 (Oc.U t.w2),.int .u64 (Oc.U t.w3),.slice p t.subs.length c,.int .i64 t.num,.int .i64 t.least,.int .i64 t.most,.bool t.bare] 28)).alloc (.cells #[.int .i64 8,.int .u64 0,.int .u64 0,.int .u64 0,.int .u64 0,.slice (some ⟨w.heap.size+2,0,none⟩) 1 1,.int .i64 0,.int .i64 a,.int .i64 b,.bool false] 28)) from rfl)
 have hsz:((((w.alloc (.cells #[.int .i64 t.kind,.int .u64 (Oc.U t.w0),.int .u64 (Oc.U t.w1),.int .u64 (Oc.U t.w2),.int .u64 (Oc.U t.w3),.slice p t.subs.length c,.int .i64 t.num,.int .i64 t.least,.int .i64 t.most,.bool t.bare] 28)).alloc (.cells #[.int .i64 0,.int .u64 0,.int .u64 0,.int .u64 0,.int .u64 0,.slice none 0 0,.int .i64 0,.int .i64 0,.int .i64 0,.bool false] 28)).alloc (.cells #[.int .i64 t.kind,.int .u64 (Oc.U t.w0),.int .u64 (Oc.U t.w1),.int .u64 (Oc.U t.w2),.int .u64 (Oc.U t.w3),.slice p t.subs.length c,.int .i64 t.num,.int .i64 t.least,.int .i64 t.most,.bool t.bare] 28)).alloc (.cells #[.int .i64 8,.int .u64 0,.int .u64 0,.int .u64 0,.int .u64 0,.slice (some ⟨w.heap.size+2,0,none⟩) 1 1,.int .i64 0,.int .i64 a,.int .i64 b,.bool false] 28)).heap.size=w.heap.size+4:=by simp
 have hlt:=st_lt hR
 have hb1:Below w.heap.size w ((w.alloc (.cells #[.int .i64 t.kind,.int .u64 (Oc.U t.w0),.int .u64 (Oc.U t.w1),.int .u64 (Oc.U t.w2),.int .u64 (Oc.U t.w3),.slice p t.subs.length c,.int .i64 t.num,.int .i64 t.least,.int .i64 t.most,.bool t.bare] 28)).alloc (.cells #[.int .i64 0,.int .u64 0,.int .u64 0,.int .u64 0,.int .u64 0,.slice none 0 0,.int .i64 0,.int .i64 0,.int .i64 0,.bool false] 28)):=((Below.refl w.heap.size w).alloc (Nat.le_refl _) _).alloc (by simp) _
 have hb3:Below w.heap.size w ((((w.alloc (.cells #[.int .i64 t.kind,.int .u64 (Oc.U t.w0),.int .u64 (Oc.U t.w1),.int .u64 (Oc.U t.w2),.int .u64 (Oc.U t.w3),.slice p t.subs.length c,.int .i64 t.num,.int .i64 t.least,.int .i64 t.most,.bool t.bare] 28)).alloc (.cells #[.int .i64 0,.int .u64 0,.int .u64 0,.int .u64 0,.int .u64 0,.slice none 0 0,.int .i64 0,.int .i64 0,.int .i64 0,.bool false] 28)).alloc (.cells #[.int .i64 t.kind,.int .u64 (Oc.U t.w0),.int .u64 (Oc.U t.w1),.int .u64 (Oc.U t.w2),.int .u64 (Oc.U t.w3),.slice p t.subs.length c,.int .i64 t.num,.int .i64 t.least,.int .i64 t.most,.bool t.bare] 28)).alloc (.cells #[.int .i64 8,.int .u64 0,.int .u64 0,.int .u64 0,.int .u64 0,.slice (some ⟨w.heap.size+2,0,none⟩) 1 1,.int .i64 0,.int .i64 a,.int .i64 b,.bool false] 28)):=((hb1.alloc hb1.size _).alloc (hb1.alloc hb1.size _).size _)
 have hsz2:((w.alloc (.cells #[.int .i64 t.kind,.int .u64 (Oc.U t.w0),.int .u64 (Oc.U t.w1),.int .u64 (Oc.U t.w2),.int .u64 (Oc.U t.w3),.slice p t.subs.length c,.int .i64 t.num,.int .i64 t.least,.int .i64 t.most,.bool t.bare] 28)).alloc (.cells #[.int .i64 0,.int .u64 0,.int .u64 0,.int .u64 0,.int .u64 0,.slice none 0 0,.int .i64 0,.int .i64 0,.int .i64 0,.bool false] 28)).heap.size=w.heap.size+2:=by simp
 have hnov:ov.ownBlock ≠ some (w.heap.size+2):=fun e=>by have:=(hop.lt e).2;omega
 have htr3:TreesAt (((w.alloc (.cells #[.int .i64 t.kind,.int .u64 (Oc.U t.w0),.int .u64 (Oc.U t.w1),.int .u64 (Oc.U t.w2),.int .u64 (Oc.U t.w3),.slice p t.subs.length c,.int .i64 t.num,.int .i64 t.least,.int .i64 t.most,.bool t.bare] 28)).alloc (.cells #[.int .i64 0,.int .u64 0,.int .u64 0,.int .u64 0,.int .u64 0,.slice none 0 0,.int .i64 0,.int .i64 0,.int .i64 0,.bool false] 28)).alloc (.cells #[.int .i64 t.kind,.int .u64 (Oc.U t.w0),.int .u64 (Oc.U t.w1),.int .u64 (Oc.U t.w2),.int .u64 (Oc.U t.w3),.slice p t.subs.length c,.int .i64 t.num,.int .i64 t.least,.int .i64 t.most,.bool t.bare] 28)) (fun q=>((P q ∨ w.heap.size ≤ q)∧ov.ownBlock ≠ some q)∧q ≠ w.heap.size+1) (.slice (some ⟨w.heap.size+2,0,none⟩) 1 1) [t]:=by
   have h1:TreesAt w (fun q=>((P q ∨ w.heap.size ≤ q)∧ov.ownBlock ≠ some q)∧q ≠ w.heap.size+1) (.slice p t.subs.length c) t.subs:=ht.mono fun q hq hP=>⟨⟨.inl hP.1,hP.2⟩,by omega⟩
   have:=TreesAt.one (h1.later hb1) (by rw [hsz2];exact ⟨⟨.inr (by omega),hnov⟩,by omega⟩)
   rw [hsz2] at this
   exact this
 have hx:NodeV ((((w.alloc (.cells #[.int .i64 t.kind,.int .u64 (Oc.U t.w0),.int .u64 (Oc.U t.w1),.int .u64 (Oc.U t.w2),.int .u64 (Oc.U t.w3),.slice p t.subs.length c,.int .i64 t.num,.int .i64 t.least,.int .i64 t.most,.bool t.bare] 28)).alloc (.cells #[.int .i64 0,.int .u64 0,.int .u64 0,.int .u64 0,.int .u64 0,.slice none 0 0,.int .i64 0,.int .i64 0,.int .i64 0,.bool false] 28)).alloc (.cells #[.int .i64 t.kind,.int .u64 (Oc.U t.w0),.int .u64 (Oc.U t.w1),.int .u64 (Oc.U t.w2),.int .u64 (Oc.U t.w3),.slice p t.subs.length c,.int .i64 t.num,.int .i64 t.least,.int .i64 t.most,.bool t.bare] 28)).alloc (.cells #[.int .i64 8,.int .u64 0,.int .u64 0,.int .u64 0,.int .u64 0,.slice (some ⟨w.heap.size+2,0,none⟩) 1 1,.int .i64 0,.int .i64 a,.int .i64 b,.bool false] 28)) (fun q=>((P q ∨ w.heap.size ≤ q)∧ov.ownBlock ≠ some q)∧q ≠ w.heap.size+1) (.agg ((Tr.rep a b t).cells (.slice (some ⟨w.heap.size+2,0,none⟩) 1 1))) (Tr.rep a b t):=⟨_,rfl,htr3.later ((Below.refl _ _).alloc (Nat.le_refl _) _)⟩
 have HSZ:=Lib.hid (refSize_any (Tr.rep a b t) (Ep.form_rep a b t ha ha2 hb hf) ((((w.alloc (.cells #[.int .i64 t.kind,.int .u64 (Oc.U t.w0),.int .u64 (Oc.U t.w1),.int .u64 (Oc.U t.w2),.int .u64 (Oc.U t.w3),.slice p t.subs.length c,.int .i64 t.num,.int .i64 t.least,.int .i64 t.most,.bool t.bare] 28)).alloc (.cells #[.int .i64 0,.int .u64 0,.int .u64 0,.int .u64 0,.int .u64 0,.slice none 0 0,.int .i64 0,.int .i64 0,.int .i64 0,.bool false] 28)).alloc (.cells #[.int .i64 t.kind,.int .u64 (Oc.U t.w0),.int .u64 (Oc.U t.w1),.int .u64 (Oc.U t.w2),.int .u64 (Oc.U t.w3),.slice p t.subs.length c,.int .i64 t.num,.int .i64 t.least,.int .i64 t.most,.bool t.bare] 28)).alloc (.cells #[.int .i64 8,.int .u64 0,.int .u64 0,.int .u64 0,.int .u64 0,.slice (some ⟨w.heap.size+2,0,none⟩) 1 1,.int .i64 0,.int .i64 a,.int .i64 b,.bool false] 28)) _ _ hx)
 have HTR4:=Lib.hid (TreesAt.later htr3 ((Below.refl (((w.alloc (.cells #[.int .i64 t.kind,.int .u64 (Oc.U t.w0),.int .u64 (Oc.U t.w1),.int .u64 (Oc.U t.w2),.int .u64 (Oc.U t.w3),.slice p t.subs.length c,.int .i64 t.num,.int .i64 t.least,.int .i64 t.most,.bool t.bare] 28)).alloc (.cells #[.int .i64 0,.int .u64 0,.int .u64 0,.int .u64 0,.int .u64 0,.slice none 0 0,.int .i64 0,.int .i64 0,.int .i64 0,.bool false] 28)).alloc (.cells #[.int .i64 t.kind,.int .u64 (Oc.U t.w0),.int .u64 (Oc.U t.w1),.int .u64 (Oc.U t.w2),.int .u64 (Oc.U t.w3),.slice p t.subs.length c,.int .i64 t.num,.int .i64 t.least,.int .i64 t.most,.bool t.bare] 28)).heap.size (((w.alloc (.cells #[.int .i64 t.kind,.int .u64 (Oc.U t.w0),.int .u64 (Oc.U t.w1),.int .u64 (Oc.U t.w2),.int .u64 (Oc.U t.w3),.slice p t.subs.length c,.int .i64 t.num,.int .i64 t.least,.int .i64 t.most,.bool t.bare] 28)).alloc (.cells #[.int .i64 0,.int .u64 0,.int .u64 0,.int .u64 0,.int .u64 0,.slice none 0 0,.int .i64 0,.int .i64 0,.int .i64 0,.bool false] 28)).alloc (.cells #[.int .i64 t.kind,.int .u64 (Oc.U t.w0),.int .u64 (Oc.U t.w1),.int .u64 (Oc.U t.w2),.int .u64 (Oc.U t.w3),.slice p t.subs.length c,.int .i64 t.num,.int .i64 t.least,.int .i64 t.most,.bool t.bare] 28))).alloc (Nat.le_refl _) (.cells #[.int .i64 8,.int .u64 0,.int .u64 0,.int .u64 0,.int .u64 0,.slice (some ⟨w.heap.size+2,0,none⟩) 1 1,.int .i64 0,.int .i64 a,.int .i64 b,.bool false] 28)))
 have Z1:=Lib.hid (two_new w (.cells #[.int .i64 t.kind,.int .u64 (Oc.U t.w0),.int .u64 (Oc.U t.w1),.int .u64 (Oc.U t.w2),.int .u64 (Oc.U t.w3),.slice p t.subs.length c,.int .i64 t.num,.int .i64 t.least,.int .i64 t.most,.bool t.bare] 28) (.cells #[.int .i64 0,.int .u64 0,.int .u64 0,.int .u64 0,.int .u64 0,.slice none 0 0,.int .i64 0,.int .i64 0,.int .i64 0,.bool false] 28)).1
 have ZX:Hid (((((w.alloc (.cells #[.int .i64 t.kind,.int .u64 (Oc.U t.w0),.int .u64 (Oc.U t.w1),.int .u64 (Oc.U t.w2),.int .u64 (Oc.U t.w3),.slice p t.subs.length c,.int .i64 t.num,.int .i64 t.least,.int .i64 t.most,.bool t.bare] 28)).alloc (.cells #[.int .i64 0,.int .u64 0,.int .u64 0,.int .u64 0,.int .u64 0,.slice none 0 0,.int .i64 0,.int .i64 0,.int .i64 0,.bool false] 28)).alloc (.cells #[.int .i64 t.kind,.int .u64 (Oc.U t.w0),.int .u64 (Oc.U t.w1),.int .u64 (Oc.U t.w2),.int .u64 (Oc.U t.w3),.slice p t.subs.length c,.int .i64 t.num,.int .i64 t.least,.int .i64 t.most,.bool t.bare] 28)).alloc (.cells #[.int .i64 8,.int .u64 0,.int .u64 0,.int .u64 0,.int .u64 0,.slice (some ⟨w.heap.size+2,0,none⟩) 1 1,.int .i64 0,.int .i64 a,.int .i64 b,.bool false] 28)).heap[w.heap.size+3]? = some (.cells #[.int .i64 8,.int .u64 0,.int .u64 0,.int .u64 0,.int .u64 0,.slice (some ⟨w.heap.size+2,0,none⟩) 1 1,.int .i64 0,.int .i64 a,.int .i64 b,.bool false] 28)):=Lib.hid (by have:=heap_alloc_new (((w.alloc (.cells #[.int .i64 t.kind,.int .u64 (Oc.U t.w0),.int .u64 (Oc.U t.w1),.int .u64 (Oc.U t.w2),.int .u64 (Oc.U t.w3),.slice p t.subs.length c,.int .i64 t.num,.int .i64 t.least,.int .i64 t.most,.bool t.bare] 28)).alloc (.cells #[.int .i64 0,.int .u64 0,.int .u64 0,.int .u64 0,.int .u64 0,.slice none 0 0,.int .i64 0,.int .i64 0,.int .i64 0,.bool false] 28)).alloc (.cells #[.int .i64 t.kind,.int .u64 (Oc.U t.w0),.int .u64 (Oc.U t.w1),.int .u64 (Oc.U t.w2),.int .u64 (Oc.U t.w3),.slice p t.subs.length c,.int .i64 t.num,.int .i64 t.least,.int .i64 t.most,.bool t.bare] 28)) (.cells #[.int .i64 8,.int .u64 0,.int .u64 0,.int .u64 0,.int .u64 0,.slice (some ⟨w.heap.size+2,0,none⟩) 1 1,.int .i64 0,.int .i64 a,.int .i64 b,.bool false] 28);rw [show (((w.alloc (.cells #[.int .i64 t.kind,.int .u64 (Oc.U t.w0),.int .u64 (Oc.U t.w1),.int .u64 (Oc.U t.w2),.int .u64 (Oc.U t.w3),.slice p t.subs.length c,.int .i64 t.num,.int .i64 t.least,.int .i64 t.most,.bool t.bare] 28)).alloc (.cells #[.int .i64 0,.int .u64 0,.int .u64 0,.int .u64 0,.int .u64 0,.slice none 0 0,.int .i64 0,.int .i64 0,.int .i64 0,.bool false] 28)).alloc (.cells #[.int .i64 t.kind,.int .u64 (Oc.U t.w0),.int .u64 (Oc.U t.w1),.int .u64 (Oc.U t.w2),.int .u64 (Oc.U t.w3),.slice p t.subs.length c,.int .i64 t.num,.int .i64 t.least,.int .i64 t.most,.bool t.bare] 28)).heap.size=w.heap.size+3 by simp] at this;exact this)
 have ZR:Hid (((((w.alloc (.cells #[.int .i64 t.kind,.int .u64 (Oc.U t.w0),.int .u64 (Oc.U t.w1),.int .u64 (Oc.U t.w2),.int .u64 (Oc.U t.w3),.slice p t.subs.length c,.int .i64 t.num,.int .i64 t.least,.int .i64 t.most,.bool t.bare] 28)).alloc (.cells #[.int .i64 0,.int .u64 0,.int .u64 0,.int .u64 0,.int .u64 0,.slice none 0 0,.int .i64 0,.int .i64 0,.int .i64 0,.bool false] 28)).alloc (.cells #[.int .i64 t.kind,.int .u64 (Oc.U t.w0),.int .u64 (Oc.U t.w1),.int .u64 (Oc.U t.w2),.int .u64 (Oc.U t.w3),.slice p t.subs.length c,.int .i64 t.num,.int .i64 t.least,.int .i64 t.most,.bool t.bare] 28)).alloc (.cells #[.int .i64 8,.int .u64 0,.int .u64 0,.int .u64 0,.int .u64 0,.slice (some ⟨w.heap.size+2,0,none⟩) 1 1,.int .i64 0,.int .i64 a,.int .i64 b,.bool false] 28)).heap[w.heap.size+1]? = some (.cells #[.int .i64 0,.int .u64 0,.int .u64 0,.int .u64 0,.int .u64 0,.slice none 0 0,.int .i64 0,.int .i64 0,.int .i64 0,.bool false] 28)):=Lib.hid (heap_alloc_lt (heap_alloc_lt (two_new w (.cells #[.int .i64 t.kind,.int .u64 (Oc.U t.w0),.int .u64 (Oc.U t.w1),.int .u64 (Oc.U t.w2),.int .u64 (Oc.U t.w3),.slice p t.subs.length c,.int .i64 t.num,.int .i64 t.least,.int .i64 t.most,.bool t.bare] 28) (.cells #[.int .i64 0,.int .u64 0,.int .u64 0,.int .u64 0,.int .u64 0,.slice none 0 0,.int .i64 0,.int .i64 0,.int .i64 0,.bool false] 28)).2))
 have HR4:=Lib.hid (keep_blk hb3 hR);have HB4:=Lib.hid hb3;have HLT:=Lib.hid hlt;have HOP:=Lib.hid hop
 have g1:decide ((2000:Int) < (Tr.rep a b t).szT)=true:=by simp;omega
 have g1':decide (2000 < (Tr.rep a b t).szT)=true:=by simp;omega
 clear hR hop hf ht hsz hb1 hb3 hsz2 htr3 hx hnov hbig hlt
 obtain ⟨ie,hi0,hz0,hz1,hz2⟩:=info_parts Tryz.infoNode
 have HI:=Lib.hid hi0;have HZ0:=Lib.hid hz0;have HZ1:=Lib.hid hz1;have HZ2:=Lib.hid hz2
 clear hi0 hz0 hz1 hz2
 generalize hWW:((((w.alloc (.cells #[.int .i64 t.kind,.int .u64 (Oc.U t.w0),.int .u64 (Oc.U t.w1),.int .u64 (Oc.U t.w2),.int .u64 (Oc.U t.w3),.slice p t.subs.length c,.int .i64 t.num,.int .i64 t.least,.int .i64 t.most,.bool t.bare] 28)).alloc (.cells #[.int .i64 0,.int .u64 0,.int .u64 0,.int .u64 0,.int .u64 0,.slice none 0 0,.int .i64 0,.int .i64 0,.int .i64 0,.bool false] 28)).alloc (.cells #[.int .i64 t.kind,.int .u64 (Oc.U t.w0),.int .u64 (Oc.U t.w1),.int .u64 (Oc.U t.w2),.int .u64 (Oc.U t.w3),.slice p t.subs.length c,.int .i64 t.num,.int .i64 t.least,.int .i64 t.most,.bool t.bare] 28)).alloc (.cells #[.int .i64 8,.int .u64 0,.int .u64 0,.int .u64 0,.int .u64 0,.slice (some ⟨w.heap.size+2,0,none⟩) 1 1,.int .i64 0,.int .i64 a,.int .i64 b,.bool false] 28))=W at HW4 HSZ HTR4 ZX ZR HR4 HB4
 have HW4:=Lib.hid hWW.symm
 clear hWW
 unfold Tr.cells at *
 go_enter Tryz.func101,Tryz.ntmps101
 go_upto_region 2 with (first
   | (refine wpList_load_row rfl 28 (.tmp 6) rfl w.heap.size rfl 28 _ (0,0) _ Z1.out Tryz.underlying28 rfl (by kernel_rfl) ?_)
   | (refine wpList_node1 rfl (.tmp 14) t p t.subs.length c rfl rfl ?_)
   | fail)
 try unfold Tr.cells
 rw [← HW4.out]
 go_wp2_with (first
   | (refine wpList_load_row rfl 28 (.tmp 11) rfl (w.heap.size+3) rfl 28 _ (0,0) _ ZX.out Tryz.underlying28 rfl (by kernel_rfl) ?_)
   | fail)
 refine (HSZ.out.mono ?_)
 rintro e w5 ⟨rfl,hb5⟩
 have ZX5:=Lib.hid (keep_blk hb5 ZX.out);have ZR5:=Lib.hid (keep_blk hb5 ZR.out);have HR5:=Lib.hid (keep_blk hb5 HR4.out);have HB5:=Lib.hid (HB4.out.trans (hb5.mono HB4.out.size));have HTR5:=Lib.hid (HTR4.out.later hb5)
 clear hb5 HSZ HW4 ZX ZR HR4 HB4 HTR4 Z1
 go_wp2_with fail
 refine (esfault_any _ R s i fl g ov 0 HR5.out 10 (at_:Int)).mono ?_
 rintro e w6 ⟨rfl,hR6,ht6⟩
 have hlt5:=HLT.out
 have hs5:=HB5.out.size
 have ZX6:=Lib.hid ((ht6.block (w.heap.size+3) (blk_lt ZX5.out) (by simp;omega)).trans ZX5.out)
 have ZR6:=Lib.hid ((ht6.block (w.heap.size+1) (blk_lt ZR5.out) (by simp;omega)).trans ZR5.out)
 have HR6:=Lib.hid hR6;have HT6:=Lib.hid ht6
 clear hR6 ht6 ZX5 ZR5
 go_wp2_with (first
   | (refine wpList_load_row rfl 28 (.tmp 11) rfl (w.heap.size+3) rfl 28 _ (0,0) _ ZX6.out Tryz.underlying28 rfl (by kernel_rfl) ?_)
   | (refine wpList_store_row rfl 28 (.tmp 10) (.tmp 23) rfl (w.heap.size+1) #[.int .i64 8,.int .u64 0,.int .u64 0,.int .u64 0,.int .u64 0,.slice (some ⟨w.heap.size+2,0,none⟩) 1 1,.int .i64 0,.int .i64 a,.int .i64 b,.bool false] rfl rfl 28 _ ZR6.out (by kernel_rfl) rfl (by simp [Value.oneCell']) ?_)
   | fail)
 have hT:Touch [R] w (w6.setRow (w.heap.size+1) #[.int .i64 8,.int .u64 0,.int .u64 0,.int .u64 0,.int .u64 0,.slice (some ⟨w.heap.size+2,0,none⟩) 1 1,.int .i64 0,.int .i64 a,.int .i64 b,.bool false]):=((Touch.of_below [R] HB5.out).trans HT6.out).setRow_new (Nat.le_succ _) _
 refine bodyPost_ret (results_cell_row rfl _ _ (w.heap.size+1) 28 #[.int .i64 8,.int .u64 0,.int .u64 0,.int .u64 0,.int .u64 0,.slice (some ⟨w.heap.size+2,0,none⟩) 1 1,.int .i64 0,.int .i64 a,.int .i64 b,.bool false] (0,0) _ rfl (heap_setRow ZR6.out) Tryz.underlying28 rfl (by kernel_rfl)) rfl ⟨ov,.inl rfl,HOP.out.touch hT,hT.mono fun k hk=>mem_obs.2 (.inl (List.mem_singleton.1 hk)),by decide,Tr.rep a b t,_,_,_,_,_,rfl,(heap_setRow_other _ _ _ (by omega)).trans HR6.out,hat,hgs⟩
theorem escounted_ok (w:World) (R:Nat) (s:ByteArray) (i:Nat) (fl:Int) (g:Nat) (ov:Value) (d:Nat) (hR:w.heap[R]? = some (.cells (stC s i fl g ov 0 0) 58)) (hop:Opn w R d ov) (t:Tr) (hf:t.InForm) (v:Value) (P:Nat→Prop)
   (ht:TreesAt w (fun q=>P q∧ov.ownBlock ≠ some q) v t.subs) (a b:Int) (ha:0 ≤ a) (ha2:a ≤ 255) (hb:b = -1 ∨ (a ≤ b∧b ≤ 255)) (at_:Nat) (_hat:i+d ≤ s.size+64) (_hgs:g ≤ s.size) (hbig:¬ 2000 < (Tr.rep a b t).szT) :
   Calls Tryz.prog 101 #[.pointer (some ⟨R,0,none⟩),.agg (t.cells v),.int .i64 a,.int .i64 b,.int .i64 (at_:Int)] w (EsEnd P R s fl d ov (.ok (.rep a b t) i g) w):=by
 obtain ⟨p,c,rfl,hlen⟩:=ht.slice
 have HW4:=Lib.hid (show ((((w.alloc (.cells #[.int .i64 t.kind,.int .u64 (Oc.U t.w0),.int .u64 (Oc.U t.w1),.int .u64 (Oc.U t.w2),.int .u64 (Oc.U t.w3),.slice p t.subs.length c,.int .i64 t.num,.int .i64 t.least,.int .i64 t.most,.bool t.bare] 28)).alloc (.cells #[.int .i64 0,.int .u64 0,.int .u64 0,.int .u64 0,.int .u64 0,.slice none 0 0,.int .i64 0,.int .i64 0,.int .i64 0,.bool false] 28)).alloc (.cells #[.int .i64 t.kind,.int .u64 (Oc.U t.w0),.int .u64 (Oc.U t.w1),.int .u64 (Oc.U t.w2),.int .u64 (Oc.U t.w3),.slice p t.subs.length c,.int .i64 t.num,.int .i64 t.least,.int .i64 t.most,.bool t.bare] 28)).alloc (.cells #[.int .i64 8,.int .u64 0,.int .u64 0,.int .u64 0,.int .u64 0,.slice (some ⟨w.heap.size+2,0,none⟩) 1 1,.int .i64 0,.int .i64 a,.int .i64 b,.bool false] 28))=((((w.alloc (.cells #[.int .i64 t.kind,.int .u64 (Oc.U t.w0),.int .u64 (Oc.U t.w1),.int .u64 (Oc.U t.w2),.int .u64 (Oc.U t.w3),.slice p t.subs.length c,.int .i64 t.num,.int .i64 t.least,.int .i64 t.most,.bool t.bare] 28)).alloc (.cells #[.int .i64 0,.int .u64 0,.int .u64 0,.int .u64 0,.int .u64 0,.slice none 0 0,.int .i64 0,.int .i64 0,.int .i64 0,.bool false] 28)).alloc (.cells #[.int .i64 t.kind,.int .u64 (Oc.U t.w0),.int .u64 (Oc.U t.w1),.int .u64 (Oc.U t.w2),.int .u64 (Oc.U t.w3),.slice p t.subs.length c,.int .i64 t.num,.int .i64 t.least,.int .i64 t.most,.bool t.bare] 28)).alloc (.cells #[.int .i64 8,.int .u64 0,.int .u64 0,.int .u64 0,.int .u64 0,.slice (some ⟨w.heap.size+2,0,none⟩) 1 1,.int .i64 0,.int .i64 a,.int .i64 b,.bool false] 28)) from rfl)
 have hsz:((((w.alloc (.cells #[.int .i64 t.kind,.int .u64 (Oc.U t.w0),.int .u64 (Oc.U t.w1),.int .u64 (Oc.U t.w2),.int .u64 (Oc.U t.w3),.slice p t.subs.length c,.int .i64 t.num,.int .i64 t.least,.int .i64 t.most,.bool t.bare] 28)).alloc (.cells #[.int .i64 0,.int .u64 0,.int .u64 0,.int .u64 0,.int .u64 0,.slice none 0 0,.int .i64 0,.int .i64 0,.int .i64 0,.bool false] 28)).alloc (.cells #[.int .i64 t.kind,.int .u64 (Oc.U t.w0),.int .u64 (Oc.U t.w1),.int .u64 (Oc.U t.w2),.int .u64 (Oc.U t.w3),.slice p t.subs.length c,.int .i64 t.num,.int .i64 t.least,.int .i64 t.most,.bool t.bare] 28)).alloc (.cells #[.int .i64 8,.int .u64 0,.int .u64 0,.int .u64 0,.int .u64 0,.slice (some ⟨w.heap.size+2,0,none⟩) 1 1,.int .i64 0,.int .i64 a,.int .i64 b,.bool false] 28)).heap.size=w.heap.size+4:=by simp
 have hlt:=st_lt hR
 have hb1:Below w.heap.size w ((w.alloc (.cells #[.int .i64 t.kind,.int .u64 (Oc.U t.w0),.int .u64 (Oc.U t.w1),.int .u64 (Oc.U t.w2),.int .u64 (Oc.U t.w3),.slice p t.subs.length c,.int .i64 t.num,.int .i64 t.least,.int .i64 t.most,.bool t.bare] 28)).alloc (.cells #[.int .i64 0,.int .u64 0,.int .u64 0,.int .u64 0,.int .u64 0,.slice none 0 0,.int .i64 0,.int .i64 0,.int .i64 0,.bool false] 28)):=((Below.refl w.heap.size w).alloc (Nat.le_refl _) _).alloc (by simp) _
 have hb3:Below w.heap.size w ((((w.alloc (.cells #[.int .i64 t.kind,.int .u64 (Oc.U t.w0),.int .u64 (Oc.U t.w1),.int .u64 (Oc.U t.w2),.int .u64 (Oc.U t.w3),.slice p t.subs.length c,.int .i64 t.num,.int .i64 t.least,.int .i64 t.most,.bool t.bare] 28)).alloc (.cells #[.int .i64 0,.int .u64 0,.int .u64 0,.int .u64 0,.int .u64 0,.slice none 0 0,.int .i64 0,.int .i64 0,.int .i64 0,.bool false] 28)).alloc (.cells #[.int .i64 t.kind,.int .u64 (Oc.U t.w0),.int .u64 (Oc.U t.w1),.int .u64 (Oc.U t.w2),.int .u64 (Oc.U t.w3),.slice p t.subs.length c,.int .i64 t.num,.int .i64 t.least,.int .i64 t.most,.bool t.bare] 28)).alloc (.cells #[.int .i64 8,.int .u64 0,.int .u64 0,.int .u64 0,.int .u64 0,.slice (some ⟨w.heap.size+2,0,none⟩) 1 1,.int .i64 0,.int .i64 a,.int .i64 b,.bool false] 28)):=((hb1.alloc hb1.size _).alloc (hb1.alloc hb1.size _).size _)
 have hsz2:((w.alloc (.cells #[.int .i64 t.kind,.int .u64 (Oc.U t.w0),.int .u64 (Oc.U t.w1),.int .u64 (Oc.U t.w2),.int .u64 (Oc.U t.w3),.slice p t.subs.length c,.int .i64 t.num,.int .i64 t.least,.int .i64 t.most,.bool t.bare] 28)).alloc (.cells #[.int .i64 0,.int .u64 0,.int .u64 0,.int .u64 0,.int .u64 0,.slice none 0 0,.int .i64 0,.int .i64 0,.int .i64 0,.bool false] 28)).heap.size=w.heap.size+2:=by simp
 have hnov:ov.ownBlock ≠ some (w.heap.size+2):=fun e=>by have:=(hop.lt e).2;omega
 have htr3:TreesAt (((w.alloc (.cells #[.int .i64 t.kind,.int .u64 (Oc.U t.w0),.int .u64 (Oc.U t.w1),.int .u64 (Oc.U t.w2),.int .u64 (Oc.U t.w3),.slice p t.subs.length c,.int .i64 t.num,.int .i64 t.least,.int .i64 t.most,.bool t.bare] 28)).alloc (.cells #[.int .i64 0,.int .u64 0,.int .u64 0,.int .u64 0,.int .u64 0,.slice none 0 0,.int .i64 0,.int .i64 0,.int .i64 0,.bool false] 28)).alloc (.cells #[.int .i64 t.kind,.int .u64 (Oc.U t.w0),.int .u64 (Oc.U t.w1),.int .u64 (Oc.U t.w2),.int .u64 (Oc.U t.w3),.slice p t.subs.length c,.int .i64 t.num,.int .i64 t.least,.int .i64 t.most,.bool t.bare] 28)) (fun q=>((P q ∨ w.heap.size ≤ q)∧ov.ownBlock ≠ some q)∧q ≠ w.heap.size+1) (.slice (some ⟨w.heap.size+2,0,none⟩) 1 1) [t]:=by
   have h1:TreesAt w (fun q=>((P q ∨ w.heap.size ≤ q)∧ov.ownBlock ≠ some q)∧q ≠ w.heap.size+1) (.slice p t.subs.length c) t.subs:=ht.mono fun q hq hP=>⟨⟨.inl hP.1,hP.2⟩,by omega⟩
   have:=TreesAt.one (h1.later hb1) (by rw [hsz2];exact ⟨⟨.inr (by omega),hnov⟩,by omega⟩)
   rw [hsz2] at this
   exact this
 have hx:NodeV ((((w.alloc (.cells #[.int .i64 t.kind,.int .u64 (Oc.U t.w0),.int .u64 (Oc.U t.w1),.int .u64 (Oc.U t.w2),.int .u64 (Oc.U t.w3),.slice p t.subs.length c,.int .i64 t.num,.int .i64 t.least,.int .i64 t.most,.bool t.bare] 28)).alloc (.cells #[.int .i64 0,.int .u64 0,.int .u64 0,.int .u64 0,.int .u64 0,.slice none 0 0,.int .i64 0,.int .i64 0,.int .i64 0,.bool false] 28)).alloc (.cells #[.int .i64 t.kind,.int .u64 (Oc.U t.w0),.int .u64 (Oc.U t.w1),.int .u64 (Oc.U t.w2),.int .u64 (Oc.U t.w3),.slice p t.subs.length c,.int .i64 t.num,.int .i64 t.least,.int .i64 t.most,.bool t.bare] 28)).alloc (.cells #[.int .i64 8,.int .u64 0,.int .u64 0,.int .u64 0,.int .u64 0,.slice (some ⟨w.heap.size+2,0,none⟩) 1 1,.int .i64 0,.int .i64 a,.int .i64 b,.bool false] 28)) (fun q=>((P q ∨ w.heap.size ≤ q)∧ov.ownBlock ≠ some q)∧q ≠ w.heap.size+1) (.agg ((Tr.rep a b t).cells (.slice (some ⟨w.heap.size+2,0,none⟩) 1 1))) (Tr.rep a b t):=⟨_,rfl,htr3.later ((Below.refl _ _).alloc (Nat.le_refl _) _)⟩
 have HSZ:=Lib.hid (refSize_any (Tr.rep a b t) (Ep.form_rep a b t ha ha2 hb hf) ((((w.alloc (.cells #[.int .i64 t.kind,.int .u64 (Oc.U t.w0),.int .u64 (Oc.U t.w1),.int .u64 (Oc.U t.w2),.int .u64 (Oc.U t.w3),.slice p t.subs.length c,.int .i64 t.num,.int .i64 t.least,.int .i64 t.most,.bool t.bare] 28)).alloc (.cells #[.int .i64 0,.int .u64 0,.int .u64 0,.int .u64 0,.int .u64 0,.slice none 0 0,.int .i64 0,.int .i64 0,.int .i64 0,.bool false] 28)).alloc (.cells #[.int .i64 t.kind,.int .u64 (Oc.U t.w0),.int .u64 (Oc.U t.w1),.int .u64 (Oc.U t.w2),.int .u64 (Oc.U t.w3),.slice p t.subs.length c,.int .i64 t.num,.int .i64 t.least,.int .i64 t.most,.bool t.bare] 28)).alloc (.cells #[.int .i64 8,.int .u64 0,.int .u64 0,.int .u64 0,.int .u64 0,.slice (some ⟨w.heap.size+2,0,none⟩) 1 1,.int .i64 0,.int .i64 a,.int .i64 b,.bool false] 28)) _ _ hx)
 have HTR4:=Lib.hid (TreesAt.later htr3 ((Below.refl (((w.alloc (.cells #[.int .i64 t.kind,.int .u64 (Oc.U t.w0),.int .u64 (Oc.U t.w1),.int .u64 (Oc.U t.w2),.int .u64 (Oc.U t.w3),.slice p t.subs.length c,.int .i64 t.num,.int .i64 t.least,.int .i64 t.most,.bool t.bare] 28)).alloc (.cells #[.int .i64 0,.int .u64 0,.int .u64 0,.int .u64 0,.int .u64 0,.slice none 0 0,.int .i64 0,.int .i64 0,.int .i64 0,.bool false] 28)).alloc (.cells #[.int .i64 t.kind,.int .u64 (Oc.U t.w0),.int .u64 (Oc.U t.w1),.int .u64 (Oc.U t.w2),.int .u64 (Oc.U t.w3),.slice p t.subs.length c,.int .i64 t.num,.int .i64 t.least,.int .i64 t.most,.bool t.bare] 28)).heap.size (((w.alloc (.cells #[.int .i64 t.kind,.int .u64 (Oc.U t.w0),.int .u64 (Oc.U t.w1),.int .u64 (Oc.U t.w2),.int .u64 (Oc.U t.w3),.slice p t.subs.length c,.int .i64 t.num,.int .i64 t.least,.int .i64 t.most,.bool t.bare] 28)).alloc (.cells #[.int .i64 0,.int .u64 0,.int .u64 0,.int .u64 0,.int .u64 0,.slice none 0 0,.int .i64 0,.int .i64 0,.int .i64 0,.bool false] 28)).alloc (.cells #[.int .i64 t.kind,.int .u64 (Oc.U t.w0),.int .u64 (Oc.U t.w1),.int .u64 (Oc.U t.w2),.int .u64 (Oc.U t.w3),.slice p t.subs.length c,.int .i64 t.num,.int .i64 t.least,.int .i64 t.most,.bool t.bare] 28))).alloc (Nat.le_refl _) (.cells #[.int .i64 8,.int .u64 0,.int .u64 0,.int .u64 0,.int .u64 0,.slice (some ⟨w.heap.size+2,0,none⟩) 1 1,.int .i64 0,.int .i64 a,.int .i64 b,.bool false] 28)))
 have Z1:=Lib.hid (two_new w (.cells #[.int .i64 t.kind,.int .u64 (Oc.U t.w0),.int .u64 (Oc.U t.w1),.int .u64 (Oc.U t.w2),.int .u64 (Oc.U t.w3),.slice p t.subs.length c,.int .i64 t.num,.int .i64 t.least,.int .i64 t.most,.bool t.bare] 28) (.cells #[.int .i64 0,.int .u64 0,.int .u64 0,.int .u64 0,.int .u64 0,.slice none 0 0,.int .i64 0,.int .i64 0,.int .i64 0,.bool false] 28)).1
 have ZX:Hid (((((w.alloc (.cells #[.int .i64 t.kind,.int .u64 (Oc.U t.w0),.int .u64 (Oc.U t.w1),.int .u64 (Oc.U t.w2),.int .u64 (Oc.U t.w3),.slice p t.subs.length c,.int .i64 t.num,.int .i64 t.least,.int .i64 t.most,.bool t.bare] 28)).alloc (.cells #[.int .i64 0,.int .u64 0,.int .u64 0,.int .u64 0,.int .u64 0,.slice none 0 0,.int .i64 0,.int .i64 0,.int .i64 0,.bool false] 28)).alloc (.cells #[.int .i64 t.kind,.int .u64 (Oc.U t.w0),.int .u64 (Oc.U t.w1),.int .u64 (Oc.U t.w2),.int .u64 (Oc.U t.w3),.slice p t.subs.length c,.int .i64 t.num,.int .i64 t.least,.int .i64 t.most,.bool t.bare] 28)).alloc (.cells #[.int .i64 8,.int .u64 0,.int .u64 0,.int .u64 0,.int .u64 0,.slice (some ⟨w.heap.size+2,0,none⟩) 1 1,.int .i64 0,.int .i64 a,.int .i64 b,.bool false] 28)).heap[w.heap.size+3]? = some (.cells #[.int .i64 8,.int .u64 0,.int .u64 0,.int .u64 0,.int .u64 0,.slice (some ⟨w.heap.size+2,0,none⟩) 1 1,.int .i64 0,.int .i64 a,.int .i64 b,.bool false] 28)):=Lib.hid (by have:=heap_alloc_new (((w.alloc (.cells #[.int .i64 t.kind,.int .u64 (Oc.U t.w0),.int .u64 (Oc.U t.w1),.int .u64 (Oc.U t.w2),.int .u64 (Oc.U t.w3),.slice p t.subs.length c,.int .i64 t.num,.int .i64 t.least,.int .i64 t.most,.bool t.bare] 28)).alloc (.cells #[.int .i64 0,.int .u64 0,.int .u64 0,.int .u64 0,.int .u64 0,.slice none 0 0,.int .i64 0,.int .i64 0,.int .i64 0,.bool false] 28)).alloc (.cells #[.int .i64 t.kind,.int .u64 (Oc.U t.w0),.int .u64 (Oc.U t.w1),.int .u64 (Oc.U t.w2),.int .u64 (Oc.U t.w3),.slice p t.subs.length c,.int .i64 t.num,.int .i64 t.least,.int .i64 t.most,.bool t.bare] 28)) (.cells #[.int .i64 8,.int .u64 0,.int .u64 0,.int .u64 0,.int .u64 0,.slice (some ⟨w.heap.size+2,0,none⟩) 1 1,.int .i64 0,.int .i64 a,.int .i64 b,.bool false] 28);rw [show (((w.alloc (.cells #[.int .i64 t.kind,.int .u64 (Oc.U t.w0),.int .u64 (Oc.U t.w1),.int .u64 (Oc.U t.w2),.int .u64 (Oc.U t.w3),.slice p t.subs.length c,.int .i64 t.num,.int .i64 t.least,.int .i64 t.most,.bool t.bare] 28)).alloc (.cells #[.int .i64 0,.int .u64 0,.int .u64 0,.int .u64 0,.int .u64 0,.slice none 0 0,.int .i64 0,.int .i64 0,.int .i64 0,.bool false] 28)).alloc (.cells #[.int .i64 t.kind,.int .u64 (Oc.U t.w0),.int .u64 (Oc.U t.w1),.int .u64 (Oc.U t.w2),.int .u64 (Oc.U t.w3),.slice p t.subs.length c,.int .i64 t.num,.int .i64 t.least,.int .i64 t.most,.bool t.bare] 28)).heap.size=w.heap.size+3 by simp] at this;exact this)
 have ZR:Hid (((((w.alloc (.cells #[.int .i64 t.kind,.int .u64 (Oc.U t.w0),.int .u64 (Oc.U t.w1),.int .u64 (Oc.U t.w2),.int .u64 (Oc.U t.w3),.slice p t.subs.length c,.int .i64 t.num,.int .i64 t.least,.int .i64 t.most,.bool t.bare] 28)).alloc (.cells #[.int .i64 0,.int .u64 0,.int .u64 0,.int .u64 0,.int .u64 0,.slice none 0 0,.int .i64 0,.int .i64 0,.int .i64 0,.bool false] 28)).alloc (.cells #[.int .i64 t.kind,.int .u64 (Oc.U t.w0),.int .u64 (Oc.U t.w1),.int .u64 (Oc.U t.w2),.int .u64 (Oc.U t.w3),.slice p t.subs.length c,.int .i64 t.num,.int .i64 t.least,.int .i64 t.most,.bool t.bare] 28)).alloc (.cells #[.int .i64 8,.int .u64 0,.int .u64 0,.int .u64 0,.int .u64 0,.slice (some ⟨w.heap.size+2,0,none⟩) 1 1,.int .i64 0,.int .i64 a,.int .i64 b,.bool false] 28)).heap[w.heap.size+1]? = some (.cells #[.int .i64 0,.int .u64 0,.int .u64 0,.int .u64 0,.int .u64 0,.slice none 0 0,.int .i64 0,.int .i64 0,.int .i64 0,.bool false] 28)):=Lib.hid (heap_alloc_lt (heap_alloc_lt (two_new w (.cells #[.int .i64 t.kind,.int .u64 (Oc.U t.w0),.int .u64 (Oc.U t.w1),.int .u64 (Oc.U t.w2),.int .u64 (Oc.U t.w3),.slice p t.subs.length c,.int .i64 t.num,.int .i64 t.least,.int .i64 t.most,.bool t.bare] 28) (.cells #[.int .i64 0,.int .u64 0,.int .u64 0,.int .u64 0,.int .u64 0,.slice none 0 0,.int .i64 0,.int .i64 0,.int .i64 0,.bool false] 28)).2))
 have HR4:=Lib.hid (keep_blk hb3 hR);have HB4:=Lib.hid hb3;have HLT:=Lib.hid hlt;have HOP:=Lib.hid hop
 have g1:decide ((2000:Int) < (Tr.rep a b t).szT)=false:=by simp;omega
 have g1':decide (2000 < (Tr.rep a b t).szT)=false:=by simp;omega
 clear hR hop hf ht hsz hb1 hb3 hsz2 htr3 hx hnov hbig hlt
 obtain ⟨ie,hi0,hz0,hz1,hz2⟩:=info_parts Tryz.infoNode
 have HI:=Lib.hid hi0;have HZ0:=Lib.hid hz0;have HZ1:=Lib.hid hz1;have HZ2:=Lib.hid hz2
 clear hi0 hz0 hz1 hz2
 generalize hWW:((((w.alloc (.cells #[.int .i64 t.kind,.int .u64 (Oc.U t.w0),.int .u64 (Oc.U t.w1),.int .u64 (Oc.U t.w2),.int .u64 (Oc.U t.w3),.slice p t.subs.length c,.int .i64 t.num,.int .i64 t.least,.int .i64 t.most,.bool t.bare] 28)).alloc (.cells #[.int .i64 0,.int .u64 0,.int .u64 0,.int .u64 0,.int .u64 0,.slice none 0 0,.int .i64 0,.int .i64 0,.int .i64 0,.bool false] 28)).alloc (.cells #[.int .i64 t.kind,.int .u64 (Oc.U t.w0),.int .u64 (Oc.U t.w1),.int .u64 (Oc.U t.w2),.int .u64 (Oc.U t.w3),.slice p t.subs.length c,.int .i64 t.num,.int .i64 t.least,.int .i64 t.most,.bool t.bare] 28)).alloc (.cells #[.int .i64 8,.int .u64 0,.int .u64 0,.int .u64 0,.int .u64 0,.slice (some ⟨w.heap.size+2,0,none⟩) 1 1,.int .i64 0,.int .i64 a,.int .i64 b,.bool false] 28))=W at HW4 HSZ HTR4 ZX ZR HR4 HB4
 have HW4:=Lib.hid hWW.symm
 clear hWW
 unfold Tr.cells at *
 go_enter Tryz.func101,Tryz.ntmps101
 go_upto_region 2 with (first
   | (refine wpList_load_row rfl 28 (.tmp 6) rfl w.heap.size rfl 28 _ (0,0) _ Z1.out Tryz.underlying28 rfl (by kernel_rfl) ?_)
   | (refine wpList_node1 rfl (.tmp 14) t p t.subs.length c rfl rfl ?_)
   | fail)
 try unfold Tr.cells
 rw [← HW4.out]
 go_wp2_with (first
   | (refine wpList_load_row rfl 28 (.tmp 11) rfl (w.heap.size+3) rfl 28 _ (0,0) _ ZX.out Tryz.underlying28 rfl (by kernel_rfl) ?_)
   | fail)
 refine (HSZ.out.mono ?_)
 rintro e w5 ⟨rfl,hb5⟩
 have ZX5:=Lib.hid (keep_blk hb5 ZX.out);have ZR5:=Lib.hid (keep_blk hb5 ZR.out);have HR5:=Lib.hid (keep_blk hb5 HR4.out);have HB5:=Lib.hid (HB4.out.trans (hb5.mono HB4.out.size));have HTR5:=Lib.hid (HTR4.out.later hb5)
 clear hb5 HSZ HW4 ZX ZR HR4 HB4 HTR4 Z1
 go_wp2_with (first
   | (refine wpList_load_row rfl 28 (.tmp 11) rfl (w.heap.size+3) rfl 28 _ (0,0) _ ZX5.out Tryz.underlying28 rfl (by kernel_rfl) ?_)
   | (refine wpList_store_row rfl 28 (.tmp 10) (.tmp 23) rfl (w.heap.size+1) #[.int .i64 8,.int .u64 0,.int .u64 0,.int .u64 0,.int .u64 0,.slice (some ⟨w.heap.size+2,0,none⟩) 1 1,.int .i64 0,.int .i64 a,.int .i64 b,.bool false] rfl rfl 28 _ ZR5.out (by kernel_rfl) rfl (by simp [Value.oneCell']) ?_)
   | fail)
 have hlt5:=HLT.out
 have hB:=below_setRow HB5.out (Nat.le_succ _) #[.int .i64 8,.int .u64 0,.int .u64 0,.int .u64 0,.int .u64 0,.slice (some ⟨w.heap.size+2,0,none⟩) 1 1,.int .i64 0,.int .i64 a,.int .i64 b,.bool false]
 refine bodyPost_ret (results_cell_row rfl _ _ (w.heap.size+1) 28 #[.int .i64 8,.int .u64 0,.int .u64 0,.int .u64 0,.int .u64 0,.slice (some ⟨w.heap.size+2,0,none⟩) 1 1,.int .i64 0,.int .i64 a,.int .i64 b,.bool false] (0,0) _ rfl (heap_setRow ZR5.out) Tryz.underlying28 rfl (by kernel_rfl)) rfl ⟨ov,.inl rfl,HOP.out.later hB,Touch.of_below _ hB,_,rfl, ?_,(heap_setRow_other _ _ _ (by omega)).trans HR5.out⟩
 exact (HTR5.out.keep fun q _ hq=>heap_setRow_other _ _ _ (fun e=>by omega)).mono fun q _ hq=>hq.1
end Go.Proofs.YtfcilopifjddpaaGreatDoor
namespace Go.Proofs.YtfcilopifjddpaaGreatDoor
open Go.RowKit
theorem escounted_any (w:World) (R:Nat) (s:ByteArray) (i:Nat) (fl:Int) (g:Nat) (ov:Value) (d:Nat) (hR:w.heap[R]? = some (.cells (stC s i fl g ov 0 0) 58)) (hop:Opn w R d ov) (t:Tr) (hf:t.InForm) (v:Value) (P:Nat→Prop)
   (ht:TreesAt w (fun q=>P q∧ov.ownBlock ≠ some q) v t.subs) (a b:Int) (ha:0 ≤ a) (ha2:a ≤ 255) (hb:b = -1 ∨ (a ≤ b∧b ≤ 255)) (at_:Nat) (hat:i+d ≤ s.size+64) (hgs:g ≤ s.size) :
   Calls Tryz.prog 101 #[.pointer (some ⟨R,0,none⟩),.agg (t.cells v),.int .i64 a,.int .i64 b,.int .i64 (at_:Int)] w (EsEnd P R s fl d ov (Ep.counted t a b at_ i g) w):=by
 unfold Ep.counted
 by_cases h:2000 < (Tr.rep a b t).szT
 · rw [if_pos h];exact escounted_err w R s i fl g ov d hR hop t hf v P ht a b ha ha2 hb at_ hat hgs h
 · rw [if_neg h];exact escounted_ok w R s i fl g ov d hR hop t hf v P ht a b ha ha2 hb at_ hat hgs h
theorem EsEnd.val {P:Nat→Prop} {R:Nat} {s:ByteArray} {fl:Int} {d:Nat} {ov:Value} {O:Ep.Out} {w:World} {e:Ending} {w':World} (h:EsEnd P R s fl d ov O w e w'):∃ (x:Tr) (p:Option Addr) (l k:Nat),e=.returned (.agg (x.cells (.slice p l k))):=by
 obtain ⟨ov',h1,h2,h3,h4⟩:=h
 cases O with
 | ok t j g =>
   obtain ⟨v,h5,h6,-⟩:=h4
   obtain ⟨p,c,rfl,-⟩:=h6.slice
   exact ⟨t,p,_,c,h5⟩
 | err c q =>
   obtain ⟨-,x,p,l,k,i,g,h5,-⟩:=h4
   exact ⟨x,p,l,k,h5⟩
theorem EsEnd.keepsBlk {P:Nat→Prop} {R:Nat} {s:ByteArray} {fl:Int} {d:Nat} {ov:Value} {O:Ep.Out} {w:World} {e:Ending} {w':World} (h:EsEnd P R s fl d ov O w e w') {b:Nat} {x:Obj} (hx:w.heap[b]? = some x) (hR:b ≠ R) (hov:ov.ownBlock ≠ some b):w'.heap[b]? = some x:=by
 obtain ⟨ov',h1,h2,h3,h4⟩:=h
 exact (h3.block b (blk_lt hx) (fun hm=>by rcases mem_obs.1 hm with e | e;exact hR e;exact hov e)).trans hx
theorem Touch.obs {R:Nat} {ov:Value} {w w':World} (h:Touch [R] w w'):Touch (obs R ov) w w':=h.mono fun _ hk=>mem_obs.2 (.inl (List.mem_singleton.1 hk))
end Go.Proofs.YtfcilopifjddpaaGreatDoor
namespace Go.Proofs.YtfcilopifjddpaaGreatDoor
open Go.RowKit
theorem seven {w:World} {b:Nat} {x0 x1 x2 x3 x4 x5 x6:Value} {t:TypeId} (h:w.heap[b]? = some (.cells #[x0,x1,x2,x3,x4,x5,x6] t)):w.cell? ⟨b,0,none⟩=some x0∧w.cell? ⟨b,1,none⟩=some x1∧w.cell? ⟨b,2,none⟩=some x2∧w.cell? ⟨b,3,none⟩=some x3∧w.cell? ⟨b,4,none⟩=some x4∧w.cell? ⟨b,5,none⟩=some x5∧w.cell? ⟨b,6,none⟩=some x6:=by
 simp [World.cell?,h]
theorem whole_code {f:Nat→Nat} {n a c:Nat} {ic nl:Bool} {p:Int} (h:Br.whole f n a ic nl=.err c p):c ≠ 0:=by
 unfold Br.whole at h
 simp only at h
 generalize (if f (a+1) == 94 then a+2 else a+1)=i at h
 cases hr:Br.items f n a (n+1) i (fun _=>false) false with
 | ok Q j=>rw [hr] at h;cases h
 | err c' p' =>
   rw [hr] at h
   unfold Br.ends at h
   injection h with h1 h2
   subst h1 h2
   rcases Br.items_err hr with h | h | h | h <;> omega
theorem esread_whole (s:ByteArray) (hs:s.size ≤ 1024) (i:Nat) (hi:bt s i=91) (fl:Int) (w:World):Calls Tryz.prog 137 #[.string s,.int .i64 (i:Int),.int .i64 (flI (icB fl) (nlB fl))] w (RdEnd (Br.whole (bt s) s.size i (icB fl) (nlB fl)) w):=by
 have h:=refread_any s (by omega) i (icB fl) (nlB fl) w
 have:rdI s i (icB fl) (nlB fl)=Br.whole (bt s) s.size i (icB fl) (nlB fl):=by
   unfold rdI Br.read
   rw [if_pos ⟨by omega,hi⟩];rfl
 rw [this] at h
 exact h
theorem esset_ok (w:World) (R:Nat) (s:ByteArray) (hs:s.size ≤ 1024) (i:Nat) (fl:Int) (g:Nat) (ov:Value) (d:Nat) (hR:w.heap[R]? = some (.cells (stC s i fl g ov 0 0) 58)) (hop:Opn w R d ov) (hi:bt s i=91) (P:Nat→Bool) (j:Nat) (hw:Br.whole (bt s) s.size i (icB fl) (nlB fl)=.ok P j) :
   Calls Tryz.prog 98 #[.pointer (some ⟨R,0,none⟩)] w (EsEnd (fun _=>False) R s fl d ov (.ok (.bytes P) j g) w):=by
 have hlt:=st_lt hR
 have hb0:Below w.heap.size w (w.alloc (.cells #[.int .i64 0,.int .u64 0,.int .u64 0,.int .u64 0,.int .u64 0,.slice none 0 0,.int .i64 0,.int .i64 0,.int .i64 0,.bool false] 28)):=(Below.refl _ _).alloc (Nat.le_refl _) _
 have hnov:ov.ownBlock ≠ some w.heap.size:=fun e=>by have:=(hop.lt e).2;omega
 have HR1:=Lib.hid (keep_blk hb0 hR);have HOP1:=Lib.hid (hop.later hb0);have HB0:=Lib.hid hb0
 have Z0:=Lib.hid (heap_alloc_new w (.cells #[.int .i64 0,.int .u64 0,.int .u64 0,.int .u64 0,.int .u64 0,.slice none 0 0,.int .i64 0,.int .i64 0,.int .i64 0,.bool false] 28))
 have hsW:w.heap.size < (w.alloc (.cells #[.int .i64 0,.int .u64 0,.int .u64 0,.int .u64 0,.int .u64 0,.slice none 0 0,.int .i64 0,.int .i64 0,.int .i64 0,.bool false] 28)).heap.size:=by simp
 have HC:=Lib.hid (fun w=>esread_whole s hs i hi fl w)
 rw [hw] at HC
 have HX:=Lib.hid (show Value.int .i64 (bits .and .i64 fl 6)=Value.int .i64 (flI (icB fl) (nlB fl)) by rw [and6])
 clear hR hop hb0 hi
 go_enter Tryz.func98,Tryz.ntmps98
 go_wp2_with fail
 generalize World.alloc _ _=W at *
 refine Ri.wp_region_frame (by kernel_rfl) (by kernel_rfl) (by kernel_rfl) (by kernel_rfl)
   (fun L v w'=>Below W.heap.size W w'∧(L 15=true→L 14=true)∧(L 0=true→v 0=.pointer (some ⟨R,0,none⟩))∧(L 1=true→v 1=.pointer (some ⟨R,0,none⟩))∧(L 2=true→v 2=.pointer (some ⟨R,0,none⟩))∧(L 3=true→v 3=.string s)∧(L 4=true→v 4=.pointer (some ⟨R,0,none⟩))∧(L 5=true→v 5=.pointer (some ⟨R,0,none⟩))∧(L 6=true→v 6=.pointer (some ⟨R,1,none⟩))∧(L 7=true→v 7=.int .i64 (i:Int))∧(L 8=true→v 8=.pointer (some ⟨R,0,none⟩))∧(L 9=true→v 9=.pointer (some ⟨R,0,none⟩))∧(L 10=true→v 10=.pointer (some ⟨R,2,none⟩))∧(L 11=true→v 11=.int .i64 fl)∧(L 12=true→v 12=.int .i64 (flI (icB fl) (nlB fl)))∧(L 13=true→v 13=.agg #[.int .u64 (Oc.U (Oc.mk P 0)),.int .u64 (Oc.U (Oc.mk P 1)),.int .u64 (Oc.U (Oc.mk P 2)),.int .u64 (Oc.U (Oc.mk P 3)),.int .i64 (j:Int),.int .i64 0,.int .i64 0])∧(L 14=true→NewAt W.heap.size w' (v 14) (L 15) #[.int .u64 0,.int .u64 0,.int .u64 0,.int .u64 0,.int .i64 0,.int .i64 0,.int .i64 0] #[.int .u64 (Oc.U (Oc.mk P 0)),.int .u64 (Oc.U (Oc.mk P 1)),.int .u64 (Oc.U (Oc.mk P 2)),.int .u64 (Oc.U (Oc.mk P 3)),.int .i64 (j:Int),.int .i64 0,.int .i64 0] 167))
   ?_ ?_ ?_
 · exact ⟨(Below.refl _ _).drew,by simp,by simp,by simp,by simp,by simp,by simp,by simp,by simp,by simp,by simp,by simp,by simp,by simp,by simp,by simp,by simp⟩
 · intro i hi9 L v w9 xa hI hL hd hv ho
   have hi':i=0 ∨ i=1 ∨ i=2 ∨ i=3 ∨ i=4 ∨ i=5 ∨ i=6 ∨ i=7 ∨ i=8 ∨ i=9 ∨ i=10 ∨ i=11 ∨ i=12 ∨ i=13 ∨ i=14 ∨ i=15:=by simp at hi9;omega
   obtain ⟨hb,qd,q0,q1,q2,q3,q4,q5,q6,q7,q8,q9,q10,q11,q12,q13,q14⟩:=hI
   rcases hi' with rfl | rfl | rfl | rfl | rfl | rfl | rfl | rfl | rfl | rfl | rfl | rfl | rfl | rfl | rfl | rfl
   · have e0:xa.tmps.getD 0 undef=.pointer (some ⟨R,0,none⟩):=ho 0 (by kernel_rfl)
     refine Ri.step_plain rfl rfl (fun K' hK=>?_)
     go_simp
     exact hK _ _ ⟨_,_,rfl,rfl,hb,qd,fun _=>rfl,q1,q2,q3,q4,q5,q6,q7,q8,q9,q10,q11,q12,q13,q14⟩
   · have l0:L 0=true:=by have:=hd _ rfl;simp [Region.binds] at this;simp [this]
     have f0:=(hv 0 4 rfl l0).trans (q0 l0)
     refine Ri.step_plain rfl rfl (fun K' hK=>?_)
     go_simp
     exact hK _ _ ⟨_,_,rfl,rfl,hb,qd,q0,fun _=>rfl,q2,q3,q4,q5,q6,q7,q8,q9,q10,q11,q12,q13,q14⟩
   · have l0:L 1=true:=by have:=hd _ rfl;simp [Region.binds] at this;simp [this]
     have f1:=(hv 1 5 rfl l0).trans (q1 l0)
     refine Ri.step_plain rfl rfl (fun K' hK=>?_)
     go_simp
     exact hK _ _ ⟨_,_,rfl,rfl,hb,qd,q0,q1,fun _=>rfl,q3,q4,q5,q6,q7,q8,q9,q10,q11,q12,q13,q14⟩
   · have l0:L 2=true:=by have:=hd _ rfl;simp [Region.binds] at this;simp [this]
     have f2:=(hv 2 6 rfl l0).trans (q2 l0)
     refine Ri.step_plain rfl rfl (fun K' hK=>?_)
     obtain ⟨k0,_⟩:=st7 (keep_blk hb HR1.out)
     go_simp
     exact hK _ _ ⟨_,_,rfl,rfl,hb,qd,q0,q1,q2,fun _=>rfl,q4,q5,q6,q7,q8,q9,q10,q11,q12,q13,q14⟩
   · have e0:xa.tmps.getD 0 undef=.pointer (some ⟨R,0,none⟩):=ho 0 (by kernel_rfl)
     refine Ri.step_plain rfl rfl (fun K' hK=>?_)
     go_simp
     exact hK _ _ ⟨_,_,rfl,rfl,hb,qd,q0,q1,q2,q3,fun _=>rfl,q5,q6,q7,q8,q9,q10,q11,q12,q13,q14⟩
   · have l0:L 4=true:=by have:=hd _ rfl;simp [Region.binds] at this;simp [this]
     have f4:=(hv 4 8 rfl l0).trans (q4 l0)
     refine Ri.step_plain rfl rfl (fun K' hK=>?_)
     go_simp
     exact hK _ _ ⟨_,_,rfl,rfl,hb,qd,q0,q1,q2,q3,q4,fun _=>rfl,q6,q7,q8,q9,q10,q11,q12,q13,q14⟩
   · have l0:L 5=true:=by have:=hd _ rfl;simp [Region.binds] at this;simp [this]
     have f5:=(hv 5 9 rfl l0).trans (q5 l0)
     refine Ri.step_plain rfl rfl (fun K' hK=>?_)
     go_simp
     exact hK _ _ ⟨_,_,rfl,rfl,hb,qd,q0,q1,q2,q3,q4,q5,fun _=>rfl,q7,q8,q9,q10,q11,q12,q13,q14⟩
   · have l0:L 6=true:=by have:=hd _ rfl;simp [Region.binds] at this;simp [this]
     have f6:=(hv 6 10 rfl l0).trans (q6 l0)
     refine Ri.step_plain rfl rfl (fun K' hK=>?_)
     obtain ⟨_,k1,_⟩:=st7 (keep_blk hb HR1.out)
     go_simp
     exact hK _ _ ⟨_,_,rfl,rfl,hb,qd,q0,q1,q2,q3,q4,q5,q6,fun _=>rfl,q8,q9,q10,q11,q12,q13,q14⟩
   · have e0:xa.tmps.getD 0 undef=.pointer (some ⟨R,0,none⟩):=ho 0 (by kernel_rfl)
     refine Ri.step_plain rfl rfl (fun K' hK=>?_)
     go_simp
     exact hK _ _ ⟨_,_,rfl,rfl,hb,qd,q0,q1,q2,q3,q4,q5,q6,q7,fun _=>rfl,q9,q10,q11,q12,q13,q14⟩
   · have l0:L 8=true:=by have:=hd _ rfl;simp [Region.binds] at this;simp [this]
     have f8:=(hv 8 12 rfl l0).trans (q8 l0)
     refine Ri.step_plain rfl rfl (fun K' hK=>?_)
     go_simp
     exact hK _ _ ⟨_,_,rfl,rfl,hb,qd,q0,q1,q2,q3,q4,q5,q6,q7,q8,fun _=>rfl,q10,q11,q12,q13,q14⟩
   · have l0:L 9=true:=by have:=hd _ rfl;simp [Region.binds] at this;simp [this]
     have f9:=(hv 9 13 rfl l0).trans (q9 l0)
     refine Ri.step_plain rfl rfl (fun K' hK=>?_)
     go_simp
     exact hK _ _ ⟨_,_,rfl,rfl,hb,qd,q0,q1,q2,q3,q4,q5,q6,q7,q8,q9,fun _=>rfl,q11,q12,q13,q14⟩
   · have l0:L 10=true:=by have:=hd _ rfl;simp [Region.binds] at this;simp [this]
     have f10:=(hv 10 14 rfl l0).trans (q10 l0)
     refine Ri.step_plain rfl rfl (fun K' hK=>?_)
     obtain ⟨_,_,k2,_⟩:=st7 (keep_blk hb HR1.out)
     go_simp
     exact hK _ _ ⟨_,_,rfl,rfl,hb,qd,q0,q1,q2,q3,q4,q5,q6,q7,q8,q9,q10,fun _=>rfl,q12,q13,q14⟩
   · have l0:L 11=true:=by have:=hd _ rfl;simp [Region.binds] at this;simp [this]
     have f11:=(hv 11 15 rfl l0).trans (q11 l0)
     refine Ri.step_plain rfl rfl (fun K' hK=>?_)
     go_simp
     exact hK _ _ ⟨_,_,rfl,rfl,hb,qd,q0,q1,q2,q3,q4,q5,q6,q7,q8,q9,q10,q11,fun _=>HX.out,q13,q14⟩
   · have l0:L 3=true∧L 7=true∧L 12=true:=by have:=hd _ rfl;simp [Region.binds] at this;simp [this]
     have f3:=(hv 3 7 rfl l0.1).trans (q3 l0.1)
     have f7:=(hv 7 11 rfl l0.2.1).trans (q7 l0.2.1)
     have f12:=(hv 12 16 rfl l0.2.2).trans (q12 l0.2.2)
     refine Ri.step_plain rfl rfl (fun K' hK=>?_)
     go_simp
     refine (HC.out _).mono ?_
     rintro e w8 ⟨rfl,hb8⟩
     exact hK _ _ ⟨_,_,rfl,rfl,hb.trans (hb8.mono hb.size),qd,q0,q1,q2,q3,q4,q5,q6,q7,q8,q9,q10,q11,q12,fun _=>rfl,(fun l=>(q14 l).below hb8)⟩
   · refine Ri.step_plain rfl rfl (fun K' hK=>?_)
     have hl9:L 15=false:=by cases h:L 15 with | false=>rfl | true=>rw [qd h] at hL;cases hL
     go_simp
     exact hK _ _ ⟨_,_,rfl,rfl,hb.alloc hb.size _,(fun l=>rfl),q0,q1,q2,q3,q4,q5,q6,q7,q8,q9,q10,q11,q12,q13,(fun _=>NewAt.new hb.size hl9)⟩
   · have l0:L 14=true∧L 13=true:=by have:=hd _ rfl;simp [Region.binds] at this;simp [this]
     have f14:=hv 14 3 rfl l0.1
     have f13:=(hv 13 17 rfl l0.2).trans (q13 l0.2)
     refine Ri.step_plain rfl rfl (fun K' hK=>?_)
     obtain ⟨g9,hg9,hv9,hzg⟩:=(q14 l0.1).before hL
     refine wp_store_row _ _ _ rfl g9 #[.int .u64 (Oc.U (Oc.mk P 0)),.int .u64 (Oc.U (Oc.mk P 1)),.int .u64 (Oc.U (Oc.mk P 2)),.int .u64 (Oc.U (Oc.mk P 3)),.int .i64 (j:Int),.int .i64 0,.int .i64 0] (f14.trans hv9) f13 167 _ hzg (by kernel_rfl) (by kernel_rfl) (by simp [Value.oneCell']) ?_
     exact hK _ _ ⟨_,undef,rfl,rfl,below_setRow hb hg9 _,(fun _=>l0.1),q0,q1,q2,q3,q4,q5,q6,q7,q8,q9,q10,q11,q12,q13,(fun _=>⟨g9,hg9,hv9,heap_setRow hzg⟩)⟩
 · rintro v w9 ⟨hb,-,-,-,-,-,-,-,-,-,-,-,-,-,-,-,q14⟩
   obtain ⟨g9,hg9,q14',hz9⟩:=q14 rfl
   have ZG:=Lib.hid hz9
   simp only [Ri.frame,List.zipIdx,List.foldl_cons,List.foldl_nil,if_true,List.setIfInBounds_toArray,List.set_cons_zero,List.set_cons_succ,Nat.reduceAdd,q14']
   clear q14 q14' hz9
   generalize v 0=y0;generalize v 1=y1;generalize v 2=y2;generalize v 3=y3;generalize v 4=y4;generalize v 5=y5;generalize v 6=y6;generalize v 7=y7;generalize v 8=y8;generalize v 9=y9;generalize v 10=y10;generalize v 11=y11;generalize v 12=y12;generalize v 13=y13
   have HR2:=Lib.hid (keep_blk hb HR1.out);have HOP2:=Lib.hid (HOP1.out.later hb)
   have Z2:=Lib.hid (keep_blk hb Z0.out)
   have HB:=Lib.hid (HB0.out.trans (hb.mono HB0.out.size))
   have hgR:g9 ≠ R:=by have:=st_lt HR1.out;omega
   have hgw:g9 ≠ w.heap.size:=by omega
   have hRw:R ≠ w.heap.size:=by omega
   obtain ⟨c0,c1,c2,c3,c4,c5,c6⟩:=st7 HR2.out
   obtain ⟨f1,f3,f4,f5,f6⟩:=stf HR2.out
   obtain ⟨a0,a1,a2,a3,a4,a5,a6⟩:=seven ZG.out
   clear hb Z0 HB0 HR1 HC HX
   have hP3:=st_place HR2.out j (v:=(j:Int)) rfl
   have ht3:Touch [R] w9 (w9.setCell ⟨R,1,none⟩ (.int .i64 (j:Int))):=(Touch.refl [R] w9).setCell List.mem_cons_self 1 _
   have HP3:=Lib.hid hP3;have HT3:=Lib.hid ((Touch.of_below [R] HB.out).trans ht3)
   have Z3:=Lib.hid ((ht3.block w.heap.size (blk_lt Z2.out) (by simp;omega)).trans Z2.out)
   obtain ⟨b0,b1,b2,b3,-,-,-⟩:=seven ((ht3.block g9 (blk_lt ZG.out) (by simp;omega)).trans ZG.out)
   have HOP3:=Lib.hid (HOP2.out.touch ht3)
   clear hP3 ht3
   go_wp2_with (first
     | (refine wpList_store_row rfl 28 (.tmp 2) (.tmp 35) rfl w.heap.size #[.int .i64 2,.int .u64 (Oc.U (Oc.mk P 0)),.int .u64 (Oc.U (Oc.mk P 1)),.int .u64 (Oc.U (Oc.mk P 2)),.int .u64 (Oc.U (Oc.mk P 3)),.slice none 0 0,.int .i64 0,.int .i64 0,.int .i64 0,.bool false] rfl rfl 28 _ Z3.out (by kernel_rfl) rfl (by simp [Value.oneCell']) ?_)
     | fail)
   have hT:=HT3.out.setRow_new (Nat.le_refl w.heap.size) #[.int .i64 2,.int .u64 (Oc.U (Oc.mk P 0)),.int .u64 (Oc.U (Oc.mk P 1)),.int .u64 (Oc.U (Oc.mk P 2)),.int .u64 (Oc.U (Oc.mk P 3)),.slice none 0 0,.int .i64 0,.int .i64 0,.int .i64 0,.bool false]
   exact bodyPost_ret (results_cell_row rfl _ _ w.heap.size 28 #[.int .i64 2,.int .u64 (Oc.U (Oc.mk P 0)),.int .u64 (Oc.U (Oc.mk P 1)),.int .u64 (Oc.U (Oc.mk P 2)),.int .u64 (Oc.U (Oc.mk P 3)),.slice none 0 0,.int .i64 0,.int .i64 0,.int .i64 0,.bool false] (0,0) _ rfl (heap_setRow Z3.out) Tryz.underlying28 rfl (by kernel_rfl)) rfl ⟨ov,.inl rfl,HOP3.out.setRow hnov _,hT.obs,_,rfl,TreesAt.nil,(heap_setRow_other _ _ _ hRw).trans HP3.out⟩
theorem esset_err (w:World) (R:Nat) (s:ByteArray) (hs:s.size ≤ 1024) (i:Nat) (fl:Int) (g:Nat) (ov:Value) (d:Nat) (hR:w.heap[R]? = some (.cells (stC s i fl g ov 0 0) 58)) (hop:Opn w R d ov) (hi:bt s i=91) (hil:i+d ≤ s.size+64) (hgs:g ≤ s.size) (c:Nat) (q:Int) (hw:Br.whole (bt s) s.size i (icB fl) (nlB fl)=.err c q) :
   Calls Tryz.prog 98 #[.pointer (some ⟨R,0,none⟩)] w (EsEnd (fun _=>False) R s fl d ov (.err c q) w):=by
 have hlt:=st_lt hR
 have hb0:Below w.heap.size w (w.alloc (.cells #[.int .i64 0,.int .u64 0,.int .u64 0,.int .u64 0,.int .u64 0,.slice none 0 0,.int .i64 0,.int .i64 0,.int .i64 0,.bool false] 28)):=(Below.refl _ _).alloc (Nat.le_refl _) _
 have hnov:ov.ownBlock ≠ some w.heap.size:=fun e=>by have:=(hop.lt e).2;omega
 have HR1:=Lib.hid (keep_blk hb0 hR);have HOP1:=Lib.hid (hop.later hb0);have HB0:=Lib.hid hb0
 have Z0:=Lib.hid (heap_alloc_new w (.cells #[.int .i64 0,.int .u64 0,.int .u64 0,.int .u64 0,.int .u64 0,.slice none 0 0,.int .i64 0,.int .i64 0,.int .i64 0,.bool false] 28))
 have hsW:w.heap.size < (w.alloc (.cells #[.int .i64 0,.int .u64 0,.int .u64 0,.int .u64 0,.int .u64 0,.slice none 0 0,.int .i64 0,.int .i64 0,.int .i64 0,.bool false] 28)).heap.size:=by simp
 have HC:=Lib.hid (fun w=>esread_whole s hs i hi fl w)
 rw [hw] at HC
 have HX:=Lib.hid (show Value.int .i64 (bits .and .i64 fl 6)=Value.int .i64 (flI (icB fl) (nlB fl)) by rw [and6])
 clear hR hop hb0 hi
 go_enter Tryz.func98,Tryz.ntmps98
 go_wp2_with fail
 generalize World.alloc _ _=W at *
 have hc0:=whole_code hw
 refine Ri.wp_region_frame (by kernel_rfl) (by kernel_rfl) (by kernel_rfl) (by kernel_rfl)
   (fun L v w'=>Below W.heap.size W w'∧(L 15=true→L 14=true)∧(L 0=true→v 0=.pointer (some ⟨R,0,none⟩))∧(L 1=true→v 1=.pointer (some ⟨R,0,none⟩))∧(L 2=true→v 2=.pointer (some ⟨R,0,none⟩))∧(L 3=true→v 3=.string s)∧(L 4=true→v 4=.pointer (some ⟨R,0,none⟩))∧(L 5=true→v 5=.pointer (some ⟨R,0,none⟩))∧(L 6=true→v 6=.pointer (some ⟨R,1,none⟩))∧(L 7=true→v 7=.int .i64 (i:Int))∧(L 8=true→v 8=.pointer (some ⟨R,0,none⟩))∧(L 9=true→v 9=.pointer (some ⟨R,0,none⟩))∧(L 10=true→v 10=.pointer (some ⟨R,2,none⟩))∧(L 11=true→v 11=.int .i64 fl)∧(L 12=true→v 12=.int .i64 (flI (icB fl) (nlB fl)))∧(L 13=true→v 13=.agg #[.int .u64 0,.int .u64 0,.int .u64 0,.int .u64 0,.int .i64 0,.int .i64 (c:Int),.int .i64 q])∧(L 14=true→NewAt W.heap.size w' (v 14) (L 15) #[.int .u64 0,.int .u64 0,.int .u64 0,.int .u64 0,.int .i64 0,.int .i64 0,.int .i64 0] #[.int .u64 0,.int .u64 0,.int .u64 0,.int .u64 0,.int .i64 0,.int .i64 (c:Int),.int .i64 q] 167))
   ?_ ?_ ?_
 · exact ⟨(Below.refl _ _).drew,by simp,by simp,by simp,by simp,by simp,by simp,by simp,by simp,by simp,by simp,by simp,by simp,by simp,by simp,by simp,by simp⟩
 · intro i hi9 L v w9 xa hI hL hd hv ho
   have hi':i=0 ∨ i=1 ∨ i=2 ∨ i=3 ∨ i=4 ∨ i=5 ∨ i=6 ∨ i=7 ∨ i=8 ∨ i=9 ∨ i=10 ∨ i=11 ∨ i=12 ∨ i=13 ∨ i=14 ∨ i=15:=by simp at hi9;omega
   obtain ⟨hb,qd,q0,q1,q2,q3,q4,q5,q6,q7,q8,q9,q10,q11,q12,q13,q14⟩:=hI
   rcases hi' with rfl | rfl | rfl | rfl | rfl | rfl | rfl | rfl | rfl | rfl | rfl | rfl | rfl | rfl | rfl | rfl
   · have e0:xa.tmps.getD 0 undef=.pointer (some ⟨R,0,none⟩):=ho 0 (by kernel_rfl)
     refine Ri.step_plain rfl rfl (fun K' hK=>?_)
     go_simp
     exact hK _ _ ⟨_,_,rfl,rfl,hb,qd,fun _=>rfl,q1,q2,q3,q4,q5,q6,q7,q8,q9,q10,q11,q12,q13,q14⟩
   · have l0:L 0=true:=by have:=hd _ rfl;simp [Region.binds] at this;simp [this]
     have f0:=(hv 0 4 rfl l0).trans (q0 l0)
     refine Ri.step_plain rfl rfl (fun K' hK=>?_)
     go_simp
     exact hK _ _ ⟨_,_,rfl,rfl,hb,qd,q0,fun _=>rfl,q2,q3,q4,q5,q6,q7,q8,q9,q10,q11,q12,q13,q14⟩
   · have l0:L 1=true:=by have:=hd _ rfl;simp [Region.binds] at this;simp [this]
     have f1:=(hv 1 5 rfl l0).trans (q1 l0)
     refine Ri.step_plain rfl rfl (fun K' hK=>?_)
     go_simp
     exact hK _ _ ⟨_,_,rfl,rfl,hb,qd,q0,q1,fun _=>rfl,q3,q4,q5,q6,q7,q8,q9,q10,q11,q12,q13,q14⟩
   · have l0:L 2=true:=by have:=hd _ rfl;simp [Region.binds] at this;simp [this]
     have f2:=(hv 2 6 rfl l0).trans (q2 l0)
     refine Ri.step_plain rfl rfl (fun K' hK=>?_)
     obtain ⟨k0,_⟩:=st7 (keep_blk hb HR1.out)
     go_simp
     exact hK _ _ ⟨_,_,rfl,rfl,hb,qd,q0,q1,q2,fun _=>rfl,q4,q5,q6,q7,q8,q9,q10,q11,q12,q13,q14⟩
   · have e0:xa.tmps.getD 0 undef=.pointer (some ⟨R,0,none⟩):=ho 0 (by kernel_rfl)
     refine Ri.step_plain rfl rfl (fun K' hK=>?_)
     go_simp
     exact hK _ _ ⟨_,_,rfl,rfl,hb,qd,q0,q1,q2,q3,fun _=>rfl,q5,q6,q7,q8,q9,q10,q11,q12,q13,q14⟩
   · have l0:L 4=true:=by have:=hd _ rfl;simp [Region.binds] at this;simp [this]
     have f4:=(hv 4 8 rfl l0).trans (q4 l0)
     refine Ri.step_plain rfl rfl (fun K' hK=>?_)
     go_simp
     exact hK _ _ ⟨_,_,rfl,rfl,hb,qd,q0,q1,q2,q3,q4,fun _=>rfl,q6,q7,q8,q9,q10,q11,q12,q13,q14⟩
   · have l0:L 5=true:=by have:=hd _ rfl;simp [Region.binds] at this;simp [this]
     have f5:=(hv 5 9 rfl l0).trans (q5 l0)
     refine Ri.step_plain rfl rfl (fun K' hK=>?_)
     go_simp
     exact hK _ _ ⟨_,_,rfl,rfl,hb,qd,q0,q1,q2,q3,q4,q5,fun _=>rfl,q7,q8,q9,q10,q11,q12,q13,q14⟩
   · have l0:L 6=true:=by have:=hd _ rfl;simp [Region.binds] at this;simp [this]
     have f6:=(hv 6 10 rfl l0).trans (q6 l0)
     refine Ri.step_plain rfl rfl (fun K' hK=>?_)
     obtain ⟨_,k1,_⟩:=st7 (keep_blk hb HR1.out)
     go_simp
     exact hK _ _ ⟨_,_,rfl,rfl,hb,qd,q0,q1,q2,q3,q4,q5,q6,fun _=>rfl,q8,q9,q10,q11,q12,q13,q14⟩
   · have e0:xa.tmps.getD 0 undef=.pointer (some ⟨R,0,none⟩):=ho 0 (by kernel_rfl)
     refine Ri.step_plain rfl rfl (fun K' hK=>?_)
     go_simp
     exact hK _ _ ⟨_,_,rfl,rfl,hb,qd,q0,q1,q2,q3,q4,q5,q6,q7,fun _=>rfl,q9,q10,q11,q12,q13,q14⟩
   · have l0:L 8=true:=by have:=hd _ rfl;simp [Region.binds] at this;simp [this]
     have f8:=(hv 8 12 rfl l0).trans (q8 l0)
     refine Ri.step_plain rfl rfl (fun K' hK=>?_)
     go_simp
     exact hK _ _ ⟨_,_,rfl,rfl,hb,qd,q0,q1,q2,q3,q4,q5,q6,q7,q8,fun _=>rfl,q10,q11,q12,q13,q14⟩
   · have l0:L 9=true:=by have:=hd _ rfl;simp [Region.binds] at this;simp [this]
     have f9:=(hv 9 13 rfl l0).trans (q9 l0)
     refine Ri.step_plain rfl rfl (fun K' hK=>?_)
     go_simp
     exact hK _ _ ⟨_,_,rfl,rfl,hb,qd,q0,q1,q2,q3,q4,q5,q6,q7,q8,q9,fun _=>rfl,q11,q12,q13,q14⟩
   · have l0:L 10=true:=by have:=hd _ rfl;simp [Region.binds] at this;simp [this]
     have f10:=(hv 10 14 rfl l0).trans (q10 l0)
     refine Ri.step_plain rfl rfl (fun K' hK=>?_)
     obtain ⟨_,_,k2,_⟩:=st7 (keep_blk hb HR1.out)
     go_simp
     exact hK _ _ ⟨_,_,rfl,rfl,hb,qd,q0,q1,q2,q3,q4,q5,q6,q7,q8,q9,q10,fun _=>rfl,q12,q13,q14⟩
   · have l0:L 11=true:=by have:=hd _ rfl;simp [Region.binds] at this;simp [this]
     have f11:=(hv 11 15 rfl l0).trans (q11 l0)
     refine Ri.step_plain rfl rfl (fun K' hK=>?_)
     go_simp
     exact hK _ _ ⟨_,_,rfl,rfl,hb,qd,q0,q1,q2,q3,q4,q5,q6,q7,q8,q9,q10,q11,fun _=>HX.out,q13,q14⟩
   · have l0:L 3=true∧L 7=true∧L 12=true:=by have:=hd _ rfl;simp [Region.binds] at this;simp [this]
     have f3:=(hv 3 7 rfl l0.1).trans (q3 l0.1)
     have f7:=(hv 7 11 rfl l0.2.1).trans (q7 l0.2.1)
     have f12:=(hv 12 16 rfl l0.2.2).trans (q12 l0.2.2)
     refine Ri.step_plain rfl rfl (fun K' hK=>?_)
     go_simp
     refine (HC.out _).mono ?_
     rintro e w8 ⟨rfl,hb8⟩
     exact hK _ _ ⟨_,_,rfl,rfl,hb.trans (hb8.mono hb.size),qd,q0,q1,q2,q3,q4,q5,q6,q7,q8,q9,q10,q11,q12,fun _=>rfl,(fun l=>(q14 l).below hb8)⟩
   · refine Ri.step_plain rfl rfl (fun K' hK=>?_)
     have hl9:L 15=false:=by cases h:L 15 with | false=>rfl | true=>rw [qd h] at hL;cases hL
     go_simp
     exact hK _ _ ⟨_,_,rfl,rfl,hb.alloc hb.size _,(fun l=>rfl),q0,q1,q2,q3,q4,q5,q6,q7,q8,q9,q10,q11,q12,q13,(fun _=>NewAt.new hb.size hl9)⟩
   · have l0:L 14=true∧L 13=true:=by have:=hd _ rfl;simp [Region.binds] at this;simp [this]
     have f14:=hv 14 3 rfl l0.1
     have f13:=(hv 13 17 rfl l0.2).trans (q13 l0.2)
     refine Ri.step_plain rfl rfl (fun K' hK=>?_)
     obtain ⟨g9,hg9,hv9,hzg⟩:=(q14 l0.1).before hL
     refine wp_store_row _ _ _ rfl g9 #[.int .u64 0,.int .u64 0,.int .u64 0,.int .u64 0,.int .i64 0,.int .i64 (c:Int),.int .i64 q] (f14.trans hv9) f13 167 _ hzg (by kernel_rfl) (by kernel_rfl) (by simp [Value.oneCell']) ?_
     exact hK _ _ ⟨_,undef,rfl,rfl,below_setRow hb hg9 _,(fun _=>l0.1),q0,q1,q2,q3,q4,q5,q6,q7,q8,q9,q10,q11,q12,q13,(fun _=>⟨g9,hg9,hv9,heap_setRow hzg⟩)⟩
 · rintro v w9 ⟨hb,-,-,-,-,-,-,-,-,-,-,-,-,-,-,-,q14⟩
   obtain ⟨g9,hg9,q14',hz9⟩:=q14 rfl
   have ZG:=Lib.hid hz9
   simp only [Ri.frame,List.zipIdx,List.foldl_cons,List.foldl_nil,if_true,List.setIfInBounds_toArray,List.set_cons_zero,List.set_cons_succ,Nat.reduceAdd,q14']
   clear q14 q14' hz9
   generalize v 0=y0;generalize v 1=y1;generalize v 2=y2;generalize v 3=y3;generalize v 4=y4;generalize v 5=y5;generalize v 6=y6;generalize v 7=y7;generalize v 8=y8;generalize v 9=y9;generalize v 10=y10;generalize v 11=y11;generalize v 12=y12;generalize v 13=y13
   have HR2:=Lib.hid (keep_blk hb HR1.out);have HOP2:=Lib.hid (HOP1.out.later hb)
   have Z2:=Lib.hid (keep_blk hb Z0.out)
   have HB:=Lib.hid (HB0.out.trans (hb.mono HB0.out.size))
   have hgR:g9 ≠ R:=by have:=st_lt HR1.out;omega
   have hgw:g9 ≠ w.heap.size:=by omega
   have hRw:R ≠ w.heap.size:=by omega
   obtain ⟨c0,c1,c2,c3,c4,c5,c6⟩:=st7 HR2.out
   obtain ⟨f1,f3,f4,f5,f6⟩:=stf HR2.out
   obtain ⟨a0,a1,a2,a3,a4,a5,a6⟩:=seven ZG.out
   clear hb Z0 HB0 HR1 HC HX
   have hcz:((c:Int) == 0)=false:=by rw [beq_eq_false_iff_ne];omega
   have hcz':(c == 0)=false:=by rw [beq_eq_false_iff_ne];exact hc0
   go_wp2_with fail
   refine (esfault_any w9 R s i fl g ov 0 HR2.out c q).mono ?_
   rintro e w6 ⟨rfl,hR6,ht6⟩
   have Z6:=Lib.hid ((ht6.block w.heap.size (blk_lt Z2.out) (by simp;omega)).trans Z2.out)
   have HR6:=Lib.hid hR6;have HT6:=Lib.hid ((Touch.of_below [R] HB.out).trans ht6);have HOP6:=Lib.hid (HOP2.out.touch ht6)
   clear hR6 ht6
   go_wp2_with (first
     | (refine wpList_store_row rfl 28 (.tmp 2) (.tmp 27) rfl w.heap.size #[.int .i64 0,.int .u64 0,.int .u64 0,.int .u64 0,.int .u64 0,.slice none 0 0,.int .i64 0,.int .i64 0,.int .i64 0,.bool false] rfl rfl 28 _ Z6.out (by kernel_rfl) rfl (by simp [Value.oneCell']) ?_)
     | fail)
   have hT:=HT6.out.setRow_new (Nat.le_refl w.heap.size) #[.int .i64 0,.int .u64 0,.int .u64 0,.int .u64 0,.int .u64 0,.slice none 0 0,.int .i64 0,.int .i64 0,.int .i64 0,.bool false]
   exact bodyPost_ret (results_cell_row rfl _ _ w.heap.size 28 #[.int .i64 0,.int .u64 0,.int .u64 0,.int .u64 0,.int .u64 0,.slice none 0 0,.int .i64 0,.int .i64 0,.int .i64 0,.bool false] (0,0) _ rfl (heap_setRow Z6.out) Tryz.underlying28 rfl (by kernel_rfl)) rfl ⟨ov,.inl rfl,HOP6.out.setRow hnov _,hT.obs,hc0,Tr.leaf 0,_,_,_,_,_,rfl,(heap_setRow_other _ _ _ hRw).trans HR6.out,hil,hgs⟩
end Go.Proofs.YtfcilopifjddpaaGreatDoor
namespace Go.Proofs.YtfcilopifjddpaaGreatDoor
open Go.RowKit
def cutW (w:World) (R:Nat):World:={ w with heap:=w.heap.extract 0 R }
theorem cutW_size {w:World} {R:Nat} (h:R < w.heap.size):(cutW w R).heap.size=R:=by
 show (w.heap.extract 0 R).size=R
 simp;omega
theorem cutW_below {w w':World} {R:Nat} (h:R < w.heap.size) (ht:Touch [R] w w'):Below (cutW w R).heap.size (cutW w R) w':=by
 refine ⟨ht.os,ht.tape,ht.output,by rw [cutW_size h];have:=ht.size;omega,fun k hk=>?_⟩
 rw [cutW_size h] at hk
 rw [ht.block k (by omega) (by simp;omega)]
 show w.heap[k]? = (w.heap.extract 0 R)[k]?
 rw [Array.getElem?_extract]
 simp;omega
theorem esset_any (w:World) (R:Nat) (s:ByteArray) (hs:s.size ≤ 1024) (i:Nat) (fl:Int) (g:Nat) (ov:Value) (d:Nat) (hR:w.heap[R]? = some (.cells (stC s i fl g ov 0 0) 58)) (hop:Opn w R d ov) (hi:bt s i=91) (hil:i+d ≤ s.size+64) (hgs:g ≤ s.size) (O:Ep.Out)
   (hO:(match Br.whole (bt s) s.size i (icB fl) (nlB fl) with | .ok P j=>Ep.Out.ok (.bytes P) j g | .err c p=>.err c p)=O) :
   Calls Tryz.prog 98 #[.pointer (some ⟨R,0,none⟩)] w (EsEnd (fun _=>False) R s fl d ov O w):=by
 cases hw:Br.whole (bt s) s.size i (icB fl) (nlB fl) with
 | ok P j=>rw [hw] at hO;subst hO;exact esset_ok w R s hs i fl g ov d hR hop hi P j hw
 | err c p=>rw [hw] at hO;subst hO;exact esset_err w R s hs i fl g ov d hR hop hi hil hgs c p hw
theorem esone_bt (s:ByteArray) (j:Nat) (hj:j < s.size) (fl:Int) (w:World):Calls Tryz.prog 100 #[.int .u8 ((bt s j:Nat):Int),.int .i64 fl] w (LfEnd (Ep.one (icB fl) (bt s j)) w):=by
 rw [← bt_at hj];exact esone_any s[j] fl w
end Go.Proofs.YtfcilopifjddpaaGreatDoor
namespace Go.Proofs.YtfcilopifjddpaaGreatDoor
open Go.RowKit
theorem bstwo_any (s:ByteArray) (i a b:Nat) (_ha:a < 256) (hb:b < 256) (hi:i ≤ 4294967296) (w:World) :
   Calls Tryz.prog 58 #[.string s,.int .i64 (i:Int),.int .u8 (a:Int),.int .u8 (b:Int)] w fun e w'=>e=.returned (.bool (Bp.two (bt s) a b i))∧w=w':=by
 have wi:IntKind.i64.wrap ((i:Int)+1)=(i:Int)+1:=IntWalk.i64_in _ (by omega)
 unfold Bp.two
 by_cases hl:i+1 < s.size
 · have hd:decide ((i:Int)+1 < s.size)=true:=by simp;omega
   have hb0:=bt_at (show i < s.size by omega)
   have hb1:=bt_at hl
   have hi0:(0:Int) ≤ (i:Int)+1:=by omega
   have hi1:(i:Int)+1 < s.size:=by omega
   by_cases e0:bt s i=a
   · have k0:((bt s i:Int) == (a:Int))=true:=by rw [e0];simp
     have k0':(bt s i == a)=true:=by rw [e0];simp
     rw [k0']
     by_cases e1:bt s (i+1)=b
     · have k1:((bt s (i+1):Int) == (b:Int))=true:=by rw [e1];simp
       have k1':(bt s (i+1) == b)=true:=by rw [e1];simp
       rw [k1']
       clear e0 e1 hi hb
       go_enter Tryz.func58,Tryz.ntmps58
       go_wp2
       go_ret
       exact ⟨rfl,rfl⟩
     · have k1:((bt s (i+1):Int) == (b:Int))=false:=by rw [beq_eq_false_iff_ne];omega
       have k1':(bt s (i+1) == b)=false:=by rw [beq_eq_false_iff_ne];omega
       rw [k1']
       clear e0 e1 hi hb
       go_enter Tryz.func58,Tryz.ntmps58
       go_wp2
       go_ret
       exact ⟨rfl,rfl⟩
   · have k0:((bt s i:Int) == (a:Int))=false:=by rw [beq_eq_false_iff_ne];omega
     have k0':(bt s i == a)=false:=by rw [beq_eq_false_iff_ne];omega
     rw [k0']
     clear e0 hi hb
     go_enter Tryz.func58,Tryz.ntmps58
     go_wp2
     go_ret
     exact ⟨rfl,rfl⟩
 · have hd:decide ((i:Int)+1 < s.size)=false:=by simp;omega
   have k1':(bt s (i+1) == b)=false:=by rw [bt_out (by omega),beq_eq_false_iff_ne];omega
   rw [k1',Bool.and_false]
   clear hi hb k1'
   go_enter Tryz.func58,Tryz.ntmps58
   go_wp2
   go_ret
   exact ⟨rfl,rfl⟩
end Go.Proofs.YtfcilopifjddpaaGreatDoor
namespace Go.Proofs.YtfcilopifjddpaaGreatDoor
open Go.RowKit
theorem close_is {f:Nat→Nat} {i n e:Nat} (h1:i ≤ e) (h2:e < n) (h3:Bp.two f 92 125 e=true) (h4:∀ j,i ≤ j→j < e→Bp.two f 92 125 j=false):Bp.close f (n - i) i=some e:=by
 cases h:Bp.close f (n - i) i with
 | none=>have:=Bp.close_none h e h1 (by omega);rw [h3] at this;cases this
 | some e' =>
   obtain ⟨q1,q2,q3,q4⟩:=Bp.close_some h
   have:e'=e:=by
     rcases Nat.lt_trichotomy e' e with h | h | h
     · have:=h4 e' q1 h;rw [q3] at this;cases this
     · exact h
     · have:=q4 e h1 h;rw [h3] at this;cases this
   rw [this]
theorem close_not {f:Nat→Nat} {i n:Nat} (h4:∀ j,i ≤ j→j < n→Bp.two f 92 125 j=false):Bp.close f (n - i) i=none:=by
 cases h:Bp.close f (n - i) i with
 | none=>rfl
 | some e' =>
   obtain ⟨q1,q2,q3,q4⟩:=Bp.close_some h
   have:=h4 e' q1 (by omega);rw [q3] at this;cases this
theorem bsrepeat_star (w:World) (R:Nat) (s:ByteArray) (hs:s.size ≤ 1024) (i:Nat) (fl:Int) (g:Nat) (ov:Value) (d:Nat) (hR:w.heap[R]? = some (.cells (stC s i fl g ov 0 0) 58)) (hop:Opn w R d ov) (t:Tr) (hf:t.InForm) (v:Value) (P:Nat→Prop)
   (ht:TreesAt w (fun q=>P q∧ov.ownBlock ≠ some q) v t.subs) (hi:i ≤ s.size) (hd:d ≤ 32) (hgs:g ≤ s.size) (hRP:∀ q,P q→q ≠ R) (hm:bt s i=42) :
   Calls Tryz.prog 62 #[.pointer (some ⟨R,0,none⟩),.agg (t.cells v)] w (EsEnd P R s fl d ov (Ep.counted t 0 (-1) i (i+1) g) w):=by
 obtain ⟨p,c,rfl,hlen⟩:=ht.slice
 have hlt:=st_lt hR
 have hb2:Below w.heap.size w ((w.alloc (.cells #[.int .i64 t.kind,.int .u64 (Oc.U t.w0),.int .u64 (Oc.U t.w1),.int .u64 (Oc.U t.w2),.int .u64 (Oc.U t.w3),.slice p t.subs.length c,.int .i64 t.num,.int .i64 t.least,.int .i64 t.most,.bool t.bare] 28)).alloc (.cells #[.int .i64 0,.int .u64 0,.int .u64 0,.int .u64 0,.int .u64 0,.slice none 0 0,.int .i64 0,.int .i64 0,.int .i64 0,.bool false] 28)):=((Below.refl w.heap.size w).alloc (Nat.le_refl _) _).alloc (by simp) _
 have hnov:ov.ownBlock ≠ some w.heap.size:=fun e=>by have:=(hop.lt e).2;omega
 have hnov1:ov.ownBlock ≠ some (w.heap.size+1):=fun e=>by have:=(hop.lt e).2;omega
 have htr:TreesAt ((w.alloc (.cells #[.int .i64 t.kind,.int .u64 (Oc.U t.w0),.int .u64 (Oc.U t.w1),.int .u64 (Oc.U t.w2),.int .u64 (Oc.U t.w3),.slice p t.subs.length c,.int .i64 t.num,.int .i64 t.least,.int .i64 t.most,.bool t.bare] 28)).alloc (.cells #[.int .i64 0,.int .u64 0,.int .u64 0,.int .u64 0,.int .u64 0,.slice none 0 0,.int .i64 0,.int .i64 0,.int .i64 0,.bool false] 28)) (fun q=>(P q∧q < w.heap.size)∧ov.ownBlock ≠ some q) (.slice p t.subs.length c) t.subs:=(ht.mono fun q hq hP=>⟨⟨hP.1,hq⟩,hP.2⟩).later hb2
 have HS2:=Lib.hid (show ((w.alloc (.cells #[.int .i64 t.kind,.int .u64 (Oc.U t.w0),.int .u64 (Oc.U t.w1),.int .u64 (Oc.U t.w2),.int .u64 (Oc.U t.w3),.slice p t.subs.length c,.int .i64 t.num,.int .i64 t.least,.int .i64 t.most,.bool t.bare] 28)).alloc (.cells #[.int .i64 0,.int .u64 0,.int .u64 0,.int .u64 0,.int .u64 0,.slice none 0 0,.int .i64 0,.int .i64 0,.int .i64 0,.bool false] 28)).heap.size=w.heap.size+2 by simp)
 have ZB:=Lib.hid (two_new w (.cells #[.int .i64 t.kind,.int .u64 (Oc.U t.w0),.int .u64 (Oc.U t.w1),.int .u64 (Oc.U t.w2),.int .u64 (Oc.U t.w3),.slice p t.subs.length c,.int .i64 t.num,.int .i64 t.least,.int .i64 t.most,.bool t.bare] 28) (.cells #[.int .i64 0,.int .u64 0,.int .u64 0,.int .u64 0,.int .u64 0,.slice none 0 0,.int .i64 0,.int .i64 0,.int .i64 0,.bool false] 28)).1
 have ZR:=Lib.hid (two_new w (.cells #[.int .i64 t.kind,.int .u64 (Oc.U t.w0),.int .u64 (Oc.U t.w1),.int .u64 (Oc.U t.w2),.int .u64 (Oc.U t.w3),.slice p t.subs.length c,.int .i64 t.num,.int .i64 t.least,.int .i64 t.most,.bool t.bare] 28) (.cells #[.int .i64 0,.int .u64 0,.int .u64 0,.int .u64 0,.int .u64 0,.slice none 0 0,.int .i64 0,.int .i64 0,.int .i64 0,.bool false] 28)).2
 have HR2:=Lib.hid (keep_blk hb2 hR);have HOP2:=Lib.hid (hop.later hb2);have HTR:=Lib.hid htr;have HB2:=Lib.hid hb2;have HFM:=Lib.hid hf
 have wi:IntKind.i64.wrap ((i:Int)+1)=(i:Int)+1:=IntWalk.i64_in _ (by omega)
 clear hR hop ht hb2 htr hf hlen
 generalize hWW:((w.alloc (.cells #[.int .i64 t.kind,.int .u64 (Oc.U t.w0),.int .u64 (Oc.U t.w1),.int .u64 (Oc.U t.w2),.int .u64 (Oc.U t.w3),.slice p t.subs.length c,.int .i64 t.num,.int .i64 t.least,.int .i64 t.most,.bool t.bare] 28)).alloc (.cells #[.int .i64 0,.int .u64 0,.int .u64 0,.int .u64 0,.int .u64 0,.slice none 0 0,.int .i64 0,.int .i64 0,.int .i64 0,.bool false] 28))=W2 at HS2 ZB ZR HR2 HOP2 HTR HB2
 have HW2:=Lib.hid hWW.symm
 clear hWW
 obtain ⟨c0,c1,c2,c3,c4,c5,c6⟩:=st7 HR2.out
 obtain ⟨f1,f3,f4,f5,f6⟩:=stf HR2.out
 have HIS:=Lib.hid (fun b hb=>esis_any W2 R s i fl g ov 0 0 HR2.out i b hb)
 unfold Tr.cells at *
 have k42:(bt s i == 42)=true:=by rw [hm];rfl
 have hil:=(bt_txt s).lt hm (by omega)
 go_enter Tryz.func62,Tryz.ntmps62
 go_upto_region 1 with (fail)
 rw [← HW2.out]
 go_wp2_with fail
 refine (HIS.out 42 (by omega)).mono ?_;rintro e w' ⟨rfl,rfl⟩
 rw [k42]
 go_upto_region 4 with (fail)
 have hP3:=st_place HR2.out (i+1) (v:=(i:Int)+1) (by omega)
 have ht3:Touch [R] W2 (W2.setCell ⟨R,1,none⟩ (.int .i64 ((i:Int)+1))):=(Touch.refl [R] W2).setCell List.mem_cons_self 1 _
 have HS3:Hid (w.heap.size+1 < (W2.setCell ⟨R,1,none⟩ (.int .i64 ((i:Int)+1))).heap.size):=Lib.hid (by have:=HS2.out;simp [World.setCell];omega)
 have ZB3:=Lib.hid ((ht3.block w.heap.size (blk_lt ZB.out) (by simp;omega)).trans ZB.out)
 have ZR3:=Lib.hid ((ht3.block (w.heap.size+1) (blk_lt ZR.out) (by simp;omega)).trans ZR.out)
 have HT3:=Lib.hid (((Touch.of_below [R] HB2.out).trans ht3).obs (ov:=ov))
 have htr3:=HTR.out.keep (w':=W2.setCell ⟨R,1,none⟩ (.int .i64 ((i:Int)+1))) (fun q hq hP=>ht3.block q hq (fun hm=>hRP q hP.1.1 (List.mem_singleton.1 hm)))
 have HCT:=Lib.hid (escounted_any _ R s (i+1) fl g ov d hP3 (HOP2.out.touch ht3) t HFM.out _ (fun q=>P q∧q < w.heap.size) htr3 (0:Int) (-1) (by omega) (by omega) (.inl rfl) i (by omega) hgs)
 generalize W2.setCell ⟨R,1,none⟩ (.int .i64 ((i:Int)+1))=W3 at *
 clear hP3 ht3 htr3 c0 c1 c2 c3 c4 c5 c6 f1 f3 f4 f5 f6 ZB ZR HB2 HTR HOP2 HR2 HW2 HIS HS2
 unfold Tr.cells at *
 go_wp2_with (first
   | (refine wpList_load_row rfl 28 (.tmp 3) rfl w.heap.size rfl 28 _ (0,0) _ ZB3.out Tryz.underlying28 rfl (by kernel_rfl) ?_)
   | fail)
 refine (HCT.out.mono ?_)
 intro e w5 he
 obtain ⟨x,px,lx,cx,rfl⟩:=he.val
 have ZR5:=Lib.hid (he.keepsBlk ZR3.out (by omega) hnov1)
 have HE:=Lib.hid he
 clear he
 unfold Tr.cells
 go_wp2_with (first
   | (refine wpList_store_row rfl 28 (.tmp 4) (.tmp 27) rfl (w.heap.size+1) #[.int .i64 x.kind,.int .u64 (Oc.U x.w0),.int .u64 (Oc.U x.w1),.int .u64 (Oc.U x.w2),.int .u64 (Oc.U x.w3),.slice px lx cx,.int .i64 x.num,.int .i64 x.least,.int .i64 x.most,.bool x.bare] rfl rfl 28 _ ZR5.out (by kernel_rfl) rfl (by simp [Value.oneCell']) ?_)
   | fail)
 exact bodyPost_ret (results_cell_row rfl _ _ (w.heap.size+1) 28 #[.int .i64 x.kind,.int .u64 (Oc.U x.w0),.int .u64 (Oc.U x.w1),.int .u64 (Oc.U x.w2),.int .u64 (Oc.U x.w3),.slice px lx cx,.int .i64 x.num,.int .i64 x.least,.int .i64 x.most,.bool x.bare] (0,0) _ rfl (heap_setRow ZR5.out) Tryz.underlying28 rfl (by kernel_rfl)) rfl (HE.out.pass HT3.out (fun q hq=>hq) (Nat.le_succ _) HS3.out (by omega) hnov1 _)
theorem bsrepeat_no (w:World) (R:Nat) (s:ByteArray) (hs:s.size ≤ 1024) (i:Nat) (fl:Int) (g:Nat) (ov:Value) (d:Nat) (hR:w.heap[R]? = some (.cells (stC s i fl g ov 0 0) 58)) (hop:Opn w R d ov) (t:Tr) (_hf:t.InForm) (v:Value) (P:Nat→Prop)
   (ht:TreesAt w (fun q=>P q∧ov.ownBlock ≠ some q) v t.subs) (hi:i ≤ s.size) (_hd:d ≤ 32) (_hgs:g ≤ s.size) (h1:bt s i ≠ 42) (t123:Bp.two (bt s) 92 123 i=false) :
   Calls Tryz.prog 62 #[.pointer (some ⟨R,0,none⟩),.agg (t.cells v)] w (EsEnd P R s fl d ov (.ok t i g) w):=by
 obtain ⟨p,c,rfl,hlen⟩:=ht.slice
 have hlt:=st_lt hR
 have hb2:Below w.heap.size w ((w.alloc (.cells #[.int .i64 t.kind,.int .u64 (Oc.U t.w0),.int .u64 (Oc.U t.w1),.int .u64 (Oc.U t.w2),.int .u64 (Oc.U t.w3),.slice p t.subs.length c,.int .i64 t.num,.int .i64 t.least,.int .i64 t.most,.bool t.bare] 28)).alloc (.cells #[.int .i64 0,.int .u64 0,.int .u64 0,.int .u64 0,.int .u64 0,.slice none 0 0,.int .i64 0,.int .i64 0,.int .i64 0,.bool false] 28)):=((Below.refl w.heap.size w).alloc (Nat.le_refl _) _).alloc (by simp) _
 have hnov:ov.ownBlock ≠ some w.heap.size:=fun e=>by have:=(hop.lt e).2;omega
 have hnov1:ov.ownBlock ≠ some (w.heap.size+1):=fun e=>by have:=(hop.lt e).2;omega
 have htr:TreesAt ((w.alloc (.cells #[.int .i64 t.kind,.int .u64 (Oc.U t.w0),.int .u64 (Oc.U t.w1),.int .u64 (Oc.U t.w2),.int .u64 (Oc.U t.w3),.slice p t.subs.length c,.int .i64 t.num,.int .i64 t.least,.int .i64 t.most,.bool t.bare] 28)).alloc (.cells #[.int .i64 0,.int .u64 0,.int .u64 0,.int .u64 0,.int .u64 0,.slice none 0 0,.int .i64 0,.int .i64 0,.int .i64 0,.bool false] 28)) (fun q=>(P q∧q < w.heap.size)∧ov.ownBlock ≠ some q) (.slice p t.subs.length c) t.subs:=(ht.mono fun q hq hP=>⟨⟨hP.1,hq⟩,hP.2⟩).later hb2
 have HS2:=Lib.hid (show ((w.alloc (.cells #[.int .i64 t.kind,.int .u64 (Oc.U t.w0),.int .u64 (Oc.U t.w1),.int .u64 (Oc.U t.w2),.int .u64 (Oc.U t.w3),.slice p t.subs.length c,.int .i64 t.num,.int .i64 t.least,.int .i64 t.most,.bool t.bare] 28)).alloc (.cells #[.int .i64 0,.int .u64 0,.int .u64 0,.int .u64 0,.int .u64 0,.slice none 0 0,.int .i64 0,.int .i64 0,.int .i64 0,.bool false] 28)).heap.size=w.heap.size+2 by simp)
 have ZB:=Lib.hid (two_new w (.cells #[.int .i64 t.kind,.int .u64 (Oc.U t.w0),.int .u64 (Oc.U t.w1),.int .u64 (Oc.U t.w2),.int .u64 (Oc.U t.w3),.slice p t.subs.length c,.int .i64 t.num,.int .i64 t.least,.int .i64 t.most,.bool t.bare] 28) (.cells #[.int .i64 0,.int .u64 0,.int .u64 0,.int .u64 0,.int .u64 0,.slice none 0 0,.int .i64 0,.int .i64 0,.int .i64 0,.bool false] 28)).1
 have ZR:=Lib.hid (two_new w (.cells #[.int .i64 t.kind,.int .u64 (Oc.U t.w0),.int .u64 (Oc.U t.w1),.int .u64 (Oc.U t.w2),.int .u64 (Oc.U t.w3),.slice p t.subs.length c,.int .i64 t.num,.int .i64 t.least,.int .i64 t.most,.bool t.bare] 28) (.cells #[.int .i64 0,.int .u64 0,.int .u64 0,.int .u64 0,.int .u64 0,.slice none 0 0,.int .i64 0,.int .i64 0,.int .i64 0,.bool false] 28)).2
 have HR2:=Lib.hid (keep_blk hb2 hR);have HOP2:=Lib.hid (hop.later hb2);have HTR:=Lib.hid htr;have HB2:=Lib.hid hb2
 clear hR hop ht hb2 htr _hf hlen
 generalize hWW:((w.alloc (.cells #[.int .i64 t.kind,.int .u64 (Oc.U t.w0),.int .u64 (Oc.U t.w1),.int .u64 (Oc.U t.w2),.int .u64 (Oc.U t.w3),.slice p t.subs.length c,.int .i64 t.num,.int .i64 t.least,.int .i64 t.most,.bool t.bare] 28)).alloc (.cells #[.int .i64 0,.int .u64 0,.int .u64 0,.int .u64 0,.int .u64 0,.slice none 0 0,.int .i64 0,.int .i64 0,.int .i64 0,.bool false] 28))=W2 at HS2 ZB ZR HR2 HOP2 HTR HB2
 have HW2:=Lib.hid hWW.symm
 clear hWW
 obtain ⟨c0,c1,c2,c3,c4,c5,c6⟩:=st7 HR2.out
 obtain ⟨f1,f3,f4,f5,f6⟩:=stf HR2.out
 have HIS:=Lib.hid (fun b hb=>esis_any W2 R s i fl g ov 0 0 HR2.out i b hb)
 unfold Tr.cells at *
 have k42:(bt s i == 42)=false:=by rw [beq_eq_false_iff_ne];omega
 have HTW:=Lib.hid (fun k a b ha hb (hk:k ≤ 4294967296)=>bstwo_any s k a b ha hb hk W2)
 go_enter Tryz.func62,Tryz.ntmps62
 go_upto_region 1 with (fail)
 rw [← HW2.out]
 go_wp2_with fail
 refine (HIS.out 42 (by omega)).mono ?_;rintro e w' ⟨rfl,rfl⟩
 rw [k42]
 go_wp2_with fail
 refine (HTW.out i 92 123 (by omega) (by omega) (by omega)).mono ?_;rintro e w' ⟨rfl,rfl⟩
 rw [t123]
 go_wp2_with (first
   | (refine wpList_load_row rfl 28 (.tmp 3) rfl w.heap.size rfl 28 _ (0,0) _ ZB.out Tryz.underlying28 rfl (by kernel_rfl) ?_)
   | (refine wpList_store_row rfl 28 (.tmp 4) (.tmp 35) rfl (w.heap.size+1) #[.int .i64 t.kind,.int .u64 (Oc.U t.w0),.int .u64 (Oc.U t.w1),.int .u64 (Oc.U t.w2),.int .u64 (Oc.U t.w3),.slice p t.subs.length c,.int .i64 t.num,.int .i64 t.least,.int .i64 t.most,.bool t.bare] rfl rfl 28 _ ZR.out (by kernel_rfl) rfl (by simp [Value.oneCell']) ?_)
   | fail)
 have hB:=below_setRow HB2.out (Nat.le_succ _) #[.int .i64 t.kind,.int .u64 (Oc.U t.w0),.int .u64 (Oc.U t.w1),.int .u64 (Oc.U t.w2),.int .u64 (Oc.U t.w3),.slice p t.subs.length c,.int .i64 t.num,.int .i64 t.least,.int .i64 t.most,.bool t.bare]
 exact bodyPost_ret (results_cell_row rfl _ _ (w.heap.size+1) 28 #[.int .i64 t.kind,.int .u64 (Oc.U t.w0),.int .u64 (Oc.U t.w1),.int .u64 (Oc.U t.w2),.int .u64 (Oc.U t.w3),.slice p t.subs.length c,.int .i64 t.num,.int .i64 t.least,.int .i64 t.most,.bool t.bare] (0,0) _ rfl (heap_setRow ZR.out) Tryz.underlying28 rfl (by kernel_rfl)) rfl ⟨ov,.inl rfl,HOP2.out.setRow hnov1 _,(Touch.of_below _ hB),_,rfl,(HTR.out.keep fun q _ hq=>heap_setRow_other _ _ _ (fun e=>by have:=hq.1.2;omega)).mono fun q _ hq=>⟨.inl hq.1.1,hq.2⟩,(heap_setRow_other _ _ _ (by omega)).trans HR2.out⟩
theorem bsrepeat_brace (w:World) (R:Nat) (s:ByteArray) (hs:s.size ≤ 1024) (i:Nat) (fl:Int) (g:Nat) (ov:Value) (d:Nat) (hR:w.heap[R]? = some (.cells (stC s i fl g ov 0 0) 58)) (hop:Opn w R d ov) (t:Tr) (hf:t.InForm) (v:Value) (P:Nat→Prop)
   (ht:TreesAt w (fun q=>P q∧ov.ownBlock ≠ some q) v t.subs) (_hi:i ≤ s.size) (hd:d ≤ 32) (hgs:g ≤ s.size) (hRP:∀ q,P q→q ≠ R) (h1:bt s i ≠ 42) (t123:Bp.two (bt s) 92 123 i=true) (O:Ep.Out) (hO:Bp.rep (bt s) s.size t i g=O) :
   Calls Tryz.prog 62 #[.pointer (some ⟨R,0,none⟩),.agg (t.cells v)] w (EsEnd P R s fl d ov O w):=by
 unfold Bp.rep at hO
 rw [if_neg h1,if_pos t123] at hO
 have HO:=Lib.hid hO
 have hil:=Bp.two_lt (bt_txt s) t123 (by omega) (by omega)
 have wi2:IntKind.i64.wrap ((i:Int)+2)=(i:Int)+2:=IntWalk.i64_in _ (by omega)
 clear hO
 obtain ⟨p,c,rfl,hlen⟩:=ht.slice
 have hlt:=st_lt hR
 have hb2:Below w.heap.size w ((w.alloc (.cells #[.int .i64 t.kind,.int .u64 (Oc.U t.w0),.int .u64 (Oc.U t.w1),.int .u64 (Oc.U t.w2),.int .u64 (Oc.U t.w3),.slice p t.subs.length c,.int .i64 t.num,.int .i64 t.least,.int .i64 t.most,.bool t.bare] 28)).alloc (.cells #[.int .i64 0,.int .u64 0,.int .u64 0,.int .u64 0,.int .u64 0,.slice none 0 0,.int .i64 0,.int .i64 0,.int .i64 0,.bool false] 28)):=((Below.refl w.heap.size w).alloc (Nat.le_refl _) _).alloc (by simp) _
 have hnov:ov.ownBlock ≠ some w.heap.size:=fun e=>by have:=(hop.lt e).2;omega
 have hnov1:ov.ownBlock ≠ some (w.heap.size+1):=fun e=>by have:=(hop.lt e).2;omega
 have htr:TreesAt ((w.alloc (.cells #[.int .i64 t.kind,.int .u64 (Oc.U t.w0),.int .u64 (Oc.U t.w1),.int .u64 (Oc.U t.w2),.int .u64 (Oc.U t.w3),.slice p t.subs.length c,.int .i64 t.num,.int .i64 t.least,.int .i64 t.most,.bool t.bare] 28)).alloc (.cells #[.int .i64 0,.int .u64 0,.int .u64 0,.int .u64 0,.int .u64 0,.slice none 0 0,.int .i64 0,.int .i64 0,.int .i64 0,.bool false] 28)) (fun q=>(P q∧q < w.heap.size)∧ov.ownBlock ≠ some q) (.slice p t.subs.length c) t.subs:=(ht.mono fun q hq hP=>⟨⟨hP.1,hq⟩,hP.2⟩).later hb2
 have HS2:=Lib.hid (show ((w.alloc (.cells #[.int .i64 t.kind,.int .u64 (Oc.U t.w0),.int .u64 (Oc.U t.w1),.int .u64 (Oc.U t.w2),.int .u64 (Oc.U t.w3),.slice p t.subs.length c,.int .i64 t.num,.int .i64 t.least,.int .i64 t.most,.bool t.bare] 28)).alloc (.cells #[.int .i64 0,.int .u64 0,.int .u64 0,.int .u64 0,.int .u64 0,.slice none 0 0,.int .i64 0,.int .i64 0,.int .i64 0,.bool false] 28)).heap.size=w.heap.size+2 by simp)
 have ZB:=Lib.hid (two_new w (.cells #[.int .i64 t.kind,.int .u64 (Oc.U t.w0),.int .u64 (Oc.U t.w1),.int .u64 (Oc.U t.w2),.int .u64 (Oc.U t.w3),.slice p t.subs.length c,.int .i64 t.num,.int .i64 t.least,.int .i64 t.most,.bool t.bare] 28) (.cells #[.int .i64 0,.int .u64 0,.int .u64 0,.int .u64 0,.int .u64 0,.slice none 0 0,.int .i64 0,.int .i64 0,.int .i64 0,.bool false] 28)).1
 have ZR:=Lib.hid (two_new w (.cells #[.int .i64 t.kind,.int .u64 (Oc.U t.w0),.int .u64 (Oc.U t.w1),.int .u64 (Oc.U t.w2),.int .u64 (Oc.U t.w3),.slice p t.subs.length c,.int .i64 t.num,.int .i64 t.least,.int .i64 t.most,.bool t.bare] 28) (.cells #[.int .i64 0,.int .u64 0,.int .u64 0,.int .u64 0,.int .u64 0,.slice none 0 0,.int .i64 0,.int .i64 0,.int .i64 0,.bool false] 28)).2
 have HR2:=Lib.hid (keep_blk hb2 hR);have HOP2:=Lib.hid (hop.later hb2);have HTR:=Lib.hid htr;have HB2:=Lib.hid hb2;have HFM:=Lib.hid hf
 have wi:IntKind.i64.wrap ((i:Int)+1)=(i:Int)+1:=IntWalk.i64_in _ (by omega)
 clear hR hop ht hb2 htr hf hlen
 generalize hWW:((w.alloc (.cells #[.int .i64 t.kind,.int .u64 (Oc.U t.w0),.int .u64 (Oc.U t.w1),.int .u64 (Oc.U t.w2),.int .u64 (Oc.U t.w3),.slice p t.subs.length c,.int .i64 t.num,.int .i64 t.least,.int .i64 t.most,.bool t.bare] 28)).alloc (.cells #[.int .i64 0,.int .u64 0,.int .u64 0,.int .u64 0,.int .u64 0,.slice none 0 0,.int .i64 0,.int .i64 0,.int .i64 0,.bool false] 28))=W2 at HS2 ZB ZR HR2 HOP2 HTR HB2
 have HW2:=Lib.hid hWW.symm
 clear hWW
 obtain ⟨c0,c1,c2,c3,c4,c5,c6⟩:=st7 HR2.out
 obtain ⟨f1,f3,f4,f5,f6⟩:=stf HR2.out
 have HIS:=Lib.hid (fun b hb=>esis_any W2 R s i fl g ov 0 0 HR2.out i b hb)
 unfold Tr.cells at *
 have k42:(bt s i == 42)=false:=by rw [beq_eq_false_iff_ne];omega
 have HTW:=Lib.hid (fun k a b ha hb (hk:k ≤ 4294967296)=>bstwo_any s k a b ha hb hk W2)
 go_enter Tryz.func62,Tryz.ntmps62
 go_upto_region 1 with (fail)
 rw [← HW2.out]
 go_wp2_with fail
 refine (HIS.out 42 (by omega)).mono ?_;rintro e w' ⟨rfl,rfl⟩
 rw [k42]
 go_wp2_with fail
 refine (HTW.out i 92 123 (by omega) (by omega) (by omega)).mono ?_;rintro e w' ⟨rfl,rfl⟩
 rw [t123]
 go_wp2
 go_loopw [6] (fun ev wr=>∃ k:Nat,ev=.int .i64 k∧i+2 ≤ k∧k ≤ s.size∧W2=wr∧∀ j,i+2 ≤ j→j < k→Bp.two (bt s) 92 125 j=false) (fun ev _=>s.size - (intOf ev).toNat)
 case atStart=>exact ⟨i+2,by go_num,Nat.le_refl _,by omega,rfl,fun j h1 h2=>by omega⟩
 case round =>
   obtain ⟨k,rfl,hik,hkn,rfl,hno⟩:=hrel
   have hoo:=HO.out
   by_cases hlt:k < s.size
   · have hd1:decide ((k:Int) < s.size)=true:=by simp;omega
     have hd1':decide (k < s.size)=true:=by simpa using hlt
     have htw:=bstwo_any s k 92 125 (by omega) (by omega) (by omega) W2
     cases hc:Bp.two (bt s) 92 125 k with
     | true =>
       rw [hc] at htw
       have hkl:=Bp.two_lt (bt_txt s) hc (by omega) (by omega)
       rw [close_is hik hlt hc hno] at hoo
       simp only at hoo
       have eend:decide ((s.size:Int) ≤ (k:Int))=false:=by simp;omega
       have eend':decide (s.size ≤ k)=false:=by simp;omega
       have wk:IntKind.i64.wrap ((k:Int)+2)=(k:Int)+2:=IntWalk.i64_in _ (by omega)
       have hsl1:i+2 ≤ k:=hik
       have hsl2:(i:Int)+2 ≤ (k:Int):=by omega
       have hsl3:(0:Int) ≤ (i:Int)+2:=by omega
       have htn:((i:Int)+2).toNat=i+2:=by omega
       have hcts:=fun w=>escounts_any (s.extract (i+2) k) (by simp;omega) _ (counts_mid s (i+2) k hik (by omega)) w
       have HCTS:=Lib.hid hcts;have HTK:=Lib.hid htw
       clear hcts hno HO htw
       go_wp2_with fail
       refine HTK.out.mono ?_;rintro e w' ⟨rfl,rfl⟩
       cases hab:Ep.counts (bt s) (i+2) k with
       | none =>
         rw [hab] at hoo HCTS
         simp only at hoo
         subst hoo
         clear hab
         go_wp2_with fail
         refine (HCTS.out _).mono ?_
         rintro e w' ⟨rfl,a1,b1,rfl⟩
         go_wp2_with fail
         refine (esfault_any W2 R s i fl g ov 0 HR2.out 4 (i:Int)).mono ?_
         rintro e w6 ⟨rfl,hR6,ht6⟩
         have ZB6:=Lib.hid ((ht6.block w.heap.size (blk_lt ZB.out) (by simp;omega)).trans ZB.out)
         have ZR6:=Lib.hid ((ht6.block (w.heap.size+1) (blk_lt ZR.out) (by simp;omega)).trans ZR.out)
         have HR6:=Lib.hid hR6;have HT6:=Lib.hid ht6
         clear hR6 ht6 ZB ZR
         go_wp2_with (first
           | (refine wpList_load_row rfl 28 (.tmp 3) rfl w.heap.size rfl 28 _ (0,0) _ ZB6.out Tryz.underlying28 rfl (by kernel_rfl) ?_)
           | (refine wpList_store_row rfl 28 (.tmp 4) (.tmp 85) rfl (w.heap.size+1) #[.int .i64 t.kind,.int .u64 (Oc.U t.w0),.int .u64 (Oc.U t.w1),.int .u64 (Oc.U t.w2),.int .u64 (Oc.U t.w3),.slice p t.subs.length c,.int .i64 t.num,.int .i64 t.least,.int .i64 t.most,.bool t.bare] rfl rfl 28 _ ZR6.out (by kernel_rfl) rfl (by simp [Value.oneCell']) ?_)
           | fail)
         have hT:Touch [R] w (w6.setRow (w.heap.size+1) #[.int .i64 t.kind,.int .u64 (Oc.U t.w0),.int .u64 (Oc.U t.w1),.int .u64 (Oc.U t.w2),.int .u64 (Oc.U t.w3),.slice p t.subs.length c,.int .i64 t.num,.int .i64 t.least,.int .i64 t.most,.bool t.bare]):=((Touch.of_below [R] HB2.out).trans HT6.out).setRow_new (Nat.le_succ _) _
         exact bodyPost_ret (results_cell_row rfl _ _ (w.heap.size+1) 28 #[.int .i64 t.kind,.int .u64 (Oc.U t.w0),.int .u64 (Oc.U t.w1),.int .u64 (Oc.U t.w2),.int .u64 (Oc.U t.w3),.slice p t.subs.length c,.int .i64 t.num,.int .i64 t.least,.int .i64 t.most,.bool t.bare] (0,0) _ rfl (heap_setRow ZR6.out) Tryz.underlying28 rfl (by kernel_rfl)) rfl ⟨ov,.inl rfl,(HOP2.out.touch HT6.out).setRow hnov1 _,hT.obs,by decide,t,_,_,_,_,_,rfl,(heap_setRow_other _ _ _ (by omega)).trans HR6.out,by omega,hgs⟩
       | some ab =>
         obtain ⟨a,b⟩:=ab
         obtain ⟨ha1,ha2,ha3⟩:=Ep.counts_ok hab
         rw [hab] at hoo HCTS
         simp only at hoo
         subst hoo
         clear hab
         go_wp2_with fail
         refine (HCTS.out _).mono ?_
         rintro e w' ⟨rfl,rfl⟩
         go_upto_region 18 with (fail)
         have hP3:=st_place HR2.out (k+2) (v:=(k:Int)+2) (by omega)
         have ht3:Touch [R] W2 (W2.setCell ⟨R,1,none⟩ (.int .i64 ((k:Int)+2))):=(Touch.refl [R] W2).setCell List.mem_cons_self 1 _
         have HS3:Hid (w.heap.size+1 < (W2.setCell ⟨R,1,none⟩ (.int .i64 ((k:Int)+2))).heap.size):=Lib.hid (by have:=HS2.out;simp [World.setCell];omega)
         have ZB3:=Lib.hid ((ht3.block w.heap.size (blk_lt ZB.out) (by simp;omega)).trans ZB.out)
         have ZR3:=Lib.hid ((ht3.block (w.heap.size+1) (blk_lt ZR.out) (by simp;omega)).trans ZR.out)
         have HT3:=Lib.hid (((Touch.of_below [R] HB2.out).trans ht3).obs (ov:=ov))
         have htr3:=HTR.out.keep (w':=W2.setCell ⟨R,1,none⟩ (.int .i64 ((k:Int)+2))) (fun q hq hP=>ht3.block q hq (fun hm=>hRP q hP.1.1 (List.mem_singleton.1 hm)))
         have HCT:=Lib.hid (escounted_any _ R s (k+2) fl g ov d hP3 (HOP2.out.touch ht3) t HFM.out _ (fun q=>P q∧q < w.heap.size) htr3 a b ha1 ha2 ha3 i (by omega) hgs)
         generalize W2.setCell ⟨R,1,none⟩ (.int .i64 ((k:Int)+2))=W3 at *
         clear hP3 ht3 htr3 c0 c1 c2 c3 c4 c5 c6 f1 f3 f4 f5 f6 ZB ZR HB2 HTR HOP2 HR2 HW2 HIS HS2
         unfold Tr.cells at *
         go_wp2_with (first
           | (refine wpList_load_row rfl 28 (.tmp 3) rfl w.heap.size rfl 28 _ (0,0) _ ZB3.out Tryz.underlying28 rfl (by kernel_rfl) ?_)
           | fail)
         refine (HCT.out.mono ?_)
         intro e w5 he
         obtain ⟨x,px,lx,cx,rfl⟩:=he.val
         have ZR5:=Lib.hid (he.keepsBlk ZR3.out (by omega) hnov1)
         have HE:=Lib.hid he
         clear he
         unfold Tr.cells
         go_wp2_with (first
           | (refine wpList_store_row rfl 28 (.tmp 4) (.tmp 96) rfl (w.heap.size+1) #[.int .i64 x.kind,.int .u64 (Oc.U x.w0),.int .u64 (Oc.U x.w1),.int .u64 (Oc.U x.w2),.int .u64 (Oc.U x.w3),.slice px lx cx,.int .i64 x.num,.int .i64 x.least,.int .i64 x.most,.bool x.bare] rfl rfl 28 _ ZR5.out (by kernel_rfl) rfl (by simp [Value.oneCell']) ?_)
           | fail)
         exact bodyPost_ret (results_cell_row rfl _ _ (w.heap.size+1) 28 #[.int .i64 x.kind,.int .u64 (Oc.U x.w0),.int .u64 (Oc.U x.w1),.int .u64 (Oc.U x.w2),.int .u64 (Oc.U x.w3),.slice px lx cx,.int .i64 x.num,.int .i64 x.least,.int .i64 x.most,.bool x.bare] (0,0) _ rfl (heap_setRow ZR5.out) Tryz.underlying28 rfl (by kernel_rfl)) rfl (HE.out.pass HT3.out (fun q hq=>hq) (Nat.le_succ _) HS3.out (by omega) hnov1 _)
     | false =>
       rw [hc] at htw
       have wk:IntKind.i64.wrap ((k:Int)+1)=(k:Int)+1:=IntWalk.i64_in _ (by omega)
       have hno2:∀ j,i+2 ≤ j→j < k+1→Bp.two (bt s) 92 125 j=false:=fun j h1 h2=>by
         by_cases e:j=k
         · rw [e];exact hc
         · exact hno j h1 (by omega)
       have HTK:=Lib.hid htw
       clear hno hc hoo htw
       go_wp2_with fail
       refine HTK.out.mono ?_;rintro e w' ⟨rfl,rfl⟩
       go_wp2
       exact ⟨⟨k+1,by go_num,by omega,by omega,(by first | rfl | trivial),hno2⟩,by simp [intOf];omega⟩
   · obtain rfl:k=s.size:=by omega
     rw [close_not hno] at hoo
     simp only at hoo
     subst hoo
     have eend:decide ((s.size:Int) ≤ (s.size:Int))=true:=by simp
     clear hno
     go_wp2_with fail
     refine (esfault_any W2 R s i fl g ov 0 HR2.out 3 (i:Int)).mono ?_
     rintro e w6 ⟨rfl,hR6,ht6⟩
     have ZB6:=Lib.hid ((ht6.block w.heap.size (blk_lt ZB.out) (by simp;omega)).trans ZB.out)
     have ZR6:=Lib.hid ((ht6.block (w.heap.size+1) (blk_lt ZR.out) (by simp;omega)).trans ZR.out)
     have HR6:=Lib.hid hR6;have HT6:=Lib.hid ht6
     clear hR6 ht6 ZB ZR
     go_wp2_with (first
       | (refine wpList_load_row rfl 28 (.tmp 3) rfl w.heap.size rfl 28 _ (0,0) _ ZB6.out Tryz.underlying28 rfl (by kernel_rfl) ?_)
       | (refine wpList_store_row rfl 28 (.tmp 4) (.tmp 66) rfl (w.heap.size+1) #[.int .i64 t.kind,.int .u64 (Oc.U t.w0),.int .u64 (Oc.U t.w1),.int .u64 (Oc.U t.w2),.int .u64 (Oc.U t.w3),.slice p t.subs.length c,.int .i64 t.num,.int .i64 t.least,.int .i64 t.most,.bool t.bare] rfl rfl 28 _ ZR6.out (by kernel_rfl) rfl (by simp [Value.oneCell']) ?_)
       | fail)
     have hT:Touch [R] w (w6.setRow (w.heap.size+1) #[.int .i64 t.kind,.int .u64 (Oc.U t.w0),.int .u64 (Oc.U t.w1),.int .u64 (Oc.U t.w2),.int .u64 (Oc.U t.w3),.slice p t.subs.length c,.int .i64 t.num,.int .i64 t.least,.int .i64 t.most,.bool t.bare]):=((Touch.of_below [R] HB2.out).trans HT6.out).setRow_new (Nat.le_succ _) _
     exact bodyPost_ret (results_cell_row rfl _ _ (w.heap.size+1) 28 #[.int .i64 t.kind,.int .u64 (Oc.U t.w0),.int .u64 (Oc.U t.w1),.int .u64 (Oc.U t.w2),.int .u64 (Oc.U t.w3),.slice p t.subs.length c,.int .i64 t.num,.int .i64 t.least,.int .i64 t.most,.bool t.bare] (0,0) _ rfl (heap_setRow ZR6.out) Tryz.underlying28 rfl (by kernel_rfl)) rfl ⟨ov,.inl rfl,(HOP2.out.touch HT6.out).setRow hnov1 _,hT.obs,by decide,t,_,_,_,_,_,rfl,(heap_setRow_other _ _ _ (by omega)).trans HR6.out,by omega,hgs⟩
theorem bsrepeat_any (w:World) (R:Nat) (s:ByteArray) (hs:s.size ≤ 1024) (i:Nat) (fl:Int) (g:Nat) (ov:Value) (d:Nat) (hR:w.heap[R]? = some (.cells (stC s i fl g ov 0 0) 58)) (hop:Opn w R d ov) (t:Tr) (hf:t.InForm) (v:Value) (P:Nat→Prop)
   (ht:TreesAt w (fun q=>P q∧ov.ownBlock ≠ some q) v t.subs) (hi:i ≤ s.size) (hd:d ≤ 32) (hgs:g ≤ s.size) (hRP:∀ q,P q→q ≠ R) :
   Calls Tryz.prog 62 #[.pointer (some ⟨R,0,none⟩),.agg (t.cells v)] w (EsEnd P R s fl d ov (Bp.rep (bt s) s.size t i g) w):=by
 by_cases h1:bt s i=42
 · unfold Bp.rep
   rw [if_pos h1];exact bsrepeat_star w R s hs i fl g ov d hR hop t hf v P ht hi hd hgs hRP h1
 · cases h2:Bp.two (bt s) 92 123 i with
   | true=>exact bsrepeat_brace w R s hs i fl g ov d hR hop t hf v P ht hi hd hgs hRP h1 h2 _ rfl
   | false =>
     unfold Bp.rep
     rw [if_neg h1,h2]
     exact bsrepeat_no w R s hs i fl g ov d hR hop t hf v P ht hi hd hgs h1 h2
end Go.Proofs.YtfcilopifjddpaaGreatDoor
namespace Go.Proofs.YtfcilopifjddpaaGreatDoor
open Go.RowKit
theorem bsatom_set (w:World) (R:Nat) (s:ByteArray) (hs:s.size ≤ 1024) (i:Nat) (fl:Int) (g:Nat) (ov:Value) (d:Nat) (hR:w.heap[R]? = some (.cells (stC s i fl g ov 0 0) 58)) (hop:Opn w R d ov) (hi:i < s.size) (k:Nat) (hd:d ≤ 32) (hgs:g ≤ s.size) (hm:bt s i=91) (O:Ep.Out)
   (hO:(match Br.whole (bt s) s.size i (icB fl) (nlB fl) with | .ok P j=>Ep.Out.ok (.bytes P) j g | .err c p=>.err c p)=O) :
   Calls Tryz.prog 61 #[.pointer (some ⟨R,0,none⟩),.int .i64 (k:Int)] w (EsEnd (fun _=>False) R s fl d ov O w):=by
 have hlt:=st_lt hR
 have hb0:Below w.heap.size w (w.alloc (.cells #[.int .i64 0,.int .u64 0,.int .u64 0,.int .u64 0,.int .u64 0,.slice none 0 0,.int .i64 0,.int .i64 0,.int .i64 0,.bool false] 28)):=(Below.refl _ _).alloc (Nat.le_refl _) _
 have hnov:ov.ownBlock ≠ some w.heap.size:=fun e=>by have:=(hop.lt e).2;omega
 have hR1:=keep_blk hb0 hR;have hop1:=hop.later hb0
 have HR1:=Lib.hid hR1;have HOP1:=Lib.hid hop1;have HB0:=Lib.hid hb0
 have Z0:=Lib.hid (heap_alloc_new w (.cells #[.int .i64 0,.int .u64 0,.int .u64 0,.int .u64 0,.int .u64 0,.slice none 0 0,.int .i64 0,.int .i64 0,.int .i64 0,.bool false] 28))
 have hbk:=bt_at hi
 have hRw:R ≠ w.heap.size:=by omega
 have wi:IntKind.i64.wrap ((i:Int)+1)=(i:Int)+1:=IntWalk.i64_in _ (by omega)
 obtain ⟨c0,c1,c2,c3,c4,c5,c6⟩:=st7 hR1
 obtain ⟨f1,f3,f4,f5,f6⟩:=stf hR1
 rw [hm] at hbk
 have HGG:=Lib.hid (fun w' h1 h2=>esset_any w' R s hs i fl g ov d h1 h2 hm (by omega) hgs O hO)
 clear hO wi
 clear hR hop hb0 hR1 hop1
 go_enter Tryz.func61,Tryz.ntmps61
 go_wp2_with fail
 refine (HGG.out _ HR1.out HOP1.out).mono ?_
 intro e w5 he
 obtain ⟨x,px,lx,cx,rfl⟩:=he.val
 have Z5:=Lib.hid (he.keepsBlk Z0.out (by omega) hnov)
 have HE:=Lib.hid he
 have hs1:=Lib.hid (show w.heap.size < (w.alloc (.cells #[.int .i64 0,.int .u64 0,.int .u64 0,.int .u64 0,.int .u64 0,.slice none 0 0,.int .i64 0,.int .i64 0,.int .i64 0,.bool false] 28)).heap.size by simp)
 clear he
 unfold Tr.cells
 go_wp2_with (first
   | (refine wpList_store_row rfl 28 (.tmp 4) (.tmp 38) rfl w.heap.size #[.int .i64 x.kind,.int .u64 (Oc.U x.w0),.int .u64 (Oc.U x.w1),.int .u64 (Oc.U x.w2),.int .u64 (Oc.U x.w3),.slice px lx cx,.int .i64 x.num,.int .i64 x.least,.int .i64 x.most,.bool x.bare] rfl rfl 28 _ Z5.out (by kernel_rfl) rfl (by simp [Value.oneCell']) ?_)
   | fail)
 exact bodyPost_ret (results_cell_row rfl _ _ w.heap.size 28 #[.int .i64 x.kind,.int .u64 (Oc.U x.w0),.int .u64 (Oc.U x.w1),.int .u64 (Oc.U x.w2),.int .u64 (Oc.U x.w3),.slice px lx cx,.int .i64 x.num,.int .i64 x.least,.int .i64 x.most,.bool x.bare] (0,0) _ rfl (heap_setRow Z5.out) Tryz.underlying28 rfl (by kernel_rfl)) rfl (HE.out.pass (Touch.of_below _ HB0.out) (fun q hq=>hq.elim) (Nat.le_refl _) hs1.out (by omega) hnov _)
theorem bsatom_dot (w:World) (R:Nat) (s:ByteArray) (hs:s.size ≤ 1024) (i:Nat) (fl:Int) (g:Nat) (ov:Value) (d:Nat) (hR:w.heap[R]? = some (.cells (stC s i fl g ov 0 0) 58)) (hop:Opn w R d ov) (hi:i < s.size) (k:Nat) (hm:bt s i=46) :
   Calls Tryz.prog 61 #[.pointer (some ⟨R,0,none⟩),.int .i64 (k:Int)] w (EsEnd (fun _=>False) R s fl d ov (.ok (Ep.dot (nlB fl)) (i+1) g) w):=by
 have hlt:=st_lt hR
 have hb0:Below w.heap.size w (w.alloc (.cells #[.int .i64 0,.int .u64 0,.int .u64 0,.int .u64 0,.int .u64 0,.slice none 0 0,.int .i64 0,.int .i64 0,.int .i64 0,.bool false] 28)):=(Below.refl _ _).alloc (Nat.le_refl _) _
 have hnov:ov.ownBlock ≠ some w.heap.size:=fun e=>by have:=(hop.lt e).2;omega
 have hR1:=keep_blk hb0 hR;have hop1:=hop.later hb0
 have HR1:=Lib.hid hR1;have HOP1:=Lib.hid hop1;have HB0:=Lib.hid hb0
 have Z0:=Lib.hid (heap_alloc_new w (.cells #[.int .i64 0,.int .u64 0,.int .u64 0,.int .u64 0,.int .u64 0,.slice none 0 0,.int .i64 0,.int .i64 0,.int .i64 0,.bool false] 28))
 have hbk:=bt_at hi
 have hRw:R ≠ w.heap.size:=by omega
 have wi:IntKind.i64.wrap ((i:Int)+1)=(i:Int)+1:=IntWalk.i64_in _ (by omega)
 obtain ⟨c0,c1,c2,c3,c4,c5,c6⟩:=st7 hR1
 obtain ⟨f1,f3,f4,f5,f6⟩:=stf hR1
 have hp:=st_place hR (i+1) (v:=(i:Int)+1) (by omega)
 have ht2:Touch [R] w (w.setCell ⟨R,1,none⟩ (.int .i64 ((i:Int)+1))):=(Touch.refl [R] _).setCell List.mem_cons_self 1 _
 have hbz:Below (w.setCell ⟨R,1,none⟩ (.int .i64 ((i:Int)+1))).heap.size (w.setCell ⟨R,1,none⟩ (.int .i64 ((i:Int)+1))) ((w.setCell ⟨R,1,none⟩ (.int .i64 ((i:Int)+1))).alloc (.cells #[.int .i64 0,.int .u64 0,.int .u64 0,.int .u64 0,.int .u64 0,.slice none 0 0,.int .i64 0,.int .i64 0,.int .i64 0,.bool false] 28)):=(Below.refl _ _).alloc (Nat.le_refl _) _
 have hP3:=keep_blk hbz hp
 have HP3:=Lib.hid hP3;have HT3:=Lib.hid (ht2.later hbz);have HOP3:=Lib.hid ((hop.touch ht2).later hbz)
 have hz3:=heap_alloc_new (w.setCell ⟨R,1,none⟩ (.int .i64 ((i:Int)+1))) (.cells #[.int .i64 0,.int .u64 0,.int .u64 0,.int .u64 0,.int .u64 0,.slice none 0 0,.int .i64 0,.int .i64 0,.int .i64 0,.bool false] 28)
 have Z3:Hid (((w.setCell ⟨R,1,none⟩ (.int .i64 ((i:Int)+1))).alloc (.cells #[.int .i64 0,.int .u64 0,.int .u64 0,.int .u64 0,.int .u64 0,.slice none 0 0,.int .i64 0,.int .i64 0,.int .i64 0,.bool false] 28)).heap[w.heap.size]? = some (.cells #[.int .i64 0,.int .u64 0,.int .u64 0,.int .u64 0,.int .u64 0,.slice none 0 0,.int .i64 0,.int .i64 0,.int .i64 0,.bool false] 28)):=Lib.hid (by simpa using hz3)
 obtain ⟨-,b1,b2,-,-,-,-⟩:=st7 hP3
 rw [hm] at hbk
 have HDT:=Lib.hid (fun w=>esdot_any fl w)
 have HTS:Hid ((Ep.dot (nlB fl)).subs=[]):=Lib.hid rfl
 generalize Ep.dot (nlB fl)=T at *
 clear hP3 hp ht2 hbz hz3
 clear hR hop hb0 hR1 hop1
 go_enter Tryz.func61,Tryz.ntmps61
 go_wp2_with fail
 generalize World.alloc (World.setCell _ _ _) _=W3 at *
 refine (HDT.out _).mono ?_
 rintro e w5 ⟨rfl,hb5⟩
 have HT5:=Lib.hid (HT3.out.later hb5);have HP5:=Lib.hid (keep_blk hb5 HP3.out);have Z5:=Lib.hid (keep_blk hb5 Z3.out);have HOP5:=Lib.hid (HOP3.out.later hb5)
 clear hb5
 unfold Tr.cells
 go_wp2_with (first
   | (refine wpList_store_row rfl 28 (.tmp 4) (.tmp 33) rfl w.heap.size #[.int .i64 T.kind,.int .u64 (Oc.U T.w0),.int .u64 (Oc.U T.w1),.int .u64 (Oc.U T.w2),.int .u64 (Oc.U T.w3),.slice none 0 0,.int .i64 T.num,.int .i64 T.least,.int .i64 T.most,.bool T.bare] rfl rfl 28 _ Z5.out (by kernel_rfl) rfl (by simp [Value.oneCell']) ?_)
   | fail)
 have hT:=HT5.out.setRow_new (Nat.le_refl w.heap.size) #[.int .i64 T.kind,.int .u64 (Oc.U T.w0),.int .u64 (Oc.U T.w1),.int .u64 (Oc.U T.w2),.int .u64 (Oc.U T.w3),.slice none 0 0,.int .i64 T.num,.int .i64 T.least,.int .i64 T.most,.bool T.bare]
 exact bodyPost_ret (results_cell_row rfl _ _ w.heap.size 28 #[.int .i64 T.kind,.int .u64 (Oc.U T.w0),.int .u64 (Oc.U T.w1),.int .u64 (Oc.U T.w2),.int .u64 (Oc.U T.w3),.slice none 0 0,.int .i64 T.num,.int .i64 T.least,.int .i64 T.most,.bool T.bare] (0,0) _ rfl (heap_setRow Z5.out) Tryz.underlying28 rfl (by kernel_rfl)) rfl ⟨ov,.inl rfl,HOP5.out.setRow hnov _,hT.obs,.slice none 0 0,rfl,by rw [HTS.out];exact TreesAt.nil,(heap_setRow_other _ _ _ hRw).trans HP5.out⟩
theorem bsatom_plain (w:World) (R:Nat) (s:ByteArray) (hs:s.size ≤ 1024) (i:Nat) (fl:Int) (g:Nat) (ov:Value) (d:Nat) (hR:w.heap[R]? = some (.cells (stC s i fl g ov 0 0) 58)) (hop:Opn w R d ov) (hi:i < s.size) (k:Nat) (h91:bt s i ≠ 91) (h46:bt s i ≠ 46) (h92:bt s i ≠ 92) :
   Calls Tryz.prog 61 #[.pointer (some ⟨R,0,none⟩),.int .i64 (k:Int)] w (EsEnd (fun _=>False) R s fl d ov (.ok (Ep.one (icB fl) (bt s i)) (i+1) g) w):=by
 have hlt:=st_lt hR
 have hb0:Below w.heap.size w (w.alloc (.cells #[.int .i64 0,.int .u64 0,.int .u64 0,.int .u64 0,.int .u64 0,.slice none 0 0,.int .i64 0,.int .i64 0,.int .i64 0,.bool false] 28)):=(Below.refl _ _).alloc (Nat.le_refl _) _
 have hnov:ov.ownBlock ≠ some w.heap.size:=fun e=>by have:=(hop.lt e).2;omega
 have hR1:=keep_blk hb0 hR;have hop1:=hop.later hb0
 have HR1:=Lib.hid hR1;have HOP1:=Lib.hid hop1;have HB0:=Lib.hid hb0
 have Z0:=Lib.hid (heap_alloc_new w (.cells #[.int .i64 0,.int .u64 0,.int .u64 0,.int .u64 0,.int .u64 0,.slice none 0 0,.int .i64 0,.int .i64 0,.int .i64 0,.bool false] 28))
 have hbk:=bt_at hi
 have hRw:R ≠ w.heap.size:=by omega
 have wi:IntKind.i64.wrap ((i:Int)+1)=(i:Int)+1:=IntWalk.i64_in _ (by omega)
 obtain ⟨c0,c1,c2,c3,c4,c5,c6⟩:=st7 hR1
 obtain ⟨f1,f3,f4,f5,f6⟩:=stf hR1
 have hp:=st_place hR (i+1) (v:=(i:Int)+1) (by omega)
 have ht2:Touch [R] w (w.setCell ⟨R,1,none⟩ (.int .i64 ((i:Int)+1))):=(Touch.refl [R] _).setCell List.mem_cons_self 1 _
 have hbz:Below (w.setCell ⟨R,1,none⟩ (.int .i64 ((i:Int)+1))).heap.size (w.setCell ⟨R,1,none⟩ (.int .i64 ((i:Int)+1))) ((w.setCell ⟨R,1,none⟩ (.int .i64 ((i:Int)+1))).alloc (.cells #[.int .i64 0,.int .u64 0,.int .u64 0,.int .u64 0,.int .u64 0,.slice none 0 0,.int .i64 0,.int .i64 0,.int .i64 0,.bool false] 28)):=(Below.refl _ _).alloc (Nat.le_refl _) _
 have hP3:=keep_blk hbz hp
 have HP3:=Lib.hid hP3;have HT3:=Lib.hid (ht2.later hbz);have HOP3:=Lib.hid ((hop.touch ht2).later hbz)
 have hz3:=heap_alloc_new (w.setCell ⟨R,1,none⟩ (.int .i64 ((i:Int)+1))) (.cells #[.int .i64 0,.int .u64 0,.int .u64 0,.int .u64 0,.int .u64 0,.slice none 0 0,.int .i64 0,.int .i64 0,.int .i64 0,.bool false] 28)
 have Z3:Hid (((w.setCell ⟨R,1,none⟩ (.int .i64 ((i:Int)+1))).alloc (.cells #[.int .i64 0,.int .u64 0,.int .u64 0,.int .u64 0,.int .u64 0,.slice none 0 0,.int .i64 0,.int .i64 0,.int .i64 0,.bool false] 28)).heap[w.heap.size]? = some (.cells #[.int .i64 0,.int .u64 0,.int .u64 0,.int .u64 0,.int .u64 0,.slice none 0 0,.int .i64 0,.int .i64 0,.int .i64 0,.bool false] 28)):=Lib.hid (by simpa using hz3)
 obtain ⟨-,b1,b2,-,-,-,-⟩:=st7 hP3
 have e91:((bt s i:Int) == 91)=false:=by rw [beq_eq_false_iff_ne];omega
 have e91':(bt s i == 91)=false:=by rw [beq_eq_false_iff_ne];exact h91
 have e46:((bt s i:Int) == 46)=false:=by rw [beq_eq_false_iff_ne];omega
 have e46':(bt s i == 46)=false:=by rw [beq_eq_false_iff_ne];exact h46
 have e92:((bt s i:Int) == 92)=false:=by rw [beq_eq_false_iff_ne];omega
 have e92':(bt s i == 92)=false:=by rw [beq_eq_false_iff_ne];exact h92
 have t40:Bp.two (bt s) 92 40 i=false:=by unfold Bp.two;rw [e92'];rfl
 have HDT:=Lib.hid (fun w=>esone_bt s i hi fl w)
 have HTS:Hid ((Ep.one (icB fl) (bt s i)).subs=[]):=Lib.hid rfl
 generalize Ep.one (icB fl) (bt s i)=T at *
 clear hP3 hp ht2 hbz hz3
 clear hR hop hb0 hR1 hop1
 go_enter Tryz.func61,Tryz.ntmps61
 go_wp2_with fail
 refine (bstwo_any s i 92 40 (by omega) (by omega) (by omega) _).mono ?_;rintro e w' ⟨rfl,rfl⟩
 rw [t40]
 go_wp2_with fail
 generalize World.alloc (World.setCell _ _ _) _=W3 at *
 refine (HDT.out _).mono ?_
 rintro e w5 ⟨rfl,hb5⟩
 have HT5:=Lib.hid (HT3.out.later hb5);have HP5:=Lib.hid (keep_blk hb5 HP3.out);have Z5:=Lib.hid (keep_blk hb5 Z3.out);have HOP5:=Lib.hid (HOP3.out.later hb5)
 clear hb5
 unfold Tr.cells
 go_wp2_with (first
   | (refine wpList_store_row rfl 28 (.tmp 4) (.tmp 159) rfl w.heap.size #[.int .i64 T.kind,.int .u64 (Oc.U T.w0),.int .u64 (Oc.U T.w1),.int .u64 (Oc.U T.w2),.int .u64 (Oc.U T.w3),.slice none 0 0,.int .i64 T.num,.int .i64 T.least,.int .i64 T.most,.bool T.bare] rfl rfl 28 _ Z5.out (by kernel_rfl) rfl (by simp [Value.oneCell']) ?_)
   | fail)
 have hT:=HT5.out.setRow_new (Nat.le_refl w.heap.size) #[.int .i64 T.kind,.int .u64 (Oc.U T.w0),.int .u64 (Oc.U T.w1),.int .u64 (Oc.U T.w2),.int .u64 (Oc.U T.w3),.slice none 0 0,.int .i64 T.num,.int .i64 T.least,.int .i64 T.most,.bool T.bare]
 exact bodyPost_ret (results_cell_row rfl _ _ w.heap.size 28 #[.int .i64 T.kind,.int .u64 (Oc.U T.w0),.int .u64 (Oc.U T.w1),.int .u64 (Oc.U T.w2),.int .u64 (Oc.U T.w3),.slice none 0 0,.int .i64 T.num,.int .i64 T.least,.int .i64 T.most,.bool T.bare] (0,0) _ rfl (heap_setRow Z5.out) Tryz.underlying28 rfl (by kernel_rfl)) rfl ⟨ov,.inl rfl,HOP5.out.setRow hnov _,hT.obs,.slice none 0 0,rfl,by rw [HTS.out];exact TreesAt.nil,(heap_setRow_other _ _ _ hRw).trans HP5.out⟩
theorem bsatom_esc0 (w:World) (R:Nat) (s:ByteArray) (hs:s.size ≤ 1024) (i:Nat) (fl:Int) (g:Nat) (ov:Value) (d:Nat) (hR:w.heap[R]? = some (.cells (stC s i fl g ov 0 0) 58)) (hop:Opn w R d ov) (hi:i < s.size) (k:Nat) (hd:d ≤ 32) (hgs:g ≤ s.size) (hm:bt s i=92) (h40:bt s (i+1) ≠ 40) (hend:i+1=s.size) :
   Calls Tryz.prog 61 #[.pointer (some ⟨R,0,none⟩),.int .i64 (k:Int)] w (EsEnd (fun _=>False) R s fl d ov (.err 8 i) w):=by
 have t40:Bp.two (bt s) 92 40 i=false:=by unfold Bp.two;rw [beq_eq_false_iff_ne.2 h40,Bool.and_false]
 have hlt:=st_lt hR
 have hb0:Below w.heap.size w (w.alloc (.cells #[.int .i64 0,.int .u64 0,.int .u64 0,.int .u64 0,.int .u64 0,.slice none 0 0,.int .i64 0,.int .i64 0,.int .i64 0,.bool false] 28)):=(Below.refl _ _).alloc (Nat.le_refl _) _
 have hnov:ov.ownBlock ≠ some w.heap.size:=fun e=>by have:=(hop.lt e).2;omega
 have hR1:=keep_blk hb0 hR;have hop1:=hop.later hb0
 have HR1:=Lib.hid hR1;have HOP1:=Lib.hid hop1;have HB0:=Lib.hid hb0
 have Z0:=Lib.hid (heap_alloc_new w (.cells #[.int .i64 0,.int .u64 0,.int .u64 0,.int .u64 0,.int .u64 0,.slice none 0 0,.int .i64 0,.int .i64 0,.int .i64 0,.bool false] 28))
 have hbk:=bt_at hi
 have hRw:R ≠ w.heap.size:=by omega
 have wi:IntKind.i64.wrap ((i:Int)+1)=(i:Int)+1:=IntWalk.i64_in _ (by omega)
 obtain ⟨c0,c1,c2,c3,c4,c5,c6⟩:=st7 hR1
 obtain ⟨f1,f3,f4,f5,f6⟩:=stf hR1
 rw [hm] at hbk
 have hge:decide ((s.size:Int) ≤ (i:Int)+1)=true:=by simp;omega
 have HR6:=HR1;have Z6:=Z0;have HB6:=HB0;have HOP6:=HOP1
 clear hR hop hb0 hR1 hop1
 go_enter Tryz.func61,Tryz.ntmps61
 go_wp2_with fail
 refine (bstwo_any s i 92 40 (by omega) (by omega) (by omega) _).mono ?_;rintro e w' ⟨rfl,rfl⟩
 rw [t40]
 go_wp2_with fail
 generalize World.alloc _ _=W6 at *
 refine (esfault_any W6 R s i fl g ov 0 HR6.out 8 (i:Int)).mono ?_
 rintro e w7 ⟨rfl,hR7,ht7⟩
 have Z7:=Lib.hid ((ht7.block w.heap.size (blk_lt Z6.out) (by simp;omega)).trans Z6.out)
 have HR7:=Lib.hid hR7;have HT7:=Lib.hid ((Touch.of_below [R] HB6.out).trans ht7);have HOP7:=Lib.hid (HOP6.out.touch ht7)
 clear hR7 ht7
 go_wp2_with (first
   | (refine wpList_store_row rfl 28 (.tmp 4) (.tmp 129) rfl w.heap.size #[.int .i64 0,.int .u64 0,.int .u64 0,.int .u64 0,.int .u64 0,.slice none 0 0,.int .i64 0,.int .i64 0,.int .i64 0,.bool false] rfl rfl 28 _ Z7.out (by kernel_rfl) rfl (by simp [Value.oneCell']) ?_)
   | fail)
 have hT:=HT7.out.setRow_new (Nat.le_refl w.heap.size) #[.int .i64 0,.int .u64 0,.int .u64 0,.int .u64 0,.int .u64 0,.slice none 0 0,.int .i64 0,.int .i64 0,.int .i64 0,.bool false]
 exact bodyPost_ret (results_cell_row rfl _ _ w.heap.size 28 #[.int .i64 0,.int .u64 0,.int .u64 0,.int .u64 0,.int .u64 0,.slice none 0 0,.int .i64 0,.int .i64 0,.int .i64 0,.bool false] (0,0) _ rfl (heap_setRow Z7.out) Tryz.underlying28 rfl (by kernel_rfl)) rfl ⟨ov,.inl rfl,HOP7.out.setRow hnov _,hT.obs,by decide,Tr.leaf 0,_,_,_,_,_,rfl,(heap_setRow_other _ _ _ hRw).trans HR7.out,by omega,hgs⟩
theorem bsatom_esc1 (w:World) (R:Nat) (s:ByteArray) (hs:s.size ≤ 1024) (i:Nat) (fl:Int) (g:Nat) (ov:Value) (d:Nat) (hR:w.heap[R]? = some (.cells (stC s i fl g ov 0 0) 58)) (hop:Opn w R d ov) (hi:i < s.size) (k:Nat) (hd:d ≤ 32) (hgs:g ≤ s.size) (hm:bt s i=92) (h40:bt s (i+1) ≠ 40) (hend:i+1 < s.size) (hp:Cl.cls 8 (bt s (i+1))=false) :
   Calls Tryz.prog 61 #[.pointer (some ⟨R,0,none⟩),.int .i64 (k:Int)] w (EsEnd (fun _=>False) R s fl d ov (.err 8 i) w):=by
 have t40:Bp.two (bt s) 92 40 i=false:=by unfold Bp.two;rw [beq_eq_false_iff_ne.2 h40,Bool.and_false]
 have hlt:=st_lt hR
 have hb0:Below w.heap.size w (w.alloc (.cells #[.int .i64 0,.int .u64 0,.int .u64 0,.int .u64 0,.int .u64 0,.slice none 0 0,.int .i64 0,.int .i64 0,.int .i64 0,.bool false] 28)):=(Below.refl _ _).alloc (Nat.le_refl _) _
 have hnov:ov.ownBlock ≠ some w.heap.size:=fun e=>by have:=(hop.lt e).2;omega
 have hR1:=keep_blk hb0 hR;have hop1:=hop.later hb0
 have HR1:=Lib.hid hR1;have HOP1:=Lib.hid hop1;have HB0:=Lib.hid hb0
 have Z0:=Lib.hid (heap_alloc_new w (.cells #[.int .i64 0,.int .u64 0,.int .u64 0,.int .u64 0,.int .u64 0,.slice none 0 0,.int .i64 0,.int .i64 0,.int .i64 0,.bool false] 28))
 have hbk:=bt_at hi
 have hRw:R ≠ w.heap.size:=by omega
 have wi:IntKind.i64.wrap ((i:Int)+1)=(i:Int)+1:=IntWalk.i64_in _ (by omega)
 obtain ⟨c0,c1,c2,c3,c4,c5,c6⟩:=st7 hR1
 obtain ⟨f1,f3,f4,f5,f6⟩:=stf hR1
 rw [hm] at hbk
 have hge:decide ((s.size:Int) ≤ (i:Int)+1)=false:=by simp;omega
 have hbk1:=bt_at hend
 have HPU:=Lib.hid (fun w=>espunct_any (bt s (i+1)) ((bt_txt s).1 (i+1) hend) w)
 rw [hp] at HPU
 clear hp
 clear hR hop hb0 hR1 hop1
 go_enter Tryz.func61,Tryz.ntmps61
 go_wp2_with fail
 refine (bstwo_any s i 92 40 (by omega) (by omega) (by omega) _).mono ?_;rintro e w' ⟨rfl,rfl⟩
 rw [t40]
 go_wp2_with fail
 refine (HPU.out _).mono ?_;rintro e w6 ⟨rfl,hb6⟩
 have HR6:=Lib.hid (keep_blk hb6 HR1.out);have Z6:=Lib.hid (keep_blk hb6 Z0.out);have HB6:=Lib.hid (HB0.out.trans (hb6.mono HB0.out.size));have HOP6:=Lib.hid (HOP1.out.later hb6)
 clear hb6 c0 c1 c2 c3 c4 c5 c6 f1 f3 f4 f5 f6
 go_wp2_with fail
 refine (esfault_any w6 R s i fl g ov 0 HR6.out 8 (i:Int)).mono ?_
 rintro e w7 ⟨rfl,hR7,ht7⟩
 have Z7:=Lib.hid ((ht7.block w.heap.size (blk_lt Z6.out) (by simp;omega)).trans Z6.out)
 have HR7:=Lib.hid hR7;have HT7:=Lib.hid ((Touch.of_below [R] HB6.out).trans ht7);have HOP7:=Lib.hid (HOP6.out.touch ht7)
 clear hR7 ht7
 go_wp2_with (first
   | (refine wpList_store_row rfl 28 (.tmp 4) (.tmp 129) rfl w.heap.size #[.int .i64 0,.int .u64 0,.int .u64 0,.int .u64 0,.int .u64 0,.slice none 0 0,.int .i64 0,.int .i64 0,.int .i64 0,.bool false] rfl rfl 28 _ Z7.out (by kernel_rfl) rfl (by simp [Value.oneCell']) ?_)
   | fail)
 have hT:=HT7.out.setRow_new (Nat.le_refl w.heap.size) #[.int .i64 0,.int .u64 0,.int .u64 0,.int .u64 0,.int .u64 0,.slice none 0 0,.int .i64 0,.int .i64 0,.int .i64 0,.bool false]
 exact bodyPost_ret (results_cell_row rfl _ _ w.heap.size 28 #[.int .i64 0,.int .u64 0,.int .u64 0,.int .u64 0,.int .u64 0,.slice none 0 0,.int .i64 0,.int .i64 0,.int .i64 0,.bool false] (0,0) _ rfl (heap_setRow Z7.out) Tryz.underlying28 rfl (by kernel_rfl)) rfl ⟨ov,.inl rfl,HOP7.out.setRow hnov _,hT.obs,by decide,Tr.leaf 0,_,_,_,_,_,rfl,(heap_setRow_other _ _ _ hRw).trans HR7.out,by omega,hgs⟩
theorem bsatom_esc2 (w:World) (R:Nat) (s:ByteArray) (hs:s.size ≤ 1024) (i:Nat) (fl:Int) (g:Nat) (ov:Value) (d:Nat) (hR:w.heap[R]? = some (.cells (stC s i fl g ov 0 0) 58)) (hop:Opn w R d ov) (hi:i < s.size) (k:Nat) (hm:bt s i=92) (h40:bt s (i+1) ≠ 40) (hend:i+1 < s.size) (hp:Cl.cls 8 (bt s (i+1))=true) :
   Calls Tryz.prog 61 #[.pointer (some ⟨R,0,none⟩),.int .i64 (k:Int)] w (EsEnd (fun _=>False) R s fl d ov (.ok (Ep.one (icB fl) (bt s (i+1))) (i+2) g) w):=by
 have t40:Bp.two (bt s) 92 40 i=false:=by unfold Bp.two;rw [beq_eq_false_iff_ne.2 h40,Bool.and_false]
 have hlt:=st_lt hR
 have hb0:Below w.heap.size w (w.alloc (.cells #[.int .i64 0,.int .u64 0,.int .u64 0,.int .u64 0,.int .u64 0,.slice none 0 0,.int .i64 0,.int .i64 0,.int .i64 0,.bool false] 28)):=(Below.refl _ _).alloc (Nat.le_refl _) _
 have hnov:ov.ownBlock ≠ some w.heap.size:=fun e=>by have:=(hop.lt e).2;omega
 have hR1:=keep_blk hb0 hR;have hop1:=hop.later hb0
 have HR1:=Lib.hid hR1;have HOP1:=Lib.hid hop1;have HB0:=Lib.hid hb0
 have Z0:=Lib.hid (heap_alloc_new w (.cells #[.int .i64 0,.int .u64 0,.int .u64 0,.int .u64 0,.int .u64 0,.slice none 0 0,.int .i64 0,.int .i64 0,.int .i64 0,.bool false] 28))
 have hbk:=bt_at hi
 have hRw:R ≠ w.heap.size:=by omega
 have wi:IntKind.i64.wrap ((i:Int)+1)=(i:Int)+1:=IntWalk.i64_in _ (by omega)
 obtain ⟨c0,c1,c2,c3,c4,c5,c6⟩:=st7 hR1
 obtain ⟨f1,f3,f4,f5,f6⟩:=stf hR1
 rw [hm] at hbk
 have hge:decide ((s.size:Int) ≤ (i:Int)+1)=false:=by simp;omega
 have hbk1:=bt_at hend
 have hi0:(0:Int) ≤ (i:Int)+1:=by omega
 have hi1:(i:Int)+1 < s.size:=by omega
 have wi2:IntKind.i64.wrap ((i:Int)+2)=(i:Int)+2:=IntWalk.i64_in _ (by omega)
 have HPU:=Lib.hid (fun w=>espunct_any (bt s (i+1)) ((bt_txt s).1 (i+1) hend) w)
 rw [hp] at HPU
 have HDT:=Lib.hid (fun w=>esone_bt s (i+1) hend fl w)
 have HTS:Hid ((Ep.one (icB fl) (bt s (i+1))).subs=[]):=Lib.hid rfl
 generalize Ep.one (icB fl) (bt s (i+1))=T at *
 have hcut:(cutW w R).heap.size ≤ w.heap.size:=by rw [cutW_size hlt];omega
 clear hp
 clear hR hop hb0 hR1 hop1
 go_enter Tryz.func61,Tryz.ntmps61
 go_wp2_with fail
 refine (bstwo_any s i 92 40 (by omega) (by omega) (by omega) _).mono ?_;rintro e w' ⟨rfl,rfl⟩
 rw [t40]
 go_wp2_with fail
 refine (HPU.out _).mono ?_;rintro e w6 ⟨rfl,hb6⟩
 have hR6:=keep_blk hb6 HR1.out
 have Z6:=Lib.hid (keep_blk hb6 Z0.out);have hB6:=HB0.out.trans (hb6.mono HB0.out.size);have hO6:=HOP1.out.later hb6
 have hp7:=st_place hR6 (i+2) (v:=(i:Int)+2) (by omega)
 have ht7:Touch [R] w6 (w6.setCell ⟨R,1,none⟩ (.int .i64 ((i:Int)+2))):=(Touch.refl [R] _).setCell List.mem_cons_self 1 _
 have HP7:=Lib.hid hp7;have HT7:=Lib.hid ((Touch.of_below [R] hB6).trans ht7);have HOP7:=Lib.hid (hO6.touch ht7)
 have Z7:=Lib.hid ((ht7.block w.heap.size (blk_lt Z6.out) (by simp;omega)).trans Z6.out)
 have HBC:=Lib.hid (cutW_below hlt HT7.out)
 obtain ⟨g0,g1,g2,g3,g4,g5,g6⟩:=st7 hR6
 obtain ⟨n1,n3,n4,n5,n6⟩:=stf hR6
 clear hb6 c0 c1 c2 c3 c4 c5 c6 f1 f3 f4 f5 f6 hR6 hB6 hO6 hp7 ht7 Z6
 go_upto_region 25 with (fail)
 generalize World.setCell _ _ _=W7 at *
 have hs7:w.heap.size < W7.heap.size:=blk_lt Z7.out
 clear g0 g1 g2 g3 g4 g5 g6 n1 n3 n4 n5 n6
 refine Ri.wp_region_frame (by kernel_rfl) (by kernel_rfl) (by kernel_rfl) (by kernel_rfl)
   (fun L v w'=>Below (cutW w R).heap.size (cutW w R) w'∧W7.heap.size ≤ w'.heap.size∧(L 12=true→w'.heap[w.heap.size]? = some (.cells #[.int .i64 T.kind,.int .u64 (Oc.U T.w0),.int .u64 (Oc.U T.w1),.int .u64 (Oc.U T.w2),.int .u64 (Oc.U T.w3),.slice none 0 0,.int .i64 T.num,.int .i64 T.least,.int .i64 T.most,.bool T.bare] 28))∧(L 12=false→w'.heap[w.heap.size]? = some (.cells #[.int .i64 0,.int .u64 0,.int .u64 0,.int .u64 0,.int .u64 0,.slice none 0 0,.int .i64 0,.int .i64 0,.int .i64 0,.bool false] 28))∧w'.heap[R]? = some (.cells (stC s (i+2) fl g ov 0 0) 58)∧(∀ k,k < W7.heap.size→k ≠ w.heap.size→w'.heap[k]? = W7.heap[k]?)∧(L 0=true→v 0=.pointer (some ⟨R,0,none⟩))∧(L 1=true→v 1=.pointer (some ⟨R,0,none⟩))∧(L 2=true→v 2=.pointer (some ⟨R,0,none⟩))∧(L 3=true→v 3=.string s)∧(L 4=true→v 4=.int .i64 (i:Int))∧(L 5=true→v 5=.int .i64 ((i:Int)+1))∧(L 6=true→v 6=.int .u8 ((bt s (i+1):Nat):Int))∧(L 7=true→v 7=.pointer (some ⟨R,0,none⟩))∧(L 8=true→v 8=.pointer (some ⟨R,0,none⟩))∧(L 9=true→v 9=.pointer (some ⟨R,2,none⟩))∧(L 10=true→v 10=.int .i64 fl)∧(L 11=true→v 11=.agg #[.int .i64 T.kind,.int .u64 (Oc.U T.w0),.int .u64 (Oc.U T.w1),.int .u64 (Oc.U T.w2),.int .u64 (Oc.U T.w3),.slice none 0 0,.int .i64 T.num,.int .i64 T.least,.int .i64 T.most,.bool T.bare]))
   ?_ ?_ ?_
 · exact ⟨HBC.out.drew,Nat.le_refl _,(by simp),(fun _=>Z7.out),HP7.out,fun _ _ _=>rfl,by simp,by simp,by simp,by simp,by simp,by simp,by simp,by simp,by simp,by simp,by simp,by simp⟩
 · intro i hi9 L v w9 xa hI hL hd hv ho
   have hi':i=0 ∨ i=1 ∨ i=2 ∨ i=3 ∨ i=4 ∨ i=5 ∨ i=6 ∨ i=7 ∨ i=8 ∨ i=9 ∨ i=10 ∨ i=11 ∨ i=12:=by simp at hi9;omega
   obtain ⟨hb,hz,qn,qo,k0,kf,q0,q1,q2,q3,q4,q5,q6,q7,q8,q9,q10,q11⟩:=hI
   rcases hi' with rfl | rfl | rfl | rfl | rfl | rfl | rfl | rfl | rfl | rfl | rfl | rfl | rfl
   · have e0:xa.tmps.getD 0 undef=.pointer (some ⟨R,0,none⟩):=ho 0 (by kernel_rfl)
     refine Ri.step_plain rfl rfl (fun K' hK=>?_)
     go_simp
     exact hK _ _ ⟨_,_,rfl,rfl,hb,hz,qn,qo,k0,kf,fun _=>rfl,q1,q2,q3,q4,q5,q6,q7,q8,q9,q10,q11⟩
   · have l0:L 0=true:=by have:=hd _ rfl;simp [Region.binds] at this;simp [this]
     have f0:=(hv 0 135 rfl l0).trans (q0 l0)
     refine Ri.step_plain rfl rfl (fun K' hK=>?_)
     go_simp
     exact hK _ _ ⟨_,_,rfl,rfl,hb,hz,qn,qo,k0,kf,q0,fun _=>rfl,q2,q3,q4,q5,q6,q7,q8,q9,q10,q11⟩
   · have l0:L 1=true:=by have:=hd _ rfl;simp [Region.binds] at this;simp [this]
     have f1:=(hv 1 136 rfl l0).trans (q1 l0)
     refine Ri.step_plain rfl rfl (fun K' hK=>?_)
     go_simp
     exact hK _ _ ⟨_,_,rfl,rfl,hb,hz,qn,qo,k0,kf,q0,q1,fun _=>rfl,q3,q4,q5,q6,q7,q8,q9,q10,q11⟩
   · have l0:L 2=true:=by have:=hd _ rfl;simp [Region.binds] at this;simp [this]
     have f2:=(hv 2 137 rfl l0).trans (q2 l0)
     refine Ri.step_plain rfl rfl (fun K' hK=>?_)
     obtain ⟨k0',_⟩:=st7 k0
     go_simp
     exact hK _ _ ⟨_,_,rfl,rfl,hb,hz,qn,qo,k0,kf,q0,q1,q2,fun _=>rfl,q4,q5,q6,q7,q8,q9,q10,q11⟩
   · have e5:xa.tmps.getD 5 undef=.int .i64 (i:Int):=ho 5 (by kernel_rfl)
     refine Ri.step_plain rfl rfl (fun K' hK=>?_)
     go_simp
     exact hK _ _ ⟨_,_,rfl,rfl,hb,hz,qn,qo,k0,kf,q0,q1,q2,q3,fun _=>rfl,q5,q6,q7,q8,q9,q10,q11⟩
   · have l0:L 4=true:=by have:=hd _ rfl;simp [Region.binds] at this;simp [this]
     have f4:=(hv 4 139 rfl l0).trans (q4 l0)
     refine Ri.step_plain rfl rfl (fun K' hK=>?_)
     go_simp
     exact hK _ _ ⟨_,_,rfl,rfl,hb,hz,qn,qo,k0,kf,q0,q1,q2,q3,q4,fun _=>rfl,q6,q7,q8,q9,q10,q11⟩
   · have l0:L 3=true∧L 5=true:=by have:=hd _ rfl;simp [Region.binds] at this;simp [this]
     have f3:=(hv 3 138 rfl l0.1).trans (q3 l0.1)
     have f5:=(hv 5 140 rfl l0.2).trans (q5 l0.2)
     refine Ri.step_plain rfl rfl (fun K' hK=>?_)
     go_simp
     exact hK _ _ ⟨_,_,rfl,rfl,hb,hz,qn,qo,k0,kf,q0,q1,q2,q3,q4,q5,fun _=>rfl,q7,q8,q9,q10,q11⟩
   · have e0:xa.tmps.getD 0 undef=.pointer (some ⟨R,0,none⟩):=ho 0 (by kernel_rfl)
     refine Ri.step_plain rfl rfl (fun K' hK=>?_)
     go_simp
     exact hK _ _ ⟨_,_,rfl,rfl,hb,hz,qn,qo,k0,kf,q0,q1,q2,q3,q4,q5,q6,fun _=>rfl,q8,q9,q10,q11⟩
   · have l0:L 7=true:=by have:=hd _ rfl;simp [Region.binds] at this;simp [this]
     have f7:=(hv 7 142 rfl l0).trans (q7 l0)
     refine Ri.step_plain rfl rfl (fun K' hK=>?_)
     go_simp
     exact hK _ _ ⟨_,_,rfl,rfl,hb,hz,qn,qo,k0,kf,q0,q1,q2,q3,q4,q5,q6,q7,fun _=>rfl,q9,q10,q11⟩
   · have l0:L 8=true:=by have:=hd _ rfl;simp [Region.binds] at this;simp [this]
     have f8:=(hv 8 143 rfl l0).trans (q8 l0)
     refine Ri.step_plain rfl rfl (fun K' hK=>?_)
     go_simp
     exact hK _ _ ⟨_,_,rfl,rfl,hb,hz,qn,qo,k0,kf,q0,q1,q2,q3,q4,q5,q6,q7,q8,fun _=>rfl,q10,q11⟩
   · have l0:L 9=true:=by have:=hd _ rfl;simp [Region.binds] at this;simp [this]
     have f9:=(hv 9 144 rfl l0).trans (q9 l0)
     refine Ri.step_plain rfl rfl (fun K' hK=>?_)
     obtain ⟨_,_,k2',_⟩:=st7 k0
     go_simp
     exact hK _ _ ⟨_,_,rfl,rfl,hb,hz,qn,qo,k0,kf,q0,q1,q2,q3,q4,q5,q6,q7,q8,q9,fun _=>rfl,q11⟩
   · have l0:L 6=true∧L 10=true:=by have:=hd _ rfl;simp [Region.binds] at this;simp [this]
     have f6:=(hv 6 141 rfl l0.1).trans (q6 l0.1)
     have f10:=(hv 10 145 rfl l0.2).trans (q10 l0.2)
     refine Ri.step_plain rfl rfl (fun K' hK=>?_)
     go_simp
     refine (HDT.out _).mono ?_
     rintro e w8 ⟨rfl,hb8⟩
     exact hK _ _ ⟨_,_,rfl,rfl,hb.trans (hb8.mono hb.size),Nat.le_trans hz hb8.size,(fun l=>keep_blk hb8 (qn l)),(fun l=>keep_blk hb8 (qo l)),(keep_blk hb8 k0),(fun k hk hn=>(hb8.block k (Nat.lt_of_lt_of_le hk hz)).trans (kf k hk hn)),q0,q1,q2,q3,q4,q5,q6,q7,q8,q9,q10,fun _=>rfl⟩
   · have l0:L 11=true:=by have:=hd _ rfl;simp [Region.binds] at this;simp [this]
     have f11:=(hv 11 146 rfl l0).trans (q11 l0)
     have e4:xa.tmps.getD 4 undef=.pointer (some ⟨w.heap.size,0,none⟩):=ho 4 (by kernel_rfl)
     refine Ri.step_plain rfl rfl (fun K' hK=>?_)
     refine wp_store_row _ _ _ rfl w.heap.size #[.int .i64 T.kind,.int .u64 (Oc.U T.w0),.int .u64 (Oc.U T.w1),.int .u64 (Oc.U T.w2),.int .u64 (Oc.U T.w3),.slice none 0 0,.int .i64 T.num,.int .i64 T.least,.int .i64 T.most,.bool T.bare] e4 f11 28 _ (qo hL) (by kernel_rfl) (by kernel_rfl) (by simp [Value.oneCell']) ?_
     exact hK _ _ ⟨_,undef,rfl,rfl,below_setRow hb hcut _,by simpa using hz,(fun _=>heap_setRow (qo hL)),(fun h=>by cases h),(heap_setRow_other _ _ _ (by omega)).trans k0,(fun k hk hn=>(heap_setRow_other _ _ _ hn).trans (kf k hk hn)),q0,q1,q2,q3,q4,q5,q6,q7,q8,q9,q10,q11⟩
 · rintro v w9 ⟨hb,hz,qn,-,k0,kf,-,-,-,-,-,-,-,-,-,-,-,-⟩
   have zN:=qn rfl;clear qn
   simp only [Ri.frame,List.zipIdx,List.foldl_cons,List.foldl_nil,if_true,List.setIfInBounds_toArray,List.set_cons_zero,List.set_cons_succ,Nat.reduceAdd]
   generalize v 0=y0;generalize v 1=y1;generalize v 2=y2;generalize v 3=y3;generalize v 4=y4;generalize v 5=y5;generalize v 6=y6;generalize v 7=y7;generalize v 8=y8;generalize v 9=y9;generalize v 10=y10;generalize v 11=y11
   have HOPx:Opn w9 R d ov:=by
     obtain ⟨xs,ho⟩:=HOP7.out
     refine ⟨xs,ho.kept (w':=w9) (row:=some w.heap.size) ⟨hb.os.trans HBC.out.os.symm,hb.tape.trans HBC.out.tape.symm,hb.output.trans HBC.out.output.symm,hz,fun k hk hne=>kf k hk (fun e=>hne (by rw [e]))⟩ (.inr hnov)⟩
   have HTx:Touch [R] w w9:=⟨hb.os,hb.tape,hb.output,Nat.le_trans HT7.out.size hz,fun k hk hn=>(kf k (Nat.lt_of_lt_of_le hk HT7.out.size) (by omega)).trans (HT7.out.block k hk hn)⟩
   go_wp2_with fail
   exact bodyPost_ret (results_cell_row rfl _ _ w.heap.size 28 #[.int .i64 T.kind,.int .u64 (Oc.U T.w0),.int .u64 (Oc.U T.w1),.int .u64 (Oc.U T.w2),.int .u64 (Oc.U T.w3),.slice none 0 0,.int .i64 T.num,.int .i64 T.least,.int .i64 T.most,.bool T.bare] (0,0) _ rfl zN Tryz.underlying28 rfl (by kernel_rfl)) rfl ⟨ov,.inl rfl,HOPx,HTx.obs,.slice none 0 0,rfl,by rw [HTS.out];exact TreesAt.nil,k0⟩
end Go.Proofs.YtfcilopifjddpaaGreatDoor
namespace Go.Proofs.YtfcilopifjddpaaGreatDoor
open Go.RowKit
structure SRow (w:World) (base:Nat) (ov sv:Value) (ps:List (Tr × Value)):Prop where
 own:w.ownsRow base 28 10 sv ps.length (rowOf ps)
 sub:∀ (i:Nat) (t:Tr) (s:Value),ps[i]? = some (t,s)→TreesAt w (fun b=>(base ≤ b∧sv.ownBlock ≠ some b)∧ov.ownBlock ≠ some b) s t.subs
 apart:∀ b,sv.ownBlock=some b→ov.ownBlock ≠ some b
def Slc (ps:List (Tr × Value)):Prop:=∀ (i:Nat) (t:Tr) (s:Value),ps[i]? = some (t,s)→∃ p l c,s=.slice p l c
theorem SRow.slc {w:World} {base:Nat} {ov sv:Value} {ps:List (Tr × Value)} (h:SRow w base ov sv ps):Slc ps:=fun i t s hi=>by
 obtain ⟨p,c,rfl,-⟩:=(h.sub i t s hi).slice;exact ⟨_,_,_,rfl⟩
theorem Slc.snoc {ps:List (Tr × Value)} (h:Slc ps) {x:Tr} {p:Option Addr} {l c:Nat} : Slc (ps ++ [(x,.slice p l c)]):=fun i t s hi=>by
 by_cases hip:i < ps.length
 · rw [List.getElem?_append_left hip] at hi;exact h i t s hi
 · rw [List.getElem?_append_right (by omega)] at hi
   have hi0:i - ps.length=0:=by
     by_cases h0:i - ps.length=0
     · exact h0
     · rw [List.getElem?_eq_none (by simp;omega)] at hi;cases hi
   rw [hi0] at hi
   simp only [List.getElem?_cons_zero,Option.some.injEq,Prod.mk.injEq] at hi
   obtain ⟨rfl,rfl⟩:=hi
   exact ⟨_,_,_,rfl⟩
theorem SRow.nil (w:World) (base:Nat) (ov:Value):SRow w base ov (.slice none 0 0) []:=⟨World.ownsRow_nil _ _ _ _,fun i t s h=>by simp at h,fun b h=>by simp [Value.ownBlock] at h⟩
theorem own_touch {w w':World} {base n:Nat} {ov sv:Value} {xs:List Value} {R:Nat} (h:w.ownsRow base 28 10 sv n xs) (ht:Touch (obs R ov) w w') (hR:R < base) (ha:∀ b,sv.ownBlock=some b→ov.ownBlock ≠ some b):w'.ownsRow base 28 10 sv n xs:=by
 cases hv:sv.ownBlock with
 | none =>
   rcases h.2 with hn | ⟨g,cap,cur,rfl,-⟩
   · exact ⟨h.1,.inl hn⟩
   · simp [Value.ownBlock] at hv
 | some g =>
   rcases h.2 with ⟨rfl,hn⟩ | ⟨g',cap,cur,rfl,hb,hh,rest⟩
   · simp [Value.ownBlock] at hv
   · refine ⟨h.1,.inr ⟨g',cap,cur,rfl,hb,(ht.block g' (blk_lt hh) (fun hm=>?_)).trans hh,rest⟩⟩
     rcases mem_obs.1 hm with e | e
     · omega
     · exact ha g' rfl e
theorem SRow.touch {w w':World} {base:Nat} {ov ov' sv:Value} {ps:List (Tr × Value)} {R:Nat} (h:SRow w base ov sv ps) (ht:Touch (obs R ov) w w') (hR:R < base) (hov:ov'.ownBlock=ov.ownBlock ∨ ∃ b,ov'.ownBlock=some b∧w.heap.size ≤ b):SRow w' base ov' sv ps:=by
 have hnew:∀ b,b < w.heap.size→ov.ownBlock ≠ some b→ov'.ownBlock ≠ some b:=fun b hb hne=>by
   rcases hov with e | ⟨b',e,hb'⟩
   · rw [e];exact hne
   · rw [e];intro h;have:=Option.some.inj h;omega
 refine ⟨own_touch h.own ht hR h.apart,fun i t s hi=>?_,fun b hb=>hnew b (h.own.lt b hb).2 (h.apart b hb)⟩
 have h1:=(h.sub i t s hi).mono (B':=fun b=>((base ≤ b∧sv.ownBlock ≠ some b)∧ov.ownBlock ≠ some b)∧ov'.ownBlock ≠ some b) (fun b hb hP=>⟨hP,hnew b hb hP.2⟩)
 exact (h1.keep fun b hb hP=>ht.block b hb (fun hm=>by
   rcases mem_obs.1 hm with e | e
   · omega
   · exact hP.1.2 e)).mono fun b _ hP=>⟨hP.1.1,hP.2⟩
theorem SRow.later {w w':World} {base:Nat} {ov sv:Value} {ps:List (Tr × Value)} {R:Nat} (h:SRow w base ov sv ps) (hb:Below w.heap.size w w') (hR:R < base):SRow w' base ov sv ps:=h.touch (R:=R) (Touch.of_below _ hb) hR (.inl rfl)
theorem SRow.snoc {w w4:World} {base:Nat} {ov sv sv':Value} {ps:List (Tr × Value)} {x:Tr} {s:Value} (h:SRow w base ov sv ps) (hx:TreesAt w (fun b=>(base ≤ b∧sv.ownBlock ≠ some b)∧ov.ownBlock ≠ some b) s x.subs)
   (ho:w4.ownsRow base 28 10 sv' (ps.length+1) (rowOf ps ++ (x.cells s).toList)) (hg:w.grownBy w4 sv.ownBlock) (hw:sv'.ownBlock=sv.ownBlock ∨ sv'.ownBlock=some w.heap.size) (hov:∀ b,ov.ownBlock=some b→b < w.heap.size):SRow w4 base ov sv' (ps ++ [(x,s)]):=by
 have step:∀ (s:Value) (ts:List Tr),TreesAt w (fun b=>(base ≤ b∧sv.ownBlock ≠ some b)∧ov.ownBlock ≠ some b) s ts→TreesAt w4 (fun b=>(base ≤ b∧sv'.ownBlock ≠ some b)∧ov.ownBlock ≠ some b) s ts:=fun s ts ht=>by
   have h1:=ht.mono (B':=fun b=>((base ≤ b∧sv.ownBlock ≠ some b)∧ov.ownBlock ≠ some b)∧sv'.ownBlock ≠ some b) (fun b hb hP=>⟨hP,by
     rcases hw with e | e
     · rw [e];exact hP.1.2
     · rw [e];intro h;have:=Option.some.inj h;omega⟩)
   exact (h1.keep fun b hb hP=>hg.block b hb (fun e=>hP.1.1.2 e.symm)).mono fun b _ hP=>⟨⟨hP.1.1.1,hP.2⟩,hP.1.2⟩
 refine ⟨by rw [rowOf_snoc,List.length_append];exact ho,fun i t s' hi=>?_,fun b hb=>?_⟩
 · by_cases hip:i < ps.length
   · rw [List.getElem?_append_left hip] at hi
     exact step s' _ (h.sub i t s' hi)
   · rw [List.getElem?_append_right (by omega)] at hi
     have hi0:i - ps.length=0:=by
       by_cases h0:i - ps.length=0
       · exact h0
       · rw [List.getElem?_eq_none (by simp;omega)] at hi;cases hi
     rw [hi0] at hi
     simp only [List.getElem?_cons_zero,Option.some.injEq,Prod.mk.injEq] at hi
     obtain ⟨rfl,rfl⟩:=hi
     exact step _ _ hx
 · rcases hw with e | e
   · rw [e] at hb;exact h.apart b hb
   · rw [e] at hb;intro h2;have:=hov b h2;have:=Option.some.inj hb;omega
theorem SRow.sev {w:World} {base:Nat} {ov sv:Value} {ps:List (Tr × Value)} (h:SRow w base ov sv ps) (k:Int) (hn:ps.length * 96 ≤ 140737488351232):TreesAt w (fun b=>base ≤ b∧ov.ownBlock ≠ some b) (sevS sv ps) (Tr.several k (ps.map (·.1))).subs:=by
 match ps,h with
 | [],_=>exact TreesAt.nil
 | [(t,s)],h=>exact (h.sub 0 t s rfl).mono fun b _ hP=>⟨hP.1.1,hP.2⟩
 | a :: b :: r,h=>exact trees_of_row h.own hn h.sub (fun q hq=>⟨hq.1.1,hq.2⟩) (fun q hq=>⟨(h.own.lt q hq).1,h.apart q hq⟩)
theorem sev_slice {w:World} {base:Nat} {sv:Value} {ps:List (Tr × Value)} (h:w.ownsRow base 28 10 sv ps.length (rowOf ps)) (hs:Slc ps):∃ p l c,sevS sv ps=.slice p l c:=by
 have hv:∃ p l c,sv=.slice p l c:=by
   rcases h.2 with ⟨rfl,hn⟩ | ⟨g,cap,cur,rfl,-⟩
   · exact ⟨_,_,_,rfl⟩
   · exact ⟨_,_,_,rfl⟩
 match ps,hs with
 | [],_=>exact ⟨_,_,_,rfl⟩
 | [(t,s)],hs=>exact hs 0 t s rfl
 | a :: b :: r,_=>exact hv
def esCode (R:Nat) (w:World):Int:=match w.cell? ⟨R,5,none⟩ with | some (.int _ n)=>n | _=>0
def esPlace (R:Nat) (w:World):Nat:=match w.cell? ⟨R,1,none⟩ with | some (.int _ n)=>n.toNat | _=>0
def esM (R n:Nat) (w:World):Nat:=if esCode R w=0 then n+1 - esPlace R w else 0
theorem esM_is {w:World} {R:Nat} {s:ByteArray} {i:Nat} {fl:Int} {g:Nat} {ov:Value} {c:Nat} {q:Int} (h:w.heap[R]? = some (.cells (stC s i fl g ov c q) 58)) (n:Nat):esM R n w=if c=0 then n+1 - i else 0:=by
 obtain ⟨-,c1,-,-,-,c5,-⟩:=st7 h
 unfold esM esCode esPlace
 rw [c1,c5]
 simp
end Go.Proofs.YtfcilopifjddpaaGreatDoor
namespace Go.Proofs.YtfcilopifjddpaaGreatDoor
open Go.RowKit
theorem touch_obs2 {R:Nat} {ov ovr:Value} {w wr w':World} (h:Touch (obs R ov) w wr) (hr:ovr.ownBlock=ov.ownBlock ∨ ∃ b,ovr.ownBlock=some b∧w.heap.size ≤ b) (h2:Touch (obs R ovr) wr w'):Touch (obs R ov) w w' :=
 ⟨h2.os.trans h.os,h2.tape.trans h.tape,h2.output.trans h.output,Nat.le_trans h.size h2.size,fun k hk hn=>(h2.block k (Nat.lt_of_lt_of_le hk h.size) (fun hm=>by
   rcases mem_obs.1 hm with e | e
   · exact hn (mem_obs.2 (.inl e))
   · rcases hr with e2 | ⟨b,e2,hb⟩
     · exact hn (mem_obs.2 (.inr (by rw [← e2];exact e)))
     · rw [e2] at e;have:=Option.some.inj e;omega)).trans (h.block k hk hn)⟩
theorem apart_new {R d:Nat} {w w9:World} {ov sv v':Value} (ha:∀ b,sv.ownBlock=some b→ov.ownBlock ≠ some b) (hop:Opn w R d ov) (hs:w.heap.size ≤ w9.heap.size) (hw:v'.ownBlock=sv.ownBlock ∨ v'.ownBlock=some w9.heap.size):∀ b,v'.ownBlock=some b→ov.ownBlock ≠ some b:=fun b hb=>by
 rcases hw with e | e
 · rw [e] at hb;exact ha b hb
 · rw [e] at hb;intro h2;have:=(hop.lt h2).2;have:=Option.some.inj hb;omega
theorem Opn.grownx {w w':World} {R d:Nat} {ov sv:Value} (h:Opn w R d ov) (hg:w.grownBy w' sv.ownBlock) (ha:∀ b,sv.ownBlock=some b→ov.ownBlock ≠ some b):Opn w' R d ov:=by
 obtain ⟨xs,h⟩:=h
 refine ⟨xs,h.kept (w':=w') (row:=sv.ownBlock) hg ?_⟩
 cases hv:ov.ownBlock with
 | none=>exact .inl rfl
 | some q=>exact .inr fun e=>ha q e.symm hv
theorem touch_obs {R:Nat} {ov ovr:Value} {w wr w':World} (h:Touch (obs R ov) w wr) (hr:ovr.ownBlock=ov.ownBlock ∨ ∃ b,ovr.ownBlock=some b∧w.heap.size+1 ≤ b) (h2:Touch (obs R ovr) wr w'):Touch (obs R ov) w w' :=
 ⟨h2.os.trans h.os,h2.tape.trans h.tape,h2.output.trans h.output,Nat.le_trans h.size h2.size,fun k hk hn=>(h2.block k (Nat.lt_of_lt_of_le hk h.size) (fun hm=>by
   rcases mem_obs.1 hm with e | e
   · exact hn (mem_obs.2 (.inl e))
   · rcases hr with e2 | ⟨b,e2,hb⟩
     · exact hn (mem_obs.2 (.inr (by rw [← e2];exact e)))
     · rw [e2] at e;have:=Option.some.inj e;omega)).trans (h.block k hk hn)⟩
end Go.Proofs.YtfcilopifjddpaaGreatDoor
namespace Go.Proofs.YtfcilopifjddpaaGreatDoor
open Go.RowKit
theorem Opn.cut {w:World} {R d:Nat} {p:Option Addr} {cap:Nat} (h:Opn w R (d+1) (.slice p (d+1) cap)):Opn w R d (.slice p d cap)∧d ≤ cap∧∃ b,p=some ⟨b,0,none⟩:=by
 obtain ⟨xs,h⟩:=h
 rcases h.2 with ⟨h1,h2⟩ | ⟨g,cap',cur,h1,hb,hg,hn,hm,hc,ht⟩
 · omega
 · injection h1 with e1 e2 e3
   subst e1 e3
   exact ⟨⟨xs.take d,by have:=h.1;rw [List.length_take];omega,.inr ⟨g,cap,cur,rfl,hb,hg,by omega,hm,hc,by rw [← ht,List.take_take];congr 1;omega⟩⟩,by omega,g,rfl⟩
end Go.Proofs.YtfcilopifjddpaaGreatDoor
namespace Go.Proofs.YtfcilopifjddpaaGreatDoor
open Go.RowKit
def BsEnd (P:Nat→Prop) (R:Nat) (s:ByteArray) (fl:Int) (m:Nat) (ov:Value) (O:Ep.Out) (w:World) (e:Ending) (w':World):Prop :=
 ∃ ov',(ov'.ownBlock=ov.ownBlock ∨ ∃ b,ov'.ownBlock=some b∧w.heap.size ≤ b)∧Opn w' R 0 ov'∧Touch (obs R ov) w w' ∧
   match O with
   | .ok t j g=>∃ v,e=.returned (.agg (t.cells v))∧TreesAt w' (fun b=>(P b ∨ w.heap.size ≤ b)∧ov'.ownBlock ≠ some b) v t.subs∧w'.heap[R]? = some (.cells (stC s j fl g ov' 0 0) 58)
   | .err c q=>c ≠ 0∧∃ (x:Tr) (p:Option Addr) (l k i g:Nat),e=.returned (.agg (x.cells (.slice p l k)))∧w'.heap[R]? = some (.cells (stC s i fl g ov' c q) 58)∧i+m ≤ s.size+128∧g ≤ s.size
theorem EsEnd.bs {P:Nat→Prop} {R:Nat} {s:ByteArray} {fl:Int} {m:Nat} {ov:Value} {O:Ep.Out} {w:World} {e:Ending} {w':World} (h:EsEnd P R s fl 0 ov O w e w') (hm:m ≤ 64):BsEnd P R s fl m ov O w e w':=by
 obtain ⟨ov',h1,h2,h3,h4⟩:=h
 refine ⟨ov',h1,h2,h3, ?_⟩
 cases O with
 | ok t j g=>exact h4
 | err c q =>
   obtain ⟨h5,x,p,l,k,i,g,h6,h7,h8,h9⟩:=h4
   exact ⟨h5,x,p,l,k,i,g,h6,h7,by omega,h9⟩
theorem BsEnd.cases {P:Nat→Prop} {R:Nat} {s:ByteArray} {fl:Int} {m:Nat} {ov:Value} {O:Ep.Out} {w:World} {e:Ending} {w':World} (h:BsEnd P R s fl m ov O w e w') :
   ∃ (ov':Value) (x:Tr) (p:Option Addr) (l k:Nat),e=.returned (.agg (x.cells (.slice p l k)))∧(ov'.ownBlock=ov.ownBlock ∨ ∃ b,ov'.ownBlock=some b∧w.heap.size ≤ b)∧Opn w' R 0 ov'∧Touch (obs R ov) w w' ∧
     ((∃ j g,O=.ok x j g∧TreesAt w' (fun b=>(P b ∨ w.heap.size ≤ b)∧ov'.ownBlock ≠ some b) (.slice p l k) x.subs∧w'.heap[R]? = some (.cells (stC s j fl g ov' 0 0) 58)) ∨
      (∃ c q i g,O=.err c q∧c ≠ 0∧w'.heap[R]? = some (.cells (stC s i fl g ov' c q) 58)∧i+m ≤ s.size+128∧g ≤ s.size)):=by
 obtain ⟨ov',h1,h2,h3,h4⟩:=h
 cases O with
 | ok t j g =>
   obtain ⟨v,h5,h6,h7⟩:=h4
   obtain ⟨p,c,rfl,-⟩:=h6.slice
   exact ⟨ov',t,p,_,c,h5,h1,h2,h3,.inl ⟨j,g,rfl,h6,h7⟩⟩
 | err c q =>
   obtain ⟨h5,x,p,l,k,i,g,h6,h7,h8⟩:=h4
   exact ⟨ov',x,p,l,k,h6,h1,h2,h3,.inr ⟨c,q,i,g,rfl,h5,h7,h8⟩⟩
theorem BsEnd.keepsBlk {P:Nat→Prop} {R:Nat} {s:ByteArray} {fl:Int} {m:Nat} {ov:Value} {O:Ep.Out} {w:World} {e:Ending} {w':World} (h:BsEnd P R s fl m ov O w e w') {b:Nat} {x:Obj} (hx:w.heap[b]? = some x) (hR:b ≠ R) (hov:ov.ownBlock ≠ some b):w'.heap[b]? = some x:=by
 obtain ⟨ov',h1,h2,h3,h4⟩:=h
 exact (h3.block b (blk_lt hx) (fun hm=>by rcases mem_obs.1 hm with e | e;exact hR e;exact hov e)).trans hx
def bsgrp (f:Nat→Nat) (i g:Nat):Ep.Out→Ep.Out
 | .err c p=>.err c p
 | .ok t j g'=>if Bp.two f 92 41 j then .ok (.grp (g+1:Nat) t) (j+2) g' else .err 2 i
theorem bsgroup_deep (w:World) (R:Nat) (s:ByteArray) (hs:s.size ≤ 1024) (i:Nat) (fl:Int) (g:Nat) (ov:Value) (k:Nat) (hR:w.heap[R]? = some (.cells (stC s i fl g ov 0 0) 58)) (hop:Opn w R 0 ov) (hi:i < s.size) (t40:Bp.two (bt s) 92 40 i=true) (hgs:g ≤ s.size) (hk:k=32) :
   Calls Tryz.prog 61 #[.pointer (some ⟨R,0,none⟩),.int .i64 (k:Int)] w (BsEnd (fun _=>False) R s fl (2 * k) ov (.err 11 i) w):=by
 have hlt:=st_lt hR
 have hb0:Below w.heap.size w (w.alloc (.cells #[.int .i64 0,.int .u64 0,.int .u64 0,.int .u64 0,.int .u64 0,.slice none 0 0,.int .i64 0,.int .i64 0,.int .i64 0,.bool false] 28)):=(Below.refl _ _).alloc (Nat.le_refl _) _
 have hnov:ov.ownBlock ≠ some w.heap.size:=fun e=>by have:=(hop.lt e).2;omega
 have hR1:=keep_blk hb0 hR
 have HR1:=Lib.hid hR1;have HOP1:=Lib.hid (hop.later hb0);have HB0:=Lib.hid hb0
 have Z0:=Lib.hid (heap_alloc_new w (.cells #[.int .i64 0,.int .u64 0,.int .u64 0,.int .u64 0,.int .u64 0,.slice none 0 0,.int .i64 0,.int .i64 0,.int .i64 0,.bool false] 28))
 have hRw:R ≠ w.heap.size:=by omega
 have hbk:=bt_at hi
 have hm:=(Bp.two_iff.1 t40).1
 rw [hm] at hbk
 obtain ⟨c0,c1,c2,c3,c4,c5,c6⟩:=st7 hR1
 obtain ⟨f1,f3,f4,f5,f6⟩:=stf hR1
 have hge:decide ((32:Int) ≤ (k:Int))=true:=by simp;omega
 have hge':decide (32 ≤ k)=true:=by simp;omega
 clear hR hop hb0 hR1
 go_enter Tryz.func61,Tryz.ntmps61
 go_wp2_with fail
 refine (bstwo_any s i 92 40 (by omega) (by omega) (by omega) _).mono ?_;rintro e w' ⟨rfl,rfl⟩
 rw [t40]
 go_wp2_with fail
 generalize World.alloc w _=W1 at *
 refine (esfault_any W1 R s i fl g ov 0 HR1.out 11 (i:Int)).mono ?_
 rintro e w7 ⟨rfl,hR7,ht7⟩
 have Z7:=Lib.hid ((ht7.block w.heap.size (blk_lt Z0.out) (by simp;omega)).trans Z0.out)
 have HR7:=Lib.hid hR7;have HT7:=Lib.hid ((Touch.of_below [R] HB0.out).trans ht7);have HOP7:=Lib.hid (HOP1.out.touch ht7)
 clear hR7 ht7
 go_wp2_with (first
   | (refine wpList_store_row rfl 28 (.tmp 4) (.tmp 51) rfl w.heap.size #[.int .i64 0,.int .u64 0,.int .u64 0,.int .u64 0,.int .u64 0,.slice none 0 0,.int .i64 0,.int .i64 0,.int .i64 0,.bool false] rfl rfl 28 _ Z7.out (by kernel_rfl) rfl (by simp [Value.oneCell']) ?_)
   | fail)
 have hT:=HT7.out.setRow_new (Nat.le_refl w.heap.size) #[.int .i64 0,.int .u64 0,.int .u64 0,.int .u64 0,.int .u64 0,.slice none 0 0,.int .i64 0,.int .i64 0,.int .i64 0,.bool false]
 exact bodyPost_ret (results_cell_row rfl _ _ w.heap.size 28 #[.int .i64 0,.int .u64 0,.int .u64 0,.int .u64 0,.int .u64 0,.slice none 0 0,.int .i64 0,.int .i64 0,.int .i64 0,.bool false] (0,0) _ rfl (heap_setRow Z7.out) Tryz.underlying28 rfl (by kernel_rfl)) rfl ⟨ov,.inl rfl,HOP7.out.setRow hnov _,hT.obs,by decide,Tr.leaf 0,_,_,_,_,_,rfl,(heap_setRow_other _ _ _ hRw).trans HR7.out,by omega,hgs⟩
theorem bsgroup_in (w:World) (R:Nat) (s:ByteArray) (hs:s.size ≤ 1024) (i:Nat) (fl:Int) (g:Nat) (ov:Value) (k:Nat) (hR:w.heap[R]? = some (.cells (stC s i fl g ov 0 0) 58)) (hop:Opn w R 0 ov) (hi:i < s.size) (t40:Bp.two (bt s) 92 40 i=true) (hgs:g ≤ s.size) (hk:k < 32) (Q:Ep.Out)
   (HP:∀ w' ov',w'.heap[R]? = some (.cells (stC s (i+2) fl (g+1) ov' 0 0) 58)→Opn w' R 0 ov'→Calls Tryz.prog 29 #[.pointer (some ⟨R,0,none⟩),.int .i64 ((k+1:Nat):Int)] w' (BsEnd (fun _=>False) R s fl (2 * (k+1)) ov' Q w'))
   (hstop:∀ t j g',Q=.ok t j g'→j ≤ s.size∧g' ≤ s.size∧(j=s.size ∨ Bp.two (bt s) 92 41 j=true)) :
   Calls Tryz.prog 61 #[.pointer (some ⟨R,0,none⟩),.int .i64 (k:Int)] w (BsEnd (fun _=>False) R s fl (2 * k) ov (bsgrp (bt s) i g Q) w):=by
 have hlt:=st_lt hR
 have hb0:Below w.heap.size w (w.alloc (.cells #[.int .i64 0,.int .u64 0,.int .u64 0,.int .u64 0,.int .u64 0,.slice none 0 0,.int .i64 0,.int .i64 0,.int .i64 0,.bool false] 28)):=(Below.refl _ _).alloc (Nat.le_refl _) _
 have hnov:ov.ownBlock ≠ some w.heap.size:=fun e=>by have:=(hop.lt e).2;omega
 have hR1:=keep_blk hb0 hR
 have HR1:=Lib.hid hR1;have HOP1:=Lib.hid (hop.later hb0);have HB0:=Lib.hid hb0
 have Z0:=Lib.hid (heap_alloc_new w (.cells #[.int .i64 0,.int .u64 0,.int .u64 0,.int .u64 0,.int .u64 0,.slice none 0 0,.int .i64 0,.int .i64 0,.int .i64 0,.bool false] 28))
 have hRw:R ≠ w.heap.size:=by omega
 have hbk:=bt_at hi
 have hm:=(Bp.two_iff.1 t40).1
 rw [hm] at hbk
 obtain ⟨c0,c1,c2,c3,c4,c5,c6⟩:=st7 hR1
 obtain ⟨f1,f3,f4,f5,f6⟩:=stf hR1
 have hge:decide ((32:Int) ≤ (k:Int))=false:=by simp;omega
 have hge':decide (32 ≤ k)=false:=by simp;omega
 have hsW:w.heap.size < (w.alloc (.cells #[.int .i64 0,.int .u64 0,.int .u64 0,.int .u64 0,.int .u64 0,.slice none 0 0,.int .i64 0,.int .i64 0,.int .i64 0,.bool false] 28)).heap.size:=by simp
 have wg:IntKind.i64.wrap ((g:Int)+1)=(g:Int)+1:=IntWalk.i64_in _ (by omega)
 have wi:IntKind.i64.wrap ((i:Int)+2)=(i:Int)+2:=IntWalk.i64_in _ (by omega)
 have wk:IntKind.i64.wrap ((k:Int)+1)=((k+1:Nat):Int):=by rw [IntWalk.i64_in _ (by omega)];omega
 have HPP:=Lib.hid HP;have HST:=Lib.hid hstop
 clear hR hop hb0 hR1 HP hstop
 go_enter Tryz.func61,Tryz.ntmps61
 go_wp2_with fail
 refine (bstwo_any s i 92 40 (by omega) (by omega) (by omega) _).mono ?_;rintro e w' ⟨rfl,rfl⟩
 rw [t40]
 go_upto_region 12 with (fail)
 generalize World.alloc w _=W5 at *
 go_upto_region 13 with (fail)
 have HC5:=HR1;have HOP5:=HOP1;have HT5:=Lib.hid (Touch.of_below (obs R ov) HB0.out);have Z5:=Z0
 have hC6:=st_groups HC5.out (g+1) (v:=(g:Int)+1) (by omega)
 have ht6:Touch [R] W5 (W5.setCell ⟨R,3,none⟩ (.int .i64 ((g:Int)+1))):=(Touch.refl [R] W5).setCell List.mem_cons_self 3 _
 have HC6:=Lib.hid hC6;have HT6:=Lib.hid (HT5.out.trans (ht6.obs (ov:=ov)));have HOP6:=Lib.hid (HOP5.out.touch ht6)
 have Z6:=Lib.hid ((ht6.block w.heap.size (blk_lt Z5.out) (by simp;omega)).trans Z5.out)
 clear hC6 ht6 HC5 HT5 HOP5 Z5 HR1 HOP1 Z0 HB0 c0 c1 c2 c3 c4 c5 c6 f1 f3 f4 f5 f6
 generalize W5.setCell ⟨R,3,none⟩ _=W6 at *
 obtain ⟨c0,c1,c2,c3,c4,c5,c6⟩:=st7 HC6.out
 obtain ⟨f1,f3,f4,f5,f6⟩:=stf HC6.out
 have c3':W6.cell? ⟨R,3,none⟩=some (.int .i64 ((g:Int)+1)):=c3
 clear c3
 go_upto_region 15 with (fail)
 have hC7:=st_place HC6.out (i+2) (v:=(i:Int)+2) (by omega)
 have ht7:Touch [R] W6 (W6.setCell ⟨R,1,none⟩ (.int .i64 ((i:Int)+2))):=(Touch.refl [R] W6).setCell List.mem_cons_self 1 _
 have HC7:=Lib.hid hC7;have HT7:=Lib.hid (HT6.out.trans (ht7.obs (ov:=ov)));have HOP7:=Lib.hid (HOP6.out.touch ht7)
 have Z7:=Lib.hid ((ht7.block w.heap.size (blk_lt Z6.out) (by simp;omega)).trans Z6.out)
 clear hC7 ht7 HC6 HT6 HOP6 Z6 c0 c1 c2 c3' c4 c5 c6 f1 f3 f4 f5 f6 wg wi
 generalize W6.setCell ⟨R,1,none⟩ _=W7 at *
 go_wp2_with fail
 refine (HPP.out W7 _ HC7.out HOP7.out).mono ?_
 intro e w8 he
 obtain ⟨ov8,x,p8,l8,k8,rfl,hr8,ho8,ht8,hAB⟩:=he.cases
 have hs7:w.heap.size < W7.heap.size:=blk_lt Z7.out
 have hrel:ov8.ownBlock=ov.ownBlock ∨ ∃ b,ov8.ownBlock=some b∧w.heap.size ≤ b:=by
   rcases hr8 with e | ⟨b,e,hb⟩
   · exact .inl e
   · exact .inr ⟨b,e,by omega⟩
 have hv8:ov8.ownBlock ≠ some w.heap.size:=by
   rcases hr8 with e | ⟨b,e,hb⟩
   · rw [e];exact hnov
   · rw [e];intro e2;have:=Option.some.inj e2;omega
 have Z8:=Lib.hid (he.keepsBlk Z7.out (by omega) hnov)
 have HT8:=Lib.hid (HT7.out.trans ht8)
 have HO8:=Lib.hid ho8;have HAB:=Lib.hid hAB
 have hR8:R < w8.heap.size:=by have:=ht8.size;omega
 clear he ho8 ht8 hAB HPP HC7 HT7 HOP7 Z7 hr8 wk
 unfold Tr.cells
 go_upto_region 16 with (fail)
 have hbx:Below w8.heap.size w8 (w8.alloc (.cells #[.int .i64 x.kind,.int .u64 (Oc.U x.w0),.int .u64 (Oc.U x.w1),.int .u64 (Oc.U x.w2),.int .u64 (Oc.U x.w3),.slice p8 l8 k8,.int .i64 x.num,.int .i64 x.least,.int .i64 x.most,.bool x.bare] 28)):=(Below.refl _ _).alloc (Nat.le_refl _) _
 have HBX:=Lib.hid hbx
 have HOX:=Lib.hid (HO8.out.later hbx);have HTX:=Lib.hid (HT8.out.later hbx);have ZX:=Lib.hid (keep_blk hbx Z8.out);have YX:=Lib.hid (heap_alloc_new w8 (.cells #[.int .i64 x.kind,.int .u64 (Oc.U x.w0),.int .u64 (Oc.U x.w1),.int .u64 (Oc.U x.w2),.int .u64 (Oc.U x.w3),.slice p8 l8 k8,.int .i64 x.num,.int .i64 x.least,.int .i64 x.most,.bool x.bare] 28));have HKX:=Lib.hid (Touch.of_below [R] hbx)
 have hs8:w.heap.size < w8.heap.size:=blk_lt Z8.out
 have hv8':ov8.ownBlock ≠ some w8.heap.size:=fun e=>by have:=(HO8.out.lt e).2;omega
 clear hbx Z8 HT8
 generalize hWX:w8.alloc (.cells #[.int .i64 x.kind,.int .u64 (Oc.U x.w0),.int .u64 (Oc.U x.w1),.int .u64 (Oc.U x.w2),.int .u64 (Oc.U x.w3),.slice p8 l8 k8,.int .i64 x.num,.int .i64 x.least,.int .i64 x.most,.bool x.bare] 28)=WX at *
 rcases HAB.out with ⟨j,g',hQ,htr,hc8⟩ | ⟨c,q,j,g',hQ,hcn,hc8,hj8,hg8⟩
 · obtain ⟨hjs,hgs',hst⟩:=HST.out x j g' hQ
   have HC9:=Lib.hid (keep_blk HBX.out hc8)
   have HTR:=Lib.hid htr
   clear HST HAB htr hc8
   rcases hst with rfl | h41
   · have hge2:decide ((s.size:Int) ≤ s.size)=true:=by simp
     obtain ⟨c0,c1,c2,c3,c4,c5,c6⟩:=st7 HC9.out
     go_quiet (fail)
     have HCq:=Lib.hid (keep_blk (drewN_below (Below.refl _ _) nq) HC9.out);have HTq:=Lib.hid (HTX.out.later (drewN_below (Below.refl _ _) nq));have HOq:=Lib.hid (HOX.out.later (drewN_below (Below.refl _ _) nq));have HKq:=Lib.hid (HKX.out.drewN nq)
     have Zq:=Lib.hid (keep_blk (drewN_below (Below.refl _ _) nq) ZX.out);have Yq:=Lib.hid (keep_blk (drewN_below (Below.refl _ _) nq) YX.out)
     clear HC9 HTX HOX HKX ZX YX c0 c1 c2 c3 c4 c5 c6
     generalize World.drewN _ _=Wq at *
     go_wp2_with fail
     refine (esfault_any Wq R s s.size fl g' _ 0 HCq.out 2 (i:Int)).mono ?_
     rintro e Wn ⟨rfl,hRn,htn⟩
     have HCn:=Lib.hid hRn;have HTn:=Lib.hid (HTq.out.trans (htn.obs (ov:=ov)));have HOn:=Lib.hid (HOq.out.touch htn);have HKn:=Lib.hid (HKq.out.trans htn)
     have Zn:=Lib.hid ((htn.block w.heap.size (blk_lt Zq.out) (by simp;omega)).trans Zq.out);have Yn:=Lib.hid ((htn.block w8.heap.size (blk_lt Yq.out) (by simp;omega)).trans Yq.out)
     clear hRn htn HCq HTq HOq Zq Yq HKq
     obtain ⟨c0,c1,c2,c3,c4,c5,c6⟩:=st7 HCn.out
     obtain ⟨f1,f3,f4,f5,f6⟩:=stf HCn.out
     have hCa:=st_place HCn.out (s.size+2) (v:=(s.size:Int)+2) (by omega)
     have hta:Touch [R] Wn (Wn.setCell ⟨R,1,none⟩ (.int .i64 ((s.size:Int)+2))):=(Touch.refl [R] Wn).setCell List.mem_cons_self 1 _
     have wj:IntKind.i64.wrap ((s.size:Int)+2)=(s.size:Int)+2:=IntWalk.i64_in _ (by omega)
     have HCb:=Lib.hid hCa;have HTb:=Lib.hid (HTn.out.trans (hta.obs (ov:=ov)));have HOb:=Lib.hid (HOn.out.touch hta);have HKb:=Lib.hid (HKn.out.trans hta)
     have Zb:=Lib.hid ((hta.block w.heap.size (blk_lt Zn.out) (by simp;omega)).trans Zn.out)
     have Yb:=Lib.hid ((hta.block w8.heap.size (blk_lt Yn.out) (by simp;omega)).trans Yn.out)
     clear hCa hta
     go_upto_region 19 with (fail)
     clear HCn HTn HOn HKn Zn Yn c0 c1 c2 c3 c4 c5 c6 f1 f3 f4 f5 f6 wj
     generalize Wn.setCell ⟨R,1,none⟩ _=Wb at *
     have hbc:Below Wb.heap.size Wb (Wb.alloc (.cells #[.int .i64 x.kind,.int .u64 (Oc.U x.w0),.int .u64 (Oc.U x.w1),.int .u64 (Oc.U x.w2),.int .u64 (Oc.U x.w3),.slice p8 l8 k8,.int .i64 x.num,.int .i64 x.least,.int .i64 x.most,.bool x.bare] 28)):=(Below.refl _ _).alloc (Nat.le_refl _) _
     have HBC:=Lib.hid hbc
     have Zc:=Lib.hid (keep_blk hbc Zb.out)
     clear hbc
     go_wp2_with (first
       | (refine wpList_load_row rfl 28 (.tmp 8) rfl w8.heap.size rfl 28 _ (0,0) _ Yb.out Tryz.underlying28 rfl (by kernel_rfl) ?_)
       | (refine wpList_node1 rfl (.tmp 101) x p8 l8 k8 rfl rfl ?_)
       | (refine wpList_store_row rfl 28 (.tmp 4) (.tmp 103) rfl w.heap.size (#[.int .i64 7,.int .u64 0,.int .u64 0,.int .u64 0,.int .u64 0,.slice (some ⟨Wb.heap.size,0,none⟩) 1 1,.int .i64 ((g:Int)+1),.int .i64 0,.int .i64 0,.bool false]:Array Value) rfl rfl 28 _ Zc.out (by kernel_rfl) rfl (by simp [Value.oneCell']) ?_)
       | fail)
     have hT:=(HTb.out.later HBC.out).setRow_new (Nat.le_refl w.heap.size) (#[.int .i64 7,.int .u64 0,.int .u64 0,.int .u64 0,.int .u64 0,.slice (some ⟨Wb.heap.size,0,none⟩) 1 1,.int .i64 ((g:Int)+1),.int .i64 0,.int .i64 0,.bool false]:Array Value)
     have hCe:((Wb.alloc (.cells #[.int .i64 x.kind,.int .u64 (Oc.U x.w0),.int .u64 (Oc.U x.w1),.int .u64 (Oc.U x.w2),.int .u64 (Oc.U x.w3),.slice p8 l8 k8,.int .i64 x.num,.int .i64 x.least,.int .i64 x.most,.bool x.bare] 28)).setRow w.heap.size (#[.int .i64 7,.int .u64 0,.int .u64 0,.int .u64 0,.int .u64 0,.slice (some ⟨Wb.heap.size,0,none⟩) 1 1,.int .i64 ((g:Int)+1),.int .i64 0,.int .i64 0,.bool false]:Array Value)).heap[R]? = _:=(heap_setRow_other _ _ _ hRw).trans (keep_blk HBC.out HCb.out)
     have hOe:=(HOb.out.later HBC.out).setRow (g:=w.heap.size) hv8 (#[.int .i64 7,.int .u64 0,.int .u64 0,.int .u64 0,.int .u64 0,.slice (some ⟨Wb.heap.size,0,none⟩) 1 1,.int .i64 ((g:Int)+1),.int .i64 0,.int .i64 0,.bool false]:Array Value)
     have hOut:bsgrp (bt s) i g Q=.err 2 i:=by rw [hQ];unfold bsgrp;simp only;rw [if_neg];intro h;have:=Bp.two_lt (bt_txt s) h (by omega) (by omega);omega
     rw [hOut]
     exact bodyPost_ret (results_cell_row rfl _ _ w.heap.size 28 (#[.int .i64 7,.int .u64 0,.int .u64 0,.int .u64 0,.int .u64 0,.slice (some ⟨Wb.heap.size,0,none⟩) 1 1,.int .i64 ((g:Int)+1),.int .i64 0,.int .i64 0,.bool false]:Array Value) (0,0) _ rfl (heap_setRow Zc.out) Tryz.underlying28 rfl (by kernel_rfl)) rfl ⟨ov8,hrel,hOe,hT,(by decide),Tr.grp (g+1:Nat) x,_,_,_,_,_,rfl,hCe,by omega,by omega⟩
   · have hjl:=Bp.two_lt (bt_txt s) h41 (by omega) (by omega)
     have hge2:decide ((s.size:Int) ≤ j)=false:=by simp;omega
     have hge2':decide (s.size ≤ j)=false:=by simp;omega
     obtain ⟨c0,c1,c2,c3,c4,c5,c6⟩:=st7 HC9.out
     go_quiet (fail)
     have HCn:=Lib.hid (keep_blk (drewN_below (Below.refl _ _) nq) HC9.out);have HTn:=Lib.hid (HTX.out.later (drewN_below (Below.refl _ _) nq));have HOn:=Lib.hid (HOX.out.later (drewN_below (Below.refl _ _) nq));have HKn:=Lib.hid (HKX.out.drewN nq)
     have Zn:=Lib.hid (keep_blk (drewN_below (Below.refl _ _) nq) ZX.out);have Yn:=Lib.hid (keep_blk (drewN_below (Below.refl _ _) nq) YX.out)
     clear HC9 HTX HOX HKX ZX YX c0 c1 c2 c3 c4 c5 c6
     generalize World.drewN _ _=Wn at *
     obtain ⟨c0,c1,c2,c3,c4,c5,c6⟩:=st7 HCn.out
     obtain ⟨f1,f3,f4,f5,f6⟩:=stf HCn.out
     have hCa:=st_place HCn.out (j+2) (v:=(j:Int)+2) (by omega)
     have hta:Touch [R] Wn (Wn.setCell ⟨R,1,none⟩ (.int .i64 ((j:Int)+2))):=(Touch.refl [R] Wn).setCell List.mem_cons_self 1 _
     have wj:IntKind.i64.wrap ((j:Int)+2)=(j:Int)+2:=IntWalk.i64_in _ (by omega)
     have HCb:=Lib.hid hCa;have HTb:=Lib.hid (HTn.out.trans (hta.obs (ov:=ov)));have HOb:=Lib.hid (HOn.out.touch hta);have HKb:=Lib.hid (HKn.out.trans hta)
     have Zb:=Lib.hid ((hta.block w.heap.size (blk_lt Zn.out) (by simp;omega)).trans Zn.out)
     have Yb:=Lib.hid ((hta.block w8.heap.size (blk_lt Yn.out) (by simp;omega)).trans Yn.out)
     clear hCa hta
     go_upto_region 19 with (fail)
     clear HCn HTn HOn HKn Zn Yn c0 c1 c2 c3 c4 c5 c6 f1 f3 f4 f5 f6 wj
     generalize Wn.setCell ⟨R,1,none⟩ _=Wb at *
     have hbc:Below Wb.heap.size Wb (Wb.alloc (.cells #[.int .i64 x.kind,.int .u64 (Oc.U x.w0),.int .u64 (Oc.U x.w1),.int .u64 (Oc.U x.w2),.int .u64 (Oc.U x.w3),.slice p8 l8 k8,.int .i64 x.num,.int .i64 x.least,.int .i64 x.most,.bool x.bare] 28)):=(Below.refl _ _).alloc (Nat.le_refl _) _
     have HBC:=Lib.hid hbc
     have Zc:=Lib.hid (keep_blk hbc Zb.out)
     clear hbc
     go_wp2_with (first
       | (refine wpList_load_row rfl 28 (.tmp 8) rfl w8.heap.size rfl 28 _ (0,0) _ Yb.out Tryz.underlying28 rfl (by kernel_rfl) ?_)
       | (refine wpList_node1 rfl (.tmp 101) x p8 l8 k8 rfl rfl ?_)
       | (refine wpList_store_row rfl 28 (.tmp 4) (.tmp 103) rfl w.heap.size (#[.int .i64 7,.int .u64 0,.int .u64 0,.int .u64 0,.int .u64 0,.slice (some ⟨Wb.heap.size,0,none⟩) 1 1,.int .i64 ((g:Int)+1),.int .i64 0,.int .i64 0,.bool false]:Array Value) rfl rfl 28 _ Zc.out (by kernel_rfl) rfl (by simp [Value.oneCell']) ?_)
       | fail)
     have hT:=(HTb.out.later HBC.out).setRow_new (Nat.le_refl w.heap.size) (#[.int .i64 7,.int .u64 0,.int .u64 0,.int .u64 0,.int .u64 0,.slice (some ⟨Wb.heap.size,0,none⟩) 1 1,.int .i64 ((g:Int)+1),.int .i64 0,.int .i64 0,.bool false]:Array Value)
     have hCe:((Wb.alloc (.cells #[.int .i64 x.kind,.int .u64 (Oc.U x.w0),.int .u64 (Oc.U x.w1),.int .u64 (Oc.U x.w2),.int .u64 (Oc.U x.w3),.slice p8 l8 k8,.int .i64 x.num,.int .i64 x.least,.int .i64 x.most,.bool x.bare] 28)).setRow w.heap.size (#[.int .i64 7,.int .u64 0,.int .u64 0,.int .u64 0,.int .u64 0,.slice (some ⟨Wb.heap.size,0,none⟩) 1 1,.int .i64 ((g:Int)+1),.int .i64 0,.int .i64 0,.bool false]:Array Value)).heap[R]? = _:=(heap_setRow_other _ _ _ hRw).trans (keep_blk HBC.out HCb.out)
     have hOe:=(HOb.out.later HBC.out).setRow (g:=w.heap.size) hv8 (#[.int .i64 7,.int .u64 0,.int .u64 0,.int .u64 0,.int .u64 0,.slice (some ⟨Wb.heap.size,0,none⟩) 1 1,.int .i64 ((g:Int)+1),.int .i64 0,.int .i64 0,.bool false]:Array Value)
     have hOut:bsgrp (bt s) i g Q=.ok (.grp (g+1:Nat) x) (j+2) g':=by rw [hQ];exact if_pos h41
     rw [hOut]
     have htr1:TreesAt Wb (fun b=>w.heap.size+1 ≤ b∧ov8.ownBlock ≠ some b) (.slice p8 l8 k8) x.subs:=(HTR.out.keep fun b hb hP=>HKb.out.block b hb (by simp;rcases hP.1 with h | h;exact h.elim;omega)).mono fun b _ hP=>⟨by rcases hP.1 with h | h;exact h.elim;omega,hP.2⟩
     have htr2:=htr1.one ⟨(by have:=HKb.out.size;omega),fun e=>by have:=(HOb.out.lt e).2;omega⟩
     have htr3:TreesAt ((Wb.alloc (.cells #[.int .i64 x.kind,.int .u64 (Oc.U x.w0),.int .u64 (Oc.U x.w1),.int .u64 (Oc.U x.w2),.int .u64 (Oc.U x.w3),.slice p8 l8 k8,.int .i64 x.num,.int .i64 x.least,.int .i64 x.most,.bool x.bare] 28)).setRow w.heap.size (#[.int .i64 7,.int .u64 0,.int .u64 0,.int .u64 0,.int .u64 0,.slice (some ⟨Wb.heap.size,0,none⟩) 1 1,.int .i64 ((g:Int)+1),.int .i64 0,.int .i64 0,.bool false]:Array Value)) (fun b=>(False ∨ w.heap.size ≤ b)∧ov8.ownBlock ≠ some b) (.slice (some ⟨Wb.heap.size,0,none⟩) 1 1) [x]:=(htr2.keep fun b _ hP=>heap_setRow_other _ _ _ (fun e=>by have:=hP.1;omega)).mono fun b _ hP=>⟨.inr (by have:=hP.1;omega),hP.2⟩
     exact bodyPost_ret (results_cell_row rfl _ _ w.heap.size 28 (#[.int .i64 7,.int .u64 0,.int .u64 0,.int .u64 0,.int .u64 0,.slice (some ⟨Wb.heap.size,0,none⟩) 1 1,.int .i64 ((g:Int)+1),.int .i64 0,.int .i64 0,.bool false]:Array Value) (0,0) _ rfl (heap_setRow Zc.out) Tryz.underlying28 rfl (by kernel_rfl)) rfl ⟨ov8,hrel,hOe,hT,_,rfl,htr3,hCe⟩
 · have HC9:=Lib.hid (keep_blk HBX.out hc8)
   have hcz:((c:Int) == 0)=false:=by rw [beq_eq_false_iff_ne];omega
   have hcz':(c == 0)=false:=by rw [beq_eq_false_iff_ne];omega
   clear HST HAB hc8
   obtain ⟨c0,c1,c2,c3,c4,c5,c6⟩:=st7 HC9.out
   go_quiet (fail)
   have HCn:=Lib.hid (keep_blk (drewN_below (Below.refl _ _) nq) HC9.out);have HTn:=Lib.hid (HTX.out.later (drewN_below (Below.refl _ _) nq));have HOn:=Lib.hid (HOX.out.later (drewN_below (Below.refl _ _) nq));have HKn:=Lib.hid (HKX.out.drewN nq)
   have Zn:=Lib.hid (keep_blk (drewN_below (Below.refl _ _) nq) ZX.out);have Yn:=Lib.hid (keep_blk (drewN_below (Below.refl _ _) nq) YX.out)
   clear HC9 HTX HOX HKX ZX YX c0 c1 c2 c3 c4 c5 c6
   generalize World.drewN _ _=Wn at *
   obtain ⟨c0,c1,c2,c3,c4,c5,c6⟩:=st7 HCn.out
   obtain ⟨f1,f3,f4,f5,f6⟩:=stf HCn.out
   have hCa:=st_place HCn.out (j+2) (v:=(j:Int)+2) (by omega)
   have hta:Touch [R] Wn (Wn.setCell ⟨R,1,none⟩ (.int .i64 ((j:Int)+2))):=(Touch.refl [R] Wn).setCell List.mem_cons_self 1 _
   have wj:IntKind.i64.wrap ((j:Int)+2)=(j:Int)+2:=IntWalk.i64_in _ (by omega)
   have HCb:=Lib.hid hCa;have HTb:=Lib.hid (HTn.out.trans (hta.obs (ov:=ov)));have HOb:=Lib.hid (HOn.out.touch hta);have HKb:=Lib.hid (HKn.out.trans hta)
   have Zb:=Lib.hid ((hta.block w.heap.size (blk_lt Zn.out) (by simp;omega)).trans Zn.out)
   have Yb:=Lib.hid ((hta.block w8.heap.size (blk_lt Yn.out) (by simp;omega)).trans Yn.out)
   clear hCa hta
   go_upto_region 19 with (fail)
   clear HCn HTn HOn HKn Zn Yn c0 c1 c2 c3 c4 c5 c6 f1 f3 f4 f5 f6 wj
   generalize Wn.setCell ⟨R,1,none⟩ _=Wb at *
   have hbc:Below Wb.heap.size Wb (Wb.alloc (.cells #[.int .i64 x.kind,.int .u64 (Oc.U x.w0),.int .u64 (Oc.U x.w1),.int .u64 (Oc.U x.w2),.int .u64 (Oc.U x.w3),.slice p8 l8 k8,.int .i64 x.num,.int .i64 x.least,.int .i64 x.most,.bool x.bare] 28)):=(Below.refl _ _).alloc (Nat.le_refl _) _
   have HBC:=Lib.hid hbc
   have Zc:=Lib.hid (keep_blk hbc Zb.out)
   clear hbc
   go_wp2_with (first
     | (refine wpList_load_row rfl 28 (.tmp 8) rfl w8.heap.size rfl 28 _ (0,0) _ Yb.out Tryz.underlying28 rfl (by kernel_rfl) ?_)
     | (refine wpList_node1 rfl (.tmp 101) x p8 l8 k8 rfl rfl ?_)
     | (refine wpList_store_row rfl 28 (.tmp 4) (.tmp 103) rfl w.heap.size (#[.int .i64 7,.int .u64 0,.int .u64 0,.int .u64 0,.int .u64 0,.slice (some ⟨Wb.heap.size,0,none⟩) 1 1,.int .i64 ((g:Int)+1),.int .i64 0,.int .i64 0,.bool false]:Array Value) rfl rfl 28 _ Zc.out (by kernel_rfl) rfl (by simp [Value.oneCell']) ?_)
     | fail)
   have hT:=(HTb.out.later HBC.out).setRow_new (Nat.le_refl w.heap.size) (#[.int .i64 7,.int .u64 0,.int .u64 0,.int .u64 0,.int .u64 0,.slice (some ⟨Wb.heap.size,0,none⟩) 1 1,.int .i64 ((g:Int)+1),.int .i64 0,.int .i64 0,.bool false]:Array Value)
   have hCe:((Wb.alloc (.cells #[.int .i64 x.kind,.int .u64 (Oc.U x.w0),.int .u64 (Oc.U x.w1),.int .u64 (Oc.U x.w2),.int .u64 (Oc.U x.w3),.slice p8 l8 k8,.int .i64 x.num,.int .i64 x.least,.int .i64 x.most,.bool x.bare] 28)).setRow w.heap.size (#[.int .i64 7,.int .u64 0,.int .u64 0,.int .u64 0,.int .u64 0,.slice (some ⟨Wb.heap.size,0,none⟩) 1 1,.int .i64 ((g:Int)+1),.int .i64 0,.int .i64 0,.bool false]:Array Value)).heap[R]? = _:=(heap_setRow_other _ _ _ hRw).trans (keep_blk HBC.out HCb.out)
   have hOe:=(HOb.out.later HBC.out).setRow (g:=w.heap.size) hv8 (#[.int .i64 7,.int .u64 0,.int .u64 0,.int .u64 0,.int .u64 0,.slice (some ⟨Wb.heap.size,0,none⟩) 1 1,.int .i64 ((g:Int)+1),.int .i64 0,.int .i64 0,.bool false]:Array Value)
   have hOut:bsgrp (bt s) i g Q=.err c q:=by rw [hQ];rfl
   rw [hOut]
   exact bodyPost_ret (results_cell_row rfl _ _ w.heap.size 28 (#[.int .i64 7,.int .u64 0,.int .u64 0,.int .u64 0,.int .u64 0,.slice (some ⟨Wb.heap.size,0,none⟩) 1 1,.int .i64 ((g:Int)+1),.int .i64 0,.int .i64 0,.bool false]:Array Value) (0,0) _ rfl (heap_setRow Zc.out) Tryz.underlying28 rfl (by kernel_rfl)) rfl ⟨ov8,hrel,hOe,hT,hcn,Tr.grp (g+1:Nat) x,_,_,_,_,_,rfl,hCe,by omega,by omega⟩
end Go.Proofs.YtfcilopifjddpaaGreatDoor
namespace Go.Proofs.YtfcilopifjddpaaGreatDoor
open Go.RowKit
theorem bsatom_any (w:World) (R:Nat) (s:ByteArray) (hs:s.size ≤ 1024) (i:Nat) (fl:Int) (g:Nat) (ov:Value) (k:Nat) (hR:w.heap[R]? = some (.cells (stC s i fl g ov 0 0) 58)) (hop:Opn w R 0 ov) (hi:i < s.size) (hk:k ≤ 32) (hgs:g ≤ s.size) (n125:Bp.two (bt s) 92 125 i=false) (H:Nat→Nat→Ep.Out)
   (HG:Bp.two (bt s) 92 40 i=true→Calls Tryz.prog 61 #[.pointer (some ⟨R,0,none⟩),.int .i64 (k:Int)] w (BsEnd (fun _=>False) R s fl (2 * k) ov (H i g) w)) :
   Calls Tryz.prog 61 #[.pointer (some ⟨R,0,none⟩),.int .i64 (k:Int)] w (BsEnd (fun _=>False) R s fl (2 * k) ov (Bp.atom (bt s) s.size (icB fl) (nlB fl) H i g) w):=by
 unfold Bp.atom
 by_cases h46:bt s i=46
 · rw [if_pos h46];exact (bsatom_dot w R s hs i fl g ov 0 hR hop hi k h46).mono fun _ _ h=>h.bs (by omega)
 rw [if_neg h46]
 by_cases h91:bt s i=91
 · rw [if_pos h91];exact (bsatom_set w R s hs i fl g ov 0 hR hop hi k (by omega) hgs h91 _ rfl).mono fun _ _ h=>h.bs (by omega)
 rw [if_neg h91]
 by_cases h40:Bp.two (bt s) 92 40 i=true
 · rw [if_pos h40];exact HG h40
 rw [if_neg h40,if_neg (by rw [n125];decide)]
 by_cases h92:bt s i=92
 · rw [if_pos h92]
   have n40:bt s (i+1) ≠ 40:=fun h=>h40 (Bp.two_iff.2 ⟨h92,h⟩)
   by_cases hp:Cl.cls 8 (bt s (i+1))=true
   · rw [if_pos hp]
     have hend:i+1 < s.size:=by
       by_cases hend:i+1 < s.size
       · exact hend
       · rw [bt_out (by omega)] at hp;exact absurd hp (by decide)
     exact (bsatom_esc2 w R s hs i fl g ov 0 hR hop hi k h92 n40 hend hp).mono fun _ _ h=>h.bs (by omega)
   · rw [if_neg hp]
     by_cases hend:i+1 < s.size
     · exact (bsatom_esc1 w R s hs i fl g ov 0 hR hop hi k (by omega) hgs h92 n40 hend (by cases h:Cl.cls 8 (bt s (i+1)) with | false=>rfl | true=>exact absurd h hp)).mono fun _ _ h=>h.bs (by omega)
     · exact (bsatom_esc0 w R s hs i fl g ov 0 hR hop hi k (by omega) hgs h92 n40 (by omega)).mono fun _ _ h=>h.bs (by omega)
 rw [if_neg h92]
 exact (bsatom_plain w R s hs i fl g ov 0 hR hop hi k h91 h46 h92).mono fun _ _ h=>h.bs (by omega)
theorem bsgroup_grp {f:Nat→Nat} {n:Nat} {ic nl:Bool} {r i g:Nat} : Bp.group f n ic nl (r+1) i g=bsgrp f i g (Bp.seq f n ic nl (Bp.group f n ic nl r) (i+2) (g+1)):=by
 rw [Bp.group]
 cases Bp.seq f n ic nl (Bp.group f n ic nl r) (i+2) (g+1) <;> rfl
theorem bsloop_stop {f:Nat→Nat} {n:Nat} {ic nl:Bool} {H:Nat→Nat→Ep.Out} : ∀ (k:Nat) {l:List Tr} {i g j g':Nat} {t:Tr},Bp.loop f n ic nl H k l i g=.ok t j g'→n ≤ j ∨ Bp.two f 92 41 j=true
 | 0,_,_,_,_,_,_,h=>by cases h
 | k+1,l,i,g,j,g',t,h=>by
   unfold Bp.loop at h
   by_cases hb:n ≤ i ∨ Bp.two f 92 41 i=true
   · rw [if_pos hb] at h;injection h with h1 h2 h3;subst h2;exact hb
   · rw [if_neg hb] at h
     cases hp:Bp.piece f n ic nl H i g with
     | err c p=>rw [hp] at h;cases h
     | ok u m g2=>rw [hp] at h;exact bsloop_stop k h
theorem bsstar_stop {f:Nat→Nat} {n:Nat} {ic nl:Bool} {H:Nat→Nat→Ep.Out} {l:List Tr} {i g j g':Nat} {t:Tr} (h:Bp.star f n ic nl H l i g=.ok t j g'):n ≤ j ∨ Bp.two f 92 41 j=true:=by
 unfold Bp.star at h
 split at h
 · cases hr:Bp.rep f n (Ep.one ic 42) (i+1) g with
   | err c p=>rw [hr] at h;cases h
   | ok u m g2=>rw [hr] at h;exact bsloop_stop _ h
 · exact bsloop_stop _ h
theorem bsseq_stop {f:Nat→Nat} {n:Nat} {ic nl:Bool} {H:Nat→Nat→Ep.Out} {i g j g':Nat} {t:Tr} (h:Bp.seq f n ic nl H i g=.ok t j g'):n ≤ j ∨ Bp.two f 92 41 j=true:=by
 unfold Bp.seq at h
 split at h
 · exact bsstar_stop h
 · exact bsstar_stop h
end Go.Proofs.YtfcilopifjddpaaGreatDoor
namespace Go.Proofs.YtfcilopifjddpaaGreatDoor
def bsb (k:Nat) (f:Nat→Nat):Ep.Out→Ep.Out
 | .err c p=>.err c p
 | .ok t j g=>if k=0∧Bp.two f 92 41 j=true then .err 2 j else .ok t j g
def bspiece (f:Nat→Nat) (n:Nat) (ic nl:Bool) (H:Nat→Nat→Ep.Out) (fr bg:Bool) (i g:Nat):Ep.Out :=
 if Bp.isEnd f n i then .ok (.leaf 4) (i+1) g
 else if f i=42∧fr=false∧bg=false then .err 9 i
 else if Bp.two f 92 123 i then .err 9 i
 else match Bp.atom f n ic nl H i g with
 | .err c p=>.err c p
 | .ok t j g'=>Bp.rep f n t j g'
def bsrem (f:Nat→Nat) (n:Nat) (ic nl:Bool) (H:Nat→Nat→Ep.Out) (fr bg:Bool) (q:Nat) (l:List Tr) (i g:Nat):Ep.Out :=
 if fr then Bp.seq f n ic nl H i g else if bg then Bp.star f n ic nl H l i g else Bp.loop f n ic nl H q l i g
section
variable {f:Nat→Nat} {n:Nat} {ic nl:Bool} {H:Nat→Nat→Ep.Out} {q:Nat} {l:List Tr} {i g:Nat}
theorem bsloop_end (h:n ≤ i ∨ Bp.two f 92 41 i=true) (hq:0 < q):Bp.loop f n ic nl H q l i g=.ok (.several 5 l) i g:=by
 obtain ⟨q,rfl⟩:∃ k,q=k+1:=⟨q - 1,by omega⟩
 unfold Bp.loop;rw [if_pos h]
theorem bsend_42 (hf:Br.Txt f n) (h:n ≤ i ∨ Bp.two f 92 41 i=true):f i ≠ 42∧f i ≠ 94:=by
 rcases h with h | h
 · constructor <;> intro e <;> have:=hf.lt e (by omega) <;> omega
 · have:=(Bp.two_iff.1 h).1;omega
theorem bsstar_end (hf:Br.Txt f n) (h:n ≤ i ∨ Bp.two f 92 41 i=true):Bp.star f n ic nl H l i g=.ok (.several 5 l) i g:=by
 unfold Bp.star;rw [if_neg (bsend_42 hf h).1];exact bsloop_end h (by omega)
theorem bsrem_end (hf:Br.Txt f n) (fr bg:Bool) (hl:fr=true→l=[]) (hq:fr=false→bg=false→0 < q) (h:n ≤ i ∨ Bp.two f 92 41 i=true):bsrem f n ic nl H fr bg q l i g=.ok (.several 5 l) i g:=by
 unfold bsrem
 cases fr with
 | true =>
   rw [hl rfl]
   show Bp.seq f n ic nl H i g=_
   unfold Bp.seq;rw [if_neg (bsend_42 hf h).2];exact bsstar_end hf h
 | false =>
   cases bg with
   | true=>exact bsstar_end hf h
   | false=>exact bsloop_end h (hq rfl rfl)
theorem bsrem_begin (h:f i=94):bsrem f n ic nl H true false q l i g=bsrem f n ic nl H false true q [.leaf 3] (i+1) g:=by
 show Bp.seq f n ic nl H i g=Bp.star f n ic nl H [.leaf 3] (i+1) g
 unfold Bp.seq;rw [if_pos h]
theorem bspiece_plain (h:f i ≠ 42) (fr bg:Bool):bspiece f n ic nl H fr bg i g=Bp.piece f n ic nl H i g:=by
 unfold bspiece Bp.piece
 rw [if_neg (show ¬ (f i=42∧fr=false∧bg=false) from fun h2=>h h2.1),if_neg h]
 cases Bp.atom f n ic nl H i g <;> rfl
theorem bspiece_none:bspiece f n ic nl H false false i g=Bp.piece f n ic nl H i g:=by
 by_cases h:f i=42
 · unfold bspiece Bp.piece
   rw [if_pos (show f i=42∧false=false∧false=false from ⟨h,rfl,rfl⟩),if_pos h]
 · exact bspiece_plain h false false
theorem bspiece_star (h:f i=42) (fr bg:Bool) (hm:fr=true ∨ bg=true):bspiece f n ic nl H fr bg i g=Bp.rep f n (Ep.one ic 42) (i+1) g:=by
 have e1:Bp.isEnd f n i=false:=by unfold Bp.isEnd;rw [h];rfl
 have e2:Bp.two f 92 123 i=false:=by unfold Bp.two;rw [h];rfl
 have e3:Bp.atom f n ic nl H i g=.ok (Ep.one ic 42) (i+1) g:=by
   unfold Bp.atom
   have t1:Bp.two f 92 40 i=false:=by unfold Bp.two;rw [h];rfl
   have t2:Bp.two f 92 125 i=false:=by unfold Bp.two;rw [h];rfl
   rw [if_neg (by omega),if_neg (by omega),t1,t2,if_neg (by decide),if_neg (by decide),if_neg (by omega),h]
 unfold bspiece
 rw [e1,e2,e3,if_neg (by decide),if_neg (by intro h2;rcases hm with e | e <;> simp [e] at h2),if_neg (by decide)]
theorem bsloop_step (hq:0 < q) (h:¬ (n ≤ i ∨ Bp.two f 92 41 i=true)):Bp.loop f n ic nl H q l i g=match Bp.piece f n ic nl H i g with
   | .err c p=>.err c p
   | .ok t j g'=>Bp.loop f n ic nl H (q - 1) (l ++ [t]) j g':=by
 obtain ⟨q,rfl⟩:∃ k,q=k+1:=⟨q - 1,by omega⟩
 conv=>lhs;unfold Bp.loop
 rw [if_neg h];rfl
theorem bsrem_err (fr bg:Bool) (hl:fr=true→bg=false∧l=[]) (hq:fr=false→bg=false→0 < q) (h:¬ (n ≤ i ∨ Bp.two f 92 41 i=true)) (hb:fr=true→f i ≠ 94) {c:Nat} {p:Int} (hp:bspiece f n ic nl H fr bg i g=.err c p):bsrem f n ic nl H fr bg q l i g=.err c p:=by
 have key:(fr=true ∨ bg=true)→Bp.star f n ic nl H l i g=.err c p:=fun hm=>by
   unfold Bp.star
   by_cases h42:f i=42
   · rw [bspiece_star h42 fr bg hm] at hp
     rw [if_pos h42,hp]
   · rw [bspiece_plain h42] at hp
     rw [if_neg h42,bsloop_step (by omega) h,hp]
 cases fr with
 | true =>
   obtain ⟨rfl,rfl⟩:=hl rfl
   show Bp.seq f n ic nl H i g=_
   unfold Bp.seq;rw [if_neg (hb rfl)];exact key (.inl rfl)
 | false =>
   cases bg with
   | true=>exact key (.inr rfl)
   | false =>
     show Bp.loop f n ic nl H q l i g=_
     rw [bspiece_none] at hp
     rw [bsloop_step (hq rfl rfl) h,hp]
theorem bsrem_ok (fr bg:Bool) (hl:fr=true→bg=false∧l=[]) (hq:fr=false→bg=false→n+1 ≤ q+i) (h:¬ (n ≤ i ∨ Bp.two f 92 41 i=true)) (hb:fr=true→f i ≠ 94) {t:Tr} {j g':Nat} (hj:i < j) (hp:bspiece f n ic nl H fr bg i g=.ok t j g'):∃ q',n+1 ≤ q'+j∧bsrem f n ic nl H fr bg q l i g=bsrem f n ic nl H false false q' (l ++ [t]) j g':=by
 have key:(fr=true ∨ bg=true)→∃ q',n+1 ≤ q'+j∧Bp.star f n ic nl H l i g=Bp.loop f n ic nl H q' (l ++ [t]) j g':=fun hm=>by
   unfold Bp.star
   by_cases h42:f i=42
   · rw [bspiece_star h42 fr bg hm] at hp
     rw [if_pos h42,hp]
     exact ⟨n+1,by omega,rfl⟩
   · rw [bspiece_plain h42] at hp
     rw [if_neg h42,bsloop_step (by omega) h,hp]
     exact ⟨n+1 - 1,by omega,rfl⟩
 cases fr with
 | true =>
   obtain ⟨rfl,rfl⟩:=hl rfl
   obtain ⟨q',h1,h2⟩:=key (.inl rfl)
   refine ⟨q',h1, ?_⟩
   show Bp.seq f n ic nl H i g=Bp.loop f n ic nl H q' _ j g'
   unfold Bp.seq;rw [if_neg (hb rfl)];exact h2
 | false =>
   cases bg with
   | true=>exact key (.inr rfl)
   | false =>
     rw [bspiece_none] at hp
     refine ⟨q - 1,by have:=hq rfl rfl;omega, ?_⟩
     show Bp.loop f n ic nl H q l i g=Bp.loop f n ic nl H (q - 1) _ j g'
     rw [bsloop_step (by have:=hq rfl rfl;omega) h,hp]
end
end Go.Proofs.YtfcilopifjddpaaGreatDoor
