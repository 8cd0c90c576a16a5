/- Part 2 of what these proofs need. -/
import Derived.Deep.Cut
import Derived.Test.YtfcilopifjddpaaGreatDoorChecked
import Derived.LaidEql
import Derived.Stop.Asserts
import Derived.Stop.IfaceNil
import Derived.RowKitTokens
import Derived.Deep.LoopGhost
import Derived.ProofKit
import Derived.LaidMore
import Derived.LaidHandle
import Derived.OpenShut
import Derived.MakeChecks
import Derived.Stop.LaidErr
import Derived.Laws.AppendOwnNone
import Derived.Deep.DeepCutAuto
import Derived.Shelf.Strings.Builder1
import Derived.Shelf.Small.Strs
import Derived.Shelf.Small.Wraps
import Derived.Shelf.Strings.BuilderF
import Derived.Shelf.Strings.BuilderK
import Derived.Shelf.Strconv.Itoa0
import Derived.Shelf.Strconv.Itoa1
import Derived.Shelf.LaysM
import Derived.Shelf.Strconv.Itoa2
import Derived.Shelf.Strconv.Itoa3
import Derived.Shelf.Strings.Search1
import Derived.Shelf.Strings.Search2
import Derived.Shelf.Strings.Cut
import Derived.Shelf.Strings.Shaped
import Derived.Shelf.Strings.Prefix
import Derived.Shelf.Strings.BuilderCap
import Derived.Test.YtfcilopifjddpaaGreatDoorProg
import Derived.Lib.ItoaNum
import Derived.Laws.IdiomStrings
import Derived.Lib.LaidTab
import Derived.Lib.AppendIntMem
import Derived.Test.YtfcilopifjddpaaGreatDoorSqR1
set_option maxRecDepth 100000
set_option maxHeartbeats 16000000
namespace Go.Proofs.YtfcilopifjddpaaGreatDoor
open Go.RowKit
theorem in_any (b:Nat) (lo hi:Int) (w:World):Calls Tryz.prog 189 #[.int .i64 b,.int .i64 lo,.int .i64 hi] w fun e w'=>e=.returned (.bool (Cl.inI b lo hi))∧w=w':=by
 unfold Cl.inI
 by_cases h1:lo ≤ (b:Int)
 · by_cases h2:(b:Int) ≤ hi
   · go_enter Tryz.func189,Tryz.ntmps189
     go_wp2
     go_ret
     exact ⟨ret_bool (by simp [h1,h2]),rfl⟩
   · have h3:decide ((b:Int) ≤ hi)=false:=by simpa using h2
     go_enter Tryz.func189,Tryz.ntmps189
     go_wp2
     go_ret
     exact ⟨ret_bool (by simp),rfl⟩
 · have h3:decide (lo ≤ (b:Int))=false:=by simpa using h1
   go_enter Tryz.func189,Tryz.ntmps189
   go_wp2
   go_ret
   exact ⟨ret_bool (by simp),rfl⟩
theorem member_0 (b:Nat) (w:World):Calls Tryz.prog 169 #[.string ⟨#[97,108,110,117,109]⟩,.int .i64 b] w fun e w'=>e=.returned (.bool (Cl.cls 0 b))∧w=w':=by
 show Calls _ _ _ _ fun e w'=>e=.returned (.bool ((Cl.inI b 65 90 || Cl.inI b 97 122) || Cl.inI b 48 57))∧w=w'
 have h1:=in_any b 65 90;have h2:=in_any b 97 122;have h3:=in_any b 48 57
 generalize Cl.inI b 65 90=x at *
 generalize Cl.inI b 97 122=y at *
 generalize Cl.inI b 48 57=z at *
 have H1:=Lib.hid h1;have H2:=Lib.hid h2;have H3:=Lib.hid h3
 clear h1 h2 h3
 go_enter Tryz.func169,Tryz.ntmps169
 go_wp2_with fail
 refine (H1.out _).mono ?_;rintro e w' ⟨rfl,rfl⟩
 go_wp2_with fail
 refine (H2.out _).mono ?_;rintro e w' ⟨rfl,rfl⟩
 go_wp2_with fail
 refine (H3.out _).mono ?_;rintro e w' ⟨rfl,rfl⟩
 cases x <;> cases y <;> cases z
 all_goals
   go_wp2
   go_ret
   exact ⟨rfl,rfl⟩
theorem member_1 (b:Nat) (w:World):Calls Tryz.prog 169 #[.string ⟨#[97,108,112,104,97]⟩,.int .i64 b] w fun e w'=>e=.returned (.bool (Cl.cls 1 b))∧w=w':=by
 show Calls _ _ _ _ fun e w'=>e=.returned (.bool (Cl.inI b 65 90 || Cl.inI b 97 122))∧w=w'
 have h1:=in_any b 65 90;have h2:=in_any b 97 122;have h3:=in_any b 48 57
 generalize Cl.inI b 65 90=x at *
 generalize Cl.inI b 97 122=y at *
 generalize Cl.inI b 48 57=z at *
 have H1:=Lib.hid h1;have H2:=Lib.hid h2;have H3:=Lib.hid h3
 clear h1 h2 h3
 go_enter Tryz.func169,Tryz.ntmps169
 go_wp2_with fail
 refine (H1.out _).mono ?_;rintro e w' ⟨rfl,rfl⟩
 go_wp2_with fail
 refine (H2.out _).mono ?_;rintro e w' ⟨rfl,rfl⟩
 go_wp2_with fail
 refine (H3.out _).mono ?_;rintro e w' ⟨rfl,rfl⟩
 cases x <;> cases y
 all_goals
   go_wp2
   go_ret
   exact ⟨rfl,rfl⟩
theorem member_2 (b:Nat) (w:World):Calls Tryz.prog 169 #[.string ⟨#[98,108,97,110,107]⟩,.int .i64 b] w fun e w'=>e=.returned (.bool (Cl.cls 2 b))∧w=w':=by
 show Calls _ _ _ _ fun e w'=>e=.returned (.bool (Cl.isI b 9 || Cl.isI b 32))∧w=w'
 have j0:((b:Int) == 9)=Cl.isI b 9:=rfl
 have j1:((b:Int) == 32)=Cl.isI b 32:=rfl
 have h1:=in_any b 65 90;have h2:=in_any b 97 122;have h3:=in_any b 48 57
 generalize Cl.inI b 65 90=x at *
 generalize Cl.inI b 97 122=y at *
 generalize Cl.inI b 48 57=z at *
 generalize Cl.isI b 9=i0 at *
 generalize Cl.isI b 32=i1 at *
 have H1:=Lib.hid h1;have H2:=Lib.hid h2;have H3:=Lib.hid h3
 have J0:=Lib.hid j0
 have J1:=Lib.hid j1
 clear h1 h2 h3 j0 j1
 go_enter Tryz.func169,Tryz.ntmps169
 go_wp2_with fail
 refine (H1.out _).mono ?_;rintro e w' ⟨rfl,rfl⟩
 go_wp2_with fail
 refine (H2.out _).mono ?_;rintro e w' ⟨rfl,rfl⟩
 go_wp2_with fail
 refine (H3.out _).mono ?_;rintro e w' ⟨rfl,rfl⟩
 cases i0 <;> cases i1
 all_goals
   have j0:=J0.out;clear J0
   have j1:=J1.out;clear J1
   go_wp2
   go_ret
   exact ⟨rfl,rfl⟩
theorem member_3 (b:Nat) (w:World):Calls Tryz.prog 169 #[.string ⟨#[99,110,116,114,108]⟩,.int .i64 b] w fun e w'=>e=.returned (.bool (Cl.cls 3 b))∧w=w':=by
 show Calls _ _ _ _ fun e w'=>e=.returned (.bool (Cl.inI b 0 31 || Cl.isI b 127))∧w=w'
 have j0:((b:Int) == 127)=Cl.isI b 127:=rfl
 have h1:=in_any b 65 90;have h2:=in_any b 97 122;have h3:=in_any b 48 57
 have k0:=in_any b 0 31
 generalize Cl.inI b 65 90=x at *
 generalize Cl.inI b 97 122=y at *
 generalize Cl.inI b 48 57=z at *
 generalize Cl.inI b 0 31=e0 at *
 generalize Cl.isI b 127=i0 at *
 have H1:=Lib.hid h1;have H2:=Lib.hid h2;have H3:=Lib.hid h3
 have K0:=Lib.hid k0
 have J0:=Lib.hid j0
 clear h1 h2 h3 k0 j0
 go_enter Tryz.func169,Tryz.ntmps169
 go_wp2_with fail
 refine (H1.out _).mono ?_;rintro e w' ⟨rfl,rfl⟩
 go_wp2_with fail
 refine (H2.out _).mono ?_;rintro e w' ⟨rfl,rfl⟩
 go_wp2_with fail
 refine (H3.out _).mono ?_;rintro e w' ⟨rfl,rfl⟩
 cases e0 <;> cases i0
 all_goals
   have j0:=J0.out;clear J0
   go_wp2_with (first | (go_at_call 189;((with_reducible refine (K0.out _).mono ?_);rintro e w' ⟨rfl,rfl⟩)))
   go_ret
   exact ⟨rfl,rfl⟩
theorem member_4 (b:Nat) (w:World):Calls Tryz.prog 169 #[.string ⟨#[100,105,103,105,116]⟩,.int .i64 b] w fun e w'=>e=.returned (.bool (Cl.cls 4 b))∧w=w':=by
 show Calls _ _ _ _ fun e w'=>e=.returned (.bool (Cl.inI b 48 57))∧w=w'
 have h1:=in_any b 65 90;have h2:=in_any b 97 122;have h3:=in_any b 48 57
 generalize Cl.inI b 65 90=x at *
 generalize Cl.inI b 97 122=y at *
 generalize Cl.inI b 48 57=z at *
 have H1:=Lib.hid h1;have H2:=Lib.hid h2;have H3:=Lib.hid h3
 clear h1 h2 h3
 go_enter Tryz.func169,Tryz.ntmps169
 go_wp2_with fail
 refine (H1.out _).mono ?_;rintro e w' ⟨rfl,rfl⟩
 go_wp2_with fail
 refine (H2.out _).mono ?_;rintro e w' ⟨rfl,rfl⟩
 go_wp2_with fail
 refine (H3.out _).mono ?_;rintro e w' ⟨rfl,rfl⟩
 go_wp2
 go_ret
 exact ⟨rfl,rfl⟩
theorem member_5 (b:Nat) (w:World):Calls Tryz.prog 169 #[.string ⟨#[103,114,97,112,104]⟩,.int .i64 b] w fun e w'=>e=.returned (.bool (Cl.cls 5 b))∧w=w':=by
 show Calls _ _ _ _ fun e w'=>e=.returned (.bool (Cl.inI b 33 126))∧w=w'
 have h1:=in_any b 65 90;have h2:=in_any b 97 122;have h3:=in_any b 48 57
 have k0:=in_any b 33 126
 generalize Cl.inI b 65 90=x at *
 generalize Cl.inI b 97 122=y at *
 generalize Cl.inI b 48 57=z at *
 generalize Cl.inI b 33 126=e0 at *
 have H1:=Lib.hid h1;have H2:=Lib.hid h2;have H3:=Lib.hid h3
 have K0:=Lib.hid k0
 clear h1 h2 h3 k0
 go_enter Tryz.func169,Tryz.ntmps169
 go_wp2_with fail
 refine (H1.out _).mono ?_;rintro e w' ⟨rfl,rfl⟩
 go_wp2_with fail
 refine (H2.out _).mono ?_;rintro e w' ⟨rfl,rfl⟩
 go_wp2_with fail
 refine (H3.out _).mono ?_;rintro e w' ⟨rfl,rfl⟩
 go_wp2_with (first | (go_at_call 189;((with_reducible refine (K0.out _).mono ?_);rintro e w' ⟨rfl,rfl⟩)))
 go_ret
 exact ⟨rfl,rfl⟩
theorem member_6 (b:Nat) (w:World):Calls Tryz.prog 169 #[.string ⟨#[108,111,119,101,114]⟩,.int .i64 b] w fun e w'=>e=.returned (.bool (Cl.cls 6 b))∧w=w':=by
 show Calls _ _ _ _ fun e w'=>e=.returned (.bool (Cl.inI b 97 122))∧w=w'
 have h1:=in_any b 65 90;have h2:=in_any b 97 122;have h3:=in_any b 48 57
 generalize Cl.inI b 65 90=x at *
 generalize Cl.inI b 97 122=y at *
 generalize Cl.inI b 48 57=z at *
 have H1:=Lib.hid h1;have H2:=Lib.hid h2;have H3:=Lib.hid h3
 clear h1 h2 h3
 go_enter Tryz.func169,Tryz.ntmps169
 go_wp2_with fail
 refine (H1.out _).mono ?_;rintro e w' ⟨rfl,rfl⟩
 go_wp2_with fail
 refine (H2.out _).mono ?_;rintro e w' ⟨rfl,rfl⟩
 go_wp2_with fail
 refine (H3.out _).mono ?_;rintro e w' ⟨rfl,rfl⟩
 go_wp2
 go_ret
 exact ⟨rfl,rfl⟩
theorem member_7 (b:Nat) (w:World):Calls Tryz.prog 169 #[.string ⟨#[112,114,105,110,116]⟩,.int .i64 b] w fun e w'=>e=.returned (.bool (Cl.cls 7 b))∧w=w':=by
 show Calls _ _ _ _ fun e w'=>e=.returned (.bool (Cl.inI b 32 126))∧w=w'
 have h1:=in_any b 65 90;have h2:=in_any b 97 122;have h3:=in_any b 48 57
 have k0:=in_any b 32 126
 generalize Cl.inI b 65 90=x at *
 generalize Cl.inI b 97 122=y at *
 generalize Cl.inI b 48 57=z at *
 generalize Cl.inI b 32 126=e0 at *
 have H1:=Lib.hid h1;have H2:=Lib.hid h2;have H3:=Lib.hid h3
 have K0:=Lib.hid k0
 clear h1 h2 h3 k0
 go_enter Tryz.func169,Tryz.ntmps169
 go_wp2_with fail
 refine (H1.out _).mono ?_;rintro e w' ⟨rfl,rfl⟩
 go_wp2_with fail
 refine (H2.out _).mono ?_;rintro e w' ⟨rfl,rfl⟩
 go_wp2_with fail
 refine (H3.out _).mono ?_;rintro e w' ⟨rfl,rfl⟩
 go_wp2_with (first | (go_at_call 189;((with_reducible refine (K0.out _).mono ?_);rintro e w' ⟨rfl,rfl⟩)))
 go_ret
 exact ⟨rfl,rfl⟩
theorem member_8 (b:Nat) (w:World):Calls Tryz.prog 169 #[.string ⟨#[112,117,110,99,116]⟩,.int .i64 b] w fun e w'=>e=.returned (.bool (Cl.cls 8 b))∧w=w':=by
 show Calls _ _ _ _ fun e w'=>e=.returned (.bool (((Cl.inI b 33 126 && !Cl.inI b 65 90) && !Cl.inI b 97 122) && !Cl.inI b 48 57))∧w=w'
 have h1:=in_any b 65 90;have h2:=in_any b 97 122;have h3:=in_any b 48 57
 have k0:=in_any b 33 126
 generalize Cl.inI b 65 90=x at *
 generalize Cl.inI b 97 122=y at *
 generalize Cl.inI b 48 57=z at *
 generalize Cl.inI b 33 126=e0 at *
 have H1:=Lib.hid h1;have H2:=Lib.hid h2;have H3:=Lib.hid h3
 have K0:=Lib.hid k0
 clear h1 h2 h3 k0
 go_enter Tryz.func169,Tryz.ntmps169
 go_wp2_with fail
 refine (H1.out _).mono ?_;rintro e w' ⟨rfl,rfl⟩
 go_wp2_with fail
 refine (H2.out _).mono ?_;rintro e w' ⟨rfl,rfl⟩
 go_wp2_with fail
 refine (H3.out _).mono ?_;rintro e w' ⟨rfl,rfl⟩
 cases e0 <;> cases x <;> cases y <;> cases z
 all_goals
   go_wp2_with (first | (go_at_call 189;((with_reducible refine (K0.out _).mono ?_);rintro e w' ⟨rfl,rfl⟩)))
   go_ret
   exact ⟨rfl,rfl⟩
theorem member_9 (b:Nat) (w:World):Calls Tryz.prog 169 #[.string ⟨#[115,112,97,99,101]⟩,.int .i64 b] w fun e w'=>e=.returned (.bool (Cl.cls 9 b))∧w=w':=by
 show Calls _ _ _ _ fun e w'=>e=.returned (.bool (Cl.inI b 9 13 || Cl.isI b 32))∧w=w'
 have j0:((b:Int) == 32)=Cl.isI b 32:=rfl
 have h1:=in_any b 65 90;have h2:=in_any b 97 122;have h3:=in_any b 48 57
 have k0:=in_any b 9 13
 generalize Cl.inI b 65 90=x at *
 generalize Cl.inI b 97 122=y at *
 generalize Cl.inI b 48 57=z at *
 generalize Cl.inI b 9 13=e0 at *
 generalize Cl.isI b 32=i0 at *
 have H1:=Lib.hid h1;have H2:=Lib.hid h2;have H3:=Lib.hid h3
 have K0:=Lib.hid k0
 have J0:=Lib.hid j0
 clear h1 h2 h3 k0 j0
 go_enter Tryz.func169,Tryz.ntmps169
 go_wp2_with fail
 refine (H1.out _).mono ?_;rintro e w' ⟨rfl,rfl⟩
 go_wp2_with fail
 refine (H2.out _).mono ?_;rintro e w' ⟨rfl,rfl⟩
 go_wp2_with fail
 refine (H3.out _).mono ?_;rintro e w' ⟨rfl,rfl⟩
 cases e0 <;> cases i0
 all_goals
   have j0:=J0.out;clear J0
   go_wp2_with (first | (go_at_call 189;((with_reducible refine (K0.out _).mono ?_);rintro e w' ⟨rfl,rfl⟩)))
   go_ret
   exact ⟨rfl,rfl⟩
theorem member_10 (b:Nat) (w:World):Calls Tryz.prog 169 #[.string ⟨#[117,112,112,101,114]⟩,.int .i64 b] w fun e w'=>e=.returned (.bool (Cl.cls 10 b))∧w=w':=by
 show Calls _ _ _ _ fun e w'=>e=.returned (.bool (Cl.inI b 65 90))∧w=w'
 have h1:=in_any b 65 90;have h2:=in_any b 97 122;have h3:=in_any b 48 57
 generalize Cl.inI b 65 90=x at *
 generalize Cl.inI b 97 122=y at *
 generalize Cl.inI b 48 57=z at *
 have H1:=Lib.hid h1;have H2:=Lib.hid h2;have H3:=Lib.hid h3
 clear h1 h2 h3
 go_enter Tryz.func169,Tryz.ntmps169
 go_wp2_with fail
 refine (H1.out _).mono ?_;rintro e w' ⟨rfl,rfl⟩
 go_wp2_with fail
 refine (H2.out _).mono ?_;rintro e w' ⟨rfl,rfl⟩
 go_wp2_with fail
 refine (H3.out _).mono ?_;rintro e w' ⟨rfl,rfl⟩
 go_wp2
 go_ret
 exact ⟨rfl,rfl⟩
theorem member_11 (b:Nat) (w:World):Calls Tryz.prog 169 #[.string ⟨#[120,100,105,103,105,116]⟩,.int .i64 b] w fun e w'=>e=.returned (.bool (Cl.cls 11 b))∧w=w':=by
 show Calls _ _ _ _ fun e w'=>e=.returned (.bool ((Cl.inI b 48 57 || Cl.inI b 65 70) || Cl.inI b 97 102))∧w=w'
 have h1:=in_any b 65 90;have h2:=in_any b 97 122;have h3:=in_any b 48 57
 have k0:=in_any b 65 70
 have k1:=in_any b 97 102
 generalize Cl.inI b 65 90=x at *
 generalize Cl.inI b 97 122=y at *
 generalize Cl.inI b 48 57=z at *
 generalize Cl.inI b 65 70=e0 at *
 generalize Cl.inI b 97 102=e1 at *
 have H1:=Lib.hid h1;have H2:=Lib.hid h2;have H3:=Lib.hid h3
 have K0:=Lib.hid k0
 have K1:=Lib.hid k1
 clear h1 h2 h3 k0 k1
 go_enter Tryz.func169,Tryz.ntmps169
 go_wp2_with fail
 refine (H1.out _).mono ?_;rintro e w' ⟨rfl,rfl⟩
 go_wp2_with fail
 refine (H2.out _).mono ?_;rintro e w' ⟨rfl,rfl⟩
 go_wp2_with fail
 refine (H3.out _).mono ?_;rintro e w' ⟨rfl,rfl⟩
 cases z <;> cases e0 <;> cases e1
 all_goals
   go_wp2_with (first | (go_at_call 189;((with_reducible refine (K0.out _).mono ?_);rintro e w' ⟨rfl,rfl⟩)) | (go_at_call 189;((with_reducible refine (K1.out _).mono ?_);rintro e w' ⟨rfl,rfl⟩)))
   go_ret
   exact ⟨rfl,rfl⟩
end Go.Proofs.YtfcilopifjddpaaGreatDoor
namespace Go.Proofs.YtfcilopifjddpaaGreatDoor
open Go.RowKit
theorem letter_spec (n:Nat):Cl.cls 1 n=true ↔ (65 ≤ n∧n ≤ 90) ∨ (97 ≤ n∧n ≤ 122):=by
 show (Cl.inI n 65 90 || Cl.inI n 97 122)=true ↔ _
 unfold Cl.inI;simp;omega
theorem xor_case:∀ n:Nat,n < 256→Cl.cls 1 n=true→bits .xor .u8 (n:Int) 32=(Cl.oth n:Int):=by decide +kernel
theorem oth_no {n:Nat} (h:Cl.cls 1 n=false):Cl.oth n=n:=by
 have:¬ ((65 ≤ n∧n ≤ 90) ∨ (97 ≤ n∧n ≤ 122)):=fun k=>by rw [(letter_spec n).2 k] at h;cases h
 unfold Cl.oth;rw [if_neg (by omega),if_neg (by omega)]
theorem letter_any (n:Nat) (hn:n < 256) (w:World):Calls Tryz.prog 201 #[.int .u8 n] w fun e w'=>e=.returned (.bool (Cl.cls 1 n))∧w=w':=by
 by_cases h1:65 ≤ n
 · by_cases h2:n ≤ 90
   · have hr:Cl.cls 1 n=true:=(letter_spec n).2 (.inl ⟨h1,h2⟩)
     rw [hr];clear hr
     have i1:(65:Int) ≤ (n:Int):=by omega
     have i2:(n:Int) ≤ 90:=by omega
     go_enter Tryz.func201,Tryz.ntmps201
     go_wp2
     go_ret
     exact ⟨rfl,rfl⟩
   · have i2:decide ((n:Int) ≤ 90)=false:=by simp;omega
     have i1:(65:Int) ≤ (n:Int):=by omega
     by_cases h3:97 ≤ n
     · by_cases h4:n ≤ 122
       · have hr:Cl.cls 1 n=true:=(letter_spec n).2 (.inr ⟨h3,h4⟩)
         rw [hr];clear hr
         have i3:(97:Int) ≤ (n:Int):=by omega
         have i4:(n:Int) ≤ 122:=by omega
         go_enter Tryz.func201,Tryz.ntmps201
         go_wp2
         go_ret
         exact ⟨rfl,rfl⟩
       · have hr:Cl.cls 1 n=false:=by rw [Bool.eq_false_iff];intro h;have:=(letter_spec n).1 h;omega
         rw [hr];clear hr
         have i3:(97:Int) ≤ (n:Int):=by omega
         have i4:decide ((n:Int) ≤ 122)=false:=by simp;omega
         go_enter Tryz.func201,Tryz.ntmps201
         go_wp2
         go_ret
         exact ⟨rfl,rfl⟩
     · have hr:Cl.cls 1 n=false:=by rw [Bool.eq_false_iff];intro h;have:=(letter_spec n).1 h;omega
       rw [hr];clear hr
       have i3:decide ((97:Int) ≤ (n:Int))=false:=by simp;omega
       go_enter Tryz.func201,Tryz.ntmps201
       go_wp2
       go_ret
       exact ⟨rfl,rfl⟩
 · have hr:Cl.cls 1 n=false:=by rw [Bool.eq_false_iff];intro h;have:=(letter_spec n).1 h;omega
   rw [hr];clear hr
   have i1:decide ((65:Int) ≤ (n:Int))=false:=by simp;omega
   have i3:decide ((97:Int) ≤ (n:Int))=false:=by simp;omega
   go_enter Tryz.func201,Tryz.ntmps201
   go_wp2
   go_ret
   exact ⟨rfl,rfl⟩
theorem other_any (n:Nat) (hn:n < 256) (w:World):Calls Tryz.prog 180 #[.int .u8 n] w fun e w'=>e=.returned (.int .u8 (Cl.oth n))∧w=w':=by
 have hl:=letter_any n hn
 cases h:Cl.cls 1 n with
 | true =>
   rw [h] at hl
   have hx:=xor_case n hn h
   clear h
   have HL:=Lib.hid hl;clear hl
   go_enter Tryz.func180,Tryz.ntmps180
   go_wp2_with (go_at_call 201;refine (HL.out _).mono ?_;rintro e w' ⟨rfl,rfl⟩)
   go_ret
   exact ⟨rfl,rfl⟩
 | false =>
   rw [h] at hl
   rw [oth_no h]
   clear h
   have HL:=Lib.hid hl;clear hl
   go_enter Tryz.func180,Tryz.ntmps180
   go_wp2_with (go_at_call 201;refine (HL.out _).mono ?_;rintro e w' ⟨rfl,rfl⟩)
   go_ret
   exact ⟨rfl,rfl⟩
end Go.Proofs.YtfcilopifjddpaaGreatDoor
namespace Go.Proofs.YtfcilopifjddpaaGreatDoor
open Go.RowKit
def Cl.any (p:Nat→Bool):Nat→Bool
 | 0=>false
 | n+1=>Cl.any p n || p n
theorem refnamed_any (s:ByteArray) (P:Nat→Bool) (hm:∀ (b:Nat) (w:World),Calls Tryz.prog 169 #[.string s,.int .i64 b] w fun e w'=>e=.returned (.bool (P b))∧w=w') (w:World) :
   Calls Tryz.prog 138 #[.string s] w fun e w'=>e=.returned (.tuple #[(.agg #[.int .u64 (Oc.U (Oc.mk P 0)),.int .u64 (Oc.U (Oc.mk P 1)),.int .u64 (Oc.U (Oc.mk P 2)),.int .u64 (Oc.U (Oc.mk P 3))]),.bool (Cl.any P 256)])∧Below w.heap.size w w':=by
 have hz:∀ w,(zeroValue 159).run Tryz.prog w=.ok (.agg (bools fun _=>false)) w:=fun _=>by kernel_rfl
 have HM:=Lib.hid hm;clear hm
 go_enter Tryz.func138,Tryz.ntmps138
 go_wp2
 go_loopw [6,5] (fun i so wr=>∃ k:Nat,k ≤ 256∧i=.int .i64 k∧so=.bool (Cl.any P k)∧Below w.heap.size w wr∧w.heap.size+1 < wr.heap.size∧wr.heap[w.heap.size]? = some (.cells #[.int .u64 0,.int .u64 0,.int .u64 0,.int .u64 0] 25) ∧
   wr.heap[w.heap.size+1]? = some (.cells (bools fun j=>decide (j < k) && P j) 159)) (fun i _ _=>256 - (intOf i).toNat)
 case atStart=>exact ⟨0,Nat.zero_le _,rfl,rfl,by go_grown,by simp,(two_new _ _ _).1,(two_new _ _ _).2.trans (by simp)⟩
 case round =>
   obtain ⟨k,hk,rfl,rfl,hbel,hsz,hz0,hz1⟩:=hrel
   by_cases hlt:k < 256
   · obtain ⟨v0,l0,f0⟩:∃ v,wr.cell? ⟨w.heap.size+1,k,none⟩=some v∧wr.frozen? ⟨w.heap.size+1,k,none⟩=false:=⟨_,one_cell hlt hz1⟩
     have HZ0:=Lib.hid hz0
     have HZ1:=Lib.hid hz1
     have hmk:=HM.out k
     have key:∀ b:Bool,P k=b→(wr.setCell ⟨w.heap.size+1,k,none⟩ (.bool b)).heap[w.heap.size+1]? = some (.cells (bools fun j=>decide (j < k+1) && P j) 159):=fun b hb =>
       one_set hlt HZ1.out (by simp [hb]) fun j hj=>by
         have:decide (j < k+1)=decide (j < k):=by simp;omega
         simp only [this]
     have nxt:Cl.any P (k+1)=(Cl.any P k || P k):=rfl
     have KEY:=Lib.hid key
     have NX:=Lib.hid nxt
     have HMK:=Lib.hid hmk
     have same:∀ v,(wr.setCell ⟨w.heap.size+1,k,none⟩ v).cell? ⟨w.heap.size+1,k,none⟩=some v:=fun v=>by
       have:=one_cell hlt hz1
       unfold World.setCell World.cell?
       simp [Array.getElem?_modify,hz1,bools_size,hlt]
     clear hz0 hz1 key nxt hmk hz
     generalize hx:Cl.any P k=x at *
     generalize hy:P k=y at *
     have HX:=Lib.hid hx;have HY:=Lib.hid hy
     clear hx hy
     cases x <;> cases y
     all_goals
       go_wp2_with (go_at_call 169;refine (HMK.out _).mono ?_;rintro e w' ⟨rfl,rfl⟩)
       exact ⟨⟨k+1,by omega,by go_num,by rw [NX.out];rfl,by go_grown,by simpa using hsz,by rw [Below.heap_setCell _ _ _ _ (by simp)];exact HZ0.out,KEY.out _ rfl⟩,by simp [intOf];omega⟩
   · obtain rfl:k=256:=by omega
     have HZ0:=Lib.hid hz0
     have HZ1:=Lib.hid hz1
     clear hz0 hz1
     have hw:=mk_same4 (p:=fun j=>decide (j < 256) && P j) (q:=P) fun i hi=>by simp [hi]
     have HW:=Lib.hid hw
     clear hw
     go_wp2_with (first
       | (refine wpList_load_row rfl 159 (.tmp 4) rfl (w.heap.size+1) rfl 159 (bools fun j=>decide (j < 256) && P j) (0,0) _ HZ1.out Tryz.underlying159 rfl (by rw [bools_size];kernel_rfl) ?_)
       | fail)
     refine (made_any _ _).mono ?_
     rintro e w2 ⟨rfl,hb2⟩
     rw [HW.out.1,HW.out.2.1,HW.out.2.2.1,HW.out.2.2.2]
     obtain ⟨d0,e0,d1,e1,d2,e2,d3,e3,r0,r1,r2,r3⟩:=four_st (keep_blk hb2 HZ0.out)
     have hbw2:=hbel.trans (hb2.mono hbel.size)
     go_wp2
     refine bodyPost_ret (v:=.tuple #[(.agg #[.int .u64 (Oc.U (Oc.mk P 0)),.int .u64 (Oc.U (Oc.mk P 1)),.int .u64 (Oc.U (Oc.mk P 2)),.int .u64 (Oc.U (Oc.mk P 3))]),.bool (Cl.any P 256)]) (by simp [results,Tryz.results138,go_sem,r0,r1,r2,r3]) rfl ⟨rfl, ?_⟩
     go_grown
namespace Cl
end Cl
end Go.Proofs.YtfcilopifjddpaaGreatDoor
namespace Go.Proofs.YtfcilopifjddpaaGreatDoor
open Go.RowKit
def Known (s:ByteArray) (k:Nat):Prop:=(∀ w,Calls Tryz.prog 204 #[.string s] w fun e w'=>e=.returned (.tuple #[(.agg #[.int .u64 (Oc.U (Cl.cw k 0)),.int .u64 (Oc.U (Cl.cw k 1)),.int .u64 (Oc.U (Cl.cw k 2)),.int .u64 (Oc.U (Cl.cw k 3))]),.nilIface])∧Below w.heap.size w w') ∧
 ∀ w,Calls Tryz.prog 138 #[.string s] w fun e w'=>e=.returned (.tuple #[(.agg #[.int .u64 (Oc.U (Cl.cw k 0)),.int .u64 (Oc.U (Cl.cw k 1)),.int .u64 (Oc.U (Cl.cw k 2)),.int .u64 (Oc.U (Cl.cw k 3))]),.bool true])∧Below w.heap.size w w'
theorem refnamed_0 (w:World):Calls Tryz.prog 138 #[.string (Cl.nm 0)] w fun e w'=>e=.returned (.tuple #[(.agg #[.int .u64 (Oc.U (Cl.cw 0 0)),.int .u64 (Oc.U (Cl.cw 0 1)),.int .u64 (Oc.U (Cl.cw 0 2)),.int .u64 (Oc.U (Cl.cw 0 3))]),.bool true])∧Below w.heap.size w w':=by
 have h:=refnamed_any (Cl.nm 0) (Cl.cls 0) (member_0) w
 rw [show Cl.any (Cl.cls 0) 256=true by decide +kernel] at h
 exact h
theorem refnamed_1 (w:World):Calls Tryz.prog 138 #[.string (Cl.nm 1)] w fun e w'=>e=.returned (.tuple #[(.agg #[.int .u64 (Oc.U (Cl.cw 1 0)),.int .u64 (Oc.U (Cl.cw 1 1)),.int .u64 (Oc.U (Cl.cw 1 2)),.int .u64 (Oc.U (Cl.cw 1 3))]),.bool true])∧Below w.heap.size w w':=by
 have h:=refnamed_any (Cl.nm 1) (Cl.cls 1) (member_1) w
 rw [show Cl.any (Cl.cls 1) 256=true by decide +kernel] at h
 exact h
theorem refnamed_2 (w:World):Calls Tryz.prog 138 #[.string (Cl.nm 2)] w fun e w'=>e=.returned (.tuple #[(.agg #[.int .u64 (Oc.U (Cl.cw 2 0)),.int .u64 (Oc.U (Cl.cw 2 1)),.int .u64 (Oc.U (Cl.cw 2 2)),.int .u64 (Oc.U (Cl.cw 2 3))]),.bool true])∧Below w.heap.size w w':=by
 have h:=refnamed_any (Cl.nm 2) (Cl.cls 2) (member_2) w
 rw [show Cl.any (Cl.cls 2) 256=true by decide +kernel] at h
 exact h
theorem refnamed_3 (w:World):Calls Tryz.prog 138 #[.string (Cl.nm 3)] w fun e w'=>e=.returned (.tuple #[(.agg #[.int .u64 (Oc.U (Cl.cw 3 0)),.int .u64 (Oc.U (Cl.cw 3 1)),.int .u64 (Oc.U (Cl.cw 3 2)),.int .u64 (Oc.U (Cl.cw 3 3))]),.bool true])∧Below w.heap.size w w':=by
 have h:=refnamed_any (Cl.nm 3) (Cl.cls 3) (member_3) w
 rw [show Cl.any (Cl.cls 3) 256=true by decide +kernel] at h
 exact h
theorem refnamed_4 (w:World):Calls Tryz.prog 138 #[.string (Cl.nm 4)] w fun e w'=>e=.returned (.tuple #[(.agg #[.int .u64 (Oc.U (Cl.cw 4 0)),.int .u64 (Oc.U (Cl.cw 4 1)),.int .u64 (Oc.U (Cl.cw 4 2)),.int .u64 (Oc.U (Cl.cw 4 3))]),.bool true])∧Below w.heap.size w w':=by
 have h:=refnamed_any (Cl.nm 4) (Cl.cls 4) (member_4) w
 rw [show Cl.any (Cl.cls 4) 256=true by decide +kernel] at h
 exact h
theorem refnamed_5 (w:World):Calls Tryz.prog 138 #[.string (Cl.nm 5)] w fun e w'=>e=.returned (.tuple #[(.agg #[.int .u64 (Oc.U (Cl.cw 5 0)),.int .u64 (Oc.U (Cl.cw 5 1)),.int .u64 (Oc.U (Cl.cw 5 2)),.int .u64 (Oc.U (Cl.cw 5 3))]),.bool true])∧Below w.heap.size w w':=by
 have h:=refnamed_any (Cl.nm 5) (Cl.cls 5) (member_5) w
 rw [show Cl.any (Cl.cls 5) 256=true by decide +kernel] at h
 exact h
theorem refnamed_6 (w:World):Calls Tryz.prog 138 #[.string (Cl.nm 6)] w fun e w'=>e=.returned (.tuple #[(.agg #[.int .u64 (Oc.U (Cl.cw 6 0)),.int .u64 (Oc.U (Cl.cw 6 1)),.int .u64 (Oc.U (Cl.cw 6 2)),.int .u64 (Oc.U (Cl.cw 6 3))]),.bool true])∧Below w.heap.size w w':=by
 have h:=refnamed_any (Cl.nm 6) (Cl.cls 6) (member_6) w
 rw [show Cl.any (Cl.cls 6) 256=true by decide +kernel] at h
 exact h
theorem refnamed_7 (w:World):Calls Tryz.prog 138 #[.string (Cl.nm 7)] w fun e w'=>e=.returned (.tuple #[(.agg #[.int .u64 (Oc.U (Cl.cw 7 0)),.int .u64 (Oc.U (Cl.cw 7 1)),.int .u64 (Oc.U (Cl.cw 7 2)),.int .u64 (Oc.U (Cl.cw 7 3))]),.bool true])∧Below w.heap.size w w':=by
 have h:=refnamed_any (Cl.nm 7) (Cl.cls 7) (member_7) w
 rw [show Cl.any (Cl.cls 7) 256=true by decide +kernel] at h
 exact h
theorem refnamed_8 (w:World):Calls Tryz.prog 138 #[.string (Cl.nm 8)] w fun e w'=>e=.returned (.tuple #[(.agg #[.int .u64 (Oc.U (Cl.cw 8 0)),.int .u64 (Oc.U (Cl.cw 8 1)),.int .u64 (Oc.U (Cl.cw 8 2)),.int .u64 (Oc.U (Cl.cw 8 3))]),.bool true])∧Below w.heap.size w w':=by
 have h:=refnamed_any (Cl.nm 8) (Cl.cls 8) (member_8) w
 rw [show Cl.any (Cl.cls 8) 256=true by decide +kernel] at h
 exact h
theorem refnamed_9 (w:World):Calls Tryz.prog 138 #[.string (Cl.nm 9)] w fun e w'=>e=.returned (.tuple #[(.agg #[.int .u64 (Oc.U (Cl.cw 9 0)),.int .u64 (Oc.U (Cl.cw 9 1)),.int .u64 (Oc.U (Cl.cw 9 2)),.int .u64 (Oc.U (Cl.cw 9 3))]),.bool true])∧Below w.heap.size w w':=by
 have h:=refnamed_any (Cl.nm 9) (Cl.cls 9) (member_9) w
 rw [show Cl.any (Cl.cls 9) 256=true by decide +kernel] at h
 exact h
theorem refnamed_10 (w:World):Calls Tryz.prog 138 #[.string (Cl.nm 10)] w fun e w'=>e=.returned (.tuple #[(.agg #[.int .u64 (Oc.U (Cl.cw 10 0)),.int .u64 (Oc.U (Cl.cw 10 1)),.int .u64 (Oc.U (Cl.cw 10 2)),.int .u64 (Oc.U (Cl.cw 10 3))]),.bool true])∧Below w.heap.size w w':=by
 have h:=refnamed_any (Cl.nm 10) (Cl.cls 10) (member_10) w
 rw [show Cl.any (Cl.cls 10) 256=true by decide +kernel] at h
 exact h
theorem refnamed_11 (w:World):Calls Tryz.prog 138 #[.string (Cl.nm 11)] w fun e w'=>e=.returned (.tuple #[(.agg #[.int .u64 (Oc.U (Cl.cw 11 0)),.int .u64 (Oc.U (Cl.cw 11 1)),.int .u64 (Oc.U (Cl.cw 11 2)),.int .u64 (Oc.U (Cl.cw 11 3))]),.bool true])∧Below w.heap.size w w':=by
 have h:=refnamed_any (Cl.nm 11) (Cl.cls 11) (member_11) w
 rw [show Cl.any (Cl.cls 11) 256=true by decide +kernel] at h
 exact h
theorem known:∀ k,k < 12→Known (Cl.nm k) k
 | 0,_=>⟨named_0,refnamed_0⟩
 | 1,_=>⟨named_1,refnamed_1⟩
 | 2,_=>⟨named_2,refnamed_2⟩
 | 3,_=>⟨named_3,refnamed_3⟩
 | 4,_=>⟨named_4,refnamed_4⟩
 | 5,_=>⟨named_5,refnamed_5⟩
 | 6,_=>⟨named_6,refnamed_6⟩
 | 7,_=>⟨named_7,refnamed_7⟩
 | 8,_=>⟨named_8,refnamed_8⟩
 | 9,_=>⟨named_9,refnamed_9⟩
 | 10,_=>⟨named_10,refnamed_10⟩
 | 11,_=>⟨named_11,refnamed_11⟩
 | k+12,h=>absurd h (by omega)
theorem toList_loop (s:ByteArray):∀ n i r,s.size - i=n→ByteArray.toList.loop s i r=r.reverse ++ s.data.toList.drop i:=by
 intro n
 induction n with
 | zero =>
   intro i r h
   unfold ByteArray.toList.loop
   rw [if_neg (by omega),List.drop_eq_nil_of_le (by simp;show s.data.size ≤ i;have:s.data.size=s.size:=rfl;omega),List.append_nil]
 | succ n ih =>
   intro i r h
   have hi:i < s.size:=by omega
   unfold ByteArray.toList.loop
   rw [if_pos hi,ih (i+1) _ (by omega)]
   have hl:i < s.data.toList.length:=by simpa using hi
   rw [List.drop_eq_getElem_cons hl]
   have:s.get! i=s.data.toList[i]:=by
     show s.data[i]! = _
     rw [getElem!_pos s.data i hi];simp
   rw [this];simp
theorem toList_eq (s:ByteArray):s.toList=s.data.toList:=by
 show ByteArray.toList.loop s 0 []=_
 rw [toList_loop s s.size 0 [] (by omega)];simp
theorem nm_bytes:∀ k,k < 12→(Cl.nm k).data.toList=Cl.nl k:=by decide +kernel
theorem clsAt_some {t:ByteArray} {k:Nat} (h:Br.clsAt (t.data.toList.map (·.toNat))=some k):k < 12∧t=Cl.nm k:=by
 unfold Br.clsAt at h
 have hk:=List.mem_range.1 (List.mem_of_find?_eq_some h)
 refine ⟨hk, ?_⟩
 have h1:=List.find?_some h
 simp only [beq_iff_eq] at h1
 have h2:Cl.nl k=t.data.toList:=List.map_inj_right (fun x y h=>UInt8.toNat_inj.1 h) |>.1 h1
 rw [← nm_bytes k hk] at h2
 cases t;cases hh:Cl.nm k with
 | mk d=>rw [hh] at h2;simp only at h2;rw [Array.toList_inj.1 h2]
theorem clsAt_none {t:ByteArray} (h:Br.clsAt (t.data.toList.map (·.toNat))=none):Cl.No t:=by
 intro k hk
 unfold Br.clsAt at h
 have:=List.find?_eq_none.1 h k (List.mem_range.2 hk)
 cases hb:t.toList == Cl.nl k with
 | false=>rfl
 | true =>
   rw [beq_iff_eq,toList_eq] at hb
   rw [hb] at this
   simp at this
end Go.Proofs.YtfcilopifjddpaaGreatDoor
namespace Go.Proofs.YtfcilopifjddpaaGreatDoor
open Go.RowKit
theorem name_part (s:ByteArray) (i e:Nat) (h:i ≤ e) (he:e ≤ s.size):Br.part (bt s) i (e - i)=(s.extract i e).data.toList.map (·.toNat):=by
 apply List.ext_getElem
 · unfold Br.part;simp;omega
 · intro k h1 h2
   unfold Br.part at h1 ⊢
   simp at h1
   simp only [List.getElem_map,List.getElem_range]
   have hk:i+k < s.size:=by omega
   rw [bt_in hk]
   unfold byteAt
   congr 1
   simp [hk]
end Go.Proofs.YtfcilopifjddpaaGreatDoor
namespace Go.Proofs.YtfcilopifjddpaaGreatDoor
namespace Br
theorem mk_or (p q:Nat→Bool) (k:Nat):Oc.mk p k ||| Oc.mk q k=Oc.mk (fun j=>p j || q j) k:=by
 refine (Oc.mk_eq fun i hi=>?_).symm
 rw [BitVec.getLsbD_or,Oc.mk_bit _ _ _ hi,Oc.mk_bit _ _ _ hi]
theorem mk_not (p:Nat→Bool) (k:Nat) : ~~~(Oc.mk p k)=Oc.mk (fun j=>!p j) k:=by
 refine (Oc.mk_eq fun i hi=>?_).symm
 rw [BitVec.getLsbD_not,Oc.mk_bit _ _ _ hi];simp [hi]
theorem mk_same {p q:Nat→Bool} {k:Nat} (hk:k < 4) (h:∀ i,i < 256→p i=q i):Oc.mk p k=Oc.mk q k:=by
 refine Oc.mk_eq fun i hi=>?_
 rw [h _ (by omega),Oc.mk_bit _ _ _ hi]
theorem mk_fold (p:Nat→Bool) (k:Nat) (hk:k < 4):Oc.mk (Cl.fold (Oc.mem (Oc.mk p 0) (Oc.mk p 1) (Oc.mk p 2) (Oc.mk p 3))) k=Oc.mk (Cl.fold p) k :=
 mk_same hk fun i hi=>by unfold Cl.fold;rw [Oc.mem_mk p i hi,Oc.mem_mk p _ (Cl.oth_lt hi)]
end Br
end Go.Proofs.YtfcilopifjddpaaGreatDoor
namespace Go.Proofs.YtfcilopifjddpaaGreatDoor
open Go.RowKit
theorem setC_one {a b c d:Int} : (#[.int .u64 a,.int .u64 b,.int .u64 c,.int .u64 d]:Array Value).all (·.oneCell')=true:=by simp [Value.oneCell']
end Go.Proofs.YtfcilopifjddpaaGreatDoor
namespace Go.Proofs.YtfcilopifjddpaaGreatDoor
open Go.RowKit Go.Extern.Stop Go.Stop Go.Extern
inductive Chain (w:World) (a:Addr):Nat→Value→Prop
 | base:Chain w a 0 (.iface 232 (.pointer (some a)))
 | fault {n:Nat} {v:Value} (p:Nat) (h:w.cell? ⟨p,1,none⟩=some v) (k:Chain w a n v):Chain w a (n+1) (.iface 63 (.pointer (some ⟨p,0,none⟩)))
theorem Chain.iface {w:World} {a:Addr} {n:Nat} {v:Value} (h:Chain w a n v):∃ t p,v=.iface t p:=by cases h <;> exact ⟨_,_,rfl⟩
theorem Chain.of_cells {w w':World} {a:Addr} {n:Nat} {v:Value} (h:Chain w a n v) (hc:∀ p x,w.cell? ⟨p,1,none⟩=some x→w'.cell? ⟨p,1,none⟩=some x):Chain w' a n v:=by
 induction h with
 | base=>have _:=hc;exact .base
 | fault p h k ih=>exact .fault p (hc _ _ h) ih
def cmpX : Array Value → Sem Value := Extern.ReflectliteType.method fun t => do Extern.Rtype.noPackHeld "Comparable" t; pure (.bool (← typeInfo t).comparable)
theorem Tryz.isTypeOf {N:Nat} (hN:N=Tryz.prog.globals.size) (v:Value) (w:World):(Extern.ReflectliteType.typeOf #[.iface 232 v]).run Tryz.prog w=.ok (.iface 137 (.agg #[.pointer (some ⟨N,232,none⟩)])) w:=by subst hN;kernel_rfl
theorem Tryz.isComparable {N:Nat} (hN:N=Tryz.prog.globals.size) (w:World):(cmpX #[.agg #[.pointer (some ⟨N,232,none⟩)]]).run Tryz.prog w=.ok (.bool true) w:=by subst hN;kernel_rfl
theorem Tryz.isMethodComparable (n : Nat) (v : Value) (w : World) : (Go.method (n + 1) 137 v "Comparable").run Tryz.prog w = .ok (249, v) w := by kernel_rfl
theorem Tryz.isComp:(Tryz.prog.info? 232).map (·.comparable)=some true:=by kernel_rfl
theorem Tryz.isSize:(Tryz.prog.info? 250).map (·.size)=some 1:=by kernel_rfl
theorem Tryz.noIsE (v:Value) (xT:TypeId) (w:World):(Instr.typeAssert (.iface 232 v) xT 139 true).run Tryz.prog w=.ok (.tuple #[.nilIface,.bool false]) w:=run_typeAssert_lacksB Tryz.underlying139 (by kernel_rfl) (by kernel_rfl) v xT w
theorem Tryz.noUnwrapE (v:Value) (xT:TypeId) (w:World):(Instr.typeAssert (.iface 232 v) xT 142 true).run Tryz.prog w=.ok (.tuple #[.nilIface,.bool false]) w:=run_typeAssert_lacksB Tryz.underlying142 (by kernel_rfl) (by kernel_rfl) v xT w
theorem Tryz.noUnwrapsE (v:Value) (xT:TypeId) (w:World):(Instr.typeAssert (.iface 232 v) xT 144 true).run Tryz.prog w=.ok (.tuple #[.nilIface,.bool false]) w:=run_typeAssert_lacksB Tryz.underlying144 (by kernel_rfl) (by kernel_rfl) v xT w
theorem Tryz.noIsF (v:Value) (xT:TypeId) (w:World):(Instr.typeAssert (.iface 63 v) xT 139 true).run Tryz.prog w=.ok (.tuple #[.nilIface,.bool false]) w:=run_typeAssert_lacksB Tryz.underlying139 (by kernel_rfl) (by kernel_rfl) v xT w
theorem Tryz.hasUnwrapF (v:Value) (xT:TypeId) (w:World):(Instr.typeAssert (.iface 63 v) xT 142 true).run Tryz.prog w=.ok (.tuple #[.iface 63 v,.bool true]) w:=run_typeAssert_hasB Tryz.underlying142 (by kernel_rfl) v xT w
theorem Tryz.methodUnwrapF (n : Nat) (v : Value) (w : World) : (Go.method (n + 1) 63 v "Unwrap").run Tryz.prog w = .ok (242, v) w := by kernel_rfl
theorem unwrap_fault (p:Nat) (x:Value) (w:World) (h:w.cell? ⟨p,1,none⟩=some x) :
   Calls Tryz.prog 242 #[.pointer (some ⟨p,0,none⟩)] w fun e w'=>e=.returned x∧w=w':=by
 go_enter Tryz.func242,Tryz.ntmps242
 go_wp2
 go_ret
 exact ⟨rfl,rfl⟩
theorem is_in (a b:Addr) (n:Nat) (v:Value) (w:World) (hch:Chain w a n v) (ca cb:Array Value) (ta tb:TypeId) (ha:w.heap[a.block]? = some (.cells ca ta (0,0))) (hb:w.heap[b.block]? = some (.cells cb tb (0,0))) :
   Calls Tryz.prog 66 #[v,.iface 232 (.pointer (some b)),.bool true] w fun e w'=>e=.returned (.bool (decide (a=b)))∧w=w':=by
 obtain ⟨i,hi,hcmp⟩:=Option.map_eq_some_iff.1 Tryz.isComp
 obtain ⟨j,hj,hjs⟩:=Option.map_eq_some_iff.1 Tryz.isSize
 have nE:=Tryz.noIsE
 have uE:=Tryz.noUnwrapE
 have vE:=Tryz.noUnwrapsE
 have nF:=Tryz.noIsF
 have uF:=Tryz.hasUnwrapF
 have mF:=Tryz.methodUnwrapF
 have tyF:=fun p=>run_eql_iface_types (P:=Tryz.prog) 63 232 (.pointer (some ⟨p,0,none⟩)) (.pointer (some b)) Tryz.underlying30 (by decide) w
 have heq:(binOp .eql 30 (.iface 232 (.pointer (some a))) (.iface 232 (.pointer (some b)))).run Tryz.prog w=.ok (.bool (decide (a=b))) w:=by
   by_cases hab:a=b
   · subst hab
     rw [run_eql_iface_ptr_same (P:=Tryz.prog) w a Tryz.underlying30 Tryz.underlying232 hi hcmp hj];simp
   · rw [run_eql_iface_ptr_other (P:=Tryz.prog) w Tryz.underlying30 Tryz.underlying232 hi hcmp hj (by rw [hjs];decide) hab ha hb];simp [hab]
 generalize decide (a=b)=r at heq ⊢
 clear hi hcmp hj hjs ha hb
 have HCH:=Lib.hid hch
 clear hch
 go_enter Tryz.func66,Tryz.ntmps66
 go_wp2_with fail
 go_loopg [0] n (fun k x wr=>wr=w∧Hid (Chain w a k x))
 case atStart=>exact ⟨rfl,HCH.out⟩
 case round =>
   obtain ⟨rfl,HC⟩:=hrel
   rcases HC.out with _ | @⟨m,x,p,h,k⟩
   · cases r with
     | true =>
       go_wp2
       go_ret
       exact ⟨rfl,rfl⟩
     | false =>
       go_wp2
       go_ret
       exact ⟨rfl,rfl⟩
   · obtain ⟨t,q,rfl⟩:=k.iface
     have HK:=Lib.hid k
     clear k HC
     go_wp2_with (go_at_call 242;refine (unwrap_fault _ _ _ h).mono ?_;rintro e w' ⟨rfl,rfl⟩)
     go_roundg m
     case measure=>omega
     case rel=>exact ⟨rfl,HK.out⟩
theorem is_any (a b:Addr) (n:Nat) (v:Value) (w:World) (hch:Chain w a n v) (ca cb:Array Value) (ta tb:TypeId) (ha:w.heap[a.block]? = some (.cells ca ta (0,0))) (hb:w.heap[b.block]? = some (.cells cb tb (0,0))) :
   Calls Tryz.prog 31 #[v,.iface 232 (.pointer (some b))] w fun e w'=>e=.returned (.bool (decide (a=b)))∧w=w':=by
 have h8:=@run_callFunc_extern Tryz.prog 65 _ Extern.ReflectliteType.typeOf Tryz.func65 (by kernel_rfl) (by kernel_rfl) (by kernel_rfl) (by kernel_rfl)
 have h32:=@run_callFunc_extern Tryz.prog 249 _ cmpX Tryz.func249 (by kernel_rfl) (by kernel_rfl) (by kernel_rfl) (by kernel_rfl)
 obtain ⟨N,hN⟩:∃ N,N=Tryz.prog.globals.size:=⟨_,rfl⟩
 have tT:=Tryz.isTypeOf hN
 have cT:=Tryz.isComparable hN
 clear hN
 have mR:=Tryz.isMethodComparable
 have hin:=is_in a b n v w hch ca cb ta tb ha hb
 obtain ⟨t,q,rfl⟩:=hch.iface
 have HIN:=Lib.hid hin
 clear hin ha hb hch
 go_enter Tryz.func31,Tryz.ntmps31
 go_wp2_with (go_at_call 66;refine HIN.out.mono ?_;rintro e w' ⟨rfl,rfl⟩)
 go_ret
 exact ⟨rfl,rfl⟩
end Go.Proofs.YtfcilopifjddpaaGreatDoor
namespace Go.Proofs.YtfcilopifjddpaaGreatDoor
open Go.ChangeShapes Go.WideShapes Go.ChangeAt Go.RowKit
def Sent (W:World) (g:Nat) (t:List UInt8) (a:Addr):Prop :=
 W.cell? ⟨g,0,none⟩=some (.iface 232 (.pointer (some a)))∧g < W.heap.size∧a.block < W.heap.size∧(∃ s,W.cell? a=some (.string s)∧s.data.toList=t∧s.size ≤ maxLen)∧∃ c ty,W.heap[a.block]? = some (.cells c ty (0,0))
theorem Sent.below {W W':World} {g:Nat} {t:List UInt8} {a:Addr} (h:Sent W g t a) (hb:Below W.heap.size W W'):Sent W' g t a:=by
 obtain ⟨h1,h2,h3,⟨s,h4,h5,h6⟩,c,ty,h7⟩:=h
 exact ⟨(hb.cell (p:=⟨g,0,none⟩) h2).trans h1,Nat.lt_of_lt_of_le h2 hb.size,Nat.lt_of_lt_of_le h3 hb.size,⟨s,(hb.cell h3).trans h4,h5,h6⟩,c,ty,(hb.block _ h3).trans h7⟩
theorem Sent.apart {W:World} {g g':Nat} {t t':List UInt8} {a a':Addr} (h:Sent W g t a) (h':Sent W g' t' a') (hne:t ≠ t'):a ≠ a':=by
 rintro rfl
 obtain ⟨-,-,-,⟨s,h4,h5,-⟩,-⟩:=h
 obtain ⟨-,-,-,⟨s',h4',h5',-⟩,-⟩:=h'
 rw [h4] at h4'
 simp only [Option.some.injEq,Value.string.injEq] at h4'
 subst h4'
 exact hne (h5.symm.trans h5')
def sentDatum (t : List UInt8) : DataW Unit := .iface "*errors.errorString" (.ptr (.agg [.lit (.string t)]))
theorem Tryz.starE : "*" ++ "errors.errorString" = "*errors.errorString" := by decide
theorem Tryz.rowE (u : TypeId) (h : Tryz.prog.typeName? 3 u = some "*errors.errorString") : u = 232 :=
 typeName_ptr_named (nm := "errors.errorString") (by rw [Tryz.starE]; kernel_rfl) (by kernel_rfl) (by decide) u (by rw [Tryz.starE]; exact h)
theorem Tryz.cellsE:Tryz.prog.cellsOf 250=1:=by kernel_rfl
theorem Tryz.cellsStr:Tryz.prog.cellsOf 9=1:=by kernel_rfl
theorem block_lt {W:World} {b:Nat} {o:Obj} (h:W.heap[b]? = some o):b < W.heap.size:=(Array.getElem?_eq_some_iff.1 h).1
theorem sent_head_any {P:Program} {n nm:String} {text:List UInt8} {r:List (String × DataW Unit)} {W:World} {g:Nat} {ti tp te ts:TypeId} {ms:Array (String × TypeId)} {f:Field}
   (h:laidMet P ((n,.iface nm (.ptr (.agg [.lit (.string text)]))) :: r) W)
   (hg:P.globalNamed n=some g) (ht:(P.globals[g]?).map (·.type)=some ti) (hi:P.underlying ti=some (.interface ms)) (hrow:∀ u,P.typeName? 3 u=some nm→u=tp)
   (hp:P.underlying tp=some (.pointer te)) (he:P.underlying te=some (.struct #[f])) (hft:f.type=ts) (hfo:f.offset=0) (hs:P.underlying ts=some .string) (hc:P.cellsOf te=1) (hcs:P.cellsOf ts=1) :
   ∃ (a:Addr) (s:ByteArray) (c0 c1:Array Value) (t0 t1:TypeId),W.cell? ⟨g,0,none⟩=some (.iface tp (.pointer (some a)))∧W.cell? a=some (.string s)∧s.data.toList=text∧s.size ≤ maxLen∧W.heap[a.block]? = some (.cells c0 t0 (0,0))∧W.heap[g]? = some (.cells c1 t1 (0,0)):=by
 obtain ⟨ps,⟨g0,t0,cs0,f0,p0,q0,hg0,ht0,hv0,hd0,_,e0⟩,_,hrows⟩:=h
 obtain rfl:=Option.some.inj (hg.symm.trans hg0)
 obtain rfl:=Option.some.inj (ht.symm.trans ht0)
 subst e0
 obtain ⟨l0⟩:=cs0
 have ok0:∀ u v,l0=[.iface u v]→Value.okWide P W .any 0 u v:=fun u v e=>by
   subst e
   exact (hrows g 0 (by simp [MemPlace.row])).2 u v (by simpa using World.var?_cell hg0 hv0 0)
 obtain ⟨a0,s0,rfl,hc0,hs0,hz0,rfl⟩:=errorString_of_trod hi hrow hp he hft hfo hs hc hcs hd0 ok0
 obtain ⟨c0,t1,hb0⟩:=(hrows a0.block a0.off (by simp [MemPlace.row])).1
 obtain ⟨c1,t2,hb1⟩:=(hrows g 0 (by simp [MemPlace.row])).1
 exact ⟨a0,s0,c0,c1,t1,t2,by simpa using World.var?_cell hg0 hv0 0,hc0,hs0,hz0,hb0,hb1⟩
theorem sent_head {n:String} {t:List UInt8} {r:List (String × DataW Unit)} {W:World} {g:Nat} (h:laidMet Tryz.prog ((n,sentDatum t) :: r) W) (hg:Tryz.prog.globalNamed n=some g) (ht:(Tryz.prog.globals[g]?).map (·.type)=some 30) :
   ∃ a,Sent W g t a:=by
 obtain ⟨a,s,c0,c1,t0,t1,h1,h2,h3,h4,h5,h6⟩:=sent_head_any h hg ht Tryz.underlying30 Tryz.rowE Tryz.underlying232 Tryz.underlying250 rfl rfl Tryz.underlying9 Tryz.cellsE Tryz.cellsStr
 exact ⟨a,h1,block_lt h6,block_lt h5,⟨s,h2,h3,h4⟩,c0,t0,h5⟩
theorem sent_of:∀ {l:List (String × DataW Unit)} {W:World},laidMet Tryz.prog l W→∀ {n t g},(n,sentDatum t) ∈ l→Tryz.prog.globalNamed n=some g→(Tryz.prog.globals[g]?).map (·.type)=some 30→∃ a,Sent W g t a
 | [],_,_,_,_,_,hm,_,_=>by cases hm
 | x :: l,W,h,n,t,g,hm,hg,ht=>by
   rcases List.mem_cons.1 hm with e | hm
   · subst e;exact sent_head h hg ht
   · exact sent_of h.tail hm hg ht
end Go.Proofs.YtfcilopifjddpaaGreatDoor
namespace Go.Proofs.YtfcilopifjddpaaGreatDoor
open Go.ChangeShapes Go.WideShapes Go.ChangeAt Go.RowKit
def errWords:List (List UInt8):=[[98,114,97,99,107,101,116],[112,97,114,101,110,116,104,101,115,105,115],[98,114,97,99,101],[99,111,117,110,116],[114,97,110,103,101],[99,108,97,115,115],[99,111,108,108,97,116,105,110,103],[101,115,99,97,112,101],[114,101,112,101,97,116],[116,111,111,32,98,105,103],[110,101,115,116,105,110,103],[108,111,110,103],[116,114,101,101],[100,101,101,112],[97,114,103,117,109,101,110,116],[110,111,32,109,97,116,99,104],[105,109,97,103,101],[109,97,110,121],[111,112,116,105,111,110],[99,111,109,109,97,110,100],[99,108,111,115,101,100]]
def errPre:List UInt8:=[116,114,97,119,108,58,32]
def errVars:List Nat:=[0,1,2,3,4,5,6,7,8,9,10,11,12,13,14,15,16,17,18,19,20]
def Errs (W:World) (A:Nat→Addr):Prop:=∀ k,k < 21→Sent W (errVars.getD k 0) (errPre ++ errWords.getD k []) (A k)
theorem Errs.below {W W':World} {A:Nat→Addr} (h:Errs W A) (hb:Below W.heap.size W W'):Errs W' A:=fun k hk=>(h k hk).below hb
theorem errWords_apart:∀ i,i < 21→∀ j,j < 21→i ≠ j→errPre ++ errWords.getD i [] ≠ errPre ++ errWords.getD j []:=by decide +kernel
theorem Errs.apart {W:World} {A:Nat→Addr} (h:Errs W A) {i j:Nat} (hi:i < 21) (hj:j < 21) (hne:i ≠ j):A i ≠ A j:=(h i hi).apart (h j hj) (errWords_apart i hi j hj hne)
def errList : List (String × DataW Unit) := [("trawl/api.ErrBracket", Rows.laid_trawl_api_ErrBracket), ("trawl/api.ErrParen", Rows.laid_trawl_api_ErrParen), ("trawl/api.ErrBrace", Rows.laid_trawl_api_ErrBrace), ("trawl/api.ErrCount", Rows.laid_trawl_api_ErrCount), ("trawl/api.ErrRange", Rows.laid_trawl_api_ErrRange), ("trawl/api.ErrClass", Rows.laid_trawl_api_ErrClass), ("trawl/api.ErrCollate", Rows.laid_trawl_api_ErrCollate), ("trawl/api.ErrEscape", Rows.laid_trawl_api_ErrEscape), ("trawl/api.ErrRepeat", Rows.laid_trawl_api_ErrRepeat), ("trawl/api.ErrTooBig", Rows.laid_trawl_api_ErrTooBig), ("trawl/api.ErrNest", Rows.laid_trawl_api_ErrNest), ("trawl/api.ErrLong", Rows.laid_trawl_api_ErrLong), ("trawl/api.ErrTree", Rows.laid_trawl_api_ErrTree), ("trawl/api.ErrDeep", Rows.laid_trawl_api_ErrDeep), ("trawl/api.ErrArgument", Rows.laid_trawl_api_ErrArgument), ("trawl/api.ErrNoMatch", Rows.laid_trawl_api_ErrNoMatch), ("trawl/api.ErrImage", Rows.laid_trawl_api_ErrImage), ("trawl/api.ErrMany", Rows.laid_trawl_api_ErrMany), ("trawl/api.ErrOption", Rows.laid_trawl_api_ErrOption), ("trawl/api.ErrCommand", Rows.laid_trawl_api_ErrCommand), ("trawl/api.ErrClosed", Rows.laid_trawl_api_ErrClosed)]
theorem errs_one {W:World} {l:List (String × DataW Unit)} (h:laidMet Tryz.prog l W) (hl:∀ x,x ∈ errList→x ∈ l):∀ k,k < 21→∃ a,Sent W (errVars.getD k 0) (errPre ++ errWords.getD k []) a
 | 0, _ => sent_of h (hl _ (show ("trawl/api.ErrBracket", sentDatum (errPre ++ errWords.getD 0 [])) ∈ errList from List.mem_cons_self)) (by kernel_rfl) (by kernel_rfl)
 | 1, _ => sent_of h (hl _ (show ("trawl/api.ErrParen", sentDatum (errPre ++ errWords.getD 1 [])) ∈ errList from (List.mem_cons_of_mem _ List.mem_cons_self))) (by kernel_rfl) (by kernel_rfl)
 | 2, _ => sent_of h (hl _ (show ("trawl/api.ErrBrace", sentDatum (errPre ++ errWords.getD 2 [])) ∈ errList from (List.mem_cons_of_mem _ (List.mem_cons_of_mem _ List.mem_cons_self)))) (by kernel_rfl) (by kernel_rfl)
 | 3, _ => sent_of h (hl _ (show ("trawl/api.ErrCount", sentDatum (errPre ++ errWords.getD 3 [])) ∈ errList from (List.mem_cons_of_mem _ (List.mem_cons_of_mem _ (List.mem_cons_of_mem _ List.mem_cons_self))))) (by kernel_rfl) (by kernel_rfl)
 | 4, _ => sent_of h (hl _ (show ("trawl/api.ErrRange", sentDatum (errPre ++ errWords.getD 4 [])) ∈ errList from (List.mem_cons_of_mem _ (List.mem_cons_of_mem _ (List.mem_cons_of_mem _ (List.mem_cons_of_mem _ List.mem_cons_self)))))) (by kernel_rfl) (by kernel_rfl)
 | 5, _ => sent_of h (hl _ (show ("trawl/api.ErrClass", sentDatum (errPre ++ errWords.getD 5 [])) ∈ errList from (List.mem_cons_of_mem _ (List.mem_cons_of_mem _ (List.mem_cons_of_mem _ (List.mem_cons_of_mem _ (List.mem_cons_of_mem _ List.mem_cons_self))))))) (by kernel_rfl) (by kernel_rfl)
 | 6, _ => sent_of h (hl _ (show ("trawl/api.ErrCollate", sentDatum (errPre ++ errWords.getD 6 [])) ∈ errList from (List.mem_cons_of_mem _ (List.mem_cons_of_mem _ (List.mem_cons_of_mem _ (List.mem_cons_of_mem _ (List.mem_cons_of_mem _ (List.mem_cons_of_mem _ List.mem_cons_self)))))))) (by kernel_rfl) (by kernel_rfl)
 | 7, _ => sent_of h (hl _ (show ("trawl/api.ErrEscape", sentDatum (errPre ++ errWords.getD 7 [])) ∈ errList from (List.mem_cons_of_mem _ (List.mem_cons_of_mem _ (List.mem_cons_of_mem _ (List.mem_cons_of_mem _ (List.mem_cons_of_mem _ (List.mem_cons_of_mem _ (List.mem_cons_of_mem _ List.mem_cons_self))))))))) (by kernel_rfl) (by kernel_rfl)
 | 8, _ => sent_of h (hl _ (show ("trawl/api.ErrRepeat", sentDatum (errPre ++ errWords.getD 8 [])) ∈ errList from (List.mem_cons_of_mem _ (List.mem_cons_of_mem _ (List.mem_cons_of_mem _ (List.mem_cons_of_mem _ (List.mem_cons_of_mem _ (List.mem_cons_of_mem _ (List.mem_cons_of_mem _ (List.mem_cons_of_mem _ List.mem_cons_self)))))))))) (by kernel_rfl) (by kernel_rfl)
 | 9, _ => sent_of h (hl _ (show ("trawl/api.ErrTooBig", sentDatum (errPre ++ errWords.getD 9 [])) ∈ errList from (List.mem_cons_of_mem _ (List.mem_cons_of_mem _ (List.mem_cons_of_mem _ (List.mem_cons_of_mem _ (List.mem_cons_of_mem _ (List.mem_cons_of_mem _ (List.mem_cons_of_mem _ (List.mem_cons_of_mem _ (List.mem_cons_of_mem _ List.mem_cons_self))))))))))) (by kernel_rfl) (by kernel_rfl)
 | 10, _ => sent_of h (hl _ (show ("trawl/api.ErrNest", sentDatum (errPre ++ errWords.getD 10 [])) ∈ errList from (List.mem_cons_of_mem _ (List.mem_cons_of_mem _ (List.mem_cons_of_mem _ (List.mem_cons_of_mem _ (List.mem_cons_of_mem _ (List.mem_cons_of_mem _ (List.mem_cons_of_mem _ (List.mem_cons_of_mem _ (List.mem_cons_of_mem _ (List.mem_cons_of_mem _ List.mem_cons_self)))))))))))) (by kernel_rfl) (by kernel_rfl)
 | 11, _ => sent_of h (hl _ (show ("trawl/api.ErrLong", sentDatum (errPre ++ errWords.getD 11 [])) ∈ errList from (List.mem_cons_of_mem _ (List.mem_cons_of_mem _ (List.mem_cons_of_mem _ (List.mem_cons_of_mem _ (List.mem_cons_of_mem _ (List.mem_cons_of_mem _ (List.mem_cons_of_mem _ (List.mem_cons_of_mem _ (List.mem_cons_of_mem _ (List.mem_cons_of_mem _ (List.mem_cons_of_mem _ List.mem_cons_self))))))))))))) (by kernel_rfl) (by kernel_rfl)
 | 12, _ => sent_of h (hl _ (show ("trawl/api.ErrTree", sentDatum (errPre ++ errWords.getD 12 [])) ∈ errList from (List.mem_cons_of_mem _ (List.mem_cons_of_mem _ (List.mem_cons_of_mem _ (List.mem_cons_of_mem _ (List.mem_cons_of_mem _ (List.mem_cons_of_mem _ (List.mem_cons_of_mem _ (List.mem_cons_of_mem _ (List.mem_cons_of_mem _ (List.mem_cons_of_mem _ (List.mem_cons_of_mem _ (List.mem_cons_of_mem _ List.mem_cons_self)))))))))))))) (by kernel_rfl) (by kernel_rfl)
 | 13, _ => sent_of h (hl _ (show ("trawl/api.ErrDeep", sentDatum (errPre ++ errWords.getD 13 [])) ∈ errList from (List.mem_cons_of_mem _ (List.mem_cons_of_mem _ (List.mem_cons_of_mem _ (List.mem_cons_of_mem _ (List.mem_cons_of_mem _ (List.mem_cons_of_mem _ (List.mem_cons_of_mem _ (List.mem_cons_of_mem _ (List.mem_cons_of_mem _ (List.mem_cons_of_mem _ (List.mem_cons_of_mem _ (List.mem_cons_of_mem _ (List.mem_cons_of_mem _ List.mem_cons_self))))))))))))))) (by kernel_rfl) (by kernel_rfl)
 | 14, _ => sent_of h (hl _ (show ("trawl/api.ErrArgument", sentDatum (errPre ++ errWords.getD 14 [])) ∈ errList from (List.mem_cons_of_mem _ (List.mem_cons_of_mem _ (List.mem_cons_of_mem _ (List.mem_cons_of_mem _ (List.mem_cons_of_mem _ (List.mem_cons_of_mem _ (List.mem_cons_of_mem _ (List.mem_cons_of_mem _ (List.mem_cons_of_mem _ (List.mem_cons_of_mem _ (List.mem_cons_of_mem _ (List.mem_cons_of_mem _ (List.mem_cons_of_mem _ (List.mem_cons_of_mem _ List.mem_cons_self)))))))))))))))) (by kernel_rfl) (by kernel_rfl)
 | 15, _ => sent_of h (hl _ (show ("trawl/api.ErrNoMatch", sentDatum (errPre ++ errWords.getD 15 [])) ∈ errList from (List.mem_cons_of_mem _ (List.mem_cons_of_mem _ (List.mem_cons_of_mem _ (List.mem_cons_of_mem _ (List.mem_cons_of_mem _ (List.mem_cons_of_mem _ (List.mem_cons_of_mem _ (List.mem_cons_of_mem _ (List.mem_cons_of_mem _ (List.mem_cons_of_mem _ (List.mem_cons_of_mem _ (List.mem_cons_of_mem _ (List.mem_cons_of_mem _ (List.mem_cons_of_mem _ (List.mem_cons_of_mem _ List.mem_cons_self))))))))))))))))) (by kernel_rfl) (by kernel_rfl)
 | 16, _ => sent_of h (hl _ (show ("trawl/api.ErrImage", sentDatum (errPre ++ errWords.getD 16 [])) ∈ errList from (List.mem_cons_of_mem _ (List.mem_cons_of_mem _ (List.mem_cons_of_mem _ (List.mem_cons_of_mem _ (List.mem_cons_of_mem _ (List.mem_cons_of_mem _ (List.mem_cons_of_mem _ (List.mem_cons_of_mem _ (List.mem_cons_of_mem _ (List.mem_cons_of_mem _ (List.mem_cons_of_mem _ (List.mem_cons_of_mem _ (List.mem_cons_of_mem _ (List.mem_cons_of_mem _ (List.mem_cons_of_mem _ (List.mem_cons_of_mem _ List.mem_cons_self)))))))))))))))))) (by kernel_rfl) (by kernel_rfl)
 | 17, _ => sent_of h (hl _ (show ("trawl/api.ErrMany", sentDatum (errPre ++ errWords.getD 17 [])) ∈ errList from (List.mem_cons_of_mem _ (List.mem_cons_of_mem _ (List.mem_cons_of_mem _ (List.mem_cons_of_mem _ (List.mem_cons_of_mem _ (List.mem_cons_of_mem _ (List.mem_cons_of_mem _ (List.mem_cons_of_mem _ (List.mem_cons_of_mem _ (List.mem_cons_of_mem _ (List.mem_cons_of_mem _ (List.mem_cons_of_mem _ (List.mem_cons_of_mem _ (List.mem_cons_of_mem _ (List.mem_cons_of_mem _ (List.mem_cons_of_mem _ (List.mem_cons_of_mem _ List.mem_cons_self))))))))))))))))))) (by kernel_rfl) (by kernel_rfl)
 | 18, _ => sent_of h (hl _ (show ("trawl/api.ErrOption", sentDatum (errPre ++ errWords.getD 18 [])) ∈ errList from (List.mem_cons_of_mem _ (List.mem_cons_of_mem _ (List.mem_cons_of_mem _ (List.mem_cons_of_mem _ (List.mem_cons_of_mem _ (List.mem_cons_of_mem _ (List.mem_cons_of_mem _ (List.mem_cons_of_mem _ (List.mem_cons_of_mem _ (List.mem_cons_of_mem _ (List.mem_cons_of_mem _ (List.mem_cons_of_mem _ (List.mem_cons_of_mem _ (List.mem_cons_of_mem _ (List.mem_cons_of_mem _ (List.mem_cons_of_mem _ (List.mem_cons_of_mem _ (List.mem_cons_of_mem _ List.mem_cons_self)))))))))))))))))))) (by kernel_rfl) (by kernel_rfl)
 | 19, _ => sent_of h (hl _ (show ("trawl/api.ErrCommand", sentDatum (errPre ++ errWords.getD 19 [])) ∈ errList from (List.mem_cons_of_mem _ (List.mem_cons_of_mem _ (List.mem_cons_of_mem _ (List.mem_cons_of_mem _ (List.mem_cons_of_mem _ (List.mem_cons_of_mem _ (List.mem_cons_of_mem _ (List.mem_cons_of_mem _ (List.mem_cons_of_mem _ (List.mem_cons_of_mem _ (List.mem_cons_of_mem _ (List.mem_cons_of_mem _ (List.mem_cons_of_mem _ (List.mem_cons_of_mem _ (List.mem_cons_of_mem _ (List.mem_cons_of_mem _ (List.mem_cons_of_mem _ (List.mem_cons_of_mem _ (List.mem_cons_of_mem _ List.mem_cons_self))))))))))))))))))))) (by kernel_rfl) (by kernel_rfl)
 | 20, _ => sent_of h (hl _ (show ("trawl/api.ErrClosed", sentDatum (errPre ++ errWords.getD 20 [])) ∈ errList from (List.mem_cons_of_mem _ (List.mem_cons_of_mem _ (List.mem_cons_of_mem _ (List.mem_cons_of_mem _ (List.mem_cons_of_mem _ (List.mem_cons_of_mem _ (List.mem_cons_of_mem _ (List.mem_cons_of_mem _ (List.mem_cons_of_mem _ (List.mem_cons_of_mem _ (List.mem_cons_of_mem _ (List.mem_cons_of_mem _ (List.mem_cons_of_mem _ (List.mem_cons_of_mem _ (List.mem_cons_of_mem _ (List.mem_cons_of_mem _ (List.mem_cons_of_mem _ (List.mem_cons_of_mem _ (List.mem_cons_of_mem _ (List.mem_cons_of_mem _ List.mem_cons_self)))))))))))))))))))))) (by kernel_rfl) (by kernel_rfl)
 | k+21,hk=>absurd hk (by omega)
theorem errs_of {W:World} {l:List (String × DataW Unit)} (h:laidMet Tryz.prog l W) (hl:∀ x,x ∈ errList→x ∈ l):∃ A,Errs W A:=by
 have k:=errs_one h hl
 exact ⟨fun i=>if h:i < 21 then Classical.choose (k i h) else ⟨0,0,none⟩,fun i hi=>by
   show Sent W _ _ (dite _ _ _)
   rw [dif_pos hi];exact Classical.choose_spec (k i hi)⟩
end Go.Proofs.YtfcilopifjddpaaGreatDoor
namespace Go.Proofs.YtfcilopifjddpaaGreatDoor
open Go.RowKit
def errCells (A:Nat→Addr):Array Value:=#[.iface 232 (.pointer (some (A 0))),.iface 232 (.pointer (some (A 1))),.iface 232 (.pointer (some (A 2))),.iface 232 (.pointer (some (A 3))),.iface 232 (.pointer (some (A 4))),.iface 232 (.pointer (some (A 5))),.iface 232 (.pointer (some (A 6))),.iface 232 (.pointer (some (A 7))),.iface 232 (.pointer (some (A 8))),.iface 232 (.pointer (some (A 9))),.iface 232 (.pointer (some (A 10))),.iface 232 (.pointer (some (A 11))),.iface 232 (.pointer (some (A 12))),.iface 232 (.pointer (some (A 13))),.iface 232 (.pointer (some (A 14))),.iface 232 (.pointer (some (A 15))),.iface 232 (.pointer (some (A 16))),.iface 232 (.pointer (some (A 17))),.iface 232 (.pointer (some (A 18))),.iface 232 (.pointer (some (A 19))),.iface 232 (.pointer (some (A 20)))]
theorem errCells_get (A:Nat→Addr):∀ k,k < 21→(errCells A)[k]? = some (.iface 232 (.pointer (some (A k))))
 | 0,_=>rfl
 | 1,_=>rfl
 | 2,_=>rfl
 | 3,_=>rfl
 | 4,_=>rfl
 | 5,_=>rfl
 | 6,_=>rfl
 | 7,_=>rfl
 | 8,_=>rfl
 | 9,_=>rfl
 | 10,_=>rfl
 | 11,_=>rfl
 | 12,_=>rfl
 | 13,_=>rfl
 | 14,_=>rfl
 | 15,_=>rfl
 | 16,_=>rfl
 | 17,_=>rfl
 | 18,_=>rfl
 | 19,_=>rfl
 | 20,_=>rfl
 | k+21,hk=>absurd hk (by omega)
end Go.Proofs.YtfcilopifjddpaaGreatDoor
namespace Go.Proofs.YtfcilopifjddpaaGreatDoor
open Go.RowKit Go.Extern.Stop Go.Stop Go.Extern
def found (k i:Nat):Int:=if k < i then (k:Int)+1 else -1
theorem found_no {k i:Nat} (h:i ≤ k):found k i = -1:=by unfold found;rw [if_neg (by omega)]
theorem found_yes {k i:Nat} (h:k < i):found k i=(k:Int)+1:=by unfold found;rw [if_pos h]
theorem num_any (A:Nat→Addr) (k n:Nat) (v:Value) (w:World) (hA:Errs w A) (hk:k < 21) (hch:Chain w (A k) n v) :
   Calls Tryz.prog 10 #[v] w fun e w'=>e=.returned (.int .i64 ((k:Int)+1))∧Below w.heap.size w w':=by
 have HA:=Lib.hid hA
 obtain ⟨t,q,rfl⟩:=hch.iface
 have HC:=Lib.hid hch
 clear hch
 have g0:w.cell? ⟨0,0,none⟩=some (.iface 232 (.pointer (some (A 0)))):=(hA 0 (by omega)).1
 have g1:w.cell? ⟨1,0,none⟩=some (.iface 232 (.pointer (some (A 1)))):=(hA 1 (by omega)).1
 have g2:w.cell? ⟨2,0,none⟩=some (.iface 232 (.pointer (some (A 2)))):=(hA 2 (by omega)).1
 have g3:w.cell? ⟨3,0,none⟩=some (.iface 232 (.pointer (some (A 3)))):=(hA 3 (by omega)).1
 have g4:w.cell? ⟨4,0,none⟩=some (.iface 232 (.pointer (some (A 4)))):=(hA 4 (by omega)).1
 have g5:w.cell? ⟨5,0,none⟩=some (.iface 232 (.pointer (some (A 5)))):=(hA 5 (by omega)).1
 have g6:w.cell? ⟨6,0,none⟩=some (.iface 232 (.pointer (some (A 6)))):=(hA 6 (by omega)).1
 have g7:w.cell? ⟨7,0,none⟩=some (.iface 232 (.pointer (some (A 7)))):=(hA 7 (by omega)).1
 have g8:w.cell? ⟨8,0,none⟩=some (.iface 232 (.pointer (some (A 8)))):=(hA 8 (by omega)).1
 have g9:w.cell? ⟨9,0,none⟩=some (.iface 232 (.pointer (some (A 9)))):=(hA 9 (by omega)).1
 have g10:w.cell? ⟨10,0,none⟩=some (.iface 232 (.pointer (some (A 10)))):=(hA 10 (by omega)).1
 have g11:w.cell? ⟨11,0,none⟩=some (.iface 232 (.pointer (some (A 11)))):=(hA 11 (by omega)).1
 have g12:w.cell? ⟨12,0,none⟩=some (.iface 232 (.pointer (some (A 12)))):=(hA 12 (by omega)).1
 have g13:w.cell? ⟨13,0,none⟩=some (.iface 232 (.pointer (some (A 13)))):=(hA 13 (by omega)).1
 have g14:w.cell? ⟨14,0,none⟩=some (.iface 232 (.pointer (some (A 14)))):=(hA 14 (by omega)).1
 have g15:w.cell? ⟨15,0,none⟩=some (.iface 232 (.pointer (some (A 15)))):=(hA 15 (by omega)).1
 have g16:w.cell? ⟨16,0,none⟩=some (.iface 232 (.pointer (some (A 16)))):=(hA 16 (by omega)).1
 have g17:w.cell? ⟨17,0,none⟩=some (.iface 232 (.pointer (some (A 17)))):=(hA 17 (by omega)).1
 have g18:w.cell? ⟨18,0,none⟩=some (.iface 232 (.pointer (some (A 18)))):=(hA 18 (by omega)).1
 have g19:w.cell? ⟨19,0,none⟩=some (.iface 232 (.pointer (some (A 19)))):=(hA 19 (by omega)).1
 have g20:w.cell? ⟨20,0,none⟩=some (.iface 232 (.pointer (some (A 20)))):=(hA 20 (by omega)).1
 clear hA
 go_enter Tryz.func10,Tryz.ntmps10
 go_wp2_with fail
 generalize hW0:World.alloc w _=W
 have e0:W.heap[w.heap.size]? = some (.cells (errCells A) 30):=by rw [← hW0];exact heap_alloc_new _ _
 have hbW:Below w.heap.size w W:=by rw [← hW0];exact (Below.refl _ _).alloc (Nat.le_refl _) _
 have hszW:W.heap.size=w.heap.size+1:=by rw [← hW0];simp
 have E0:=Lib.hid e0
 clear hW0 e0 g0 g1 g2 g3 g4 g5 g6 g7 g8 g9 g10 g11 g12 g13 g14 g15 g16 g17 g18 g19 g20
 have HW:=Lib.hid (HA.out.below hbW)
 have HCW:=Lib.hid (HC.out.of_cells (w':=W) fun p x hx=>(hbW.cell (p:=⟨p,1,none⟩) (block_lt_of_cell hx)).trans hx)
 clear HA HC
 have HF:Hid (found k 0 = -1):=Lib.hid (found_no (Nat.zero_le _))
 go_loopw [33,4] (fun i f wr=>∃ m:Nat,i=.int .i64 m∧m ≤ 21∧f=.int .i64 (found k m)∧wr=W) (fun i _ _=>21 - (intOf i).toNat)
 case atStart=>exact ⟨0,rfl,Nat.zero_le _,by rw [HF.out],rfl⟩
 case round =>
   obtain ⟨m,rfl,hm,rfl,rfl⟩:=hrel
   by_cases hlt:m < 21
   · have hma:=HW.out m hlt
     have hka:=HW.out k hk
     have l0:wr.cell? ⟨w.heap.size,m,none⟩=some (.iface 232 (.pointer (some (A m)))):=by simp only [World.cell?,E0.out];exact errCells_get A m hlt
     obtain ⟨-,-,-,-,c1,ty1,r1⟩:=hma
     obtain ⟨-,-,-,-,c2,ty2,r2⟩:=hka
     have his:=is_any (A k) (A m) n (.iface t q) wr HCW.out c2 c1 ty2 ty1 r2 r1
     have HIS:=Lib.hid his
     clear his r1 r2
     have hmm:IntKind.i64.wrap ((m:Int)+1)=(m:Int)+1:=IntWalk.i64_in _ (by omega)
     rcases Nat.lt_trichotomy m k with h | h | h
     · have hd:decide (A k=A m)=false:=by simpa using Errs.apart HW.out hk hlt (by omega)
       rw [hd] at HIS
       rw [found_no (Nat.le_of_lt h)]
       have HN:=Lib.hid (found_no (show m+1 ≤ k by omega))
       clear hd
       go_wp2_with (go_at_call 31;refine HIS.out.mono ?_;rintro e w' ⟨rfl,rfl⟩)
       exact ⟨⟨m+1,by go_num,by omega,by rw [HN.out],trivial⟩,by simp [intOf];omega⟩
     · subst h
       have hd:decide (A m=A m)=true:=by simp
       rw [hd] at HIS
       rw [found_no (Nat.le_refl _)]
       have HN:=Lib.hid (found_yes (show m < m+1 by omega))
       clear hd
       go_wp2_with (go_at_call 31;refine HIS.out.mono ?_;rintro e w' ⟨rfl,rfl⟩)
       exact ⟨⟨m+1,by go_num,by omega,by rw [HN.out],trivial⟩,by simp [intOf];omega⟩
     · have hd:decide (A k=A m)=false:=by simpa using Errs.apart HW.out hk hlt (by omega)
       rw [hd] at HIS
       rw [found_yes h]
       have HN:=Lib.hid (found_yes (show k < m+1 by omega))
       clear hd
       go_wp2_with (go_at_call 31;refine HIS.out.mono ?_;rintro e w' ⟨rfl,rfl⟩)
       exact ⟨⟨m+1,by go_num,by omega,by rw [HN.out],trivial⟩,by simp [intOf];omega⟩
   · obtain rfl:m=21:=by omega
     rw [found_yes hk]
     go_wp2
     go_ret
     exact ⟨rfl,hbW⟩
end Go.Proofs.YtfcilopifjddpaaGreatDoor
namespace Go.Proofs.YtfcilopifjddpaaGreatDoor
open Go.RowKit Go.Extern.Stop Go.Stop Go.Extern
inductive Wrapped (w:World) (base:Value):List (Bool × Int × Nat)→Value→Prop
 | base:Wrapped w base [] base
 | fault {l:List (Bool × Int × Nat)} {v:Value} (n:Int) (p:Nat) (h0:w.cell? ⟨p,0,none⟩=some (.int .i64 n)) (h1:w.cell? ⟨p,1,none⟩=some v) (k:Wrapped w base l v):Wrapped w base ((false,n,p) :: l) (.iface 63 (.pointer (some ⟨p,0,none⟩)))
theorem Wrapped.later {w w':World} {base:Value} {l:List (Bool × Int × Nat)} {v:Value} (h:Wrapped w base l v) (hb:Below w.heap.size w w'):Wrapped w' base l v:=by
 have key:∀ (p o:Nat) (x:Value),w.cell? ⟨p,o,none⟩=some x→w'.cell? ⟨p,o,none⟩=some x:=fun p o x hx=>(hb.cell (p:=⟨p,o,none⟩) (block_lt_of_cell hx)).trans hx
 induction h with
 | base=>exact .base
 | fault n p h0 h1 k ih=>exact .fault n p (key _ _ _ h0) (key _ _ _ h1) ih
theorem Wrapped.chain {w:World} {a:Addr} {l:List (Bool × Int × Nat)} {v:Value} (h:Wrapped w (.iface 232 (.pointer (some a))) l v):Chain w a l.length v:=by
 generalize hb:Value.iface 232 (.pointer (some a))=b at h
 induction h with
 | base=>subst hb;exact .base
 | fault n p h0 h1 k ih=>exact .fault p h1 ih
def firstOf (k:Bool):List (Bool × Int × Nat)→Option (Int × Nat)
 | []=>none
 | x :: l=>if x.1=k then some x.2 else firstOf k l
theorem Wrapped.iface {w:World} {a:Addr} {l:List (Bool × Int × Nat)} {v:Value} (h:Wrapped w (.iface 232 (.pointer (some a))) l v):∃ t p,v=.iface t p:=by cases h <;> exact ⟨_,_,rfl⟩
end Go.Proofs.YtfcilopifjddpaaGreatDoor
namespace Go.Proofs.YtfcilopifjddpaaGreatDoor
open Go.RowKit Go.Extern.Stop Go.Stop Go.Extern
def numOf (o:Option (Int × Nat)):Int:=match o with | some x=>x.1 | none=>-1
end Go.Proofs.YtfcilopifjddpaaGreatDoor
namespace Go.Proofs.YtfcilopifjddpaaGreatDoor
open Go.RowKit
def ErrAt (A:Nat→Addr) (w:World) (v:Value) (c:Nat) (p:Int):Prop :=
 ∃ k l,k < 21∧c=k+1∧Wrapped w (.iface 232 (.pointer (some (A k)))) l v∧numOf (firstOf false l)=p
theorem ErrAt.later {A:Nat→Addr} {w w':World} {v:Value} {c:Nat} {p:Int} (h:ErrAt A w v c p) (hb:Below w.heap.size w w'):ErrAt A w' v c p:=by
 obtain ⟨k,l,hk,hc,hw,hp⟩:=h;exact ⟨k,l,hk,hc,hw.later hb,hp⟩
theorem ErrAt.iface {A:Nat→Addr} {w:World} {v:Value} {c:Nat} {p:Int} (h:ErrAt A w v c p):∃ t q,v=.iface t q:=by
 obtain ⟨k,l,hk,hc,hw,hp⟩:=h;exact hw.iface
structure BrEnv (w:World) (A:Nat→Addr):Prop where
 errs:Errs w A
 idx:∃ m,w.cell? ⟨22,0,none⟩=some (.int .i64 m)
theorem BrEnv.below {A:Nat→Addr} {w w':World} (h:BrEnv w A) (hb:Below w.heap.size w w'):BrEnv w' A:=by
 refine ⟨h.errs.below hb, ?_⟩
 obtain ⟨m,hm⟩:=h.idx
 exact ⟨m,(hb.cell (p:=⟨22,0,none⟩) (block_lt_of_cell hm)).trans hm⟩
theorem ErrAt.num {A:Nat→Addr} {w:World} {v:Value} {c:Nat} {p:Int} (h:ErrAt A w v c p) (hA:BrEnv w A) :
   Calls Tryz.prog 10 #[v] w fun e w'=>e=.returned (.int .i64 c)∧Below w.heap.size w w':=by
 obtain ⟨k,l,hk,rfl,hw,hp⟩:=h
 exact (num_any A k l.length v w hA.errs hk hw.chain).mono fun _ _ h=>⟨by rw [h.1];push_cast;rfl,h.2⟩
def icB (fl:Int):Bool:=(BitVec.ofInt 64 fl).getLsbD 1
def nlB (fl:Int):Bool:=(BitVec.ofInt 64 fl).getLsbD 2
def ReadEnd (A:Nat→Addr) (R:Br.Ans) (w:World) (e:Ending) (w':World):Prop :=
 (match R with
 | .ok P j=>e=.returned (.tuple #[(.agg #[.int .u64 (Oc.U (Oc.mk P 0)),.int .u64 (Oc.U (Oc.mk P 1)),.int .u64 (Oc.U (Oc.mk P 2)),.int .u64 (Oc.U (Oc.mk P 3))]),.int .i64 j,.nilIface])
 | .err c p=>∃ v,e=.returned (.tuple #[.agg #[.int .u64 0,.int .u64 0,.int .u64 0,.int .u64 0],.int .i64 0,v])∧ErrAt A w' v c p)∧Below w.heap.size w w'
end Go.Proofs.YtfcilopifjddpaaGreatDoor
namespace Go.Proofs.YtfcilopifjddpaaGreatDoor
open Go.RowKit
namespace Tr
def leaf (k:Int):Tr:=.node k 0#64 0#64 0#64 0#64 [] 0 0 0 false
def bytes (P:Nat→Bool):Tr:=.node 2 (Oc.mk P 0) (Oc.mk P 1) (Oc.mk P 2) (Oc.mk P 3) [] 0 0 0 false
def many (k:Int) (l:List Tr):Tr:=.node k 0#64 0#64 0#64 0#64 l 0 0 0 false
def grp (n:Int) (t:Tr):Tr:=.node 7 0#64 0#64 0#64 0#64 [t] n 0 0 false
def rep (lo hi:Int) (t:Tr):Tr:=.node 8 0#64 0#64 0#64 0#64 [t] 0 lo hi false
def several (k:Int):List Tr→Tr
 | []=>leaf 1
 | [t]=>t
 | l=>many k l
theorem several_many {k:Int} {l:List Tr} (h:2 ≤ l.length):several k l=many k l:=by
 match l,h with
 | _ :: _ :: _,_=>rfl
end Tr
theorem u0:Oc.U 0#64=0:=by decide
abbrev noNode:Array Value:=#[.int .i64 0,.int .u64 0,.int .u64 0,.int .u64 0,.int .u64 0,.slice none 0 0,.int .i64 0,.int .i64 0,.int .i64 0,.bool false]
theorem joined_many (k:Int) (ts:List Tr) (h2:2 ≤ ts.length) (x:Tr) (w:World) (B:Nat→Prop) (v:Value) (hs:TreesAt w B v ts) :
   Calls Tryz.prog 91 #[.int .i64 k,v,.agg (x.cells (.slice none 0 0))] w (OwnEnd (.many k ts) w):=by
 obtain ⟨p,cap,rfl,hlen⟩:=hs.slice
 have e0:((ts.length:Int) == 0)=false:=by rw [beq_eq_false_iff_ne];omega
 have e1:((ts.length:Int) == 1)=false:=by rw [beq_eq_false_iff_ne];omega
 have HC:=Lib.hid (fun w9 (hb:Below w.heap.size w w9)=>copies_any ts w9 B _ (hs.later hb))
 unfold Tr.cells
 clear hs
 go_enter Tryz.func91,Tryz.ntmps91
 go_wp2_with fail
 generalize hw1:World.alloc (World.alloc w _) _=w1
 have hb1:Below w.heap.size w w1:=by rw [← hw1];go_grown
 have hs1:w1.heap.size=w.heap.size+2:=by rw [← hw1];simp
 have Z1:=Lib.hid (show w1.heap[w.heap.size+1]? = some (.cells noNode 28) by rw [← hw1];exact (two_new w _ _).2)
 have HB1:=Lib.hid hb1
 clear hw1 hb1
 refine (HC.out w1 HB1.out).mono ?_
 rintro e w2 ⟨s2,F,rfl,ho,hF,hb2⟩
 obtain ⟨p2,c2,rfl,hl2⟩:=ho.slice
 have HO:=Lib.hid ho;have HF:=Lib.hid hF
 have Y1:=Lib.hid (keep_blk hb2 Z1.out)
 have HB2:=Lib.hid (HB1.out.trans (hb2.mono HB1.out.size))
 clear ho hF hb2
 go_wp2_with (first
   | (refine wpList_store_row rfl 28 (.tmp 6) (.tmp 21) rfl (w.heap.size+1) #[.int .i64 k,.int .u64 0,.int .u64 0,.int .u64 0,.int .u64 0,.slice p2 ts.length c2,.int .i64 0,.int .i64 0,.int .i64 0,.bool false] rfl rfl 28 _ Y1.out (by kernel_rfl) rfl (by simp [Value.oneCell']) ?_)
   | fail)
 refine bodyPost_ret (results_cell_row rfl _ _ (w.heap.size+1) 28 #[.int .i64 k,.int .u64 0,.int .u64 0,.int .u64 0,.int .u64 0,.slice p2 ts.length c2,.int .i64 0,.int .i64 0,.int .i64 0,.bool false] (0,0) _ rfl (heap_setRow Y1.out) Tryz.underlying28 rfl (by kernel_rfl)) rfl ⟨.slice p2 ts.length c2,F,rfl, ?_, ?_, ?_⟩
 · exact HO.out.keep fun b hb=>by have:=HF.out b hb;rw [heap_setRow_other _ _ _ (by omega)]
 · intro b hb;have:=HF.out b hb;omega
 · exact below_setRow HB2.out (Nat.le_succ _) _
theorem joined_one (k:Int) (t x:Tr) (w:World) (B:Nat→Prop) (v:Value) (hs:TreesAt w B v [t]) :
   Calls Tryz.prog 91 #[.int .i64 k,v,.agg (x.cells (.slice none 0 0))] w (OwnEnd t w):=by
 obtain ⟨p,cap,rfl,hlen⟩:=hs.slice
 have hs:TreesAt w B (.slice p 1 cap) [t]:=hs
 obtain ⟨b1,o1,s1,rfl,-,t1,sub1⟩:=hs.get (i:=0) (t:=t) rfl
 have t1':TenAt w b1 o1 t s1:=by simpa using t1
 have HC:=Lib.hid (fun w9 (hb:Below w.heap.size w w9)=>copy_any t w9 B _ ⟨s1,rfl,sub1.later hb⟩)
 have hb0:Below w.heap.size w ((w.alloc (.cells (x.cells (.slice none 0 0)) 28)).alloc (.cells noNode 28)):=by go_grown
 have T1:=Lib.hid (t1'.keep (hb0.block _ t1'.lt))
 have hz1:=(two_new w (.cells (x.cells (.slice none 0 0)) 28) (.cells noNode 28)).2
 have Z1:=Lib.hid hz1;have HB1:=Lib.hid hb0
 have hs1:((w.alloc (.cells (x.cells (.slice none 0 0)) 28)).alloc (.cells noNode 28)).heap.size=w.heap.size+2:=by simp
 unfold Tr.cells at *
 simp only [List.length_singleton]
 obtain ⟨d0,d1,d2,d3,d4,d5,d6,d7,d8,d9⟩:=T1.out
 clear hs t1 t1' sub1 hlen hb0 hz1 hs1
 go_enter Tryz.func91,Tryz.ntmps91
 go_wp2_with fail
 clear d0 d1 d2 d3 d4 d5 d6 d7 d8 d9
 refine (HC.out _ HB1.out).mono ?_
 rintro e w2 ⟨s2,F,rfl,ho,hF,hb2⟩
 obtain ⟨p2,c2,rfl,hl2⟩:=ho.slice
 have HO:=Lib.hid ho;have HF:=Lib.hid hF
 have Y1:=Lib.hid (keep_blk hb2 Z1.out)
 have HB2:=Lib.hid (HB1.out.trans (hb2.mono HB1.out.size))
 clear ho hF hb2 Z1 HB1
 go_wp2_with (first
   | (refine wpList_store_row rfl 28 (.tmp 6) (.tmp 17) rfl (w.heap.size+1) #[.int .i64 t.kind,.int .u64 (Oc.U t.w0),.int .u64 (Oc.U t.w1),.int .u64 (Oc.U t.w2),.int .u64 (Oc.U t.w3),.slice p2 t.subs.length c2,.int .i64 t.num,.int .i64 t.least,.int .i64 t.most,.bool t.bare] rfl rfl 28 _ Y1.out (by kernel_rfl) rfl (by simp [Value.oneCell']) ?_)
   | fail)
 refine bodyPost_ret (results_cell_row rfl _ _ (w.heap.size+1) 28 #[.int .i64 t.kind,.int .u64 (Oc.U t.w0),.int .u64 (Oc.U t.w1),.int .u64 (Oc.U t.w2),.int .u64 (Oc.U t.w3),.slice p2 t.subs.length c2,.int .i64 t.num,.int .i64 t.least,.int .i64 t.most,.bool t.bare] (0,0) _ rfl (heap_setRow Y1.out) Tryz.underlying28 rfl (by kernel_rfl)) rfl ⟨.slice p2 t.subs.length c2,F,rfl, ?_, ?_, ?_⟩
 · exact HO.out.keep fun b hb=>by have:=HF.out b hb;rw [heap_setRow_other _ _ _ (by simp at this;omega)]
 · intro b hb;have:=HF.out b hb;simp at this;omega
 · exact below_setRow HB2.out (Nat.le_succ _) _
theorem joined_nil (k:Int) (x:Tr) (w:World) (p:Option Addr) (cap:Nat) (hx:x.subs=[]) :
   Calls Tryz.prog 91 #[.int .i64 k,.slice p 0 cap,.agg (x.cells (.slice none 0 0))] w (OwnEnd x w):=by
 have z0:=(two_new w (.cells (x.cells (.slice none 0 0)) 28) (.cells noNode 28)).1
 have z1:=(two_new w (.cells (x.cells (.slice none 0 0)) 28) (.cells noNode 28)).2
 have Z0:=Lib.hid z0;have Z1:=Lib.hid z1;have HX:=Lib.hid hx
 clear z0 z1 hx
 unfold Tr.cells at *
 go_enter Tryz.func91,Tryz.ntmps91
 go_wp2_with (first
   | (refine wpList_load_row rfl 28 (.tmp 5) rfl w.heap.size rfl 28 _ (0,0) _ Z0.out Tryz.underlying28 rfl (by kernel_rfl) ?_)
   | (refine wpList_store_row rfl 28 (.tmp 6) (.tmp 11) rfl (w.heap.size+1) #[.int .i64 x.kind,.int .u64 (Oc.U x.w0),.int .u64 (Oc.U x.w1),.int .u64 (Oc.U x.w2),.int .u64 (Oc.U x.w3),.slice none 0 0,.int .i64 x.num,.int .i64 x.least,.int .i64 x.most,.bool x.bare] rfl rfl 28 _ Z1.out (by kernel_rfl) rfl (by simp [Value.oneCell']) ?_)
   | fail)
 refine bodyPost_ret (results_cell_row rfl _ _ (w.heap.size+1) 28 #[.int .i64 x.kind,.int .u64 (Oc.U x.w0),.int .u64 (Oc.U x.w1),.int .u64 (Oc.U x.w2),.int .u64 (Oc.U x.w3),.slice none 0 0,.int .i64 x.num,.int .i64 x.least,.int .i64 x.most,.bool x.bare] (0,0) _ rfl (heap_setRow Z1.out) Tryz.underlying28 rfl (by kernel_rfl)) rfl ⟨.slice none 0 0,[],rfl, ?_, ?_, ?_⟩
 · rw [HX.out];exact .nil _ _
 · intro b hb;cases hb
 · exact below_setRow (by go_grown) (Nat.le_succ _) _
theorem joined_any (k:Int) (ts:List Tr) (x:Tr) (hx:x.subs=[]) (w:World) (B:Nat→Prop) (v:Value) (hs:TreesAt w B v ts) (h0:ts=[]→x=.leaf 1) :
   Calls Tryz.prog 91 #[.int .i64 k,v,.agg (x.cells (.slice none 0 0))] w (OwnEnd (.several k ts) w):=by
 match ts,hs,h0 with
 | [],hs,h0 =>
   obtain ⟨p,cap,rfl,-⟩:=hs.slice
   obtain rfl:=h0 rfl
   exact joined_nil k _ w p cap rfl
 | [t],hs,_=>exact joined_one k t x w B v hs
 | a :: b :: r,hs,_=>exact joined_many k (a :: b :: r) (by simp) x w B v hs
theorem seq_any (ts:List Tr) (w:World) (B:Nat→Prop) (v:Value) (hs:TreesAt w B v ts):Calls Tryz.prog 53 #[v] w (OwnEnd (.several 5 ts) w):=by
 have HC:=Lib.hid (fun w9 (hb:Below w.heap.size w w9)=>joined_any 5 ts (.leaf 1) rfl w9 B _ (hs.later hb) (fun _=>rfl))
 obtain ⟨p,cap,rfl,hlen⟩:=hs.slice
 simp only [Tr.leaf,Tr.cells,Tr.kind,Tr.w0,Tr.w1,Tr.w2,Tr.w3,Tr.num,Tr.least,Tr.most,Tr.bare,u0] at HC
 clear hs
 go_enter Tryz.func53,Tryz.ntmps53
 go_wp2_with fail
 have z0:=heap_alloc_new w (.cells noNode 28)
 have Z0:=Lib.hid z0
 clear z0
 refine (HC.out _ ((Below.refl _ _).alloc (Nat.le_refl _) _)).mono ?_
 rintro e w2 ⟨s2,F,rfl,ho,hF,hb2⟩
 obtain ⟨p2,c2,rfl,hl2⟩:=ho.slice
 have HO:=Lib.hid ho;have HF:=Lib.hid hF
 have Y0:=Lib.hid (keep_blk hb2 Z0.out)
 have HB2:=Lib.hid (((Below.refl w.heap.size w).alloc (Nat.le_refl _) (.cells noNode 28)).trans (hb2.mono (by simp)))
 generalize Tr.several 5 ts=t at *
 clear ho hF hb2
 unfold Tr.cells
 go_wp2_with (first
   | (refine wpList_store_row rfl 28 (.tmp 2) (.tmp 5) rfl w.heap.size #[.int .i64 t.kind,.int .u64 (Oc.U t.w0),.int .u64 (Oc.U t.w1),.int .u64 (Oc.U t.w2),.int .u64 (Oc.U t.w3),.slice p2 t.subs.length c2,.int .i64 t.num,.int .i64 t.least,.int .i64 t.most,.bool t.bare] rfl rfl 28 _ Y0.out (by kernel_rfl) rfl (by simp [Value.oneCell']) ?_)
   | fail)
 refine bodyPost_ret (results_cell_row rfl _ _ w.heap.size 28 #[.int .i64 t.kind,.int .u64 (Oc.U t.w0),.int .u64 (Oc.U t.w1),.int .u64 (Oc.U t.w2),.int .u64 (Oc.U t.w3),.slice p2 t.subs.length c2,.int .i64 t.num,.int .i64 t.least,.int .i64 t.most,.bool t.bare] (0,0) _ rfl (heap_setRow Y0.out) Tryz.underlying28 rfl (by kernel_rfl)) rfl ⟨.slice p2 t.subs.length c2,F,rfl, ?_, ?_, ?_⟩
 · exact HO.out.keep fun b hb=>by have:=HF.out b hb;rw [heap_setRow_other _ _ _ (by simp at this;omega)]
 · intro b hb;have:=HF.out b hb;simp at this;omega
 · exact below_setRow HB2.out (Nat.le_refl _) _
theorem bytes_is (a b c d:BitVec 64) (w:World):Calls Tryz.prog 51 #[(.agg #[.int .u64 (Oc.U a),.int .u64 (Oc.U b),.int .u64 (Oc.U c),.int .u64 (Oc.U d)])] w fun e w'=>e=.returned (.agg #[.int .i64 2,.int .u64 (Oc.U a),.int .u64 (Oc.U b),.int .u64 (Oc.U c),.int .u64 (Oc.U d),.slice none 0 0,.int .i64 0,.int .i64 0,.int .i64 0,.bool false])∧Below w.heap.size w w':=by
 have z0:=(two_new w (.cells #[.int .u64 (Oc.U a),.int .u64 (Oc.U b),.int .u64 (Oc.U c),.int .u64 (Oc.U d)] 25) (.cells noNode 28)).1
 have z1:=(two_new w (.cells #[.int .u64 (Oc.U a),.int .u64 (Oc.U b),.int .u64 (Oc.U c),.int .u64 (Oc.U d)] 25) (.cells noNode 28)).2
 have Z0:=Lib.hid z0;have Z1:=Lib.hid z1
 clear z0 z1
 go_enter Tryz.func51,Tryz.ntmps51
 go_wp2_with (first
   | (refine wpList_load_row rfl 25 (.tmp 1) rfl w.heap.size rfl 25 _ (0,0) _ Z0.out Tryz.underlying25 rfl (by kernel_rfl) ?_)
   | (refine wpList_store_row rfl 28 (.tmp 2) (.tmp 4) rfl (w.heap.size+1) #[.int .i64 2,.int .u64 (Oc.U a),.int .u64 (Oc.U b),.int .u64 (Oc.U c),.int .u64 (Oc.U d),.slice none 0 0,.int .i64 0,.int .i64 0,.int .i64 0,.bool false] rfl rfl 28 _ Z1.out (by kernel_rfl) rfl (by simp [Value.oneCell']) ?_)
   | fail)
 exact bodyPost_ret (results_cell_row rfl _ _ (w.heap.size+1) 28 #[.int .i64 2,.int .u64 (Oc.U a),.int .u64 (Oc.U b),.int .u64 (Oc.U c),.int .u64 (Oc.U d),.slice none 0 0,.int .i64 0,.int .i64 0,.int .i64 0,.bool false] (0,0) _ rfl (heap_setRow Z1.out) Tryz.underlying28 rfl (by kernel_rfl)) rfl ⟨rfl,below_setRow (by go_grown) (Nat.le_succ _) _⟩
theorem bytes_any (P:Nat→Bool) (w:World):Calls Tryz.prog 51 #[(.agg #[.int .u64 (Oc.U (Oc.mk P 0)),.int .u64 (Oc.U (Oc.mk P 1)),.int .u64 (Oc.U (Oc.mk P 2)),.int .u64 (Oc.U (Oc.mk P 3))])] w (OwnEnd (.bytes P) w):=by
 refine (bytes_is _ _ _ _ w).mono ?_
 rintro e w' ⟨rfl,hb⟩
 exact ⟨.slice none 0 0,[],rfl,.nil _ _,fun b hb=>(by cases hb),hb⟩
theorem alt_any (ts:List Tr) (hne:ts ≠ []) (w:World) (B:Nat→Prop) (v:Value) (hs:TreesAt w B v ts):Calls Tryz.prog 129 #[v] w (OwnEnd (.several 6 ts) w):=by
 have HC:=Lib.hid (fun w9 (hb:Below w.heap.size w w9)=>joined_any 6 ts (.node 2 0#64 0#64 0#64 0#64 [] 0 0 0 false) rfl w9 B _ (hs.later hb) (fun h=>absurd h hne))
 have HY:=Lib.hid (fun w9=>bytes_is 0#64 0#64 0#64 0#64 w9)
 obtain ⟨p,cap,rfl,hlen⟩:=hs.slice
 simp only [Tr.cells,Tr.kind,Tr.w0,Tr.w1,Tr.w2,Tr.w3,Tr.num,Tr.least,Tr.most,Tr.bare,u0] at HC HY
 clear hs hne
 go_enter Tryz.func129,Tryz.ntmps129
 go_wp2_with fail
 have z0:=heap_alloc_new w (.cells noNode 28)
 refine (HY.out _).mono ?_
 rintro e w1 ⟨rfl,hb1⟩
 have Z0:=Lib.hid (keep_blk hb1 z0)
 have HB1:=Lib.hid (((Below.refl w.heap.size w).alloc (Nat.le_refl _) (.cells noNode 28)).trans (hb1.mono (by simp)))
 have hs1:w.heap.size < w1.heap.size:=by have:=hb1.size;simp at this;omega
 clear z0 hb1
 go_wp2_with fail
 refine (HC.out _ HB1.out).mono ?_
 rintro e w2 ⟨s2,F,rfl,ho,hF,hb2⟩
 obtain ⟨p2,c2,rfl,hl2⟩:=ho.slice
 have HO:=Lib.hid ho;have HF:=Lib.hid hF
 have Y0:=Lib.hid (keep_blk hb2 Z0.out)
 have HB2:=Lib.hid (HB1.out.trans (hb2.mono HB1.out.size))
 generalize Tr.several 6 ts=t at *
 clear ho hF hb2
 unfold Tr.cells
 go_wp2_with (first
   | (refine wpList_store_row rfl 28 (.tmp 2) (.tmp 6) rfl w.heap.size #[.int .i64 t.kind,.int .u64 (Oc.U t.w0),.int .u64 (Oc.U t.w1),.int .u64 (Oc.U t.w2),.int .u64 (Oc.U t.w3),.slice p2 t.subs.length c2,.int .i64 t.num,.int .i64 t.least,.int .i64 t.most,.bool t.bare] rfl rfl 28 _ Y0.out (by kernel_rfl) rfl (by simp [Value.oneCell']) ?_)
   | fail)
 refine bodyPost_ret (results_cell_row rfl _ _ w.heap.size 28 #[.int .i64 t.kind,.int .u64 (Oc.U t.w0),.int .u64 (Oc.U t.w1),.int .u64 (Oc.U t.w2),.int .u64 (Oc.U t.w3),.slice p2 t.subs.length c2,.int .i64 t.num,.int .i64 t.least,.int .i64 t.most,.bool t.bare] (0,0) _ rfl (heap_setRow Y0.out) Tryz.underlying28 rfl (by kernel_rfl)) rfl ⟨.slice p2 t.subs.length c2,F,rfl, ?_, ?_, ?_⟩
 · exact HO.out.keep fun b hb=>by have:=HF.out b hb;rw [heap_setRow_other _ _ _ (by omega)]
 · intro b hb;have:=HF.out b hb;omega
 · exact below_setRow HB2.out (Nat.le_refl _) _
theorem one_list {w:World} {B:Nat→Prop} {t:Tr} {s:Value} (hs:TreesAt w B s t.subs) (ty:TypeId) (g:Nat) (hg:w.heap.size=g):TreesAt (w.alloc (.cells (t.cells s) ty)) (fun b=>B b ∨ b=w.heap.size) (.slice (some ⟨g,0,none⟩) 1 1) [t]:=by
 subst hg
 have hb:Below w.heap.size w (w.alloc (.cells (t.cells s) ty)):=(Below.refl _ _).alloc (Nat.le_refl _) _
 have hc:∀ j,(w.alloc (.cells (t.cells s) ty)).cell? ⟨w.heap.size,j,none⟩=(t.cells s)[j]?:=cell_new w _ ty
 refine .mk (some ⟨w.heap.size,0,none⟩) 1 [t] (fun _=>s) (by simp) (fun i u hi=>?_) (fun i u hi=>?_)
 · match i,hi with
   | 0,hi =>
     obtain rfl:t=u:=Option.some.inj hi
     exact ⟨w.heap.size,0,rfl,.inr rfl,⟨hc 0,hc 1,hc 2,hc 3,hc 4,hc 5,hc 6,hc 7,hc 8,hc 9⟩⟩
 · match i,hi with
   | 0,hi =>
     obtain rfl:t=u:=Option.some.inj hi
     exact (hs.later hb).mono fun b _ h=>.inl h
theorem group_any (t:Tr) (n:Int) (w:World) (B:Nat→Prop) (v:Value) (hv:NodeV w B v t):Calls Tryz.prog 34 #[.int .i64 n,v] w (OwnEnd (.grp n t) w):=by
 obtain ⟨s,rfl,hs⟩:=hv
 obtain ⟨p,cap,rfl,hlen⟩:=hs.slice
 have hb1:Below w.heap.size w ((w.alloc (.cells (t.cells (.slice p t.subs.length cap)) 28)).alloc (.cells noNode 28)):=by go_grown
 have z0:=(two_new w (.cells (t.cells (.slice p t.subs.length cap)) 28) (.cells noNode 28)).1
 have z1:=(two_new w (.cells (t.cells (.slice p t.subs.length cap)) 28) (.cells noNode 28)).2
 have HC:=Lib.hid (copies_any [t] _ _ _ (one_list (hs.later hb1) 28 (w.heap.size+1+1) (by simp)))
 have HB1:=Lib.hid (hb1.alloc hb1.size (.cells (t.cells (.slice p t.subs.length cap)) 28))
 have Z0:=Lib.hid z0;have Z1:=Lib.hid (heap_alloc_lt (o:=.cells (t.cells (.slice p t.subs.length cap)) 28) z1)
 clear hs hb1 z0 z1
 unfold Tr.cells at *
 go_enter Tryz.func34,Tryz.ntmps34
 go_wp2_with (first
   | (refine wpList_load_row rfl 28 (.tmp 3) rfl w.heap.size rfl 28 _ (0,0) _ Z0.out Tryz.underlying28 rfl (by kernel_rfl) ?_)
   | (refine wpList_node1 rfl (.tmp 6) t p t.subs.length cap rfl rfl ?_)
   | fail)
 unfold Tr.cells
 refine HC.out.mono ?_
 rintro e w2 ⟨s2,F,rfl,ho,hF,hb2⟩
 obtain ⟨p2,c2,rfl,hl2⟩:=ho.slice
 have HO:=Lib.hid ho;have HF:=Lib.hid hF
 have Y1:=Lib.hid (keep_blk hb2 Z1.out)
 have HB2:=Lib.hid (HB1.out.trans (hb2.mono HB1.out.size))
 clear ho hF hb2 Z0 Z1 HB1
 simp only [List.length_singleton]
 go_wp2_with (first
   | (refine wpList_store_row rfl 28 (.tmp 4) (.tmp 9) rfl (w.heap.size+1) #[.int .i64 7,.int .u64 0,.int .u64 0,.int .u64 0,.int .u64 0,.slice p2 1 c2,.int .i64 n,.int .i64 0,.int .i64 0,.bool false] rfl rfl 28 _ Y1.out (by kernel_rfl) rfl (by simp [Value.oneCell']) ?_)
   | fail)
 refine bodyPost_ret (results_cell_row rfl _ _ (w.heap.size+1) 28 #[.int .i64 7,.int .u64 0,.int .u64 0,.int .u64 0,.int .u64 0,.slice p2 1 c2,.int .i64 n,.int .i64 0,.int .i64 0,.bool false] (0,0) _ rfl (heap_setRow Y1.out) Tryz.underlying28 rfl (by kernel_rfl)) rfl ⟨.slice p2 1 c2,F,rfl, ?_, ?_, ?_⟩
 · exact HO.out.keep fun b hb=>by have:=HF.out b hb;rw [heap_setRow_other _ _ _ (by simp at this;omega)]
 · intro b hb;have:=HF.out b hb;simp at this;omega
 · exact below_setRow HB2.out (Nat.le_succ _) _
theorem rep_any (t:Tr) (lo hi:Int) (w:World) (B:Nat→Prop) (v:Value) (hv:NodeV w B v t):Calls Tryz.prog 33 #[v,.int .i64 lo,.int .i64 hi] w (OwnEnd (.rep lo hi t) w):=by
 obtain ⟨s,rfl,hs⟩:=hv
 obtain ⟨p,cap,rfl,hlen⟩:=hs.slice
 have hb1:Below w.heap.size w ((w.alloc (.cells (t.cells (.slice p t.subs.length cap)) 28)).alloc (.cells noNode 28)):=by go_grown
 have z0:=(two_new w (.cells (t.cells (.slice p t.subs.length cap)) 28) (.cells noNode 28)).1
 have z1:=(two_new w (.cells (t.cells (.slice p t.subs.length cap)) 28) (.cells noNode 28)).2
 have HC:=Lib.hid (copies_any [t] _ _ _ (one_list (hs.later hb1) 28 (w.heap.size+1+1) (by simp)))
 have HB1:=Lib.hid (hb1.alloc hb1.size (.cells (t.cells (.slice p t.subs.length cap)) 28))
 have Z0:=Lib.hid z0;have Z1:=Lib.hid (heap_alloc_lt (o:=.cells (t.cells (.slice p t.subs.length cap)) 28) z1)
 clear hs hb1 z0 z1
 unfold Tr.cells at *
 go_enter Tryz.func33,Tryz.ntmps33
 go_wp2_with (first
   | (refine wpList_load_row rfl 28 (.tmp 3) rfl w.heap.size rfl 28 _ (0,0) _ Z0.out Tryz.underlying28 rfl (by kernel_rfl) ?_)
   | (refine wpList_node1 rfl (.tmp 9) t p t.subs.length cap rfl rfl ?_)
   | fail)
 unfold Tr.cells
 refine HC.out.mono ?_
 rintro e w2 ⟨s2,F,rfl,ho,hF,hb2⟩
 obtain ⟨p2,c2,rfl,hl2⟩:=ho.slice
 have HO:=Lib.hid ho;have HF:=Lib.hid hF
 have Y1:=Lib.hid (keep_blk hb2 Z1.out)
 have HB2:=Lib.hid (HB1.out.trans (hb2.mono HB1.out.size))
 clear ho hF hb2 Z0 Z1 HB1
 simp only [List.length_singleton]
 go_wp2_with (first
   | (refine wpList_store_row rfl 28 (.tmp 6) (.tmp 12) rfl (w.heap.size+1) #[.int .i64 8,.int .u64 0,.int .u64 0,.int .u64 0,.int .u64 0,.slice p2 1 c2,.int .i64 0,.int .i64 lo,.int .i64 hi,.bool false] rfl rfl 28 _ Y1.out (by kernel_rfl) rfl (by simp [Value.oneCell']) ?_)
   | fail)
 refine bodyPost_ret (results_cell_row rfl _ _ (w.heap.size+1) 28 #[.int .i64 8,.int .u64 0,.int .u64 0,.int .u64 0,.int .u64 0,.slice p2 1 c2,.int .i64 0,.int .i64 lo,.int .i64 hi,.bool false] (0,0) _ rfl (heap_setRow Y1.out) Tryz.underlying28 rfl (by kernel_rfl)) rfl ⟨.slice p2 1 c2,F,rfl, ?_, ?_, ?_⟩
 · exact HO.out.keep fun b hb=>by have:=HF.out b hb;rw [heap_setRow_other _ _ _ (by simp at this;omega)]
 · intro b hb;have:=HF.out b hb;simp at this;omega
 · exact below_setRow HB2.out (Nat.le_succ _) _
end Go.Proofs.YtfcilopifjddpaaGreatDoor
namespace Go.Proofs.YtfcilopifjddpaaGreatDoor
namespace Ep
inductive Out
 | ok (t:Tr) (i g:Nat)
 | err (c:Nat) (p:Int)
def one (ic:Bool) (b:Nat):Tr:=.bytes (if ic then Cl.fold (fun x=>x == b) else fun x=>x == b)
def dot (nl:Bool):Tr:=.bytes (if nl then fun x=>!(x == 10) else fun _=>true)
def find (f:Nat→Nat) (c:Nat):Nat→Nat→Option Nat
 | 0,_=>none
 | k+1,i=>if f i=c then some i else find f c k (i+1)
def digs (f:Nat→Nat):Nat→Nat→Nat→Option Nat
 | 0,_,a=>some a
 | k+1,i,a=>if 48 ≤ f i∧f i ≤ 57 then digs f k (i+1) (10 * a+(f i - 48)) else none
def num (f:Nat→Nat) (i e:Nat):Option Nat :=
 if e ≤ i ∨ i+3 < e then none else match digs f (e - i) i 0 with
 | some n=>if n ≤ 255 then some n else none
 | none=>none
def counts (f:Nat→Nat) (i e:Nat):Option (Int × Int) :=
 match find f 44 (e - i) i with
 | none=>match num f i e with
   | some n=>some (n,n)
   | none=>none
 | some m=>match num f i m with
   | none=>none
   | some a=>if m+1=e then some (a,-1) else match num f (m+1) e with
     | none=>none
     | some b=>if a ≤ b then some (a,b) else none
def counted (t:Tr) (a b:Int) (at_ next g:Nat):Out:=if 2000 < (Tr.rep a b t).szT then .err 10 at_ else .ok (.rep a b t) next g
def rep (f:Nat→Nat) (n:Nat) (t:Tr) (i g:Nat):Out :=
 if f i=42 then counted t 0 (-1) i (i+1) g
 else if f i=43 then counted t 1 (-1) i (i+1) g
 else if f i=63 then counted t 0 1 i (i+1) g
 else if f i=123 then match find f 125 (n - (i+1)) (i+1) with
   | none=>.err 3 i
   | some e=>match counts f (i+1) e with
     | none=>.err 4 i
     | some (a,b)=>counted t a b i (e+1) g
 else .ok t i g
def atom (f:Nat→Nat) (n:Nat) (ic nl:Bool) (H:Nat→Nat→Out) (i g:Nat):Out :=
 if f i=40 then H i g
 else if f i=91 then match Br.whole f n i ic nl with
   | .ok P j=>.ok (.bytes P) j g
   | .err c p=>.err c p
 else if f i=92 then (if Cl.cls 8 (f (i+1)) then .ok (one ic (f (i+1))) (i+2) g else .err 8 i)
 else if f i=46 then .ok (dot nl) (i+1) g
 else .ok (one ic (f i)) (i+1) g
def isRep (c:Nat):Bool:=c == 42 || c == 43 || c == 63 || c == 123
def piece (f:Nat→Nat) (n:Nat) (ic nl:Bool) (H:Nat→Nat→Out) (i g:Nat):Out :=
 if f i=94 then .ok (.leaf 3) (i+1) g
 else if f i=36 then .ok (.leaf 4) (i+1) g
 else if isRep (f i) then .err 9 i
 else match atom f n ic nl H i g with
 | .err c p=>.err c p
 | .ok t j g'=>rep f n t j g'
def branch (f:Nat→Nat) (n:Nat) (ic nl:Bool) (H:Nat→Nat→Out):Nat→List Tr→Nat→Nat→Out
 | 0,_,_,_=>.err 0 0
 | k+1,l,i,g =>
   if n ≤ i ∨ f i=124 ∨ f i=41 then .ok (.several 5 l) i g
   else match piece f n ic nl H i g with
   | .err c p=>.err c p
   | .ok t j g'=>branch f n ic nl H k (l ++ [t]) j g'
def alts (f:Nat→Nat) (n:Nat) (ic nl:Bool) (H:Nat→Nat→Out):Nat→List Tr→Nat→Nat→Out
 | 0,_,_,_=>.err 0 0
 | k+1,l,i,g =>
   match branch f n ic nl H (n+1) [] i g with
   | .err c p=>.err c p
   | .ok t j g'=>if f j=124 then alts f n ic nl H k (l ++ [t]) (j+1) g' else .ok (.several 6 (l ++ [t])) j g'
def group (f:Nat→Nat) (n:Nat) (ic nl:Bool):Nat→Nat→Nat→Out
 | 0,i,_=>.err 11 i
 | r+1,i,g=>match alts f n ic nl (group f n ic nl r) (n+1) [] (i+1) (g+1) with
   | .err c p=>.err c p
   | .ok t j g'=>if f j=41 then .ok (.grp (g+1:Nat) t) (j+1) g' else .err 2 i
def pat (f:Nat→Nat) (n:Nat) (ic nl:Bool) (r i g:Nat):Out:=alts f n ic nl (group f n ic nl r) (n+1) [] i g
def whole (f:Nat→Nat) (n:Nat) (ic nl:Bool):Out :=
 match pat f n ic nl 32 0 0 with
 | .err c p=>.err c p
 | .ok t j g=>if j < n then .err 2 j else if 2000 < t.szT then .err 10 n else .ok t j g
def parse (f:Nat→Nat) (n:Nat) (ic nl:Bool):Out:=if 1024 < n then .err 12 1024 else whole f n ic nl
theorem find_some {f:Nat→Nat} {c:Nat} : ∀ {k i e:Nat},find f c k i=some e→i ≤ e∧e < i+k∧f e=c∧∀ j,i ≤ j→j < e→f j ≠ c
 | 0,_,_,h=>by simp [find] at h
 | k+1,i,e,h=>by
   unfold find at h
   split at h
   · rename_i hc
     obtain rfl:=Option.some.inj h
     exact ⟨Nat.le_refl _,by omega,hc,fun j h1 h2=>by omega⟩
   · rename_i hc
     obtain ⟨h1,h2,h3,h4⟩:=find_some h
     refine ⟨by omega,by omega,h3,fun j h5 h6=>?_⟩
     by_cases e:j=i
     · subst e;exact hc
     · exact h4 j (by omega) h6
theorem find_none {f:Nat→Nat} {c:Nat} : ∀ {k i:Nat},find f c k i=none→∀ j,i ≤ j→j < i+k→f j ≠ c
 | 0,_,_,j,h1,h2=>by omega
 | k+1,i,h,j,h1,h2=>by
   unfold find at h
   split at h
   · cases h
   · rename_i hc
     by_cases e:j=i
     · subst e;exact hc
     · exact find_none h j (by omega) (by omega)
theorem num_le {f:Nat→Nat} {i e m:Nat} (h:num f i e=some m):m ≤ 255:=by
 unfold num at h
 split at h
 · cases h
 · split at h
   · split at h
     · rename_i h1;obtain rfl:=Option.some.inj h;exact h1
     · cases h
   · cases h
theorem counts_ok {f:Nat→Nat} {i e:Nat} {a b:Int} (h:counts f i e=some (a,b)):0 ≤ a∧a ≤ 255∧(b = -1 ∨ (a ≤ b∧b ≤ 255)):=by
 unfold counts at h
 split at h
 · split at h
   · rename_i m hm
     have:=num_le hm
     simp only [Option.some.injEq,Prod.mk.injEq] at h
     obtain ⟨rfl,rfl⟩:=h
     omega
   · cases h
 · split at h
   · cases h
   · rename_i a' ha
     have:=num_le ha
     split at h
     · simp only [Option.some.injEq,Prod.mk.injEq] at h
       obtain ⟨rfl,rfl⟩:=h
       omega
     · split at h
       · cases h
       · rename_i b' hb
         have:=num_le hb
         split at h
         · simp only [Option.some.injEq,Prod.mk.injEq] at h
           obtain ⟨rfl,rfl⟩:=h
           omega
         · cases h
theorem counted_ok {t u:Tr} {a b:Int} {p q g j g':Nat} (h:counted t a b p q g=.ok u j g'):u=.rep a b t∧j=q∧g'=g:=by
 unfold counted at h
 split at h
 · cases h
 · injection h with h1 h2 h3;exact ⟨h1.symm,h2.symm,h3.symm⟩
theorem rep_ok {f:Nat→Nat} {n i g j g':Nat} {t u:Tr} (h:rep f n t i g=.ok u j g') (hf:Br.Txt f n) (hi:i ≤ n) :
   i ≤ j∧j ≤ n∧g'=g∧(u=t ∨ ∃ a b,u=.rep a b t∧0 ≤ a∧a ≤ 255∧(b = -1 ∨ (a ≤ b∧b ≤ 255))):=by
 unfold rep at h
 split at h
 · rename_i hc
   have:=hf.lt hc (by omega)
   obtain ⟨rfl,rfl,rfl⟩:=counted_ok h
   exact ⟨by omega,by omega,rfl,.inr ⟨_,_,rfl,by omega⟩⟩
 split at h
 · rename_i hc
   have:=hf.lt hc (by omega)
   obtain ⟨rfl,rfl,rfl⟩:=counted_ok h
   exact ⟨by omega,by omega,rfl,.inr ⟨_,_,rfl,by omega⟩⟩
 split at h
 · rename_i hc
   have:=hf.lt hc (by omega)
   obtain ⟨rfl,rfl,rfl⟩:=counted_ok h
   exact ⟨by omega,by omega,rfl,.inr ⟨_,_,rfl,by omega⟩⟩
 split at h
 · split at h
   · cases h
   · rename_i e he
     obtain ⟨h1,h2,h3,-⟩:=find_some he
     split at h
     · cases h
     · rename_i a b hab
       obtain ⟨rfl,rfl,rfl⟩:=counted_ok h
       exact ⟨by omega,by omega,rfl,.inr ⟨_,_,rfl,counts_ok hab⟩⟩
 · injection h with h1 h2 h3
   subst h1 h2 h3
   exact ⟨Nat.le_refl _,hi,rfl,.inl rfl⟩
theorem whole_next {f:Nat→Nat} {n a j:Nat} {ic nl:Bool} {P:Nat→Bool} (hf:Br.Txt f n) (ha:a < n) (h:Br.whole f n a ic nl=.ok P j):a < j∧j ≤ n:=by
 unfold Br.whole at h
 simp only at h
 generalize hi:(if f (a+1) == 94 then a+2 else a+1)=i at h
 have hi1:a+1 ≤ i:=by rw [← hi];split <;> omega
 have hi2:i ≤ n:=by
   rw [← hi];split
   · rename_i hc;have:=hf.lt (beq_iff_eq.1 hc) (by omega);omega
   · omega
 cases hr:Br.items f n a (n+1) i (fun _=>false) false with
 | err c p=>rw [hr] at h;cases h
 | ok Q j' =>
   rw [hr] at h
   unfold Br.ends at h
   injection h with h1 h2
   obtain ⟨-,h3,h4,-⟩:=Br.items_ok hf hi2 hr
   simp only [Bool.false_eq_true,if_false] at h4
   omega
def Ahead (n:Nat) (H:Nat→Nat→Out):Prop:=∀ i g t j g',i < n→H i g=.ok t j g'→i < j∧j ≤ n
theorem atom_next {f:Nat→Nat} {n i g j g':Nat} {ic nl:Bool} {H:Nat→Nat→Out} {t:Tr} (hf:Br.Txt f n) (hH:Ahead n H) (hi:i < n) (h:atom f n ic nl H i g=.ok t j g'):i < j∧j ≤ n:=by
 unfold atom at h
 split at h
 · exact hH i g t j g' hi h
 split at h
 · cases hw:Br.whole f n i ic nl with
   | err c p=>rw [hw] at h;cases h
   | ok P k =>
     rw [hw] at h
     injection h with h1 h2 h3
     subst h2
     exact whole_next hf hi hw
 split at h
 · split at h
   · rename_i hc
     injection h with h1 h2 h3
     have:i+1 < n:=by
       by_cases hl:i+1 < n
       · exact hl
       · rw [hf.2 (i+1) (by omega)] at hc;exact absurd hc (by decide)
     omega
   · cases h
 split at h
 · injection h with h1 h2 h3;omega
 · injection h with h1 h2 h3;omega
theorem piece_next {f:Nat→Nat} {n i g j g':Nat} {ic nl:Bool} {H:Nat→Nat→Out} {t:Tr} (hf:Br.Txt f n) (hH:Ahead n H) (hi:i < n) (h:piece f n ic nl H i g=.ok t j g'):i < j∧j ≤ n:=by
 unfold piece at h
 split at h
 · injection h with h1 h2 h3;omega
 split at h
 · injection h with h1 h2 h3;omega
 split at h
 · cases h
 cases ha:atom f n ic nl H i g with
 | err c p=>rw [ha] at h;cases h
 | ok u k g2 =>
   rw [ha] at h
   have h1:=atom_next hf hH hi ha
   have h2:=rep_ok h hf h1.2
   omega
theorem branch_next {f:Nat→Nat} {n:Nat} {ic nl:Bool} {H:Nat→Nat→Out} (hf:Br.Txt f n) (hH:Ahead n H):∀ {k:Nat} {l:List Tr} {i g j g':Nat} {t:Tr},i ≤ n→branch f n ic nl H k l i g=.ok t j g'→i ≤ j∧j ≤ n
 | 0,_,_,_,_,_,_,_,h=>by cases h
 | k+1,l,i,g,j,g',t,hi,h=>by
   unfold branch at h
   split at h
   · injection h with h1 h2 h3;omega
   · rename_i hc
     cases hp:piece f n ic nl H i g with
     | err c p=>rw [hp] at h;cases h
     | ok u m g2 =>
       rw [hp] at h
       have h1:=piece_next hf hH (by omega) hp
       have h2:=branch_next hf hH h1.2 h
       omega
theorem alts_next {f:Nat→Nat} {n:Nat} {ic nl:Bool} {H:Nat→Nat→Out} (hf:Br.Txt f n) (hH:Ahead n H):∀ {k:Nat} {l:List Tr} {i g j g':Nat} {t:Tr},i ≤ n→alts f n ic nl H k l i g=.ok t j g'→i ≤ j∧j ≤ n
 | 0,_,_,_,_,_,_,_,h=>by cases h
 | k+1,l,i,g,j,g',t,hi,h=>by
   unfold alts at h
   cases hp:branch f n ic nl H (n+1) [] i g with
   | err c p=>rw [hp] at h;cases h
   | ok u m g2 =>
     rw [hp] at h
     have h1:=branch_next hf hH hi hp
     simp only at h
     split at h
     · rename_i hc
       have:=hf.lt hc (by omega)
       have h2:=alts_next hf hH (by omega) h
       omega
     · injection h with h3 h4 h5;omega
theorem group_next {f:Nat→Nat} {n:Nat} {ic nl:Bool} (hf:Br.Txt f n):∀ r,Ahead n (group f n ic nl r)
 | 0=>fun i g t j g' _ h=>by cases h
 | r+1=>fun i g t j g' hi h=>by
   unfold group at h
   cases hp:alts f n ic nl (group f n ic nl r) (n+1) [] (i+1) (g+1) with
   | err c p=>rw [hp] at h;cases h
   | ok u m g2 =>
     rw [hp] at h
     have h1:=alts_next hf (group_next hf r) (by omega) hp
     simp only at h
     split at h
     · rename_i hc
       have:=hf.lt hc (by omega)
       injection h with h3 h4 h5
       omega
     · cases h
theorem form_leaf (k:Int) (h:k=1 ∨ k=3 ∨ k=4):(Tr.leaf k).InForm:=.mk _ (.inl ⟨h,rfl,rfl,rfl,rfl,rfl,rfl,rfl,rfl,rfl⟩) (fun u hu=>by cases hu)
theorem form_bytes (P:Nat→Bool):(Tr.bytes P).InForm:=.mk _ (.inr (.inl ⟨rfl,rfl,rfl,rfl,rfl,rfl⟩)) (fun u hu=>by cases hu)
theorem form_many (k:Int) (h:k=5 ∨ k=6) (l:List Tr) (h2:2 ≤ l.length) (hl:∀ u,u ∈ l→u.InForm):(Tr.many k l).InForm :=
 .mk _ (.inr (.inr (.inl ⟨h,rfl,rfl,rfl,rfl,h2,rfl,rfl,rfl,rfl⟩))) hl
theorem form_grp (m:Int) (t:Tr) (h1:1 ≤ m) (h2:m ≤ 999) (h:t.InForm):(Tr.grp m t).InForm :=
 .mk _ (.inr (.inr (.inr (.inl ⟨rfl,rfl,rfl,rfl,rfl,rfl,h1,h2,rfl,rfl,rfl⟩)))) (fun u hu=>by
   rcases List.mem_cons.1 hu with rfl | hu
   · exact h
   · cases hu)
theorem form_rep (a b:Int) (t:Tr) (h1:0 ≤ a) (h2:a ≤ 255) (h3:b = -1 ∨ (a ≤ b∧b ≤ 255)) (h:t.InForm):(Tr.rep a b t).InForm :=
 .mk _ (.inr (.inr (.inr (.inr ⟨rfl,rfl,rfl,rfl,rfl,rfl,rfl,h1,h2,h3,fun hb=>by cases hb⟩)))) (fun u hu=>by
   rcases List.mem_cons.1 hu with rfl | hu
   · exact h
   · cases hu)
theorem form_several (k:Int) (h:k=5 ∨ k=6) (l:List Tr) (hl:∀ u,u ∈ l→u.InForm):(Tr.several k l).InForm:=by
 match l,hl with
 | [],_=>exact form_leaf 1 (.inl rfl)
 | [t],hl=>exact hl t (by simp)
 | a :: b :: r,hl=>exact form_many k h (a :: b :: r) (by simp) hl
def Right (n d:Nat) (H:Nat→Nat→Out):Prop:=∀ i g t j g',i < n→2 * g ≤ i+d→H i g=.ok t j g'→t.InForm∧2 * g' ≤ j+d
theorem atom_form {f:Nat→Nat} {n d i g j g':Nat} {ic nl:Bool} {H:Nat→Nat→Out} {t:Tr} (hf:Br.Txt f n) (hA:Ahead n H) (hH:Right n d H) (hi:i < n) (hg:2 * g ≤ i+d) (h:atom f n ic nl H i g=.ok t j g'):t.InForm∧2 * g' ≤ j+d:=by
 have hn:=atom_next hf hA hi h
 unfold atom at h
 split at h
 · exact hH i g t j g' hi hg h
 split at h
 · cases hw:Br.whole f n i ic nl with
   | err c p=>rw [hw] at h;cases h
   | ok P k =>
     rw [hw] at h
     injection h with h1 h2 h3
     subst h1 h2 h3
     exact ⟨form_bytes _,by omega⟩
 split at h
 · split at h
   · injection h with h1 h2 h3
     subst h1 h2 h3
     exact ⟨form_bytes _,by omega⟩
   · cases h
 split at h
 · injection h with h1 h2 h3
   subst h1 h2 h3
   exact ⟨form_bytes _,by omega⟩
 · injection h with h1 h2 h3
   subst h1 h2 h3
   exact ⟨form_bytes _,by omega⟩
theorem rep_form {f:Nat→Nat} {n i g j g':Nat} {t u:Tr} (h:rep f n t i g=.ok u j g') (hf:Br.Txt f n) (hi:i ≤ n) (ht:t.InForm):u.InForm:=by
 obtain ⟨-,-,-,rfl | ⟨a,b,rfl,h1,h2,h3⟩⟩:=rep_ok h hf hi
 · exact ht
 · exact form_rep a b t h1 h2 h3 ht
theorem piece_form {f:Nat→Nat} {n d i g j g':Nat} {ic nl:Bool} {H:Nat→Nat→Out} {t:Tr} (hf:Br.Txt f n) (hA:Ahead n H) (hH:Right n d H) (hi:i < n) (hg:2 * g ≤ i+d) (h:piece f n ic nl H i g=.ok t j g'):t.InForm∧2 * g' ≤ j+d:=by
 unfold piece at h
 split at h
 · injection h with h1 h2 h3;subst h1 h2 h3;exact ⟨form_leaf 3 (by omega),by omega⟩
 split at h
 · injection h with h1 h2 h3;subst h1 h2 h3;exact ⟨form_leaf 4 (by omega),by omega⟩
 split at h
 · cases h
 cases ha:atom f n ic nl H i g with
 | err c p=>rw [ha] at h;cases h
 | ok u k g2 =>
   rw [ha] at h
   have h1:=atom_next hf hA hi ha
   have h2:=rep_ok h hf h1.2
   have h3:=atom_form hf hA hH hi hg ha
   exact ⟨rep_form h hf h1.2 h3.1,by omega⟩
theorem branch_form {f:Nat→Nat} {n d:Nat} {ic nl:Bool} {H:Nat→Nat→Out} (hf:Br.Txt f n) (hA:Ahead n H) (hH:Right n d H):∀ {k:Nat} {l:List Tr} {i g j g':Nat} {t:Tr},i ≤ n→(∀ u,u ∈ l→u.InForm)→2 * g ≤ i+d→branch f n ic nl H k l i g=.ok t j g'→t.InForm∧2 * g' ≤ j+d
 | 0,_,_,_,_,_,_,_,_,_,h=>by cases h
 | k+1,l,i,g,j,g',t,hi,hl,hg,h=>by
   unfold branch at h
   split at h
   · injection h with h1 h2 h3;subst h1 h2 h3;exact ⟨form_several 5 (.inl rfl) l hl,hg⟩
   · rename_i hc
     cases hp:piece f n ic nl H i g with
     | err c p=>rw [hp] at h;cases h
     | ok u m g2 =>
       rw [hp] at h
       have h1:=piece_next hf hA (by omega) hp
       have h2:=piece_form hf hA hH (by omega) hg hp
       refine branch_form hf hA hH h1.2 (fun x hx=>?_) h2.2 h
       rcases List.mem_append.1 hx with hx | hx
       · exact hl x hx
       · rw [List.mem_singleton.1 hx];exact h2.1
theorem alts_form {f:Nat→Nat} {n d:Nat} {ic nl:Bool} {H:Nat→Nat→Out} (hf:Br.Txt f n) (hA:Ahead n H) (hH:Right n d H):∀ {k:Nat} {l:List Tr} {i g j g':Nat} {t:Tr},i ≤ n→(∀ u,u ∈ l→u.InForm)→2 * g ≤ i+d→alts f n ic nl H k l i g=.ok t j g'→t.InForm∧2 * g' ≤ j+d
 | 0,_,_,_,_,_,_,_,_,_,h=>by cases h
 | k+1,l,i,g,j,g',t,hi,hl,hg,h=>by
   unfold alts at h
   cases hp:branch f n ic nl H (n+1) [] i g with
   | err c p=>rw [hp] at h;cases h
   | ok u m g2 =>
     rw [hp] at h
     have h1:=branch_next hf hA hi hp
     have h2:=branch_form hf hA hH hi (fun x hx=>by cases hx) hg hp
     have hl2:∀ x,x ∈ l ++ [u]→x.InForm:=fun x hx=>by
       rcases List.mem_append.1 hx with hx | hx
       · exact hl x hx
       · rw [List.mem_singleton.1 hx];exact h2.1
     simp only at h
     split at h
     · rename_i hc
       have:=hf.lt hc (by omega)
       exact alts_form hf hA hH (by omega) hl2 (by omega) h
     · injection h with h3 h4 h5;subst h3 h4 h5;exact ⟨form_several 6 (.inr rfl) _ hl2,h2.2⟩
theorem group_right {f:Nat→Nat} {n:Nat} {ic nl:Bool} (hf:Br.Txt f n) (hn:n ≤ 1024):∀ r d,r+d ≤ 32→Right n d (group f n ic nl r)
 | 0,d,_=>fun i g t j g' _ _ h=>by cases h
 | r+1,d,hd=>fun i g t j g' hi hg h=>by
   unfold group at h
   cases hp:alts f n ic nl (group f n ic nl r) (n+1) [] (i+1) (g+1) with
   | err c p=>rw [hp] at h;cases h
   | ok u m g2 =>
     rw [hp] at h
     have h1:=alts_next hf (group_next hf r) (by omega) hp
     have h2:=alts_form hf (group_next hf r) (group_right hf hn r (d+1) (by omega)) (by omega) (fun x hx=>by cases hx) (by omega) hp
     simp only at h
     split at h
     · rename_i hc
       injection h with h3 h4 h5
       subst h3 h4 h5
       exact ⟨form_grp _ _ (by omega) (by omega) h2.1,by omega⟩
     · cases h
end Ep
end Go.Proofs.YtfcilopifjddpaaGreatDoor
namespace Go.Proofs.YtfcilopifjddpaaGreatDoor
namespace Tr
mutual
def dpT:Tr→Nat
 | .node k _ _ _ _ s _ lo hi _=>if s.length=0 then 1 else dpS s+(if k=8∧¬ (lo=0∧(hi=1 ∨ hi = -1)) then 2 else 1)
def dpS:List Tr→Nat
 | []=>0
 | t :: l=>max (dpT t) (dpS l)
end
theorem dpS_append:∀ (l m:List Tr),dpS (l ++ m)=max (dpS l) (dpS m)
 | [],m=>by simp [dpS]
 | t :: l,m=>by rw [List.cons_append,dpS,dpS,dpS_append l m];omega
theorem dpS_take (l:List Tr) (m:Nat) (x:Tr) (h:l[m]? = some x):dpS (l.take (m+1))=max (dpS (l.take m)) (dpT x):=by
 rw [List.take_add_one,h,Option.toList_some,dpS_append,dpS,dpS];omega
theorem dpT_le_dpS {l:List Tr} {x:Tr} (h:x ∈ l):dpT x ≤ dpS l:=by
 induction l with
 | nil=>cases h
 | cons a l ih =>
   rw [dpS]
   rcases List.mem_cons.1 h with rfl | h
   · omega
   · have:=ih h;omega
end Tr
namespace Br
end Br
namespace Ep
end Ep
end Go.Proofs.YtfcilopifjddpaaGreatDoor
namespace Go.Proofs.YtfcilopifjddpaaGreatDoor
open Go.RowKit
theorem allTen {w:World} {b:Nat} {x0 x1 x2 x3 x4 x5 x6 x7 x8 x9:Value} {t:TypeId} (h:w.heap[b]? = some (.cells #[x0,x1,x2,x3,x4,x5,x6,x7,x8,x9] t)):w.cell? ⟨b,0,none⟩=some x0∧w.cell? ⟨b,1,none⟩=some x1∧w.cell? ⟨b,2,none⟩=some x2∧w.cell? ⟨b,3,none⟩=some x3∧w.cell? ⟨b,4,none⟩=some x4∧w.cell? ⟨b,5,none⟩=some x5∧w.cell? ⟨b,6,none⟩=some x6∧w.cell? ⟨b,7,none⟩=some x7∧w.cell? ⟨b,8,none⟩=some x8∧w.cell? ⟨b,9,none⟩=some x9:=by
 simp [World.cell?,h]
theorem Tr.dpT_eq (t:Tr):t.dpT=if t.subs.length=0 then 1 else Tr.dpS t.subs+(if t.kind=8∧¬ (t.least=0∧(t.most=1 ∨ t.most = -1)) then 2 else 1):=by
 cases t;rw [Tr.dpT];rfl
theorem treedepth_any:∀ t:Tr,t.dpT ≤ 1000→∀ (w:World) (B:Nat→Prop) (v:Value),NodeV w B v t→Calls Tryz.prog 73 #[v] w (SizeEnd t.dpT w):=by
 intro t
 induction t using Tr.rec_subs with
 | h t ih =>
   intro hd w B v hv
   obtain ⟨s,rfl,hs⟩:=hv
   obtain ⟨p,cap,rfl,hlen⟩:=hs.slice
   have heq:=Tr.dpT_eq t
   rw [heq] at hd ⊢
   have HST:=Lib.hid (fun w'=>stays_is t (.slice p t.subs.length cap) ⟨_,_,_,rfl⟩ _ rfl w')
   clear heq
   generalize hts:t.subs=ts at *
   have HTS:=Lib.hid hts;have IH:=Lib.hid ih;have HS:=Lib.hid hs
   clear ih hs hts
   unfold Tr.cells at *
   by_cases h0:ts.length=0
   · rw [if_pos h0]
     rw [h0]
     clear hd hlen HST HTS IH HS
     go_enter Tryz.func73,Tryz.ntmps73
     go_wp2
     go_ret
     exact ⟨rfl,by go_grown⟩
   · rw [if_neg h0] at hd ⊢
     generalize hD:Tr.dpS ts+(if t.kind=8∧¬ (t.least=0∧(t.most=1 ∨ t.most = -1)) then 2 else 1)=D at hd ⊢
     have HD:=Lib.hid (show D ≤ 1000∧Tr.dpS ts+1 ≤ D∧D ≤ Tr.dpS ts+2 from ⟨hd,by rw [← hD];split <;> omega,by rw [← hD];split <;> omega⟩)
     have HDE:=Lib.hid hD
     have e0:((ts.length:Int) == 0)=false:=by simpa using h0
     have e0':(ts.length == 0)=false:=by simpa using h0
     have Z0:=Lib.hid (heap_alloc_new w (.cells #[.int .i64 t.kind,.int .u64 (Oc.U t.w0),.int .u64 (Oc.U t.w1),.int .u64 (Oc.U t.w2),.int .u64 (Oc.U t.w3),.slice p ts.length cap,.int .i64 t.num,.int .i64 t.least,.int .i64 t.most,.bool t.bare] 28))
     have HW:=Lib.hid (show Below w.heap.size w (w.alloc (.cells #[.int .i64 t.kind,.int .u64 (Oc.U t.w0),.int .u64 (Oc.U t.w1),.int .u64 (Oc.U t.w2),.int .u64 (Oc.U t.w3),.slice p ts.length cap,.int .i64 t.num,.int .i64 t.least,.int .i64 t.most,.bool t.bare] 28)) from (Below.refl _ _).alloc (Nat.le_refl _) _)
     have hz:w.heap.size < (w.alloc (.cells #[.int .i64 t.kind,.int .u64 (Oc.U t.w0),.int .u64 (Oc.U t.w1),.int .u64 (Oc.U t.w2),.int .u64 (Oc.U t.w3),.slice p ts.length cap,.int .i64 t.num,.int .i64 t.least,.int .i64 t.most,.bool t.bare] 28)).heap.size:=by simp
     clear hd h0 hD
     go_enter Tryz.func73,Tryz.ntmps73
     go_wp2
     generalize w.alloc (.cells #[.int .i64 t.kind,.int .u64 (Oc.U t.w0),.int .u64 (Oc.U t.w1),.int .u64 (Oc.U t.w2),.int .u64 (Oc.U t.w3),.slice p ts.length cap,.int .i64 t.num,.int .i64 t.least,.int .i64 t.most,.bool t.bare] 28)=W0 at *
     go_loopw [3,13] (fun gv iv wr=>∃ m:Nat,iv=.int .i64 m∧m ≤ ts.length∧gv=.int .i64 (Tr.dpS (ts.take m):Nat)∧Hid (Below W0.heap.size W0 wr)) (fun _ iv _=>ts.length - (intOf iv).toNat)
     case atStart=>exact ⟨0,rfl,Nat.zero_le _,rfl,Lib.hid (Below.refl _ _)⟩
     case round =>
       obtain ⟨m,rfl,hm,rfl,HB⟩:=hrel
       have wm:IntKind.i64.wrap ((m:Int)+1)=(m:Int)+1:=IntWalk.i64_in _ (by omega)
       have HBW:=Lib.hid (HW.out.trans (HB.out.mono HW.out.size))
       by_cases hlt:m < ts.length
       · obtain ⟨x,hx⟩:∃ x,ts[m]? = some x:=⟨_,List.getElem?_eq_getElem hlt⟩
         obtain ⟨b1,o1,s1,rfl,-,t1,sub1⟩:=HS.out.get hx
         obtain ⟨d0,d1,d2,d3,d4,d5,d6,d7,d8,d9⟩:=t1.keep (HBW.out.block _ t1.lt)
         have hmem:=List.mem_of_getElem? hx
         obtain ⟨p1,c1,rfl,hl1⟩:=sub1.slice
         have hdx:x.dpT ≤ 1000:=by have:=Tr.dpT_le_dpS hmem;have:=HD.out;omega
         have HC:=Lib.hid (fun w9 hb=>IH.out x hmem hdx w9 B (.agg (x.cells (.slice p1 x.subs.length c1))) ⟨_,rfl,sub1.later hb⟩)
         have HSTP:=Lib.hid (Tr.dpS_take ts m x hx)
         clear t1 sub1 hmem hx hdx
         generalize hn:Tr.dpS (ts.take m)=n at *
         clear hn
         unfold Tr.cells at HC
         go_wp2_with fail
         generalize hw1:World.alloc wr _=w1
         have hb1:Below wr.heap.size wr w1:=by rw [← hw1];exact (Below.refl _ _).alloc (Nat.le_refl _) _
         clear hw1
         refine (HC.out w1 (HBW.out.trans (hb1.mono HBW.out.size))).mono ?_
         rintro e w2 ⟨rfl,hb2⟩
         have HB2:=Lib.hid (HB.out.trans ((hb1.trans (hb2.mono hb1.size)).mono HB.out.size))
         clear d0 d1 d2 d3 d4 d5 d6 d7 d8 d9 hb1 hb2 HC
         generalize x.dpT=N at *
         go_wp2
         all_goals
           exact ⟨⟨m+1,by go_num,by omega,by rw [HSTP.out];simp;try omega,HB2⟩,by simp [intOf];omega⟩
       · obtain rfl:m=ts.length:=by omega
         rw [List.take_length] at *
         have Z1:=Lib.hid (keep_blk (HB.out.mono (Nat.le_refl _)) Z0.out)
         have hdp:=HD.out
         have w2':IntKind.i64.wrap ((Tr.dpS ts:Int)+2)=(Tr.dpS ts:Int)+2:=IntWalk.i64_in _ (by omega)
         have w1':IntKind.i64.wrap ((Tr.dpS ts:Int)+1)=(Tr.dpS ts:Int)+1:=IntWalk.i64_in _ (by omega)
         have hde:=HDE.out
         clear hdp
         obtain ⟨d0,d1,d2,d3,d4,d5,d6,d7,d8,d9⟩:=allTen Z1.out
         by_cases h8:t.kind=8
         · rw [h8] at HST Z1 HDE d0 hde
           by_cases hst:t.least=0∧(t.most=1 ∨ t.most = -1)
           · have hst':decide (t.least=0∧(t.most=1 ∨ t.most = -1))=true:=by simpa using hst
             rw [hst'] at HST
             rw [if_neg (by intro h;exact h.2 hst)] at hde
             have HDF:=Lib.hid hde
             clear hst hst' hde
             go_wp2_with fail
             refine (HST.out _).mono ?_
             rintro e w5 ⟨rfl,hb5⟩
             have HB5:=Lib.hid (HBW.out.trans (hb5.mono HBW.out.size))
             clear hb5
             go_wp2
             go_ret
             exact ⟨ret_int (by have:=HDF.out;omega),HB5.out⟩
           · have hst':decide (t.least=0∧(t.most=1 ∨ t.most = -1))=false:=by simpa using hst
             rw [hst'] at HST
             rw [if_pos ⟨rfl,hst⟩] at hde
             have HDF:=Lib.hid hde
             clear hst hst' hde
             go_wp2_with fail
             refine (HST.out _).mono ?_
             rintro e w5 ⟨rfl,hb5⟩
             have HB5:=Lib.hid (HBW.out.trans (hb5.mono HBW.out.size))
             clear hb5
             go_wp2
             go_ret
             exact ⟨ret_int (by have:=HDF.out;omega),HB5.out⟩
         · rw [if_neg (by intro h;exact h8 h.1)] at hde
           have e8:(t.kind == 8)=false:=by simpa using h8
           have HDF:=Lib.hid hde
           clear h8 hde
           go_wp2
           go_ret
           exact ⟨ret_int (by have:=HDF.out;omega),HBW.out⟩
theorem check_any (t:Tr) (hf:t.InForm) (hd:t.dpT ≤ 200) (hz:t.szT ≤ 2000) (w:World) (B:Nat→Prop) (v:Value) (hv:NodeV w B v t):Calls Tryz.prog 36 #[v] w fun e w'=>e=.returned .nilIface∧Below w.heap.size w w':=by
 obtain ⟨s,rfl,hs⟩:=hv
 have H1:=Lib.hid (fun w' hb=>inform_yes t hf w' B (.agg (t.cells s)) ⟨s,rfl,TreesAt.later (w':=w') hs hb⟩)
 have H2:=Lib.hid (fun w' hb=>treedepth_any t (by omega) w' B (.agg (t.cells s)) ⟨s,rfl,TreesAt.later (w':=w') hs hb⟩)
 have H3:=Lib.hid (fun w' hb=>treesize_any t hf w' B (.agg (t.cells s)) ⟨s,rfl,TreesAt.later (w':=w') hs hb⟩)
 obtain ⟨p,cap,rfl,hlen⟩:=hs.slice
 have z0:=heap_alloc_new w (.cells (t.cells (.slice p t.subs.length cap)) 28)
 have Z0:=Lib.hid z0
 have e1:decide ((200:Int) < t.dpT)=false:=by simp;omega
 have e2:decide ((2000:Int) < t.szT)=false:=by simp;omega
 have e1':decide (200 < t.dpT)=false:=by simp;omega
 have e2':decide (2000 < t.szT)=false:=by simp;omega
 clear hs hf z0 hd hz
 unfold Tr.cells at *
 go_enter Tryz.func36,Tryz.ntmps36
 go_wp2_with (first
   | (refine wpList_load_row rfl 28 (.tmp 1) rfl w.heap.size rfl 28 _ (0,0) _ Z0.out Tryz.underlying28 rfl (by kernel_rfl) ?_)
   | fail)
 refine (H1.out _ ((Below.refl _ _).alloc (Nat.le_refl _) _)).mono ?_
 rintro e w1 ⟨rfl,hb1⟩
 have Z1:=Lib.hid (keep_blk hb1 Z0.out)
 have HB1:=Lib.hid (((Below.refl w.heap.size w).alloc (Nat.le_refl _) _).trans (hb1.mono (by simp)))
 clear hb1 Z0
 go_wp2_with (first
   | (refine wpList_load_row rfl 28 (.tmp 1) rfl w.heap.size rfl 28 _ (0,0) _ Z1.out Tryz.underlying28 rfl (by kernel_rfl) ?_)
   | fail)
 refine (H2.out _ HB1.out).mono ?_
 rintro e w2 ⟨rfl,hb2⟩
 have Z2:=Lib.hid (keep_blk hb2 Z1.out)
 have HB2:=Lib.hid (HB1.out.trans (hb2.mono HB1.out.size))
 clear hb2 Z1
 go_wp2_with (first
   | (refine wpList_load_row rfl 28 (.tmp 1) rfl w.heap.size rfl 28 _ (0,0) _ Z2.out Tryz.underlying28 rfl (by kernel_rfl) ?_)
   | fail)
 refine (H3.out _ HB2.out).mono ?_
 rintro e w3 ⟨rfl,hb3⟩
 have HB3:=Lib.hid (HB2.out.trans (hb3.mono HB2.out.size))
 clear hb3
 go_wp2
 go_ret
 exact ⟨rfl,HB3.out⟩
end Go.Proofs.YtfcilopifjddpaaGreatDoor
namespace Go.Proofs.YtfcilopifjddpaaGreatDoor
open Go.RowKit
theorem append_both {P:Program} (w:World) {ops:Array Oper} {rest:List Oper} {o:Oper} {a:Act} {Q:Exit→Act→World→Prop} (hgd:o.guard=none) (s x:Operand) (t:TypeId)
   (ho:o.op=.call { callee:=.builtin .append,args:=#[s,x],argTypes:=#[t,t] })
   (base:Nat) (e:TypeId) (i:TypeInfo) (z:Value) (size bytes:Nat) (ht:P.underlying t=some (.slice e)) (hi:P.info? e=some i) (hz:i.zero=some z)
   (hsize:i.size=size) (hby:i.bytes=bytes) (hzs:z.cells.size=size) (hsz:0 < size)
   (v:Value) (n:Nat) (xs:List Value) (hs:a.eval s=v) (hown:w.ownsRow base e size v n xs)
   (p:Option Addr) (m c:Nat) (news:List Value) (hx:a.eval x=.slice p m c) (h0:p=none→m=0∧c=0) (hl:news.length=m * size) (hnews:∀ ad,p=some ad→∀ j u,news[j]? = some u→w.cell? (ad.add j)=some u) (h1:∀ u ∈ news,u.oneCell'=true)
   (h63:n+m ≤ maxLen) (hbytes:(n+m) * bytes ≤ 140737488355328) (hbase:base ≤ w.heap.size)
   (h:∀ v' w',w'.ownsRow base e size v' (n+m) (xs ++ news)→w.grownBy w' v.ownBlock→(v'=.slice none 0 0 ↔ v=.slice none 0 0∧m=0)→wpList P ops Q rest (a.put o.dst v') w'):wpList P ops Q (o :: rest) a w:=by
 cases p with
 | some ad=>exact wpList_append_own w hgd s x t ho base e i z size bytes ht hi hz hsize hby hzs hsz v n xs hs hown ad m c news hx hl (hnews ad rfl) h1 h63 hbytes hbase h
 | none =>
   obtain ⟨rfl,rfl⟩:=h0 rfl
   have hn:news=[]:=List.eq_nil_of_length_eq_zero (by rw [hl];omega)
   subst hn
   exact wpList_append_own_none hgd s x t ho base e i size ht hi v n xs hs hown hx (h v w (by simpa using hown) ⟨rfl,rfl,rfl,Nat.le_refl _,fun _ _ _=>rfl⟩ (by simp))
end Go.Proofs.YtfcilopifjddpaaGreatDoor
namespace Go.Proofs.YtfcilopifjddpaaGreatDoor
open Go.RowKit
namespace Tr
def fits (k s:Int):Bool:=if k=5 then (s != 1 && s != 5 && s != 6) else if k=6 then s != 6 else if k=8 then (s == 2 || s == 7) else true
mutual
def shapeT:Tr→Bool
 | .node k _ _ _ _ s _ _ _ br=>shapeS k s && !br
def shapeS (k:Int):List Tr→Bool
 | []=>true
 | t :: l=>fits k t.kind && shapeT t && shapeS k l
end
mutual
def numsT:Tr→List Int
 | .node k _ _ _ _ s n _ _ _=>(if k=7 then [n] else []) ++ numsS s
def numsS:List Tr→List Int
 | []=>[]
 | t :: l=>numsT t ++ numsS l
end
mutual
def nestT:Tr→Nat
 | .node k _ _ _ _ s _ _ _ _=>nestS s+(if k=7 then 1 else 0)
def nestS:List Tr→Nat
 | []=>0
 | t :: l=>max (nestT t) (nestS l)
end
theorem shapeT_eq (t:Tr):t.shapeT=(shapeS t.kind t.subs && !t.bare):=by cases t;rw [shapeT];rfl
theorem numsT_eq (t:Tr):t.numsT=(if t.kind=7 then [t.num] else []) ++ numsS t.subs:=by cases t;rw [numsT];rfl
theorem nestT_eq (t:Tr):t.nestT=nestS t.subs+(if t.kind=7 then 1 else 0):=by cases t;rw [nestT];rfl
theorem numsS_append:∀ a b:List Tr,numsS (a ++ b)=numsS a ++ numsS b
 | [],b=>by simp [numsS]
 | t :: a,b=>by rw [List.cons_append,numsS,numsS,numsS_append a b,List.append_assoc]
theorem numsS_take (l:List Tr) (m:Nat) (x:Tr) (h:l[m]? = some x):numsS (l.take (m+1))=numsS (l.take m) ++ x.numsT:=by
 rw [List.take_add_one,h,Option.toList_some,numsS_append,numsS,numsS,List.append_nil]
theorem numsS_le (l:List Tr) (m:Nat):(numsS (l.take m)).length ≤ (numsS l).length:=by
 have h:=congrArg (fun x=>(numsS x).length) (List.take_append_drop m l)
 simp only [numsS_append,List.length_append] at h
 omega
theorem numsT_le {l:List Tr} {x:Tr} (h:x ∈ l):x.numsT.length ≤ (numsS l).length:=by
 obtain ⟨m,hm,rfl⟩:=List.getElem_of_mem h
 have h1:=numsS_take l m l[m] (List.getElem?_eq_getElem hm)
 have h2:=numsS_le l (m+1)
 rw [h1,List.length_append] at h2
 omega
theorem nestS_append:∀ a b:List Tr,nestS (a ++ b)=max (nestS a) (nestS b)
 | [],b=>by simp [nestS]
 | t :: a,b=>by rw [List.cons_append,nestS,nestS,nestS_append a b];omega
theorem nestS_take (l:List Tr) (m:Nat) (x:Tr) (h:l[m]? = some x):nestS (l.take (m+1))=max (nestS (l.take m)) x.nestT:=by
 rw [List.take_add_one,h,Option.toList_some,nestS_append,nestS,nestS];omega
theorem nestS_le (l:List Tr) (m:Nat):nestS (l.take m) ≤ nestS l:=by
 have h:=congrArg nestS (List.take_append_drop m l)
 rw [nestS_append] at h
 omega
theorem nestT_le {l:List Tr} {x:Tr} (h:x ∈ l):x.nestT ≤ nestS l:=by
 obtain ⟨m,hm,rfl⟩:=List.getElem_of_mem h
 have h1:=nestS_take l m l[m] (List.getElem?_eq_getElem hm)
 have h2:=nestS_le l (m+1)
 rw [h1] at h2
 omega
theorem shapeS_append (k:Int):∀ a b:List Tr,shapeS k (a ++ b)=(shapeS k a && shapeS k b)
 | [],b=>by simp [shapeS]
 | t :: a,b=>by rw [List.cons_append,shapeS,shapeS,shapeS_append k a b];simp [Bool.and_assoc]
theorem shapeS_take (k:Int) (l:List Tr) (m:Nat) (x:Tr) (h:l[m]? = some x):shapeS k (l.take (m+1))=(shapeS k (l.take m) && (fits k x.kind && x.shapeT)):=by
 rw [List.take_add_one,h,Option.toList_some,shapeS_append,shapeS,shapeS];simp
theorem shapeS_no {k:Int} {l:List Tr} {m:Nat} (h:shapeS k (l.take m)=false):shapeS k l=false:=by
 have e:=congrArg (shapeS k) (List.take_append_drop m l)
 rw [shapeS_append,h] at e
 rw [← e];rfl
end Tr
theorem maystand_any (k s:Int) (w:World):Calls Tryz.prog 109 #[.int .i64 k,.int .i64 s] w fun e w'=>e=.returned (.bool (Tr.fits k s))∧w'=w:=by
 obtain ⟨v,hv⟩:∃ v,Tr.fits k s=v:=⟨_,rfl⟩
 rw [hv]
 unfold Tr.fits at hv
 by_cases h5:k=5
 · subst h5
   rw [if_pos rfl] at hv
   cases h1:(s != 1) <;> cases h2:(s != 5) <;> cases h3:(s != 6) <;> (
     rw [h1,h2,h3] at hv
     simp at hv
     subst hv
     go_enter Tryz.func109,Tryz.ntmps109
     go_wp2
     go_ret
     exact ⟨rfl,rfl⟩)
 · rw [if_neg h5] at hv
   have k5:(k == 5)=false:=by simpa using h5
   by_cases h6:k=6
   · subst h6
     rw [if_pos rfl] at hv
     cases h3:(s != 6) <;> (
       rw [h3] at hv
       subst hv
       go_enter Tryz.func109,Tryz.ntmps109
       go_wp2
       go_ret
       exact ⟨rfl,rfl⟩)
   · rw [if_neg h6] at hv
     have k6:(k == 6)=false:=by simpa using h6
     by_cases h8:k=8
     · subst h8
       rw [if_pos rfl] at hv
       cases h1:(s == 2) <;> cases h2:(s == 7) <;> (
         rw [h1,h2] at hv
         simp at hv
         subst hv
         go_enter Tryz.func109,Tryz.ntmps109
         go_wp2
         go_ret
         exact ⟨rfl,rfl⟩)
     · rw [if_neg h8] at hv
       subst hv
       have k8:(k == 8)=false:=by simpa using h8
       go_enter Tryz.func109,Tryz.ntmps109
       go_wp2
       go_ret
       exact ⟨rfl,rfl⟩
theorem nesting_any:∀ t:Tr,t.nestT ≤ 1000000→∀ (w:World) (B:Nat→Prop) (v:Value),NodeV w B v t→Calls Tryz.prog 38 #[v] w (SizeEnd t.nestT w):=by
 intro t
 induction t using Tr.rec_subs with
 | h t ih =>
   intro hd w B v hv
   obtain ⟨s,rfl,hs⟩:=hv
   obtain ⟨p,cap,rfl,hlen⟩:=hs.slice
   have heq:=Tr.nestT_eq t
   rw [heq] at hd ⊢
   clear heq
   generalize hts:t.subs=ts at *
   have IH:=Lib.hid ih;have HS:=Lib.hid hs
   clear ih hs
   clear hts
   unfold Tr.cells at *
   have hle:Tr.nestS ts ≤ 1000000:=by omega
   generalize hD:Tr.nestS ts+(if t.kind=7 then 1 else 0)=D at *
   have HDE:=Lib.hid hD
   have Z0:=Lib.hid (heap_alloc_new w (.cells #[.int .i64 t.kind,.int .u64 (Oc.U t.w0),.int .u64 (Oc.U t.w1),.int .u64 (Oc.U t.w2),.int .u64 (Oc.U t.w3),.slice p ts.length cap,.int .i64 t.num,.int .i64 t.least,.int .i64 t.most,.bool t.bare] 28))
   have HW:=Lib.hid (show Below w.heap.size w (w.alloc (.cells #[.int .i64 t.kind,.int .u64 (Oc.U t.w0),.int .u64 (Oc.U t.w1),.int .u64 (Oc.U t.w2),.int .u64 (Oc.U t.w3),.slice p ts.length cap,.int .i64 t.num,.int .i64 t.least,.int .i64 t.most,.bool t.bare] 28)) from (Below.refl _ _).alloc (Nat.le_refl _) _)
   have hz:w.heap.size < (w.alloc (.cells #[.int .i64 t.kind,.int .u64 (Oc.U t.w0),.int .u64 (Oc.U t.w1),.int .u64 (Oc.U t.w2),.int .u64 (Oc.U t.w3),.slice p ts.length cap,.int .i64 t.num,.int .i64 t.least,.int .i64 t.most,.bool t.bare] 28)).heap.size:=by simp
   have HD:=Lib.hid hd
   clear hd hD
   go_enter Tryz.func38,Tryz.ntmps38
   go_wp2
   generalize w.alloc (.cells #[.int .i64 t.kind,.int .u64 (Oc.U t.w0),.int .u64 (Oc.U t.w1),.int .u64 (Oc.U t.w2),.int .u64 (Oc.U t.w3),.slice p ts.length cap,.int .i64 t.num,.int .i64 t.least,.int .i64 t.most,.bool t.bare] 28)=W0 at *
   go_loopw [3,9] (fun gv iv wr=>∃ m:Nat,iv=.int .i64 m∧m ≤ ts.length∧gv=.int .i64 (Tr.nestS (ts.take m):Nat)∧Hid (Below W0.heap.size W0 wr)) (fun _ iv _=>ts.length - (intOf iv).toNat)
   case atStart=>exact ⟨0,rfl,Nat.zero_le _,rfl,Lib.hid (Below.refl _ _)⟩
   case round =>
     obtain ⟨m,rfl,hm,rfl,HB⟩:=hrel
     have wm:IntKind.i64.wrap ((m:Int)+1)=(m:Int)+1:=IntWalk.i64_in _ (by omega)
     have HBW:=Lib.hid (HW.out.trans (HB.out.mono HW.out.size))
     by_cases hlt:m < ts.length
     · obtain ⟨x,hx⟩:∃ x,ts[m]? = some x:=⟨_,List.getElem?_eq_getElem hlt⟩
       obtain ⟨b1,o1,s1,rfl,-,t1,sub1⟩:=HS.out.get hx
       obtain ⟨d0,d1,d2,d3,d4,d5,d6,d7,d8,d9⟩:=t1.keep (HBW.out.block _ t1.lt)
       have hmem:=List.mem_of_getElem? hx
       obtain ⟨p1,c1,rfl,hl1⟩:=sub1.slice
       have hdx:x.nestT ≤ 1000000:=by have:=Tr.nestT_le hmem;omega
       have HC:=Lib.hid (fun w9 hb=>IH.out x hmem hdx w9 B (.agg (x.cells (.slice p1 x.subs.length c1))) ⟨_,rfl,sub1.later hb⟩)
       have HSTP:=Lib.hid (Tr.nestS_take ts m x hx)
       clear t1 sub1 hmem hx hdx
       generalize hn:Tr.nestS (ts.take m)=n at *
       clear hn
       unfold Tr.cells at HC
       go_wp2_with fail
       generalize hw1:World.alloc wr _=w1
       have hb1:Below wr.heap.size wr w1:=by rw [← hw1];exact (Below.refl _ _).alloc (Nat.le_refl _) _
       clear hw1
       refine (HC.out w1 (HBW.out.trans (hb1.mono HBW.out.size))).mono ?_
       rintro e w2 ⟨rfl,hb2⟩
       have HB2:=Lib.hid (HB.out.trans ((hb1.trans (hb2.mono hb1.size)).mono HB.out.size))
       clear d0 d1 d2 d3 d4 d5 d6 d7 d8 d9 hb1 hb2 HC
       generalize x.nestT=N at *
       go_wp2
       all_goals
         exact ⟨⟨m+1,by go_num,by omega,by rw [HSTP.out];simp;try omega,HB2⟩,by simp [intOf];omega⟩
     · obtain rfl:m=ts.length:=by omega
       rw [List.take_length] at *
       have Z1:=Lib.hid (keep_blk (HB.out.mono (Nat.le_refl _)) Z0.out)
       have w1':IntKind.i64.wrap ((Tr.nestS ts:Int)+1)=(Tr.nestS ts:Int)+1:=IntWalk.i64_in _ (by omega)
       have hde:=HDE.out
       obtain ⟨d0,d1,d2,d3,d4,d5,d6,d7,d8,d9⟩:=allTen Z1.out
       by_cases h7:t.kind=7
       · rw [h7] at Z1 d0
         rw [if_pos h7] at hde
         have HDF:=Lib.hid hde
         clear hde HDE HD
         go_wp2
         go_ret
         exact ⟨ret_int (by have:=HDF.out;omega),HBW.out⟩
       · have e7:(t.kind == 7)=false:=by simpa using h7
         rw [if_neg h7] at hde
         have HDF:=Lib.hid hde
         clear hde HDE HD
         go_wp2
         go_ret
         exact ⟨ret_int (by have:=HDF.out;omega),HBW.out⟩
theorem hasshape_any:∀ t:Tr,∀ (w:World) (B:Nat→Prop) (v:Value),NodeV w B v t→Calls Tryz.prog 76 #[v] w fun e w'=>e=.returned (.bool t.shapeT)∧Below w.heap.size w w':=by
 intro t
 induction t using Tr.rec_subs with
 | h t ih =>
   intro w B v hv
   obtain ⟨s,rfl,hs⟩:=hv
   obtain ⟨p,cap,rfl,hlen⟩:=hs.slice
   have heq:=Tr.shapeT_eq t
   rw [heq]
   clear heq
   generalize hts:t.subs=ts at *
   have IH:=Lib.hid ih;have HS:=Lib.hid hs
   clear ih hs hts
   unfold Tr.cells at *
   have HM:=Lib.hid maystand_any
   have Z0:=Lib.hid (heap_alloc_new w (.cells #[.int .i64 t.kind,.int .u64 (Oc.U t.w0),.int .u64 (Oc.U t.w1),.int .u64 (Oc.U t.w2),.int .u64 (Oc.U t.w3),.slice p ts.length cap,.int .i64 t.num,.int .i64 t.least,.int .i64 t.most,.bool t.bare] 28))
   have HW:=Lib.hid (show Below w.heap.size w (w.alloc (.cells #[.int .i64 t.kind,.int .u64 (Oc.U t.w0),.int .u64 (Oc.U t.w1),.int .u64 (Oc.U t.w2),.int .u64 (Oc.U t.w3),.slice p ts.length cap,.int .i64 t.num,.int .i64 t.least,.int .i64 t.most,.bool t.bare] 28)) from (Below.refl _ _).alloc (Nat.le_refl _) _)
   have hz:w.heap.size < (w.alloc (.cells #[.int .i64 t.kind,.int .u64 (Oc.U t.w0),.int .u64 (Oc.U t.w1),.int .u64 (Oc.U t.w2),.int .u64 (Oc.U t.w3),.slice p ts.length cap,.int .i64 t.num,.int .i64 t.least,.int .i64 t.most,.bool t.bare] 28)).heap.size:=by simp
   generalize hD:(Tr.shapeS t.kind ts && !t.bare)=D at *
   have HDE:=Lib.hid hD
   clear hD
   go_enter Tryz.func76,Tryz.ntmps76
   go_wp2
   generalize w.alloc (.cells #[.int .i64 t.kind,.int .u64 (Oc.U t.w0),.int .u64 (Oc.U t.w1),.int .u64 (Oc.U t.w2),.int .u64 (Oc.U t.w3),.slice p ts.length cap,.int .i64 t.num,.int .i64 t.least,.int .i64 t.most,.bool t.bare] 28)=W0 at *
   go_loopw [8] (fun iv wr=>∃ m:Nat,iv=.int .i64 m∧m ≤ ts.length∧Hid (Tr.shapeS t.kind (ts.take m)=true)∧Hid (Below W0.heap.size W0 wr)) (fun iv _=>ts.length - (intOf iv).toNat)
   case atStart=>exact ⟨0,rfl,Nat.zero_le _,Lib.hid rfl,Lib.hid (Below.refl _ _)⟩
   case round =>
     obtain ⟨m,rfl,hm,HT,HB⟩:=hrel
     have wm:IntKind.i64.wrap ((m:Int)+1)=(m:Int)+1:=IntWalk.i64_in _ (by omega)
     have HBW:=Lib.hid (HW.out.trans (HB.out.mono HW.out.size))
     have Z1:=Lib.hid (keep_blk (HB.out.mono (Nat.le_refl _)) Z0.out)
     obtain ⟨e0,e1,e2,e3,e4,e5,e6,e7,e8,e9⟩:=allTen Z1.out
     by_cases hlt:m < ts.length
     · obtain ⟨x,hx⟩:∃ x,ts[m]? = some x:=⟨_,List.getElem?_eq_getElem hlt⟩
       obtain ⟨b1,o1,s1,rfl,-,t1,sub1⟩:=HS.out.get hx
       obtain ⟨d0,d1,d2,d3,d4,d5,d6,d7,d8,d9⟩:=t1.keep (HBW.out.block _ t1.lt)
       have hmem:=List.mem_of_getElem? hx
       obtain ⟨p1,c1,rfl,hl1⟩:=sub1.slice
       have HC:=Lib.hid (fun w9 hb=>IH.out x hmem w9 B (.agg (x.cells (.slice p1 x.subs.length c1))) ⟨_,rfl,sub1.later hb⟩)
       have hst:=Tr.shapeS_take t.kind ts m x hx
       rw [HT.out,Bool.true_and] at hst
       have HST:=Lib.hid hst
       clear t1 sub1 hmem hx hst
       unfold Tr.cells at HC
       go_upto_region 4 with (fail)
       have hzx:=heap_alloc_new wr (.cells #[.int .i64 x.kind,.int .u64 (Oc.U x.w0),.int .u64 (Oc.U x.w1),.int .u64 (Oc.U x.w2),.int .u64 (Oc.U x.w3),.slice p1 x.subs.length c1,.int .i64 x.num,.int .i64 x.least,.int .i64 x.most,.bool x.bare] 28)
       have hbx:Below wr.heap.size wr (wr.alloc (.cells #[.int .i64 x.kind,.int .u64 (Oc.U x.w0),.int .u64 (Oc.U x.w1),.int .u64 (Oc.U x.w2),.int .u64 (Oc.U x.w3),.slice p1 x.subs.length c1,.int .i64 x.num,.int .i64 x.least,.int .i64 x.most,.bool x.bare] 28)):=(Below.refl _ _).alloc (Nat.le_refl _) _
       have Z2:=Lib.hid (keep_blk hbx Z1.out)
       clear Z1 d0 d1 d2 d3 d4 d5 d6 d7 d8 d9 e0 e1 e2 e3 e4 e5 e6 e7 e8 e9
       generalize wr.alloc (.cells #[.int .i64 x.kind,.int .u64 (Oc.U x.w0),.int .u64 (Oc.U x.w1),.int .u64 (Oc.U x.w2),.int .u64 (Oc.U x.w3),.slice p1 x.subs.length c1,.int .i64 x.num,.int .i64 x.least,.int .i64 x.most,.bool x.bare] 28)=w1 at *
       obtain ⟨d0,d1,d2,d3,d4,d5,d6,d7,d8,d9⟩:=allTen hzx
       obtain ⟨e0,e1,e2,e3,e4,e5,e6,e7,e8,e9⟩:=allTen Z2.out
       have HB1:=Lib.hid (HBW.out.trans (hbx.mono HBW.out.size))
       have HBX:=Lib.hid (HB.out.trans (hbx.mono HB.out.size))
       clear hzx hbx
       cases hfit:Tr.fits t.kind x.kind with
       | false =>
         rw [hfit,Bool.false_and] at HST
         have HF:=Lib.hid hfit
         clear hfit
         go_wp2_with fail
         refine (HM.out _ _ _).mono ?_;rintro e w2 ⟨rfl,rfl⟩
         rw [HF.out]
         go_wp2
         go_ret
         exact ⟨ret_bool (by rw [← HDE.out,Tr.shapeS_no HST.out];rfl),HB1.out⟩
       | true =>
         rw [hfit,Bool.true_and] at HST
         have HF:=Lib.hid hfit
         clear hfit
         go_wp2_with fail
         refine (HM.out _ _ _).mono ?_;rintro e w2 ⟨rfl,rfl⟩
         rw [HF.out]
         go_wp2_with fail
         refine (HC.out _ HB1.out).mono ?_;rintro e w3 ⟨rfl,hb3⟩
         have HB3:=Lib.hid (HB1.out.trans (hb3.mono HB1.out.size))
         have HBX3:=Lib.hid (HBX.out.trans (hb3.mono HBX.out.size))
         clear hb3 d0 d1 d2 d3 d4 d5 d6 d7 d8 d9 e0 e1 e2 e3 e4 e5 e6 e7 e8 e9 HC
         cases hsx:x.shapeT with
         | false =>
           rw [hsx] at HST
           clear hsx
           go_wp2
           go_ret
           exact ⟨ret_bool (by rw [← HDE.out,Tr.shapeS_no HST.out];rfl),HB3.out⟩
         | true =>
           rw [hsx] at HST
           clear hsx
           go_wp2
           exact ⟨⟨m+1,by go_num,by omega,HST,HBX3⟩,by simp [intOf];omega⟩
     · obtain rfl:m=ts.length:=by omega
       rw [List.take_length] at *
       have hde:=HDE.out
       rw [HT.out,Bool.true_and] at hde
       have HDF:=Lib.hid hde
       clear hde HDE
       go_wp2
       go_ret
       exact ⟨ret_bool HDF.out,HBW.out⟩
end Go.Proofs.YtfcilopifjddpaaGreatDoor
namespace Go.Proofs.YtfcilopifjddpaaGreatDoor
open Go.RowKit
theorem Tryz.infoInt:(Tryz.prog.info? 3).map (fun i=>(i.zero,i.size,i.bytes))=some (some (.int .i64 0),1,8):=by kernel_rfl
def intCells (l:List Int):List Value:=l.map (Value.int .i64)
def NumsEnd (l:List Int) (w:World) (e:Ending) (w':World):Prop:=∃ v,e=.returned v∧w'.ownsRow w.heap.size 3 1 v l.length (intCells l)∧Below w.heap.size w w'
theorem owns_slice {w:World} {base:Nat} {v:Value} {l:List Int} (h:w.ownsRow base 3 1 v l.length (intCells l)) :
   ∃ p c,v=.slice p l.length c∧(p=none→l.length=0∧c=0)∧(∀ ad,p=some ad→∀ j u,(intCells l)[j]? = some u→w.cell? (ad.add j)=some u)∧∀ ad,p=some ad→∃ g,ad=⟨g,0,none⟩∧base ≤ g:=by
 have hcells:=fun g hv=>World.ownsRow.cells h (g:=g) hv
 rcases h.2 with ⟨rfl,hn0⟩ | ⟨g,cap,cur,rfl,hbg,hheap,-⟩
 · refine ⟨none,0,by rw [hn0],fun _=>⟨hn0,rfl⟩,fun ad h=>(by cases h),fun ad h=>(by cases h)⟩
 · refine ⟨some ⟨g,0,none⟩,cap,rfl,fun h=>(by cases h),fun ad had j u hj=>?_,fun ad had=>⟨g,(Option.some.inj had).symm,hbg⟩⟩
   obtain rfl:=Option.some.inj had
   exact hcells g rfl j u hj
theorem owns_mono {w:World} {base base':Nat} {e:TypeId} {size:Nat} {v:Value} {n:Nat} {xs:List Value} (h:w.ownsRow base e size v n xs) (hb:base' ≤ base):w.ownsRow base' e size v n xs :=
 ⟨h.1,h.2.imp id fun ⟨g,cap,cur,h1,h2,h3⟩=>⟨g,cap,cur,h1,Nat.le_trans hb h2,h3⟩⟩
theorem intCells_one (l:List Int):∀ u ∈ intCells l,u.oneCell'=true:=by
 intro u hu
 unfold intCells at hu
 obtain ⟨x,-,rfl⟩:=List.mem_map.1 hu
 rfl
theorem numbers_any:∀ t:Tr,t.numsT.length ≤ 1000000→∀ (w:World) (B:Nat→Prop) (v:Value),NodeV w B v t→Calls Tryz.prog 75 #[v] w (NumsEnd t.numsT w):=by
 intro t
 induction t using Tr.rec_subs with
 | h t ih =>
   intro hd w B v hv
   obtain ⟨s,rfl,hs⟩:=hv
   obtain ⟨p,cap,rfl,hlen⟩:=hs.slice
   have heq:=Tr.numsT_eq t
   rw [heq] at hd ⊢
   clear heq
   generalize hts:t.subs=ts at *
   have IH:=Lib.hid ih;have HS:=Lib.hid hs
   clear ih hs hts
   unfold Tr.cells at *
   obtain ⟨ie,hi0,hz0,hz1,hz2⟩:=info_parts Tryz.infoInt
   have HI:=Lib.hid hi0;have HZ0:=Lib.hid hz0;have HZ1:=Lib.hid hz1;have HZ2:=Lib.hid hz2
   clear hi0 hz0 hz1 hz2
   have Z0:=Lib.hid (heap_alloc_new w (.cells #[.int .i64 t.kind,.int .u64 (Oc.U t.w0),.int .u64 (Oc.U t.w1),.int .u64 (Oc.U t.w2),.int .u64 (Oc.U t.w3),.slice p ts.length cap,.int .i64 t.num,.int .i64 t.least,.int .i64 t.most,.bool t.bare] 28))
   have HW:=Lib.hid (show Below w.heap.size w (w.alloc (.cells #[.int .i64 t.kind,.int .u64 (Oc.U t.w0),.int .u64 (Oc.U t.w1),.int .u64 (Oc.U t.w2),.int .u64 (Oc.U t.w3),.slice p ts.length cap,.int .i64 t.num,.int .i64 t.least,.int .i64 t.most,.bool t.bare] 28)) from (Below.refl _ _).alloc (Nat.le_refl _) _)
   have hz:(w.alloc (.cells #[.int .i64 t.kind,.int .u64 (Oc.U t.w0),.int .u64 (Oc.U t.w1),.int .u64 (Oc.U t.w2),.int .u64 (Oc.U t.w3),.slice p ts.length cap,.int .i64 t.num,.int .i64 t.least,.int .i64 t.most,.bool t.bare] 28)).heap.size=w.heap.size+1:=by simp
   rw [List.length_append] at hd
   obtain ⟨pre,hpre⟩:∃ pre,(if t.kind=7 then [t.num] else [])=pre:=⟨_,rfl⟩
   rw [hpre] at hd ⊢
   have HP:=Lib.hid hpre
   clear hpre
   go_enter Tryz.func75,Tryz.ntmps75
   go_upto_if 8 with (fail)
   generalize w.alloc (.cells #[.int .i64 t.kind,.int .u64 (Oc.U t.w0),.int .u64 (Oc.U t.w1),.int .u64 (Oc.U t.w2),.int .u64 (Oc.U t.w3),.slice p ts.length cap,.int .i64 t.num,.int .i64 t.least,.int .i64 t.most,.bool t.bare] 28)=W0 at *
   go_cut [3] (fun v3 wx=>Hid (wx.ownsRow W0.heap.size 3 1 v3 pre.length (intCells pre))∧Hid (Below W0.heap.size W0 wx))
   case first =>
     obtain ⟨d0,d1,d2,d3,d4,d5,d6,d7,d8,d9⟩:=allTen Z0.out
     by_cases h7:t.kind=7
     · have e7:(t.kind == 7)=true:=by simpa using h7
       have hp:=HP.out
       rw [if_pos h7] at hp
       subst hp
       clear h7
       go_wp2_with (first
         | (at_builtin;refine wpList_append_own _ rfl _ _ 56 rfl W0.heap.size 3 ie _ 1 8 Tryz.underlying56 HI.out HZ0.out HZ1.out HZ2.out rfl (by decide) (.slice none 0 0) 0 [] rfl (World.ownsRow_nil _ _ _ _) ⟨w.heap.size+1,0,none⟩ 1 1 [.int .i64 t.num] rfl rfl ?c1 ?c2 (by unfold maxLen;omega) (by omega) (by simp) ?_)
         | fail)
       case c1 =>
         intro j u hj
         match j,hj with
         | 0,hj=>simp at hj;subst hj;simp [Addr.add,← hz]
       case c2=>intro u hu;simp at hu;subst hu;rfl
       intro v' w2 hown' hgrow _
       go_wp2
       go_meet
       exact ⟨Lib.hid (by rw [hz];exact hown'),Lib.hid (((Below.refl _ _).alloc (Nat.le_refl _) _).grown hgrow (by simp) (fun k hk=>by simp [Value.ownBlock] at hk))⟩
     · have e7:(t.kind == 7)=false:=by simpa using h7
       have hp:=HP.out
       rw [if_neg h7] at hp
       subst hp
       go_wp2
       go_meet
       exact ⟨Lib.hid (World.ownsRow_nil _ _ _ _),Lib.hid (Below.refl _ _)⟩
   case rest =>
     obtain ⟨HO0,HB0⟩:=hcut
     have HBW0:=Lib.hid (HW.out.trans (HB0.out.mono HW.out.size))
     have Z0':=Lib.hid (keep_blk (HB0.out.mono (Nat.le_refl _)) Z0.out)
     clear Z0 HP
     obtain ⟨d0,d1,d2,d3,d4,d5,d6,d7,d8,d9⟩:=allTen Z0'.out
     go_wp2
     go_loopw [3,17] (fun sv iv wr=>∃ m:Nat,iv=.int .i64 m∧m ≤ ts.length∧Hid (wr.ownsRow W0.heap.size 3 1 sv (pre ++ Tr.numsS (ts.take m)).length (intCells (pre ++ Tr.numsS (ts.take m))))∧Hid (Below W0.heap.size W0 wr)) (fun _ iv _=>ts.length - (intOf iv).toNat)
     case atStart=>exact ⟨0,rfl,Nat.zero_le _,Lib.hid (by simpa [Tr.numsS] using HO0.out),HB0⟩
     case round =>
       obtain ⟨m,rfl,hm,HO,HB⟩:=hrel
       have wm:IntKind.i64.wrap ((m:Int)+1)=(m:Int)+1:=IntWalk.i64_in _ (by omega)
       have HBW:=Lib.hid (HW.out.trans (HB.out.mono HW.out.size))
       by_cases hlt:m < ts.length
       · obtain ⟨x,hx⟩:∃ x,ts[m]? = some x:=⟨_,List.getElem?_eq_getElem hlt⟩
         obtain ⟨b1,o1,s1,rfl,-,t1,sub1⟩:=HS.out.get hx
         obtain ⟨g0,g1,g2,g3,g4,g5,g6,g7,g8,g9⟩:=t1.keep (HBW.out.block _ t1.lt)
         have hmem:=List.mem_of_getElem? hx
         obtain ⟨p1,c1,rfl,hl1⟩:=sub1.slice
         have hle:=Tr.numsT_le hmem
         have hle2:=Tr.numsS_le ts m
         have HC:=Lib.hid (fun w9 hb=>IH.out x hmem (by omega) w9 B (.agg (x.cells (.slice p1 x.subs.length c1))) ⟨_,rfl,sub1.later hb⟩)
         have hst:=Tr.numsS_take ts m x hx
         have HSTP:=Lib.hid hst
         have hlx:(pre ++ Tr.numsS (ts.take m)).length+x.numsT.length ≤ 2000000:=by rw [List.length_append];omega
         clear t1 sub1 hmem hx hst hle hle2 d0 d1 d2 d3 d4 d5 d6 d7 d8 d9
         have HJ:=Lib.hid (show pre ++ Tr.numsS (ts.take (m+1))=(pre ++ Tr.numsS (ts.take m)) ++ x.numsT by rw [HSTP.out,List.append_assoc])
         clear HSTP
         generalize pre ++ Tr.numsS (ts.take m)=L at *
         unfold Tr.cells at HC
         go_wp2_with fail
         generalize hw1:World.alloc wr _=w1
         have hb1:Below wr.heap.size wr w1:=by rw [← hw1];exact (Below.refl _ _).alloc (Nat.le_refl _) _
         clear hw1
         refine (HC.out w1 (HBW.out.trans (hb1.mono HBW.out.size))).mono ?_
         rintro e w2 ⟨v2,rfl,ho2,hb2⟩
         obtain ⟨p2,c2,rfl,hn2,hcl2,-⟩:=owns_slice ho2
         have hb12:Below wr.heap.size wr w2:=hb1.trans (hb2.mono hb1.size)
         have hownw:=(HO.out.kept (w':=w2) (row:=none) ⟨hb12.os,hb12.tape,hb12.output,hb12.size,fun k hk _=>hb12.block k hk⟩ (by
           cases h:Value.ownBlock u3 with
           | none=>exact .inl rfl
           | some g=>exact .inr (by simp)))
         have HB2:=Lib.hid (HB.out.trans (hb12.mono HB.out.size))
         have hltv:=HO.out.lt
         have HOW:=Lib.hid hownw;have HLT:=Lib.hid hltv;have HCL:=Lib.hid hcl2;have HN2:=Lib.hid hn2
         have hlen2:=Lib.hid (show (intCells x.numsT).length=x.numsT.length * 1 by simp [intCells])
         clear g0 g1 g2 g3 g4 g5 g6 g7 g8 g9 hb1 hb2 HC ho2 hownw hltv hcl2 hn2 hb12
         generalize hN:x.numsT=N at *
         have hbs:W0.heap.size ≤ w2.heap.size:=HB2.out.size
         go_wp2_with (first
           | (at_builtin;refine append_both _ rfl _ _ 56 rfl W0.heap.size 3 ie _ 1 8 Tryz.underlying56 HI.out HZ0.out HZ1.out HZ2.out rfl (by decide) _ _ _ rfl HOW.out p2 N.length c2 (intCells N) rfl HN2.out hlen2.out HCL.out (intCells_one N) (by unfold maxLen;omega) (by omega) hbs ?_;intro v' w4 hown4 hgrow4 _)
           | fail)
         have hB4:=HB2.out.grown hgrow4 HB2.out.size (fun k hk=>(HLT.out k hk).1)
         have HB4:=Lib.hid hB4
         have HO4:=Lib.hid hown4
         clear hB4 hown4
         go_wp2
         refine ⟨⟨m+1,by go_num,by omega,Lib.hid ?_,HB4⟩,by simp [intOf];omega⟩
         rw [HJ.out,List.length_append]
         have:=HO4.out
         unfold intCells at *
         rw [List.map_append]
         exact this
       · obtain rfl:m=ts.length:=by omega
         rw [List.take_length] at *
         go_wp2
         go_ret
         exact ⟨_,rfl,owns_mono HO.out HW.out.size,HBW.out⟩
def counted (l:List Int):Bool:=(List.range l.length).all fun i=>l[i]? == some ((i:Int)+1)
theorem isspellable_yes (t:Tr) (hl:t.numsT.length ≤ 1000000) (hc:∀ i:Nat,i < t.numsT.length→t.numsT[i]? = some ((i:Int)+1)) (w:World) (B:Nat→Prop) (v:Value) (hv:NodeV w B v t):Calls Tryz.prog 37 #[v] w fun e w'=>e=.returned (.bool t.shapeT)∧Below w.heap.size w w':=by
 obtain ⟨s,rfl,hs⟩:=hv
 obtain ⟨p,cap,rfl,hlen⟩:=hs.slice
 have H1:=Lib.hid (fun w' (hb:Below w.heap.size w w')=>numbers_any t hl w' B (.agg (t.cells (.slice p t.subs.length cap))) ⟨_,rfl,TreesAt.later (w':=w') hs hb⟩)
 have H2:=Lib.hid (fun w' (hb:Below w.heap.size w w')=>hasshape_any t w' B (.agg (t.cells (.slice p t.subs.length cap))) ⟨_,rfl,TreesAt.later (w':=w') hs hb⟩)
 have HCO:=Lib.hid hc
 clear hs hc
 unfold Tr.cells at *
 generalize t.subs=ts at *
 generalize t.numsT=L at *
 generalize t.shapeT=D at *
 have Z0:=Lib.hid (heap_alloc_new w (.cells #[.int .i64 t.kind,.int .u64 (Oc.U t.w0),.int .u64 (Oc.U t.w1),.int .u64 (Oc.U t.w2),.int .u64 (Oc.U t.w3),.slice p ts.length cap,.int .i64 t.num,.int .i64 t.least,.int .i64 t.most,.bool t.bare] 28))
 have HW:=Lib.hid (show Below w.heap.size w (w.alloc (.cells #[.int .i64 t.kind,.int .u64 (Oc.U t.w0),.int .u64 (Oc.U t.w1),.int .u64 (Oc.U t.w2),.int .u64 (Oc.U t.w3),.slice p ts.length cap,.int .i64 t.num,.int .i64 t.least,.int .i64 t.most,.bool t.bare] 28)) from (Below.refl _ _).alloc (Nat.le_refl _) _)
 go_enter Tryz.func37,Tryz.ntmps37
 go_wp2_with (first
   | (refine wpList_load_row rfl 28 (.tmp 1) rfl w.heap.size rfl 28 _ (0,0) _ Z0.out Tryz.underlying28 rfl (by kernel_rfl) ?_)
   | fail)
 refine (H1.out _ HW.out).mono ?_
 rintro e w1 ⟨v1,rfl,ho1,hb1⟩
 obtain ⟨p1,c1,rfl,hn1,hcl1,hg1⟩:=owns_slice ho1
 have Z1:=Lib.hid (keep_blk (hb1.mono (Nat.le_refl _)) Z0.out)
 have HB1:=Lib.hid (HW.out.trans (hb1.mono HW.out.size))
 have hz1:w.heap.size < w1.heap.size:=(Array.getElem?_eq_some_iff.1 Z1.out).1
 have HCL:=Lib.hid hcl1;have HN:=Lib.hid hn1;have HG:=Lib.hid hg1
 clear hb1 Z0 ho1 hcl1 hn1 hg1
 go_wp2
 go_loopw [8] (fun iv wr=>∃ m:Nat,iv=.int .i64 m∧m ≤ L.length∧w1=wr) (fun iv _=>L.length - (intOf iv).toNat)
 case atStart=>exact ⟨0,rfl,Nat.zero_le _,rfl⟩
 case round =>
   obtain ⟨m,rfl,hm,rfl⟩:=hrel
   have wm:IntKind.i64.wrap ((m:Int)+1)=(m:Int)+1:=IntWalk.i64_in _ (by omega)
   by_cases hlt:m < L.length
   · have hx:=HCO.out m hlt
     cases p1 with
     | none=>have:=(HN.out rfl).1;omega
     | some ad =>
       obtain ⟨g,rfl,-⟩:=HG.out ad rfl
       have hc1:=HCL.out _ rfl m (.int .i64 ((m:Int)+1)) (by unfold intCells;rw [List.getElem?_map,hx];rfl)
       have ea:(⟨g,0,none⟩:Addr).add m=⟨g,m,none⟩:=by unfold Addr.add;split <;> simp_all
       rw [ea] at hc1
       go_wp2
       exact ⟨⟨m+1,by go_num,by omega,trivial⟩,by simp [intOf];omega⟩
   · obtain rfl:m=L.length:=by omega
     go_wp2_with (first
       | (refine wpList_load_row rfl 28 (.tmp 1) rfl w.heap.size rfl 28 _ (0,0) _ Z1.out Tryz.underlying28 rfl (by kernel_rfl) ?_)
       | fail)
     refine (H2.out _ HB1.out).mono ?_
     rintro e w2 ⟨rfl,hb2⟩
     have HB2:=Lib.hid (HB1.out.trans (hb2.mono HB1.out.size))
     clear hb2
     go_wp2
     go_ret
     exact ⟨rfl,HB2.out⟩
end Go.Proofs.YtfcilopifjddpaaGreatDoor
namespace Go.Proofs
open Go.Shelf
def Tryz.lays170_ren:Go.Shelf.Ren:=⟨fun | 170=>40 | n=>n,fun | 70=>73 | 3=>3 | 0=>0 | 72=>76 | 37=>74 | 5=>5 | n=>n,fun | n=>n⟩
theorem Tryz.lays170:Go.Proofs.Lays.n170 Tryz.prog Tryz.lays170_ren:={
 mixed:=by kernel_rfl
 f170:=Tryz.func40.trans (congrArg some (by kernel_rfl))
 t0:=Tryz.underlying0
 a0:=Tryz.isAgg0
 z0:=Tryz.sizeOf0
 v0:=Tryz.zeroValue0
 t3:=Tryz.underlying3
 a3:=Tryz.isAgg3
 z3:=Tryz.sizeOf3
 v3:=Tryz.zeroValue3
 t37:=Tryz.underlying74
 a37:=Tryz.isAgg74
 z37:=Tryz.sizeOf74
 v37:=Tryz.zeroValue74
 t70:=Tryz.underlying73
 a70:=Tryz.isAgg73
 z70:=Tryz.sizeOf73
 v70:=Tryz.zeroValue73
 t72:=Tryz.underlying76
 a72:=Tryz.isAgg76
 z72:=Tryz.sizeOf76
 v72:=Tryz.zeroValue76 }
open Go.RowKit in
def Tryz.lays169_ren:Go.Shelf.Ren:=⟨fun | 169=>41 | n=>n,fun | 70=>73 | 9=>9 | 0=>0 | 72=>76 | 37=>74 | 127=>123 | 3=>3 | 5=>5 | n=>n,fun | n=>n⟩
theorem Tryz.lays169:Go.Proofs.Lays.n169 Tryz.prog Tryz.lays169_ren:={
 mixed:=by kernel_rfl
 f169:=Tryz.func41.trans (congrArg some (by kernel_rfl))
 t0:=Tryz.underlying0
 a0:=Tryz.isAgg0
 z0:=Tryz.sizeOf0
 v0:=Tryz.zeroValue0
 t3:=Tryz.underlying3
 a3:=Tryz.isAgg3
 z3:=Tryz.sizeOf3
 v3:=Tryz.zeroValue3
 t9:=Tryz.underlying9
 a9:=Tryz.isAgg9
 z9:=Tryz.sizeOf9
 v9:=Tryz.zeroValue9
 t37:=Tryz.underlying74
 a37:=Tryz.isAgg74
 z37:=Tryz.sizeOf74
 v37:=Tryz.zeroValue74
 t70:=Tryz.underlying73
 a70:=Tryz.isAgg73
 z70:=Tryz.sizeOf73
 v70:=Tryz.zeroValue73
 t72:=Tryz.underlying76
 a72:=Tryz.isAgg76
 z72:=Tryz.sizeOf76
 v72:=Tryz.zeroValue76
 t127:=Tryz.underlying123
 a127:=Tryz.isAgg123
 z127:=Tryz.sizeOf123
 v127:=Tryz.zeroValue123 }
theorem Tryz.Builder_Extra_169:Builder.Extra Tryz.prog Tryz.lays169_ren:={
 sizeBuilder:=by kernel_rfl
 liesBuilder:=by kernel_rfl
 t5:=Tryz.underlying5
 a5:=Tryz.isAgg5
 z5:=Tryz.sizeOf5
 v5:=Tryz.zeroValue5
 infoByte:=by kernel_rfl
 cellsByte:=by kernel_rfl
 sizeByte:=by kernel_rfl
 neB5:=by decide }
open Go.RowKit in
open Go.RowKit in
open Go.RowKit in
def Tryz.lays137_ren:Go.Shelf.Ren:=⟨fun | 137=>88 | 217=>126 | 266=>154 | n=>n,fun | 9=>9 | 5=>5 | 3=>3 | n=>n,fun | n=>n⟩
theorem Tryz.lays137:Go.Proofs.Lays.n137 Tryz.prog Tryz.lays137_ren:={
 mixed:=by kernel_rfl
 f137:=Tryz.func88.trans (congrArg some (by kernel_rfl))
 f217:=Tryz.func126.trans (congrArg some (by kernel_rfl))
 f266:=Tryz.func154.trans (congrArg some (by kernel_rfl))
 t3:=Tryz.underlying3
 a3:=Tryz.isAgg3
 z3:=Tryz.sizeOf3
 v3:=Tryz.zeroValue3
 t5:=Tryz.underlying5
 a5:=Tryz.isAgg5
 z5:=Tryz.sizeOf5
 v5:=Tryz.zeroValue5
 t9:=Tryz.underlying9
 a9:=Tryz.isAgg9
 z9:=Tryz.sizeOf9
 v9:=Tryz.zeroValue9 }
open Go.RowKit in
theorem Tryz.strings_IndexByte (s:ByteArray) (c:Int) (w:World) :
   Calls Tryz.prog 88 #[.string s,.int .u8 c] w fun e w'=>e=.returned (.int .i64 (Lib.indexByte s.data.toList c.toNat.toUInt8))∧w'=w:=Any.strings_IndexByte Tryz.lays137 s c w
open Go.RowKit in
def Tryz.lays103_ren:Go.Shelf.Ren:=⟨fun | 103=>160 | 210=>182 | 206=>156 | n=>n,fun | 9=>9 | 4=>4 | 24=>189 | 3=>3 | n=>n,fun | n=>n⟩
theorem Tryz.lays103:Go.Proofs.Lays.n103 Tryz.prog Tryz.lays103_ren:={
 mixed:=by kernel_rfl
 f103:=Tryz.func160.trans (congrArg some (by kernel_rfl))
 f206:=Tryz.func156.trans (congrArg some (by kernel_rfl))
 f210:=Tryz.func182.trans (congrArg some (by kernel_rfl))
 t3:=Tryz.underlying3
 a3:=Tryz.isAgg3
 z3:=Tryz.sizeOf3
 v3:=Tryz.zeroValue3
 t4:=Tryz.underlying4
 a4:=Tryz.isAgg4
 z4:=Tryz.sizeOf4
 v4:=Tryz.zeroValue4
 t9:=Tryz.underlying9
 a9:=Tryz.isAgg9
 z9:=Tryz.sizeOf9
 v9:=Tryz.zeroValue9
 t24:=Tryz.underlying189
 a24:=Tryz.isAgg189
 z24:=Tryz.sizeOf189
 v24:=Tryz.zeroValue189 }
open Go.RowKit in
theorem Tryz.strings_CutPrefix (s p:ByteArray) (w:World) :
   Calls Tryz.prog 160 #[.string s,.string p] w fun e w'=>e=.returned (.tuple #[.string ⟨(Lib.trimPrefix s.data.toList p.data.toList).toArray⟩,.bool (Lib.hasPrefix s.data.toList p.data.toList)])∧w'=w:=Any.strings_CutPrefix Tryz.lays103 s p w
open Go.RowKit in
theorem Tryz.Builder_Len_f (B b:Nat) (bs:List Value) (w:World) (h:Lib.IsBuilderF 76 5 B b bs w) :
   Calls Tryz.prog 40 #[.pointer (some ⟨b,0,none⟩)] w fun e w'=>e=.returned (.int .i64 bs.length)∧w'=w:=Any.Builder_Len_f Tryz.lays170 B b bs w h
open Go.RowKit in
open Go.RowKit in
open Go.RowKit in
open Go.RowKit in
open Go.RowKit in
open Go.RowKit in
theorem Tryz.Builder_String_any_k (B b:Nat) (l:List UInt8) (w:World) (h:Lib.IsBuilderF 76 5 B b (Lib.byteCells l) w) (hBw:B ≤ w.heap.size) :
   Calls Tryz.prog 41 #[.pointer (some ⟨b,0,none⟩)] w fun e w'=>e=.returned (.string ⟨l.toArray⟩)∧(Lib.IsBuilderF 76 5 B b (Lib.byteCells l) w'∧Below B w w'∧Lib.OthersKept 5 (some b) w w'):=Any.Builder_String_any_k Tryz.lays169 Tryz.Builder_Extra_169 B b l w h hBw
open Go.Lib in
open Go.Lib in
open Go.Lib in
open Go.Lib in
open Go.RowKit Go.Sort Go.Lib in
open Go.RowKit Go.Sort Go.Lib in
open Go.RowKit Go.Sort Go.Lib in
open Go.RowKit Go.Sort Go.Lib in
open Go.RowKit Go.Sort Go.Lib in
def Tryz.laysM171_ren:Go.Shelf.Ren:=⟨fun | 171=>116 | 243=>150 | 246=>175 | 283=>190 | 284=>191 | 285=>192 | 286=>193 | 129=>206 | 317=>205 | 318=>207 | 319=>208 | 320=>209 | 337=>218 | 338=>171 | n=>n,fun | 3=>3 | 9=>9 | 2=>2 | 4=>4 | 171=>207 | 0=>0 | 53=>23 | 37=>74 | 5=>5 | 173=>209 | 212=>222 | 51=>223 | 20=>20 | 213=>224 | 46=>193 | 232=>231 | 233=>205 | n=>n,fun | 17=>24 | 18=>25 | 19=>23 | n=>n⟩
theorem Tryz.laysM171:Go.Proofs.LaysM.n171 Tryz.prog Tryz.laysM171_ren:={
 mixed:=by kernel_rfl
 f129:=Tryz.func206.trans (congrArg some (by kernel_rfl))
 f171:=Tryz.func116.trans (congrArg some (by kernel_rfl))
 f243:=Tryz.func150.trans (congrArg some (by kernel_rfl))
 f246:=Tryz.func175.trans (congrArg some (by kernel_rfl))
 f283:=Tryz.func190.trans (congrArg some (by kernel_rfl))
 f284:=Tryz.func191.trans (congrArg some (by kernel_rfl))
 f285:=Tryz.func192.trans (congrArg some (by kernel_rfl))
 f286:=Tryz.func193.trans (congrArg some (by kernel_rfl))
 f317:=Tryz.func205.trans (congrArg some (by kernel_rfl))
 f318:=Tryz.func207.trans (congrArg some (by kernel_rfl))
 f319:=Tryz.func208.trans (congrArg some (by kernel_rfl))
 f320:=Tryz.func209.trans (congrArg some (by kernel_rfl))
 f337:=Tryz.func218.trans (congrArg some (by kernel_rfl))
 f338:=Tryz.func171.trans (congrArg some (by kernel_rfl))
 t0:=Tryz.underlying0
 a0:=Tryz.isAgg0
 z0:=Tryz.sizeOf0
 v0:=Tryz.zeroValue0
 t2:=Tryz.underlying2
 a2:=Tryz.isAgg2
 z2:=Tryz.sizeOf2
 v2:=Tryz.zeroValue2
 t3:=Tryz.underlying3
 a3:=Tryz.isAgg3
 z3:=Tryz.sizeOf3
 v3:=Tryz.zeroValue3
 t4:=Tryz.underlying4
 a4:=Tryz.isAgg4
 z4:=Tryz.sizeOf4
 v4:=Tryz.zeroValue4
 t5:=Tryz.underlying5
 a5:=Tryz.isAgg5
 z5:=Tryz.sizeOf5
 v5:=Tryz.zeroValue5
 t9:=Tryz.underlying9
 a9:=Tryz.isAgg9
 z9:=Tryz.sizeOf9
 v9:=Tryz.zeroValue9
 t20:=Tryz.underlying20
 a20:=Tryz.isAgg20
 z20:=Tryz.sizeOf20
 v20:=Tryz.zeroValue20
 t37:=Tryz.underlying74
 a37:=Tryz.isAgg74
 z37:=Tryz.sizeOf74
 v37:=Tryz.zeroValue74
 t46:=Tryz.underlying193
 a46:=Tryz.isAgg193
 z46:=Tryz.sizeOf193
 v46:=Tryz.zeroValue193
 t51:=Tryz.underlying223
 a51:=Tryz.isAgg223
 z51:=Tryz.sizeOf223
 v51:=Tryz.zeroValue223
 t53:=Tryz.underlying23
 a53:=Tryz.isAgg23
 z53:=Tryz.sizeOf23
 v53:=Tryz.zeroValue23
 t171:=Tryz.underlying207
 a171:=Tryz.isAgg207
 z171:=Tryz.sizeOf207
 v171:=Tryz.zeroValue207
 t173:=Tryz.underlying209
 a173:=Tryz.isAgg209
 z173:=Tryz.sizeOf209
 v173:=Tryz.zeroValue209
 t212:=Tryz.underlying222
 a212:=Tryz.isAgg222
 z212:=Tryz.sizeOf222
 v212:=Tryz.zeroValue222
 t213:=Tryz.underlying224
 a213:=Tryz.isAgg224
 z213:=Tryz.sizeOf224
 t232:=Tryz.underlying231
 a232:=Tryz.isAgg231
 z232:=Tryz.sizeOf231
 v232:=Tryz.zeroValue231
 t233:=Tryz.underlying205
 a233:=Tryz.isAgg205
 z233:=Tryz.sizeOf205
 v233:=Tryz.zeroValue205
 g17:=by kernel_rfl
 g18:=by kernel_rfl
 g19:=by kernel_rfl
 i0:=by kernel_rfl
 i2:=by kernel_rfl
 i3:=by kernel_rfl
 i4:=by kernel_rfl
 i5:=by kernel_rfl
 i9:=by kernel_rfl
 i20:=by kernel_rfl
 i37:=by kernel_rfl
 i46:=by kernel_rfl
 i51:=by kernel_rfl
 i53:=by kernel_rfl
 i171:=by kernel_rfl
 i173:=by kernel_rfl
 i212:=by kernel_rfl
 i232:=by kernel_rfl
 i233:=by kernel_rfl
 m17:=by kernel_rfl
 m18:=by kernel_rfl
 m19:=by kernel_rfl }
open Go.RowKit Go.Sort Go.Lib in
theorem Tryz.strconv_Itoa (n : Int) (h0 : -9223372036854775808 ≤ n) (h1 : n ≤ 9223372036854775807) (w : World) (htab : Lib.TabIs Tryz.prog w "internal/strconv.uint64pow10" .u64 Lib.pow10Tab) :
   Calls Tryz.prog 116 #[.int .i64 n] w fun e w'=>e=.returned (.string ⟨(Lib.itoa n).toArray⟩)∧∃ k os,w'=grow (w.drewN k) os:=Any.strconv_Itoa Tryz.laysM171 n h0 h1 w htab
open Go.RowKit Go.Sort Go.Lib in
open Go.RowKit Go.Lib in
open Go.RowKit Go.Lib in
open Go.RowKit Go.Lib in
open Go.RowKit Go.Lib in
open Go.RowKit Go.Lib in
open Go.RowKit Go.Lib in
open Go.RowKit Go.Lib in
def Tryz.lays145_ren:Go.Shelf.Ren:=⟨fun | 145=>157 | 220=>178 | 219=>200 | 217=>126 | 225=>211 | 224=>212 | 267=>213 | 266=>154 | 314=>219 | n=>n,fun | 9=>9 | 4=>4 | 59=>185 | 3=>3 | 5=>5 | 46=>193 | 146=>229 | 51=>223 | n=>n,fun | 1=>22 | n=>n⟩
theorem Tryz.lays145:Go.Proofs.Lays.n145 Tryz.prog Tryz.lays145_ren:={
 mixed:=by kernel_rfl
 f145:=Tryz.func157.trans (congrArg some (by kernel_rfl))
 f217:=Tryz.func126.trans (congrArg some (by kernel_rfl))
 f219:=Tryz.func200.trans (congrArg some (by kernel_rfl))
 f220:=Tryz.func178.trans (congrArg some (by kernel_rfl))
 f224:=Tryz.func212.trans (congrArg some (by kernel_rfl))
 f225:=Tryz.func211.trans (congrArg some (by kernel_rfl))
 f266:=Tryz.func154.trans (congrArg some (by kernel_rfl))
 f267:=Tryz.func213.trans (congrArg some (by kernel_rfl))
 f314:=Tryz.func219.trans (congrArg some (by kernel_rfl))
 t3:=Tryz.underlying3
 a3:=Tryz.isAgg3
 z3:=Tryz.sizeOf3
 v3:=Tryz.zeroValue3
 t4:=Tryz.underlying4
 a4:=Tryz.isAgg4
 z4:=Tryz.sizeOf4
 v4:=Tryz.zeroValue4
 t5:=Tryz.underlying5
 a5:=Tryz.isAgg5
 z5:=Tryz.sizeOf5
 v5:=Tryz.zeroValue5
 t9:=Tryz.underlying9
 a9:=Tryz.isAgg9
 z9:=Tryz.sizeOf9
 v9:=Tryz.zeroValue9
 t46:=Tryz.underlying193
 a46:=Tryz.isAgg193
 z46:=Tryz.sizeOf193
 v46:=Tryz.zeroValue193
 t51:=Tryz.underlying223
 a51:=Tryz.isAgg223
 z51:=Tryz.sizeOf223
 v51:=Tryz.zeroValue223
 t59:=Tryz.underlying185
 a59:=Tryz.isAgg185
 z59:=Tryz.sizeOf185
 v59:=Tryz.zeroValue185
 t146:=Tryz.underlying229
 a146:=Tryz.isAgg229
 z146:=Tryz.sizeOf229
 v146:=Tryz.zeroValue229
 g1:=by kernel_rfl }
open Go.RowKit Go.Lib in
theorem Tryz.strings_Cut (s sep:ByteArray) (m:Int) (w:World) (hs:s.size < 4294967281) (hm:w.cell? ⟨22,0,none⟩=some (.int .i64 m)) :
   Calls Tryz.prog 157 #[.string s,.string sep] w fun e w'=>e=.returned (.tuple #[.string ⟨(Lib.cut s.data.toList sep.data.toList).1.toArray⟩,.string ⟨(Lib.cut s.data.toList sep.data.toList).2.1.toArray⟩,.bool (Lib.cut s.data.toList sep.data.toList).2.2])∧∃ n,w'=w.drewN n:=Any.strings_Cut Tryz.lays145 s sep m w hs hm
def Tryz.laysM219_ren:Go.Shelf.Ren:=⟨fun | 219=>200 | 217=>126 | 225=>211 | 224=>212 | 267=>213 | 266=>154 | 314=>219 | n=>n,fun | 9=>9 | 3=>3 | 4=>4 | 5=>5 | 46=>193 | 146=>229 | 51=>223 | n=>n,fun | 1=>22 | n=>n⟩
theorem Tryz.laysM219:Go.Proofs.LaysM.n219 Tryz.prog Tryz.laysM219_ren:={
 mixed:=by kernel_rfl
 f217:=Tryz.func126.trans (congrArg some (by kernel_rfl))
 f219:=Tryz.func200.trans (congrArg some (by kernel_rfl))
 f224:=Tryz.func212.trans (congrArg some (by kernel_rfl))
 f225:=Tryz.func211.trans (congrArg some (by kernel_rfl))
 f266:=Tryz.func154.trans (congrArg some (by kernel_rfl))
 f267:=Tryz.func213.trans (congrArg some (by kernel_rfl))
 f314:=Tryz.func219.trans (congrArg some (by kernel_rfl))
 t3:=Tryz.underlying3
 a3:=Tryz.isAgg3
 z3:=Tryz.sizeOf3
 v3:=Tryz.zeroValue3
 t4:=Tryz.underlying4
 a4:=Tryz.isAgg4
 z4:=Tryz.sizeOf4
 v4:=Tryz.zeroValue4
 t5:=Tryz.underlying5
 a5:=Tryz.isAgg5
 z5:=Tryz.sizeOf5
 v5:=Tryz.zeroValue5
 t9:=Tryz.underlying9
 a9:=Tryz.isAgg9
 z9:=Tryz.sizeOf9
 v9:=Tryz.zeroValue9
 t46:=Tryz.underlying193
 a46:=Tryz.isAgg193
 z46:=Tryz.sizeOf193
 v46:=Tryz.zeroValue193
 t51:=Tryz.underlying223
 a51:=Tryz.isAgg223
 z51:=Tryz.sizeOf223
 v51:=Tryz.zeroValue223
 t146:=Tryz.underlying229
 a146:=Tryz.isAgg229
 z146:=Tryz.sizeOf229
 v146:=Tryz.zeroValue229
 g1:=by kernel_rfl
 i3:=by kernel_rfl
 i4:=by kernel_rfl
 i5:=by kernel_rfl
 i9:=by kernel_rfl
 i46:=by kernel_rfl
 i51:=by kernel_rfl
 i146:=by kernel_rfl
 m1:=by kernel_rfl
 s1_3:=fun w h=>Go.Proofs.cell_of_shapedOpen_int (zero:=#[.int .i64 0]) (t:=3) h (of_decide_eq_true (by kernel_rfl)) (by kernel_rfl) rfl (by kernel_rfl) (by kernel_rfl) Tryz.underlying3 }
open Go.RowKit Go.Lib in
open Go.RowKit Go.Lib in
open Go.RowKit Go.Lib in
open Go.RowKit Go.Lib in
def Tryz.lays99_ren:Go.Shelf.Ren:=⟨fun | 99=>130 | 206=>156 | n=>n,fun | 9=>9 | 4=>4 | 3=>3 | n=>n,fun | n=>n⟩
theorem Tryz.lays99:Go.Proofs.Lays.n99 Tryz.prog Tryz.lays99_ren:={
 mixed:=by kernel_rfl
 f99:=Tryz.func130.trans (congrArg some (by kernel_rfl))
 f206:=Tryz.func156.trans (congrArg some (by kernel_rfl))
 t3:=Tryz.underlying3
 a3:=Tryz.isAgg3
 z3:=Tryz.sizeOf3
 v3:=Tryz.zeroValue3
 t4:=Tryz.underlying4
 a4:=Tryz.isAgg4
 z4:=Tryz.sizeOf4
 v4:=Tryz.zeroValue4
 t9:=Tryz.underlying9
 a9:=Tryz.isAgg9
 z9:=Tryz.sizeOf9
 v9:=Tryz.zeroValue9 }
open Go.RowKit Go.Lib in
theorem Tryz.strings_HasPrefix (s p:ByteArray) (w:World) :
   Calls Tryz.prog 130 #[.string s,.string p] w fun e w'=>e=.returned (.bool (Lib.hasPrefix s.data.toList p.data.toList))∧w'=w:=Any.strings_HasPrefix Tryz.lays99 s p w
end Go.Proofs
namespace Go.Proofs.YtfcilopifjddpaaGreatDoor
open Go.RowKit
theorem Tryz.infoByteB:(Tryz.prog.info? 5).map (fun i=>(i.zero,i.size,i.bytes))=some (some (.int .u8 0),1,1):=by kernel_rfl
theorem Tryz.sizeBl:(Tryz.prog.info? 76).map (·.size)=some 2:=by kernel_rfl
def Bl (B b:Nat) (l:List UInt8) (w:World):Prop:=Lib.IsBuilderF 76 5 B b (Lib.byteCells l) w
def BlTo (B b:Nat) (w w':World):Prop:=Below B w w'∧Lib.OthersKept 5 (some b) w w'
theorem BlTo.refl (B b:Nat) (w:World):BlTo B b w w:=⟨Below.refl _ _,Lib.OthersKept.refl _ _ _⟩
theorem BlTo.trans {B b:Nat} {w w1 w2:World} (h:BlTo B b w w1) (k:BlTo B b w1 w2):BlTo B b w w2:=⟨h.1.trans k.1,h.2.trans k.2⟩
theorem blcheck_used (b:Nat) (w:World) (h0:w.cell? ⟨b,0,none⟩=some (.pointer (some ⟨b,0,none⟩))) :
   Calls Tryz.prog 115 #[.pointer (some ⟨b,0,none⟩)] w fun e w'=>e=.returned (.tuple #[])∧w'=w:=by
 obtain ⟨j,hj,_⟩:=Option.map_eq_some_iff.1 Tryz.sizeBl
 go_enter Tryz.func115,Tryz.ntmps115
 go_wp2
 rw [Lib.run_neq_ptr_same w _ Tryz.underlying73 hj]
 go_wp2
 go_end0
 exact ⟨rfl,rfl⟩
theorem blcheck_fresh (b:Nat) (w:World) (h0:w.cell? ⟨b,0,none⟩=some (.pointer none)) (hsh:w.shape? b=some (76,2)) (hfz:w.frozen? ⟨b,0,none⟩=false) :
   Calls Tryz.prog 115 #[.pointer (some ⟨b,0,none⟩)] w fun e w'=>e=.returned (.tuple #[])∧w'=w.setCell ⟨b,0,none⟩ (.pointer (some ⟨b,0,none⟩)):=by
 obtain ⟨j,hj,hjs⟩:=Option.map_eq_some_iff.1 Tryz.sizeBl
 go_enter Tryz.func115,Tryz.ntmps115
 go_wp2
 rw [Lib.run_to_unsafe w ⟨b,0,none⟩ Tryz.underlying73 Tryz.underlying106 hj (by rw [hjs];decide) hsh (Nat.zero_lt_succ 1)]
 simp only [Result.andThen]
 rw [Oper.upon_value]
 go_wp2
 rw [run_callFunc_extern Tryz.func149 (by kernel_rfl) (by kernel_rfl) (by kernel_rfl) (e:=Extern.AbiNoEscape.same) (by kernel_rfl)]
 rw [Lib.run_noEscape]
 simp only [Result.andThen]
 rw [Oper.upon_value]
 go_wp2
 rw [Lib.run_from_unsafe w ⟨b,0,none⟩ Tryz.underlying106 Tryz.underlying73 hj hsh (by kernel_rfl)]
 simp only [Result.andThen]
 rw [Oper.upon_value]
 go_wp2
 go_end0
 exact ⟨rfl,rfl⟩
theorem blcheck_any (B b:Nat) (bs:List Value) (w:World) (h:Lib.IsBuilderF 76 5 B b bs w) :
   Calls Tryz.prog 115 #[.pointer (some ⟨b,0,none⟩)] w fun e w'=>e=.returned (.tuple #[])∧Lib.BuilderAtF 76 5 B b (.pointer (some ⟨b,0,none⟩)) bs w'∧Below B w w'∧Lib.OthersKept 5 (some b) w w':=by
 rcases h with h | h
 · refine (blcheck_fresh b w h.cell0 h.shape h.frozen0).mono ?_
   rintro e w' ⟨rfl,rfl⟩
   exact ⟨rfl,h.used _,(Below.refl B w).setCell (p:=⟨b,0,none⟩) h.1 _,(Lib.OthersKept.refl _ _ w).setCell ⟨b,0,none⟩ rfl _⟩
 · refine (blcheck_used b w h.cell0).mono ?_
   rintro e w' ⟨rfl,rfl⟩
   exact ⟨rfl,h,Below.refl B _,Lib.OthersKept.refl _ _ _⟩
theorem blbyte_any (B b:Nat) (l:List UInt8) (c:Nat) (hc:c < 256) (w:World) (h:Bl B b l w) (hlen:l.length+1 ≤ 140737488355328) (hB0:B ≤ w.heap.size) :
   Calls Tryz.prog 78 #[.pointer (some ⟨b,0,none⟩),.int .u8 (c:Int)] w fun e w'=>e=.returned .nilIface∧Bl B b (l ++ [UInt8.ofNat c]) w'∧BlTo B b w w':=by
 obtain ⟨ie,hi,hz0,hz1,hz2⟩:=info_parts Tryz.infoByteB
 have hcb:Lib.byteCells (l ++ [UInt8.ofNat c])=Lib.byteCells l ++ [.int .u8 (c:Int)]:=by
   rw [Lib.byteCells_append]
   have:(UInt8.ofNat c).toNat=c:=by rw [UInt8.toNat_ofNat'];omega
   simp [Lib.byteCells,this]
 have hll:(Lib.byteCells l).length=l.length:=by simp [Lib.byteCells]
 have HCB:=Lib.hid hcb
 unfold Bl at h
 generalize Lib.byteCells l=bs at *
 go_enter Tryz.func78,Tryz.ntmps78
 go_wp2_with fail
 refine (blcheck_any B b bs _ h).mono ?_
 rintro e w1 ⟨rfl,h1,hb1,hk1⟩
 obtain ⟨hB,v,hbk,hown,hne⟩:=h1
 have c0:w1.cell? ⟨b,0,none⟩=some (.pointer (some ⟨b,0,none⟩)):=by rw [Lib.cell_of_heap hbk];rfl
 have c1:w1.cell? ⟨b,1,none⟩=some v:=by rw [Lib.cell_of_heap hbk];rfl
 go_wp2_with (first
   | (refine wpList_append_ownF _ rfl _ _ 74 rfl B 5 ie (.int .u8 0) 1 1 Tryz.underlying74 hi hz0 hz1 hz2 rfl (by decide) _ _ _ rfl (hown.alloc _) ⟨w1.heap.size,0,none⟩ 1 1 [.int .u8 (c:Int)] rfl rfl ?c1 ?c2 ?c3 ?c4 ?c5 ?_)
   | fail)
 case c1 =>
   intro j u hj
   match j,hj with
   | 0,hj=>simp at hj;subst hj;simp [Addr.add]
 case c2=>intro u hu;simp at hu;subst hu;rfl
 case c3=>unfold maxLen;omega
 case c4=>omega
 case c5=>have:=hb1.size;simp;omega
 intro v' w2 hown' hgrow _
 have hlt:b < w1.heap.size:=by
   rcases Nat.lt_or_ge b w1.heap.size with h' | h'
   · exact h'
   · simp [Array.getElem?_eq_none h'] at hbk
 have hb2:w2.heap[b]? = some (.cells #[.pointer (some ⟨b,0,none⟩),v] 76 (0,0)):=by
   rw [hgrow.block b (by simp;omega) (fun e=>hne e.symm),Below.heap_alloc w1 _ b hlt]
   exact hbk
 have d0:w2.cell? ⟨b,0,none⟩=some (.pointer (some ⟨b,0,none⟩)):=by rw [Lib.cell_of_heap hb2];rfl
 have d1:w2.cell? ⟨b,1,none⟩=some v:=by rw [Lib.cell_of_heap hb2];rfl
 have f1:w2.frozen? ⟨b,1,none⟩=false:=Lib.frozen_of_heap hb2 1
 obtain ⟨ao,n',cap,rfl⟩:∃ ao n' cap,v'=.slice ao n' cap:=by
   rcases hown'.2 with ⟨hv,_⟩ | ⟨g,cap,cur,fz,hv,_⟩
   · exact ⟨_,_,_,hv⟩
   · exact ⟨_,_,_,hv⟩
 go_wp2
 go_ret
 refine ⟨rfl, ?_, ?_,((hk1.alloc _).grown hgrow (Lib.ownsRowF_kind (hown.alloc _))).setCell ⟨b,1,none⟩ rfl _⟩
 · refine .inr ?_
   rw [HCB.out]
   exact Lib.BuilderAtF.put (T:=76) (e:=5) hB hb2 (bs':=bs ++ [.int .u8 (c:Int)]) (by rw [List.length_append,hll];simpa using hown') (by decide)
 · exact ((hb1.alloc (by have:=hb1.size;omega) _).grown hgrow (by have:=hb1.size;simp;omega) (fun k hk=>(hown.lt k hk).1)).setCell (p:=⟨b,1,none⟩) hB _
theorem blstr_any (B b:Nat) (l:List UInt8) (s:ByteArray) (w:World) (h:Bl B b l w) (hlen:l.length+s.size ≤ 140737488355328) (hB0:B ≤ w.heap.size) :
   Calls Tryz.prog 80 #[.pointer (some ⟨b,0,none⟩),.string s] w fun e w'=>e=.returned (.tuple #[.int .i64 s.size,.nilIface])∧Bl B b (l ++ s.data.toList) w'∧BlTo B b w w':=by
 obtain ⟨ie,hi,hz0,hz1,hz2⟩:=info_parts Tryz.infoByteB
 have hcb:Lib.byteCells (l ++ s.data.toList)=Lib.byteCells l ++ Lib.strCells s:=by rw [Lib.byteCells_append,Lib.strCells_eq]
 have hll:(Lib.byteCells l).length=l.length:=by simp [Lib.byteCells]
 have HCB:=Lib.hid hcb
 unfold Bl at h
 generalize Lib.byteCells l=bs at *
 go_enter Tryz.func80,Tryz.ntmps80
 go_wp2_with fail
 refine (blcheck_any B b bs _ h).mono ?_
 rintro e w1 ⟨rfl,h1,hb1,hk1⟩
 obtain ⟨hB,v,hbk,hown,hne⟩:=h1
 have c0:w1.cell? ⟨b,0,none⟩=some (.pointer (some ⟨b,0,none⟩)):=by rw [Lib.cell_of_heap hbk];rfl
 have c1:w1.cell? ⟨b,1,none⟩=some v:=by rw [Lib.cell_of_heap hbk];rfl
 go_wp2_with (first
   | (refine Lib.wpList_append_own_stringF _ rfl _ _ 74 9 rfl B 5 ie Tryz.underlying74 Tryz.underlying9 hi hz0 hz1 hz2 _ _ _ rfl hown s rfl ?c3 ?c4 ?c5 ?_)
   | fail)
 case c3=>unfold maxLen;omega
 case c4=>omega
 case c5=>have:=hb1.size;omega
 intro v' w2 hown' hgrow _
 have hlt:b < w1.heap.size:=by
   rcases Nat.lt_or_ge b w1.heap.size with h' | h'
   · exact h'
   · simp [Array.getElem?_eq_none h'] at hbk
 have hb2:w2.heap[b]? = some (.cells #[.pointer (some ⟨b,0,none⟩),v] 76 (0,0)):=by
   rw [hgrow.block b hlt (fun e=>hne e.symm)]
   exact hbk
 have d0:w2.cell? ⟨b,0,none⟩=some (.pointer (some ⟨b,0,none⟩)):=by rw [Lib.cell_of_heap hb2];rfl
 have d1:w2.cell? ⟨b,1,none⟩=some v:=by rw [Lib.cell_of_heap hb2];rfl
 have f1:w2.frozen? ⟨b,1,none⟩=false:=Lib.frozen_of_heap hb2 1
 obtain ⟨ao,n',cap,rfl⟩:∃ ao n' cap,v'=.slice ao n' cap:=by
   rcases hown'.2 with ⟨hv,_⟩ | ⟨g,cap,cur,fz,hv,_⟩
   · exact ⟨_,_,_,hv⟩
   · exact ⟨_,_,_,hv⟩
 go_wp2
 go_ret2
 refine ⟨rfl, ?_, ?_,(hk1.grown hgrow (Lib.ownsRowF_kind hown)).setCell ⟨b,1,none⟩ rfl _⟩
 · refine .inr ?_
   rw [HCB.out]
   exact Lib.BuilderAtF.put (T:=76) (e:=5) hB hb2 (bs':=bs ++ Lib.strCells s) (by rw [List.length_append,hll];simpa [Lib.strCells_length] using hown') (by decide)
 · exact (hb1.grown hgrow (by have:=hb1.size;omega) (fun k hk=>(hown.lt k hk).1)).setCell (p:=⟨b,1,none⟩) hB _
end Go.Proofs.YtfcilopifjddpaaGreatDoor
namespace Go.Proofs.YtfcilopifjddpaaGreatDoor
open Go.RowKit
namespace Sp
def mkX (c:Nat):Bool:=c == 46 || c == 91 || c == 40 || c == 41 || c == 42 || c == 43 || c == 63 || c == 123 || c == 124 || c == 94 || c == 36 || c == 92
def mkB (c:Nat):Bool:=c == 46 || c == 91 || c == 42 || c == 94 || c == 36 || c == 92
def mk (x:Bool) (c:Nat):Bool:=if x then mkX c else mkB c
def qb (x:Bool) (c:UInt8):List UInt8:=if mk x c.toNat then [92,c] else [c]
def quote (x:Bool) (l:List UInt8):List UInt8:=l.flatMap (qb x)
def marksX:ByteArray:=⟨#[46,91,40,41,42,43,63,123,124,94,36,92]⟩
def marksB:ByteArray:=⟨#[46,91,42,94,36,92]⟩
def marks (x:Bool):ByteArray:=if x then marksX else marksB
theorem marks_is:∀ (x:Bool) (c:Nat),c < 256→decide ((0:Int) ≤ Lib.indexByte (marks x).data.toList ((c:Int).toNat.toUInt8))=mk x c:=by
 intro x
 cases x <;> decide
theorem qb_len (x:Bool) (c:UInt8):(qb x c).length ≤ 2:=by unfold qb;split <;> simp
theorem quote_len (x:Bool):∀ l:List UInt8,(quote x l).length ≤ 2 * l.length
 | []=>by simp [quote]
 | c :: l=>by
   have:=quote_len x l
   have:=qb_len x c
   simp only [quote,List.flatMap_cons,List.length_append,List.length_cons] at *
   omega
theorem quote_take (x:Bool) (s:ByteArray) (i:Nat):(quote x (s.data.toList.take i)).length ≤ 2 * s.size:=by
 have:=quote_len x (s.data.toList.take i)
 have h2:(s.data.toList.take i).length ≤ s.data.toList.length:=by rw [List.length_take];omega
 have h3:s.data.toList.length=s.size:=by simp
 omega
theorem quote_snoc (x:Bool) (l:List UInt8) (c:UInt8):quote x (l ++ [c])=quote x l ++ qb x c:=by simp [quote]
end Sp
theorem spbyte_any (B b:Nat) (l:List UInt8) (c:UInt8) (x:Bool) (w:World) (h:Bl B b l w) (hlen:l.length+2 ≤ 140737488355328) (hB0:B ≤ w.heap.size) :
   Calls Tryz.prog 47 #[.pointer (some ⟨b,0,none⟩),.int .u8 (c.toNat:Int),.string (Sp.marks x)] w fun e w'=>e=.returned (.tuple #[])∧Bl B b (l ++ Sp.qb x c) w'∧BlTo B b w w':=by
 have hm:=Sp.marks_is x c.toNat c.toNat_lt
 have HI:=Lib.hid Tryz.strings_IndexByte
 have HB:=Lib.hid blbyte_any
 have hq:Sp.qb x c=if Sp.mk x c.toNat then [92,c] else [c]:=rfl
 cases hx:Sp.mk x c.toNat with
 | true =>
   rw [hx] at hm hq
   have HQ:=Lib.hid hq;have HBL:=Lib.hid h
   clear hq h hx
   generalize Sp.marks x=m at *
   generalize he:Lib.indexByte m.data.toList ((c.toNat:Int)).toNat.toUInt8=p at *
   go_enter Tryz.func47,Tryz.ntmps47
   go_wp2_with fail
   refine (HI.out m _ _).mono ?_;rintro e w' ⟨rfl,rfl⟩
   rw [he]
   go_wp2_with fail
   refine (HB.out B b l 92 (by omega) _ HBL.out (by omega) hB0).mono ?_;rintro e w1 ⟨rfl,h1,t1⟩
   have hB1:B ≤ w1.heap.size:=Nat.le_trans hB0 t1.1.size
   have H1:=Lib.hid h1;have T1:=Lib.hid t1
   clear h1 t1
   go_wp2_with fail
   refine (HB.out B b _ c.toNat c.toNat_lt _ H1.out (by simp;omega) hB1).mono ?_;rintro e w2 ⟨rfl,h2,t2⟩
   have H2:=Lib.hid h2;have T2:=Lib.hid (T1.out.trans t2)
   clear h2 t2
   go_wp2
   go_end0
   refine ⟨rfl, ?_,T2.out⟩
   rw [HQ.out]
   have:=H2.out
   rw [List.append_assoc] at this
   simpa using this
 | false =>
   rw [hx] at hm hq
   have HQ:=Lib.hid hq;have HBL:=Lib.hid h
   clear hq h hx
   generalize Sp.marks x=m at *
   generalize he:Lib.indexByte m.data.toList ((c.toNat:Int)).toNat.toUInt8=p at *
   go_enter Tryz.func47,Tryz.ntmps47
   go_wp2_with fail
   refine (HI.out m _ _).mono ?_;rintro e w' ⟨rfl,rfl⟩
   rw [he]
   go_wp2_with fail
   refine (HB.out B b l c.toNat c.toNat_lt _ HBL.out (by omega) hB0).mono ?_;rintro e w1 ⟨rfl,h1,t1⟩
   have H2:=Lib.hid h1;have T2:=Lib.hid t1
   clear h1 t1
   go_wp2
   go_end0
   refine ⟨rfl, ?_,T2.out⟩
   rw [HQ.out]
   simpa using H2.out
theorem Bl.new (w:World):Bl w.heap.size w.heap.size [] (w.alloc (.cells #[.pointer none,.slice none 0 0] 76)) :=
 .inl ⟨Nat.le_refl _,.slice none 0 0,heap_alloc_new w _,World.ownsRowF_of (World.ownsRow_nil _ _ _ _),by simp [Value.ownBlock]⟩
theorem bl_below {B b:Nat} {w w':World} (h:BlTo B b w w'):B ≤ w.heap.size→B ≤ w'.heap.size:=fun h2=>Nat.le_trans h2 h.1.size
theorem quote_step (x:Bool) (s:ByteArray) (i:Nat) (h:i < s.size):Sp.quote x (s.data.toList.take i) ++ Sp.qb x s[i]=Sp.quote x (s.data.toList.take (i+1)):=by
 have h':i < s.data.toList.length:=by simpa using h
 rw [List.take_succ_eq_append_getElem h',Sp.quote_snoc]
 rfl
theorem ba_mk {x:ByteArray} {l:List UInt8} (h:x.data.toList=l):x=⟨l.toArray⟩:=by
 cases x;simp at h;subst h;simp
theorem ref_one (s:ByteArray) (i:Nat) (h:i < s.size):(s.extract i (i+1)).data.toList=[s[i]]:=by
 have h':i < s.data.toList.length:=by simpa using h
 have:(s.extract i (i+1)).data.toList=(s.data.toList.drop i).take 1:=by
   simp [ByteArray.data_extract,List.take_drop]
 rw [this,List.drop_eq_getElem_cons h']
 rfl
theorem ref_step1 (q:List UInt8) (s:ByteArray) (i:Nat) (h:i < s.size):(⟨q.toArray⟩ ++ s.extract i (i+1):ByteArray)=⟨(q ++ [s[i]]).toArray⟩:=by
 refine ba_mk ?_
 rw [ByteArray.data_append,Array.toList_append,ref_one s i h]
theorem ref_step2 (q:List UInt8) (s:ByteArray) (i:Nat) (h:i < s.size):(⟨q.toArray⟩ ++ ⟨#[92]⟩ ++ s.extract i (i+1):ByteArray)=⟨(q ++ [92,s[i]]).toArray⟩:=by
 refine ba_mk ?_
 rw [ByteArray.data_append,Array.toList_append,ref_one s i h,ByteArray.data_append,Array.toList_append]
 simp
theorem quote_any (s:ByteArray) (fl:Int) (x:Bool) (hs:s.size ≤ 4294967296) (hx:(bits .and .i64 fl 1 != 0)=x) (w:World) :
   Calls Tryz.prog 21 #[.string s,.int .i64 fl] w fun e w'=>e=.returned (.string ⟨(Sp.quote x s.data.toList).toArray⟩)∧Below w.heap.size w w':=by
 have HB:=Lib.hid spbyte_any
 have h0:Below w.heap.size w (w.alloc (.cells #[.pointer none,.slice none 0 0] 76)):=(Below.refl _ _).alloc (Nat.le_refl _) _
 have HS0:=Lib.hid h0;have HN0:=Lib.hid (Bl.new w)
 clear h0
 cases x with
 | true =>
   go_enter Tryz.func21,Tryz.ntmps21
   go_wp2
   generalize World.alloc w _=w1 at *
   go_loopw [13] (fun iv wr=>∃ i:Nat,iv=.int .i64 (i:Int)∧i ≤ s.size∧Hid (Bl w.heap.size w.heap.size (Sp.quote true (s.data.toList.take i)) wr)∧Hid (Below w.heap.size w wr)∧w.heap.size ≤ wr.heap.size) (fun iv _=>s.size - (intOf iv).toNat)
   case atStart=>exact ⟨0,rfl,Nat.zero_le _,HN0,HS0,HS0.out.size⟩
   case round =>
     obtain ⟨i,rfl,hi,HBL,HBE,hsz⟩:=hrel
     by_cases hlt:i < s.size
     · have hd:decide ((i:Int) < s.size)=true:=by simp;omega
       have hd':decide (i < s.size)=true:=by simpa using hlt
       have wi:IntKind.i64.wrap ((i:Int)+1)=(i:Int)+1:=IntWalk.i64_in _ (by omega)
       have hql:=Sp.quote_take true s i
       have hst:=quote_step true s i hlt
       have hb:=HB.out w.heap.size w.heap.size _ s[i] true wr HBL.out (by omega) hsz
       rw [hst] at hb
       have Htrue:=Lib.hid hb
       clear hst hb hql HBL
       go_wp2_with fail
       refine Htrue.out.mono ?_;rintro e w2 ⟨rfl,h2,t2⟩
       have H2:=Lib.hid h2;have HE2:=Lib.hid (HBE.out.trans t2.1)
       have hs2:=bl_below t2 hsz
       clear h2 t2 Htrue HBE
       go_wp2
       refine ⟨⟨i+1,rfl,by omega,H2,HE2,hs2⟩, ?_⟩
       simp [intOf];omega
     · have hd:decide ((i:Int) < s.size)=false:=by simp;omega
       have hd':decide (i < s.size)=false:=by simpa using hlt
       have hall:s.data.toList.take i=s.data.toList:=List.take_of_length_le (by simp;omega)
       rw [hall] at HBL
       have HST:=Lib.hid (Tryz.Builder_String_any_k w.heap.size w.heap.size (Sp.quote true s.data.toList) wr HBL.out hsz)
       clear hall HBL
       go_wp2_with fail
       refine HST.out.mono ?_;rintro e w2 ⟨rfl,-,hb2,-⟩
       have HE2:=Lib.hid (HBE.out.trans hb2)
       clear hb2 HST
       go_wp2
       go_ret
       exact ⟨rfl,HE2.out⟩
 | false =>
   go_enter Tryz.func21,Tryz.ntmps21
   go_wp2
   generalize World.alloc w _=w1 at *
   go_loopw [13] (fun iv wr=>∃ i:Nat,iv=.int .i64 (i:Int)∧i ≤ s.size∧Hid (Bl w.heap.size w.heap.size (Sp.quote false (s.data.toList.take i)) wr)∧Hid (Below w.heap.size w wr)∧w.heap.size ≤ wr.heap.size) (fun iv _=>s.size - (intOf iv).toNat)
   case atStart=>exact ⟨0,rfl,Nat.zero_le _,HN0,HS0,HS0.out.size⟩
   case round =>
     obtain ⟨i,rfl,hi,HBL,HBE,hsz⟩:=hrel
     by_cases hlt:i < s.size
     · have hd:decide ((i:Int) < s.size)=true:=by simp;omega
       have hd':decide (i < s.size)=true:=by simpa using hlt
       have wi:IntKind.i64.wrap ((i:Int)+1)=(i:Int)+1:=IntWalk.i64_in _ (by omega)
       have hql:=Sp.quote_take false s i
       have hst:=quote_step false s i hlt
       have hb:=HB.out w.heap.size w.heap.size _ s[i] false wr HBL.out (by omega) hsz
       rw [hst] at hb
       have Hfalse:=Lib.hid hb
       clear hst hb hql HBL
       go_wp2_with fail
       refine Hfalse.out.mono ?_;rintro e w2 ⟨rfl,h2,t2⟩
       have H2:=Lib.hid h2;have HE2:=Lib.hid (HBE.out.trans t2.1)
       have hs2:=bl_below t2 hsz
       clear h2 t2 Hfalse HBE
       go_wp2
       refine ⟨⟨i+1,rfl,by omega,H2,HE2,hs2⟩, ?_⟩
       simp [intOf];omega
     · have hd:decide ((i:Int) < s.size)=false:=by simp;omega
       have hd':decide (i < s.size)=false:=by simpa using hlt
       have hall:s.data.toList.take i=s.data.toList:=List.take_of_length_le (by simp;omega)
       rw [hall] at HBL
       have HST:=Lib.hid (Tryz.Builder_String_any_k w.heap.size w.heap.size (Sp.quote false s.data.toList) wr HBL.out hsz)
       clear hall HBL
       go_wp2_with fail
       refine HST.out.mono ?_;rintro e w2 ⟨rfl,-,hb2,-⟩
       have HE2:=Lib.hid (HBE.out.trans hb2)
       clear hb2 HST
       go_wp2
       go_ret
       exact ⟨rfl,HE2.out⟩
theorem refquote_any (s:ByteArray) (x:Bool) (hs:s.size ≤ 3000) (w:World) :
   Calls Tryz.prog 22 #[.string s,.bool x] w fun e w'=>e=.returned (.string ⟨(Sp.quote x s.data.toList).toArray⟩)∧w'=w:=by
 cases x with
 | true =>
   go_enter Tryz.func22,Tryz.ntmps22
   go_wp2
   go_loopw [5,6] (fun ov iv wr=>∃ i:Nat,iv=.int .i64 (i:Int)∧i ≤ s.size∧ov=.string ⟨(Sp.quote true (s.data.toList.take i)).toArray⟩∧w=wr) (fun _ iv _=>s.size - (intOf iv).toNat)
   case atStart=>exact ⟨0,rfl,Nat.zero_le _,rfl,rfl⟩
   case round =>
     obtain ⟨i,rfl,hi,rfl,rfl⟩:=hrel
     by_cases hlt:i < s.size
     · have hd:decide ((i:Int) < s.size)=true:=by simp;omega
       have hd':decide (i < s.size)=true:=by simpa using hlt
       have wi:IntKind.i64.wrap ((i:Int)+1)=(i:Int)+1:=IntWalk.i64_in _ (by omega)
       have hql:=Sp.quote_take true s i
       have hst:=quote_step true s i hlt
       have HST:=Lib.hid hst
       clear hst
       have hk:s[i].toNat=46 ∨ s[i].toNat=91 ∨ s[i].toNat=42 ∨ s[i].toNat=94 ∨ s[i].toNat=36 ∨ s[i].toNat=92 ∨ s[i].toNat=40 ∨ s[i].toNat=41 ∨ s[i].toNat=43 ∨ s[i].toNat=63 ∨ s[i].toNat=123 ∨ s[i].toNat=124 ∨ (s[i].toNat ≠ 46∧s[i].toNat ≠ 91∧s[i].toNat ≠ 42∧s[i].toNat ≠ 94∧s[i].toNat ≠ 36∧s[i].toNat ≠ 92∧s[i].toNat ≠ 40∧s[i].toNat ≠ 41∧s[i].toNat ≠ 43∧s[i].toNat ≠ 63∧s[i].toNat ≠ 123∧s[i].toNat ≠ 124):=by omega
       rcases hk with hv | hv | hv | hv | hv | hv | hv | hv | hv | hv | hv | hv | hv
       · have hq:Sp.qb true s[i]=[92,s[i]]:=by unfold Sp.qb Sp.mk Sp.mkX Sp.mkB;rw [hv];rfl
         have HQ:=Lib.hid hq
         clear hq
         have b46:((s[i].toNat:Int) == 46)=true:=by rw [hv];rfl
         have a46:(s[i].toNat == 46)=true:=by rw [hv];rfl
         have b91:((s[i].toNat:Int) == 91)=false:=by rw [hv];rfl
         have a91:(s[i].toNat == 91)=false:=by rw [hv];rfl
         have b42:((s[i].toNat:Int) == 42)=false:=by rw [hv];rfl
         have a42:(s[i].toNat == 42)=false:=by rw [hv];rfl
         have b94:((s[i].toNat:Int) == 94)=false:=by rw [hv];rfl
         have a94:(s[i].toNat == 94)=false:=by rw [hv];rfl
         have b36:((s[i].toNat:Int) == 36)=false:=by rw [hv];rfl
         have a36:(s[i].toNat == 36)=false:=by rw [hv];rfl
         have b92:((s[i].toNat:Int) == 92)=false:=by rw [hv];rfl
         have a92:(s[i].toNat == 92)=false:=by rw [hv];rfl
         have b40:((s[i].toNat:Int) == 40)=false:=by rw [hv];rfl
         have a40:(s[i].toNat == 40)=false:=by rw [hv];rfl
         have b41:((s[i].toNat:Int) == 41)=false:=by rw [hv];rfl
         have a41:(s[i].toNat == 41)=false:=by rw [hv];rfl
         have b43:((s[i].toNat:Int) == 43)=false:=by rw [hv];rfl
         have a43:(s[i].toNat == 43)=false:=by rw [hv];rfl
         have b63:((s[i].toNat:Int) == 63)=false:=by rw [hv];rfl
         have a63:(s[i].toNat == 63)=false:=by rw [hv];rfl
         have b123:((s[i].toNat:Int) == 123)=false:=by rw [hv];rfl
         have a123:(s[i].toNat == 123)=false:=by rw [hv];rfl
         have b124:((s[i].toNat:Int) == 124)=false:=by rw [hv];rfl
         have a124:(s[i].toNat == 124)=false:=by rw [hv];rfl
         clear hv
         go_wp2
         refine ⟨⟨i+1,rfl,by omega,(by rw [ref_step2 _ s i hlt,← HST.out,HQ.out]),trivial⟩, ?_⟩
         simp [intOf];omega
       · have hq:Sp.qb true s[i]=[92,s[i]]:=by unfold Sp.qb Sp.mk Sp.mkX Sp.mkB;rw [hv];rfl
         have HQ:=Lib.hid hq
         clear hq
         have b46:((s[i].toNat:Int) == 46)=false:=by rw [hv];rfl
         have a46:(s[i].toNat == 46)=false:=by rw [hv];rfl
         have b91:((s[i].toNat:Int) == 91)=true:=by rw [hv];rfl
         have a91:(s[i].toNat == 91)=true:=by rw [hv];rfl
         have b42:((s[i].toNat:Int) == 42)=false:=by rw [hv];rfl
         have a42:(s[i].toNat == 42)=false:=by rw [hv];rfl
         have b94:((s[i].toNat:Int) == 94)=false:=by rw [hv];rfl
         have a94:(s[i].toNat == 94)=false:=by rw [hv];rfl
         have b36:((s[i].toNat:Int) == 36)=false:=by rw [hv];rfl
         have a36:(s[i].toNat == 36)=false:=by rw [hv];rfl
         have b92:((s[i].toNat:Int) == 92)=false:=by rw [hv];rfl
         have a92:(s[i].toNat == 92)=false:=by rw [hv];rfl
         have b40:((s[i].toNat:Int) == 40)=false:=by rw [hv];rfl
         have a40:(s[i].toNat == 40)=false:=by rw [hv];rfl
         have b41:((s[i].toNat:Int) == 41)=false:=by rw [hv];rfl
         have a41:(s[i].toNat == 41)=false:=by rw [hv];rfl
         have b43:((s[i].toNat:Int) == 43)=false:=by rw [hv];rfl
         have a43:(s[i].toNat == 43)=false:=by rw [hv];rfl
         have b63:((s[i].toNat:Int) == 63)=false:=by rw [hv];rfl
         have a63:(s[i].toNat == 63)=false:=by rw [hv];rfl
         have b123:((s[i].toNat:Int) == 123)=false:=by rw [hv];rfl
         have a123:(s[i].toNat == 123)=false:=by rw [hv];rfl
         have b124:((s[i].toNat:Int) == 124)=false:=by rw [hv];rfl
         have a124:(s[i].toNat == 124)=false:=by rw [hv];rfl
         clear hv
         go_wp2
         refine ⟨⟨i+1,rfl,by omega,(by rw [ref_step2 _ s i hlt,← HST.out,HQ.out]),trivial⟩, ?_⟩
         simp [intOf];omega
       · have hq:Sp.qb true s[i]=[92,s[i]]:=by unfold Sp.qb Sp.mk Sp.mkX Sp.mkB;rw [hv];rfl
         have HQ:=Lib.hid hq
         clear hq
         have b46:((s[i].toNat:Int) == 46)=false:=by rw [hv];rfl
         have a46:(s[i].toNat == 46)=false:=by rw [hv];rfl
         have b91:((s[i].toNat:Int) == 91)=false:=by rw [hv];rfl
         have a91:(s[i].toNat == 91)=false:=by rw [hv];rfl
         have b42:((s[i].toNat:Int) == 42)=true:=by rw [hv];rfl
         have a42:(s[i].toNat == 42)=true:=by rw [hv];rfl
         have b94:((s[i].toNat:Int) == 94)=false:=by rw [hv];rfl
         have a94:(s[i].toNat == 94)=false:=by rw [hv];rfl
         have b36:((s[i].toNat:Int) == 36)=false:=by rw [hv];rfl
         have a36:(s[i].toNat == 36)=false:=by rw [hv];rfl
         have b92:((s[i].toNat:Int) == 92)=false:=by rw [hv];rfl
         have a92:(s[i].toNat == 92)=false:=by rw [hv];rfl
         have b40:((s[i].toNat:Int) == 40)=false:=by rw [hv];rfl
         have a40:(s[i].toNat == 40)=false:=by rw [hv];rfl
         have b41:((s[i].toNat:Int) == 41)=false:=by rw [hv];rfl
         have a41:(s[i].toNat == 41)=false:=by rw [hv];rfl
         have b43:((s[i].toNat:Int) == 43)=false:=by rw [hv];rfl
         have a43:(s[i].toNat == 43)=false:=by rw [hv];rfl
         have b63:((s[i].toNat:Int) == 63)=false:=by rw [hv];rfl
         have a63:(s[i].toNat == 63)=false:=by rw [hv];rfl
         have b123:((s[i].toNat:Int) == 123)=false:=by rw [hv];rfl
         have a123:(s[i].toNat == 123)=false:=by rw [hv];rfl
         have b124:((s[i].toNat:Int) == 124)=false:=by rw [hv];rfl
         have a124:(s[i].toNat == 124)=false:=by rw [hv];rfl
         clear hv
         go_wp2
         refine ⟨⟨i+1,rfl,by omega,(by rw [ref_step2 _ s i hlt,← HST.out,HQ.out]),trivial⟩, ?_⟩
         simp [intOf];omega
       · have hq:Sp.qb true s[i]=[92,s[i]]:=by unfold Sp.qb Sp.mk Sp.mkX Sp.mkB;rw [hv];rfl
         have HQ:=Lib.hid hq
         clear hq
         have b46:((s[i].toNat:Int) == 46)=false:=by rw [hv];rfl
         have a46:(s[i].toNat == 46)=false:=by rw [hv];rfl
         have b91:((s[i].toNat:Int) == 91)=false:=by rw [hv];rfl
         have a91:(s[i].toNat == 91)=false:=by rw [hv];rfl
         have b42:((s[i].toNat:Int) == 42)=false:=by rw [hv];rfl
         have a42:(s[i].toNat == 42)=false:=by rw [hv];rfl
         have b94:((s[i].toNat:Int) == 94)=true:=by rw [hv];rfl
         have a94:(s[i].toNat == 94)=true:=by rw [hv];rfl
         have b36:((s[i].toNat:Int) == 36)=false:=by rw [hv];rfl
         have a36:(s[i].toNat == 36)=false:=by rw [hv];rfl
         have b92:((s[i].toNat:Int) == 92)=false:=by rw [hv];rfl
         have a92:(s[i].toNat == 92)=false:=by rw [hv];rfl
         have b40:((s[i].toNat:Int) == 40)=false:=by rw [hv];rfl
         have a40:(s[i].toNat == 40)=false:=by rw [hv];rfl
         have b41:((s[i].toNat:Int) == 41)=false:=by rw [hv];rfl
         have a41:(s[i].toNat == 41)=false:=by rw [hv];rfl
         have b43:((s[i].toNat:Int) == 43)=false:=by rw [hv];rfl
         have a43:(s[i].toNat == 43)=false:=by rw [hv];rfl
         have b63:((s[i].toNat:Int) == 63)=false:=by rw [hv];rfl
         have a63:(s[i].toNat == 63)=false:=by rw [hv];rfl
         have b123:((s[i].toNat:Int) == 123)=false:=by rw [hv];rfl
         have a123:(s[i].toNat == 123)=false:=by rw [hv];rfl
         have b124:((s[i].toNat:Int) == 124)=false:=by rw [hv];rfl
         have a124:(s[i].toNat == 124)=false:=by rw [hv];rfl
         clear hv
         go_wp2
         refine ⟨⟨i+1,rfl,by omega,(by rw [ref_step2 _ s i hlt,← HST.out,HQ.out]),trivial⟩, ?_⟩
         simp [intOf];omega
       · have hq:Sp.qb true s[i]=[92,s[i]]:=by unfold Sp.qb Sp.mk Sp.mkX Sp.mkB;rw [hv];rfl
         have HQ:=Lib.hid hq
         clear hq
         have b46:((s[i].toNat:Int) == 46)=false:=by rw [hv];rfl
         have a46:(s[i].toNat == 46)=false:=by rw [hv];rfl
         have b91:((s[i].toNat:Int) == 91)=false:=by rw [hv];rfl
         have a91:(s[i].toNat == 91)=false:=by rw [hv];rfl
         have b42:((s[i].toNat:Int) == 42)=false:=by rw [hv];rfl
         have a42:(s[i].toNat == 42)=false:=by rw [hv];rfl
         have b94:((s[i].toNat:Int) == 94)=false:=by rw [hv];rfl
         have a94:(s[i].toNat == 94)=false:=by rw [hv];rfl
         have b36:((s[i].toNat:Int) == 36)=true:=by rw [hv];rfl
         have a36:(s[i].toNat == 36)=true:=by rw [hv];rfl
         have b92:((s[i].toNat:Int) == 92)=false:=by rw [hv];rfl
         have a92:(s[i].toNat == 92)=false:=by rw [hv];rfl
         have b40:((s[i].toNat:Int) == 40)=false:=by rw [hv];rfl
         have a40:(s[i].toNat == 40)=false:=by rw [hv];rfl
         have b41:((s[i].toNat:Int) == 41)=false:=by rw [hv];rfl
         have a41:(s[i].toNat == 41)=false:=by rw [hv];rfl
         have b43:((s[i].toNat:Int) == 43)=false:=by rw [hv];rfl
         have a43:(s[i].toNat == 43)=false:=by rw [hv];rfl
         have b63:((s[i].toNat:Int) == 63)=false:=by rw [hv];rfl
         have a63:(s[i].toNat == 63)=false:=by rw [hv];rfl
         have b123:((s[i].toNat:Int) == 123)=false:=by rw [hv];rfl
         have a123:(s[i].toNat == 123)=false:=by rw [hv];rfl
         have b124:((s[i].toNat:Int) == 124)=false:=by rw [hv];rfl
         have a124:(s[i].toNat == 124)=false:=by rw [hv];rfl
         clear hv
         go_wp2
         refine ⟨⟨i+1,rfl,by omega,(by rw [ref_step2 _ s i hlt,← HST.out,HQ.out]),trivial⟩, ?_⟩
         simp [intOf];omega
       · have hq:Sp.qb true s[i]=[92,s[i]]:=by unfold Sp.qb Sp.mk Sp.mkX Sp.mkB;rw [hv];rfl
         have HQ:=Lib.hid hq
         clear hq
         have b46:((s[i].toNat:Int) == 46)=false:=by rw [hv];rfl
         have a46:(s[i].toNat == 46)=false:=by rw [hv];rfl
         have b91:((s[i].toNat:Int) == 91)=false:=by rw [hv];rfl
         have a91:(s[i].toNat == 91)=false:=by rw [hv];rfl
         have b42:((s[i].toNat:Int) == 42)=false:=by rw [hv];rfl
         have a42:(s[i].toNat == 42)=false:=by rw [hv];rfl
         have b94:((s[i].toNat:Int) == 94)=false:=by rw [hv];rfl
         have a94:(s[i].toNat == 94)=false:=by rw [hv];rfl
         have b36:((s[i].toNat:Int) == 36)=false:=by rw [hv];rfl
         have a36:(s[i].toNat == 36)=false:=by rw [hv];rfl
         have b92:((s[i].toNat:Int) == 92)=true:=by rw [hv];rfl
         have a92:(s[i].toNat == 92)=true:=by rw [hv];rfl
         have b40:((s[i].toNat:Int) == 40)=false:=by rw [hv];rfl
         have a40:(s[i].toNat == 40)=false:=by rw [hv];rfl
         have b41:((s[i].toNat:Int) == 41)=false:=by rw [hv];rfl
         have a41:(s[i].toNat == 41)=false:=by rw [hv];rfl
         have b43:((s[i].toNat:Int) == 43)=false:=by rw [hv];rfl
         have a43:(s[i].toNat == 43)=false:=by rw [hv];rfl
         have b63:((s[i].toNat:Int) == 63)=false:=by rw [hv];rfl
         have a63:(s[i].toNat == 63)=false:=by rw [hv];rfl
         have b123:((s[i].toNat:Int) == 123)=false:=by rw [hv];rfl
         have a123:(s[i].toNat == 123)=false:=by rw [hv];rfl
         have b124:((s[i].toNat:Int) == 124)=false:=by rw [hv];rfl
         have a124:(s[i].toNat == 124)=false:=by rw [hv];rfl
         clear hv
         go_wp2
         refine ⟨⟨i+1,rfl,by omega,(by rw [ref_step2 _ s i hlt,← HST.out,HQ.out]),trivial⟩, ?_⟩
         simp [intOf];omega
       · have hq:Sp.qb true s[i]=[92,s[i]]:=by unfold Sp.qb Sp.mk Sp.mkX Sp.mkB;rw [hv];rfl
         have HQ:=Lib.hid hq
         clear hq
         have b46:((s[i].toNat:Int) == 46)=false:=by rw [hv];rfl
         have a46:(s[i].toNat == 46)=false:=by rw [hv];rfl
         have b91:((s[i].toNat:Int) == 91)=false:=by rw [hv];rfl
         have a91:(s[i].toNat == 91)=false:=by rw [hv];rfl
         have b42:((s[i].toNat:Int) == 42)=false:=by rw [hv];rfl
         have a42:(s[i].toNat == 42)=false:=by rw [hv];rfl
         have b94:((s[i].toNat:Int) == 94)=false:=by rw [hv];rfl
         have a94:(s[i].toNat == 94)=false:=by rw [hv];rfl
         have b36:((s[i].toNat:Int) == 36)=false:=by rw [hv];rfl
         have a36:(s[i].toNat == 36)=false:=by rw [hv];rfl
         have b92:((s[i].toNat:Int) == 92)=false:=by rw [hv];rfl
         have a92:(s[i].toNat == 92)=false:=by rw [hv];rfl
         have b40:((s[i].toNat:Int) == 40)=true:=by rw [hv];rfl
         have a40:(s[i].toNat == 40)=true:=by rw [hv];rfl
         have b41:((s[i].toNat:Int) == 41)=false:=by rw [hv];rfl
         have a41:(s[i].toNat == 41)=false:=by rw [hv];rfl
         have b43:((s[i].toNat:Int) == 43)=false:=by rw [hv];rfl
         have a43:(s[i].toNat == 43)=false:=by rw [hv];rfl
         have b63:((s[i].toNat:Int) == 63)=false:=by rw [hv];rfl
         have a63:(s[i].toNat == 63)=false:=by rw [hv];rfl
         have b123:((s[i].toNat:Int) == 123)=false:=by rw [hv];rfl
         have a123:(s[i].toNat == 123)=false:=by rw [hv];rfl
         have b124:((s[i].toNat:Int) == 124)=false:=by rw [hv];rfl
         have a124:(s[i].toNat == 124)=false:=by rw [hv];rfl
         clear hv
         go_wp2
         refine ⟨⟨i+1,rfl,by omega,(by rw [ref_step2 _ s i hlt,← HST.out,HQ.out]),trivial⟩, ?_⟩
         simp [intOf];omega
       · have hq:Sp.qb true s[i]=[92,s[i]]:=by unfold Sp.qb Sp.mk Sp.mkX Sp.mkB;rw [hv];rfl
         have HQ:=Lib.hid hq
         clear hq
         have b46:((s[i].toNat:Int) == 46)=false:=by rw [hv];rfl
         have a46:(s[i].toNat == 46)=false:=by rw [hv];rfl
         have b91:((s[i].toNat:Int) == 91)=false:=by rw [hv];rfl
         have a91:(s[i].toNat == 91)=false:=by rw [hv];rfl
         have b42:((s[i].toNat:Int) == 42)=false:=by rw [hv];rfl
         have a42:(s[i].toNat == 42)=false:=by rw [hv];rfl
         have b94:((s[i].toNat:Int) == 94)=false:=by rw [hv];rfl
         have a94:(s[i].toNat == 94)=false:=by rw [hv];rfl
         have b36:((s[i].toNat:Int) == 36)=false:=by rw [hv];rfl
         have a36:(s[i].toNat == 36)=false:=by rw [hv];rfl
         have b92:((s[i].toNat:Int) == 92)=false:=by rw [hv];rfl
         have a92:(s[i].toNat == 92)=false:=by rw [hv];rfl
         have b40:((s[i].toNat:Int) == 40)=false:=by rw [hv];rfl
         have a40:(s[i].toNat == 40)=false:=by rw [hv];rfl
         have b41:((s[i].toNat:Int) == 41)=true:=by rw [hv];rfl
         have a41:(s[i].toNat == 41)=true:=by rw [hv];rfl
         have b43:((s[i].toNat:Int) == 43)=false:=by rw [hv];rfl
         have a43:(s[i].toNat == 43)=false:=by rw [hv];rfl
         have b63:((s[i].toNat:Int) == 63)=false:=by rw [hv];rfl
         have a63:(s[i].toNat == 63)=false:=by rw [hv];rfl
         have b123:((s[i].toNat:Int) == 123)=false:=by rw [hv];rfl
         have a123:(s[i].toNat == 123)=false:=by rw [hv];rfl
         have b124:((s[i].toNat:Int) == 124)=false:=by rw [hv];rfl
         have a124:(s[i].toNat == 124)=false:=by rw [hv];rfl
         clear hv
         go_wp2
         refine ⟨⟨i+1,rfl,by omega,(by rw [ref_step2 _ s i hlt,← HST.out,HQ.out]),trivial⟩, ?_⟩
         simp [intOf];omega
       · have hq:Sp.qb true s[i]=[92,s[i]]:=by unfold Sp.qb Sp.mk Sp.mkX Sp.mkB;rw [hv];rfl
         have HQ:=Lib.hid hq
         clear hq
         have b46:((s[i].toNat:Int) == 46)=false:=by rw [hv];rfl
         have a46:(s[i].toNat == 46)=false:=by rw [hv];rfl
         have b91:((s[i].toNat:Int) == 91)=false:=by rw [hv];rfl
         have a91:(s[i].toNat == 91)=false:=by rw [hv];rfl
         have b42:((s[i].toNat:Int) == 42)=false:=by rw [hv];rfl
         have a42:(s[i].toNat == 42)=false:=by rw [hv];rfl
         have b94:((s[i].toNat:Int) == 94)=false:=by rw [hv];rfl
         have a94:(s[i].toNat == 94)=false:=by rw [hv];rfl
         have b36:((s[i].toNat:Int) == 36)=false:=by rw [hv];rfl
         have a36:(s[i].toNat == 36)=false:=by rw [hv];rfl
         have b92:((s[i].toNat:Int) == 92)=false:=by rw [hv];rfl
         have a92:(s[i].toNat == 92)=false:=by rw [hv];rfl
         have b40:((s[i].toNat:Int) == 40)=false:=by rw [hv];rfl
         have a40:(s[i].toNat == 40)=false:=by rw [hv];rfl
         have b41:((s[i].toNat:Int) == 41)=false:=by rw [hv];rfl
         have a41:(s[i].toNat == 41)=false:=by rw [hv];rfl
         have b43:((s[i].toNat:Int) == 43)=true:=by rw [hv];rfl
         have a43:(s[i].toNat == 43)=true:=by rw [hv];rfl
         have b63:((s[i].toNat:Int) == 63)=false:=by rw [hv];rfl
         have a63:(s[i].toNat == 63)=false:=by rw [hv];rfl
         have b123:((s[i].toNat:Int) == 123)=false:=by rw [hv];rfl
         have a123:(s[i].toNat == 123)=false:=by rw [hv];rfl
         have b124:((s[i].toNat:Int) == 124)=false:=by rw [hv];rfl
         have a124:(s[i].toNat == 124)=false:=by rw [hv];rfl
         clear hv
         go_wp2
         refine ⟨⟨i+1,rfl,by omega,(by rw [ref_step2 _ s i hlt,← HST.out,HQ.out]),trivial⟩, ?_⟩
         simp [intOf];omega
       · have hq:Sp.qb true s[i]=[92,s[i]]:=by unfold Sp.qb Sp.mk Sp.mkX Sp.mkB;rw [hv];rfl
         have HQ:=Lib.hid hq
         clear hq
         have b46:((s[i].toNat:Int) == 46)=false:=by rw [hv];rfl
         have a46:(s[i].toNat == 46)=false:=by rw [hv];rfl
         have b91:((s[i].toNat:Int) == 91)=false:=by rw [hv];rfl
         have a91:(s[i].toNat == 91)=false:=by rw [hv];rfl
         have b42:((s[i].toNat:Int) == 42)=false:=by rw [hv];rfl
         have a42:(s[i].toNat == 42)=false:=by rw [hv];rfl
         have b94:((s[i].toNat:Int) == 94)=false:=by rw [hv];rfl
         have a94:(s[i].toNat == 94)=false:=by rw [hv];rfl
         have b36:((s[i].toNat:Int) == 36)=false:=by rw [hv];rfl
         have a36:(s[i].toNat == 36)=false:=by rw [hv];rfl
         have b92:((s[i].toNat:Int) == 92)=false:=by rw [hv];rfl
         have a92:(s[i].toNat == 92)=false:=by rw [hv];rfl
         have b40:((s[i].toNat:Int) == 40)=false:=by rw [hv];rfl
         have a40:(s[i].toNat == 40)=false:=by rw [hv];rfl
         have b41:((s[i].toNat:Int) == 41)=false:=by rw [hv];rfl
         have a41:(s[i].toNat == 41)=false:=by rw [hv];rfl
         have b43:((s[i].toNat:Int) == 43)=false:=by rw [hv];rfl
         have a43:(s[i].toNat == 43)=false:=by rw [hv];rfl
         have b63:((s[i].toNat:Int) == 63)=true:=by rw [hv];rfl
         have a63:(s[i].toNat == 63)=true:=by rw [hv];rfl
         have b123:((s[i].toNat:Int) == 123)=false:=by rw [hv];rfl
         have a123:(s[i].toNat == 123)=false:=by rw [hv];rfl
         have b124:((s[i].toNat:Int) == 124)=false:=by rw [hv];rfl
         have a124:(s[i].toNat == 124)=false:=by rw [hv];rfl
         clear hv
         go_wp2
         refine ⟨⟨i+1,rfl,by omega,(by rw [ref_step2 _ s i hlt,← HST.out,HQ.out]),trivial⟩, ?_⟩
         simp [intOf];omega
       · have hq:Sp.qb true s[i]=[92,s[i]]:=by unfold Sp.qb Sp.mk Sp.mkX Sp.mkB;rw [hv];rfl
         have HQ:=Lib.hid hq
         clear hq
         have b46:((s[i].toNat:Int) == 46)=false:=by rw [hv];rfl
         have a46:(s[i].toNat == 46)=false:=by rw [hv];rfl
         have b91:((s[i].toNat:Int) == 91)=false:=by rw [hv];rfl
         have a91:(s[i].toNat == 91)=false:=by rw [hv];rfl
         have b42:((s[i].toNat:Int) == 42)=false:=by rw [hv];rfl
         have a42:(s[i].toNat == 42)=false:=by rw [hv];rfl
         have b94:((s[i].toNat:Int) == 94)=false:=by rw [hv];rfl
         have a94:(s[i].toNat == 94)=false:=by rw [hv];rfl
         have b36:((s[i].toNat:Int) == 36)=false:=by rw [hv];rfl
         have a36:(s[i].toNat == 36)=false:=by rw [hv];rfl
         have b92:((s[i].toNat:Int) == 92)=false:=by rw [hv];rfl
         have a92:(s[i].toNat == 92)=false:=by rw [hv];rfl
         have b40:((s[i].toNat:Int) == 40)=false:=by rw [hv];rfl
         have a40:(s[i].toNat == 40)=false:=by rw [hv];rfl
         have b41:((s[i].toNat:Int) == 41)=false:=by rw [hv];rfl
         have a41:(s[i].toNat == 41)=false:=by rw [hv];rfl
         have b43:((s[i].toNat:Int) == 43)=false:=by rw [hv];rfl
         have a43:(s[i].toNat == 43)=false:=by rw [hv];rfl
         have b63:((s[i].toNat:Int) == 63)=false:=by rw [hv];rfl
         have a63:(s[i].toNat == 63)=false:=by rw [hv];rfl
         have b123:((s[i].toNat:Int) == 123)=true:=by rw [hv];rfl
         have a123:(s[i].toNat == 123)=true:=by rw [hv];rfl
         have b124:((s[i].toNat:Int) == 124)=false:=by rw [hv];rfl
         have a124:(s[i].toNat == 124)=false:=by rw [hv];rfl
         clear hv
         go_wp2
         refine ⟨⟨i+1,rfl,by omega,(by rw [ref_step2 _ s i hlt,← HST.out,HQ.out]),trivial⟩, ?_⟩
         simp [intOf];omega
       · have hq:Sp.qb true s[i]=[92,s[i]]:=by unfold Sp.qb Sp.mk Sp.mkX Sp.mkB;rw [hv];rfl
         have HQ:=Lib.hid hq
         clear hq
         have b46:((s[i].toNat:Int) == 46)=false:=by rw [hv];rfl
         have a46:(s[i].toNat == 46)=false:=by rw [hv];rfl
         have b91:((s[i].toNat:Int) == 91)=false:=by rw [hv];rfl
         have a91:(s[i].toNat == 91)=false:=by rw [hv];rfl
         have b42:((s[i].toNat:Int) == 42)=false:=by rw [hv];rfl
         have a42:(s[i].toNat == 42)=false:=by rw [hv];rfl
         have b94:((s[i].toNat:Int) == 94)=false:=by rw [hv];rfl
         have a94:(s[i].toNat == 94)=false:=by rw [hv];rfl
         have b36:((s[i].toNat:Int) == 36)=false:=by rw [hv];rfl
         have a36:(s[i].toNat == 36)=false:=by rw [hv];rfl
         have b92:((s[i].toNat:Int) == 92)=false:=by rw [hv];rfl
         have a92:(s[i].toNat == 92)=false:=by rw [hv];rfl
         have b40:((s[i].toNat:Int) == 40)=false:=by rw [hv];rfl
         have a40:(s[i].toNat == 40)=false:=by rw [hv];rfl
         have b41:((s[i].toNat:Int) == 41)=false:=by rw [hv];rfl
         have a41:(s[i].toNat == 41)=false:=by rw [hv];rfl
         have b43:((s[i].toNat:Int) == 43)=false:=by rw [hv];rfl
         have a43:(s[i].toNat == 43)=false:=by rw [hv];rfl
         have b63:((s[i].toNat:Int) == 63)=false:=by rw [hv];rfl
         have a63:(s[i].toNat == 63)=false:=by rw [hv];rfl
         have b123:((s[i].toNat:Int) == 123)=false:=by rw [hv];rfl
         have a123:(s[i].toNat == 123)=false:=by rw [hv];rfl
         have b124:((s[i].toNat:Int) == 124)=true:=by rw [hv];rfl
         have a124:(s[i].toNat == 124)=true:=by rw [hv];rfl
         clear hv
         go_wp2
         refine ⟨⟨i+1,rfl,by omega,(by rw [ref_step2 _ s i hlt,← HST.out,HQ.out]),trivial⟩, ?_⟩
         simp [intOf];omega
       · have hq:Sp.qb true s[i]=[s[i]]:=by unfold Sp.qb Sp.mk Sp.mkX Sp.mkB;simp;omega
         have HQ:=Lib.hid hq
         clear hq
         have b46:((s[i].toNat:Int) == 46)=false:=by rw [beq_eq_false_iff_ne];omega
         have a46:(s[i].toNat == 46)=false:=by rw [beq_eq_false_iff_ne];omega
         have b91:((s[i].toNat:Int) == 91)=false:=by rw [beq_eq_false_iff_ne];omega
         have a91:(s[i].toNat == 91)=false:=by rw [beq_eq_false_iff_ne];omega
         have b42:((s[i].toNat:Int) == 42)=false:=by rw [beq_eq_false_iff_ne];omega
         have a42:(s[i].toNat == 42)=false:=by rw [beq_eq_false_iff_ne];omega
         have b94:((s[i].toNat:Int) == 94)=false:=by rw [beq_eq_false_iff_ne];omega
         have a94:(s[i].toNat == 94)=false:=by rw [beq_eq_false_iff_ne];omega
         have b36:((s[i].toNat:Int) == 36)=false:=by rw [beq_eq_false_iff_ne];omega
         have a36:(s[i].toNat == 36)=false:=by rw [beq_eq_false_iff_ne];omega
         have b92:((s[i].toNat:Int) == 92)=false:=by rw [beq_eq_false_iff_ne];omega
         have a92:(s[i].toNat == 92)=false:=by rw [beq_eq_false_iff_ne];omega
         have b40:((s[i].toNat:Int) == 40)=false:=by rw [beq_eq_false_iff_ne];omega
         have a40:(s[i].toNat == 40)=false:=by rw [beq_eq_false_iff_ne];omega
         have b41:((s[i].toNat:Int) == 41)=false:=by rw [beq_eq_false_iff_ne];omega
         have a41:(s[i].toNat == 41)=false:=by rw [beq_eq_false_iff_ne];omega
         have b43:((s[i].toNat:Int) == 43)=false:=by rw [beq_eq_false_iff_ne];omega
         have a43:(s[i].toNat == 43)=false:=by rw [beq_eq_false_iff_ne];omega
         have b63:((s[i].toNat:Int) == 63)=false:=by rw [beq_eq_false_iff_ne];omega
         have a63:(s[i].toNat == 63)=false:=by rw [beq_eq_false_iff_ne];omega
         have b123:((s[i].toNat:Int) == 123)=false:=by rw [beq_eq_false_iff_ne];omega
         have a123:(s[i].toNat == 123)=false:=by rw [beq_eq_false_iff_ne];omega
         have b124:((s[i].toNat:Int) == 124)=false:=by rw [beq_eq_false_iff_ne];omega
         have a124:(s[i].toNat == 124)=false:=by rw [beq_eq_false_iff_ne];omega
         clear hv
         go_wp2
         refine ⟨⟨i+1,rfl,by omega,(by rw [ref_step1 _ s i hlt,← HST.out,HQ.out]),trivial⟩, ?_⟩
         simp [intOf];omega
     · have hd:decide ((i:Int) < s.size)=false:=by simp;omega
       have hd':decide (i < s.size)=false:=by simpa using hlt
       have hall:s.data.toList.take i=s.data.toList:=List.take_of_length_le (by simp;omega)
       rw [hall]
       clear hall
       go_wp2
       go_ret
       exact ⟨rfl,rfl⟩
 | false =>
   go_enter Tryz.func22,Tryz.ntmps22
   go_wp2
   go_loopw [5,6] (fun ov iv wr=>∃ i:Nat,iv=.int .i64 (i:Int)∧i ≤ s.size∧ov=.string ⟨(Sp.quote false (s.data.toList.take i)).toArray⟩∧w=wr) (fun _ iv _=>s.size - (intOf iv).toNat)
   case atStart=>exact ⟨0,rfl,Nat.zero_le _,rfl,rfl⟩
   case round =>
     obtain ⟨i,rfl,hi,rfl,rfl⟩:=hrel
     by_cases hlt:i < s.size
     · have hd:decide ((i:Int) < s.size)=true:=by simp;omega
       have hd':decide (i < s.size)=true:=by simpa using hlt
       have wi:IntKind.i64.wrap ((i:Int)+1)=(i:Int)+1:=IntWalk.i64_in _ (by omega)
       have hql:=Sp.quote_take false s i
       have hst:=quote_step false s i hlt
       have HST:=Lib.hid hst
       clear hst
       have hk:s[i].toNat=46 ∨ s[i].toNat=91 ∨ s[i].toNat=42 ∨ s[i].toNat=94 ∨ s[i].toNat=36 ∨ s[i].toNat=92 ∨ s[i].toNat=40 ∨ s[i].toNat=41 ∨ s[i].toNat=43 ∨ s[i].toNat=63 ∨ s[i].toNat=123 ∨ s[i].toNat=124 ∨ (s[i].toNat ≠ 46∧s[i].toNat ≠ 91∧s[i].toNat ≠ 42∧s[i].toNat ≠ 94∧s[i].toNat ≠ 36∧s[i].toNat ≠ 92∧s[i].toNat ≠ 40∧s[i].toNat ≠ 41∧s[i].toNat ≠ 43∧s[i].toNat ≠ 63∧s[i].toNat ≠ 123∧s[i].toNat ≠ 124):=by omega
       rcases hk with hv | hv | hv | hv | hv | hv | hv | hv | hv | hv | hv | hv | hv
       · have hq:Sp.qb false s[i]=[92,s[i]]:=by unfold Sp.qb Sp.mk Sp.mkX Sp.mkB;rw [hv];rfl
         have HQ:=Lib.hid hq
         clear hq
         have b46:((s[i].toNat:Int) == 46)=true:=by rw [hv];rfl
         have a46:(s[i].toNat == 46)=true:=by rw [hv];rfl
         have b91:((s[i].toNat:Int) == 91)=false:=by rw [hv];rfl
         have a91:(s[i].toNat == 91)=false:=by rw [hv];rfl
         have b42:((s[i].toNat:Int) == 42)=false:=by rw [hv];rfl
         have a42:(s[i].toNat == 42)=false:=by rw [hv];rfl
         have b94:((s[i].toNat:Int) == 94)=false:=by rw [hv];rfl
         have a94:(s[i].toNat == 94)=false:=by rw [hv];rfl
         have b36:((s[i].toNat:Int) == 36)=false:=by rw [hv];rfl
         have a36:(s[i].toNat == 36)=false:=by rw [hv];rfl
         have b92:((s[i].toNat:Int) == 92)=false:=by rw [hv];rfl
         have a92:(s[i].toNat == 92)=false:=by rw [hv];rfl
         have b40:((s[i].toNat:Int) == 40)=false:=by rw [hv];rfl
         have a40:(s[i].toNat == 40)=false:=by rw [hv];rfl
         have b41:((s[i].toNat:Int) == 41)=false:=by rw [hv];rfl
         have a41:(s[i].toNat == 41)=false:=by rw [hv];rfl
         have b43:((s[i].toNat:Int) == 43)=false:=by rw [hv];rfl
         have a43:(s[i].toNat == 43)=false:=by rw [hv];rfl
         have b63:((s[i].toNat:Int) == 63)=false:=by rw [hv];rfl
         have a63:(s[i].toNat == 63)=false:=by rw [hv];rfl
         have b123:((s[i].toNat:Int) == 123)=false:=by rw [hv];rfl
         have a123:(s[i].toNat == 123)=false:=by rw [hv];rfl
         have b124:((s[i].toNat:Int) == 124)=false:=by rw [hv];rfl
         have a124:(s[i].toNat == 124)=false:=by rw [hv];rfl
         clear hv
         go_wp2
         refine ⟨⟨i+1,rfl,by omega,(by rw [ref_step2 _ s i hlt,← HST.out,HQ.out]),trivial⟩, ?_⟩
         simp [intOf];omega
       · have hq:Sp.qb false s[i]=[92,s[i]]:=by unfold Sp.qb Sp.mk Sp.mkX Sp.mkB;rw [hv];rfl
         have HQ:=Lib.hid hq
         clear hq
         have b46:((s[i].toNat:Int) == 46)=false:=by rw [hv];rfl
         have a46:(s[i].toNat == 46)=false:=by rw [hv];rfl
         have b91:((s[i].toNat:Int) == 91)=true:=by rw [hv];rfl
         have a91:(s[i].toNat == 91)=true:=by rw [hv];rfl
         have b42:((s[i].toNat:Int) == 42)=false:=by rw [hv];rfl
         have a42:(s[i].toNat == 42)=false:=by rw [hv];rfl
         have b94:((s[i].toNat:Int) == 94)=false:=by rw [hv];rfl
         have a94:(s[i].toNat == 94)=false:=by rw [hv];rfl
         have b36:((s[i].toNat:Int) == 36)=false:=by rw [hv];rfl
         have a36:(s[i].toNat == 36)=false:=by rw [hv];rfl
         have b92:((s[i].toNat:Int) == 92)=false:=by rw [hv];rfl
         have a92:(s[i].toNat == 92)=false:=by rw [hv];rfl
         have b40:((s[i].toNat:Int) == 40)=false:=by rw [hv];rfl
         have a40:(s[i].toNat == 40)=false:=by rw [hv];rfl
         have b41:((s[i].toNat:Int) == 41)=false:=by rw [hv];rfl
         have a41:(s[i].toNat == 41)=false:=by rw [hv];rfl
         have b43:((s[i].toNat:Int) == 43)=false:=by rw [hv];rfl
         have a43:(s[i].toNat == 43)=false:=by rw [hv];rfl
         have b63:((s[i].toNat:Int) == 63)=false:=by rw [hv];rfl
         have a63:(s[i].toNat == 63)=false:=by rw [hv];rfl
         have b123:((s[i].toNat:Int) == 123)=false:=by rw [hv];rfl
         have a123:(s[i].toNat == 123)=false:=by rw [hv];rfl
         have b124:((s[i].toNat:Int) == 124)=false:=by rw [hv];rfl
         have a124:(s[i].toNat == 124)=false:=by rw [hv];rfl
         clear hv
         go_wp2
         refine ⟨⟨i+1,rfl,by omega,(by rw [ref_step2 _ s i hlt,← HST.out,HQ.out]),trivial⟩, ?_⟩
         simp [intOf];omega
       · have hq:Sp.qb false s[i]=[92,s[i]]:=by unfold Sp.qb Sp.mk Sp.mkX Sp.mkB;rw [hv];rfl
         have HQ:=Lib.hid hq
         clear hq
         have b46:((s[i].toNat:Int) == 46)=false:=by rw [hv];rfl
         have a46:(s[i].toNat == 46)=false:=by rw [hv];rfl
         have b91:((s[i].toNat:Int) == 91)=false:=by rw [hv];rfl
         have a91:(s[i].toNat == 91)=false:=by rw [hv];rfl
         have b42:((s[i].toNat:Int) == 42)=true:=by rw [hv];rfl
         have a42:(s[i].toNat == 42)=true:=by rw [hv];rfl
         have b94:((s[i].toNat:Int) == 94)=false:=by rw [hv];rfl
         have a94:(s[i].toNat == 94)=false:=by rw [hv];rfl
         have b36:((s[i].toNat:Int) == 36)=false:=by rw [hv];rfl
         have a36:(s[i].toNat == 36)=false:=by rw [hv];rfl
         have b92:((s[i].toNat:Int) == 92)=false:=by rw [hv];rfl
         have a92:(s[i].toNat == 92)=false:=by rw [hv];rfl
         have b40:((s[i].toNat:Int) == 40)=false:=by rw [hv];rfl
         have a40:(s[i].toNat == 40)=false:=by rw [hv];rfl
         have b41:((s[i].toNat:Int) == 41)=false:=by rw [hv];rfl
         have a41:(s[i].toNat == 41)=false:=by rw [hv];rfl
         have b43:((s[i].toNat:Int) == 43)=false:=by rw [hv];rfl
         have a43:(s[i].toNat == 43)=false:=by rw [hv];rfl
         have b63:((s[i].toNat:Int) == 63)=false:=by rw [hv];rfl
         have a63:(s[i].toNat == 63)=false:=by rw [hv];rfl
         have b123:((s[i].toNat:Int) == 123)=false:=by rw [hv];rfl
         have a123:(s[i].toNat == 123)=false:=by rw [hv];rfl
         have b124:((s[i].toNat:Int) == 124)=false:=by rw [hv];rfl
         have a124:(s[i].toNat == 124)=false:=by rw [hv];rfl
         clear hv
         go_wp2
         refine ⟨⟨i+1,rfl,by omega,(by rw [ref_step2 _ s i hlt,← HST.out,HQ.out]),trivial⟩, ?_⟩
         simp [intOf];omega
       · have hq:Sp.qb false s[i]=[92,s[i]]:=by unfold Sp.qb Sp.mk Sp.mkX Sp.mkB;rw [hv];rfl
         have HQ:=Lib.hid hq
         clear hq
         have b46:((s[i].toNat:Int) == 46)=false:=by rw [hv];rfl
         have a46:(s[i].toNat == 46)=false:=by rw [hv];rfl
         have b91:((s[i].toNat:Int) == 91)=false:=by rw [hv];rfl
         have a91:(s[i].toNat == 91)=false:=by rw [hv];rfl
         have b42:((s[i].toNat:Int) == 42)=false:=by rw [hv];rfl
         have a42:(s[i].toNat == 42)=false:=by rw [hv];rfl
         have b94:((s[i].toNat:Int) == 94)=true:=by rw [hv];rfl
         have a94:(s[i].toNat == 94)=true:=by rw [hv];rfl
         have b36:((s[i].toNat:Int) == 36)=false:=by rw [hv];rfl
         have a36:(s[i].toNat == 36)=false:=by rw [hv];rfl
         have b92:((s[i].toNat:Int) == 92)=false:=by rw [hv];rfl
         have a92:(s[i].toNat == 92)=false:=by rw [hv];rfl
         have b40:((s[i].toNat:Int) == 40)=false:=by rw [hv];rfl
         have a40:(s[i].toNat == 40)=false:=by rw [hv];rfl
         have b41:((s[i].toNat:Int) == 41)=false:=by rw [hv];rfl
         have a41:(s[i].toNat == 41)=false:=by rw [hv];rfl
         have b43:((s[i].toNat:Int) == 43)=false:=by rw [hv];rfl
         have a43:(s[i].toNat == 43)=false:=by rw [hv];rfl
         have b63:((s[i].toNat:Int) == 63)=false:=by rw [hv];rfl
         have a63:(s[i].toNat == 63)=false:=by rw [hv];rfl
         have b123:((s[i].toNat:Int) == 123)=false:=by rw [hv];rfl
         have a123:(s[i].toNat == 123)=false:=by rw [hv];rfl
         have b124:((s[i].toNat:Int) == 124)=false:=by rw [hv];rfl
         have a124:(s[i].toNat == 124)=false:=by rw [hv];rfl
         clear hv
         go_wp2
         refine ⟨⟨i+1,rfl,by omega,(by rw [ref_step2 _ s i hlt,← HST.out,HQ.out]),trivial⟩, ?_⟩
         simp [intOf];omega
       · have hq:Sp.qb false s[i]=[92,s[i]]:=by unfold Sp.qb Sp.mk Sp.mkX Sp.mkB;rw [hv];rfl
         have HQ:=Lib.hid hq
         clear hq
         have b46:((s[i].toNat:Int) == 46)=false:=by rw [hv];rfl
         have a46:(s[i].toNat == 46)=false:=by rw [hv];rfl
         have b91:((s[i].toNat:Int) == 91)=false:=by rw [hv];rfl
         have a91:(s[i].toNat == 91)=false:=by rw [hv];rfl
         have b42:((s[i].toNat:Int) == 42)=false:=by rw [hv];rfl
         have a42:(s[i].toNat == 42)=false:=by rw [hv];rfl
         have b94:((s[i].toNat:Int) == 94)=false:=by rw [hv];rfl
         have a94:(s[i].toNat == 94)=false:=by rw [hv];rfl
         have b36:((s[i].toNat:Int) == 36)=true:=by rw [hv];rfl
         have a36:(s[i].toNat == 36)=true:=by rw [hv];rfl
         have b92:((s[i].toNat:Int) == 92)=false:=by rw [hv];rfl
         have a92:(s[i].toNat == 92)=false:=by rw [hv];rfl
         have b40:((s[i].toNat:Int) == 40)=false:=by rw [hv];rfl
         have a40:(s[i].toNat == 40)=false:=by rw [hv];rfl
         have b41:((s[i].toNat:Int) == 41)=false:=by rw [hv];rfl
         have a41:(s[i].toNat == 41)=false:=by rw [hv];rfl
         have b43:((s[i].toNat:Int) == 43)=false:=by rw [hv];rfl
         have a43:(s[i].toNat == 43)=false:=by rw [hv];rfl
         have b63:((s[i].toNat:Int) == 63)=false:=by rw [hv];rfl
         have a63:(s[i].toNat == 63)=false:=by rw [hv];rfl
         have b123:((s[i].toNat:Int) == 123)=false:=by rw [hv];rfl
         have a123:(s[i].toNat == 123)=false:=by rw [hv];rfl
         have b124:((s[i].toNat:Int) == 124)=false:=by rw [hv];rfl
         have a124:(s[i].toNat == 124)=false:=by rw [hv];rfl
         clear hv
         go_wp2
         refine ⟨⟨i+1,rfl,by omega,(by rw [ref_step2 _ s i hlt,← HST.out,HQ.out]),trivial⟩, ?_⟩
         simp [intOf];omega
       · have hq:Sp.qb false s[i]=[92,s[i]]:=by unfold Sp.qb Sp.mk Sp.mkX Sp.mkB;rw [hv];rfl
         have HQ:=Lib.hid hq
         clear hq
         have b46:((s[i].toNat:Int) == 46)=false:=by rw [hv];rfl
         have a46:(s[i].toNat == 46)=false:=by rw [hv];rfl
         have b91:((s[i].toNat:Int) == 91)=false:=by rw [hv];rfl
         have a91:(s[i].toNat == 91)=false:=by rw [hv];rfl
         have b42:((s[i].toNat:Int) == 42)=false:=by rw [hv];rfl
         have a42:(s[i].toNat == 42)=false:=by rw [hv];rfl
         have b94:((s[i].toNat:Int) == 94)=false:=by rw [hv];rfl
         have a94:(s[i].toNat == 94)=false:=by rw [hv];rfl
         have b36:((s[i].toNat:Int) == 36)=false:=by rw [hv];rfl
         have a36:(s[i].toNat == 36)=false:=by rw [hv];rfl
         have b92:((s[i].toNat:Int) == 92)=true:=by rw [hv];rfl
         have a92:(s[i].toNat == 92)=true:=by rw [hv];rfl
         have b40:((s[i].toNat:Int) == 40)=false:=by rw [hv];rfl
         have a40:(s[i].toNat == 40)=false:=by rw [hv];rfl
         have b41:((s[i].toNat:Int) == 41)=false:=by rw [hv];rfl
         have a41:(s[i].toNat == 41)=false:=by rw [hv];rfl
         have b43:((s[i].toNat:Int) == 43)=false:=by rw [hv];rfl
         have a43:(s[i].toNat == 43)=false:=by rw [hv];rfl
         have b63:((s[i].toNat:Int) == 63)=false:=by rw [hv];rfl
         have a63:(s[i].toNat == 63)=false:=by rw [hv];rfl
         have b123:((s[i].toNat:Int) == 123)=false:=by rw [hv];rfl
         have a123:(s[i].toNat == 123)=false:=by rw [hv];rfl
         have b124:((s[i].toNat:Int) == 124)=false:=by rw [hv];rfl
         have a124:(s[i].toNat == 124)=false:=by rw [hv];rfl
         clear hv
         go_wp2
         refine ⟨⟨i+1,rfl,by omega,(by rw [ref_step2 _ s i hlt,← HST.out,HQ.out]),trivial⟩, ?_⟩
         simp [intOf];omega
       · have hq:Sp.qb false s[i]=[s[i]]:=by unfold Sp.qb Sp.mk Sp.mkX Sp.mkB;rw [hv];rfl
         have HQ:=Lib.hid hq
         clear hq
         have b46:((s[i].toNat:Int) == 46)=false:=by rw [hv];rfl
         have a46:(s[i].toNat == 46)=false:=by rw [hv];rfl
         have b91:((s[i].toNat:Int) == 91)=false:=by rw [hv];rfl
         have a91:(s[i].toNat == 91)=false:=by rw [hv];rfl
         have b42:((s[i].toNat:Int) == 42)=false:=by rw [hv];rfl
         have a42:(s[i].toNat == 42)=false:=by rw [hv];rfl
         have b94:((s[i].toNat:Int) == 94)=false:=by rw [hv];rfl
         have a94:(s[i].toNat == 94)=false:=by rw [hv];rfl
         have b36:((s[i].toNat:Int) == 36)=false:=by rw [hv];rfl
         have a36:(s[i].toNat == 36)=false:=by rw [hv];rfl
         have b92:((s[i].toNat:Int) == 92)=false:=by rw [hv];rfl
         have a92:(s[i].toNat == 92)=false:=by rw [hv];rfl
         have b40:((s[i].toNat:Int) == 40)=true:=by rw [hv];rfl
         have a40:(s[i].toNat == 40)=true:=by rw [hv];rfl
         have b41:((s[i].toNat:Int) == 41)=false:=by rw [hv];rfl
         have a41:(s[i].toNat == 41)=false:=by rw [hv];rfl
         have b43:((s[i].toNat:Int) == 43)=false:=by rw [hv];rfl
         have a43:(s[i].toNat == 43)=false:=by rw [hv];rfl
         have b63:((s[i].toNat:Int) == 63)=false:=by rw [hv];rfl
         have a63:(s[i].toNat == 63)=false:=by rw [hv];rfl
         have b123:((s[i].toNat:Int) == 123)=false:=by rw [hv];rfl
         have a123:(s[i].toNat == 123)=false:=by rw [hv];rfl
         have b124:((s[i].toNat:Int) == 124)=false:=by rw [hv];rfl
         have a124:(s[i].toNat == 124)=false:=by rw [hv];rfl
         clear hv
         go_wp2
         refine ⟨⟨i+1,rfl,by omega,(by rw [ref_step1 _ s i hlt,← HST.out,HQ.out]),trivial⟩, ?_⟩
         simp [intOf];omega
       · have hq:Sp.qb false s[i]=[s[i]]:=by unfold Sp.qb Sp.mk Sp.mkX Sp.mkB;rw [hv];rfl
         have HQ:=Lib.hid hq
         clear hq
         have b46:((s[i].toNat:Int) == 46)=false:=by rw [hv];rfl
         have a46:(s[i].toNat == 46)=false:=by rw [hv];rfl
         have b91:((s[i].toNat:Int) == 91)=false:=by rw [hv];rfl
         have a91:(s[i].toNat == 91)=false:=by rw [hv];rfl
         have b42:((s[i].toNat:Int) == 42)=false:=by rw [hv];rfl
         have a42:(s[i].toNat == 42)=false:=by rw [hv];rfl
         have b94:((s[i].toNat:Int) == 94)=false:=by rw [hv];rfl
         have a94:(s[i].toNat == 94)=false:=by rw [hv];rfl
         have b36:((s[i].toNat:Int) == 36)=false:=by rw [hv];rfl
         have a36:(s[i].toNat == 36)=false:=by rw [hv];rfl
         have b92:((s[i].toNat:Int) == 92)=false:=by rw [hv];rfl
         have a92:(s[i].toNat == 92)=false:=by rw [hv];rfl
         have b40:((s[i].toNat:Int) == 40)=false:=by rw [hv];rfl
         have a40:(s[i].toNat == 40)=false:=by rw [hv];rfl
         have b41:((s[i].toNat:Int) == 41)=true:=by rw [hv];rfl
         have a41:(s[i].toNat == 41)=true:=by rw [hv];rfl
         have b43:((s[i].toNat:Int) == 43)=false:=by rw [hv];rfl
         have a43:(s[i].toNat == 43)=false:=by rw [hv];rfl
         have b63:((s[i].toNat:Int) == 63)=false:=by rw [hv];rfl
         have a63:(s[i].toNat == 63)=false:=by rw [hv];rfl
         have b123:((s[i].toNat:Int) == 123)=false:=by rw [hv];rfl
         have a123:(s[i].toNat == 123)=false:=by rw [hv];rfl
         have b124:((s[i].toNat:Int) == 124)=false:=by rw [hv];rfl
         have a124:(s[i].toNat == 124)=false:=by rw [hv];rfl
         clear hv
         go_wp2
         refine ⟨⟨i+1,rfl,by omega,(by rw [ref_step1 _ s i hlt,← HST.out,HQ.out]),trivial⟩, ?_⟩
         simp [intOf];omega
       · have hq:Sp.qb false s[i]=[s[i]]:=by unfold Sp.qb Sp.mk Sp.mkX Sp.mkB;rw [hv];rfl
         have HQ:=Lib.hid hq
         clear hq
         have b46:((s[i].toNat:Int) == 46)=false:=by rw [hv];rfl
         have a46:(s[i].toNat == 46)=false:=by rw [hv];rfl
         have b91:((s[i].toNat:Int) == 91)=false:=by rw [hv];rfl
         have a91:(s[i].toNat == 91)=false:=by rw [hv];rfl
         have b42:((s[i].toNat:Int) == 42)=false:=by rw [hv];rfl
         have a42:(s[i].toNat == 42)=false:=by rw [hv];rfl
         have b94:((s[i].toNat:Int) == 94)=false:=by rw [hv];rfl
         have a94:(s[i].toNat == 94)=false:=by rw [hv];rfl
         have b36:((s[i].toNat:Int) == 36)=false:=by rw [hv];rfl
         have a36:(s[i].toNat == 36)=false:=by rw [hv];rfl
         have b92:((s[i].toNat:Int) == 92)=false:=by rw [hv];rfl
         have a92:(s[i].toNat == 92)=false:=by rw [hv];rfl
         have b40:((s[i].toNat:Int) == 40)=false:=by rw [hv];rfl
         have a40:(s[i].toNat == 40)=false:=by rw [hv];rfl
         have b41:((s[i].toNat:Int) == 41)=false:=by rw [hv];rfl
         have a41:(s[i].toNat == 41)=false:=by rw [hv];rfl
         have b43:((s[i].toNat:Int) == 43)=true:=by rw [hv];rfl
         have a43:(s[i].toNat == 43)=true:=by rw [hv];rfl
         have b63:((s[i].toNat:Int) == 63)=false:=by rw [hv];rfl
         have a63:(s[i].toNat == 63)=false:=by rw [hv];rfl
         have b123:((s[i].toNat:Int) == 123)=false:=by rw [hv];rfl
         have a123:(s[i].toNat == 123)=false:=by rw [hv];rfl
         have b124:((s[i].toNat:Int) == 124)=false:=by rw [hv];rfl
         have a124:(s[i].toNat == 124)=false:=by rw [hv];rfl
         clear hv
         go_wp2
         refine ⟨⟨i+1,rfl,by omega,(by rw [ref_step1 _ s i hlt,← HST.out,HQ.out]),trivial⟩, ?_⟩
         simp [intOf];omega
       · have hq:Sp.qb false s[i]=[s[i]]:=by unfold Sp.qb Sp.mk Sp.mkX Sp.mkB;rw [hv];rfl
         have HQ:=Lib.hid hq
         clear hq
         have b46:((s[i].toNat:Int) == 46)=false:=by rw [hv];rfl
         have a46:(s[i].toNat == 46)=false:=by rw [hv];rfl
         have b91:((s[i].toNat:Int) == 91)=false:=by rw [hv];rfl
         have a91:(s[i].toNat == 91)=false:=by rw [hv];rfl
         have b42:((s[i].toNat:Int) == 42)=false:=by rw [hv];rfl
         have a42:(s[i].toNat == 42)=false:=by rw [hv];rfl
         have b94:((s[i].toNat:Int) == 94)=false:=by rw [hv];rfl
         have a94:(s[i].toNat == 94)=false:=by rw [hv];rfl
         have b36:((s[i].toNat:Int) == 36)=false:=by rw [hv];rfl
         have a36:(s[i].toNat == 36)=false:=by rw [hv];rfl
         have b92:((s[i].toNat:Int) == 92)=false:=by rw [hv];rfl
         have a92:(s[i].toNat == 92)=false:=by rw [hv];rfl
         have b40:((s[i].toNat:Int) == 40)=false:=by rw [hv];rfl
         have a40:(s[i].toNat == 40)=false:=by rw [hv];rfl
         have b41:((s[i].toNat:Int) == 41)=false:=by rw [hv];rfl
         have a41:(s[i].toNat == 41)=false:=by rw [hv];rfl
         have b43:((s[i].toNat:Int) == 43)=false:=by rw [hv];rfl
         have a43:(s[i].toNat == 43)=false:=by rw [hv];rfl
         have b63:((s[i].toNat:Int) == 63)=true:=by rw [hv];rfl
         have a63:(s[i].toNat == 63)=true:=by rw [hv];rfl
         have b123:((s[i].toNat:Int) == 123)=false:=by rw [hv];rfl
         have a123:(s[i].toNat == 123)=false:=by rw [hv];rfl
         have b124:((s[i].toNat:Int) == 124)=false:=by rw [hv];rfl
         have a124:(s[i].toNat == 124)=false:=by rw [hv];rfl
         clear hv
         go_wp2
         refine ⟨⟨i+1,rfl,by omega,(by rw [ref_step1 _ s i hlt,← HST.out,HQ.out]),trivial⟩, ?_⟩
         simp [intOf];omega
       · have hq:Sp.qb false s[i]=[s[i]]:=by unfold Sp.qb Sp.mk Sp.mkX Sp.mkB;rw [hv];rfl
         have HQ:=Lib.hid hq
         clear hq
         have b46:((s[i].toNat:Int) == 46)=false:=by rw [hv];rfl
         have a46:(s[i].toNat == 46)=false:=by rw [hv];rfl
         have b91:((s[i].toNat:Int) == 91)=false:=by rw [hv];rfl
         have a91:(s[i].toNat == 91)=false:=by rw [hv];rfl
         have b42:((s[i].toNat:Int) == 42)=false:=by rw [hv];rfl
         have a42:(s[i].toNat == 42)=false:=by rw [hv];rfl
         have b94:((s[i].toNat:Int) == 94)=false:=by rw [hv];rfl
         have a94:(s[i].toNat == 94)=false:=by rw [hv];rfl
         have b36:((s[i].toNat:Int) == 36)=false:=by rw [hv];rfl
         have a36:(s[i].toNat == 36)=false:=by rw [hv];rfl
         have b92:((s[i].toNat:Int) == 92)=false:=by rw [hv];rfl
         have a92:(s[i].toNat == 92)=false:=by rw [hv];rfl
         have b40:((s[i].toNat:Int) == 40)=false:=by rw [hv];rfl
         have a40:(s[i].toNat == 40)=false:=by rw [hv];rfl
         have b41:((s[i].toNat:Int) == 41)=false:=by rw [hv];rfl
         have a41:(s[i].toNat == 41)=false:=by rw [hv];rfl
         have b43:((s[i].toNat:Int) == 43)=false:=by rw [hv];rfl
         have a43:(s[i].toNat == 43)=false:=by rw [hv];rfl
         have b63:((s[i].toNat:Int) == 63)=false:=by rw [hv];rfl
         have a63:(s[i].toNat == 63)=false:=by rw [hv];rfl
         have b123:((s[i].toNat:Int) == 123)=true:=by rw [hv];rfl
         have a123:(s[i].toNat == 123)=true:=by rw [hv];rfl
         have b124:((s[i].toNat:Int) == 124)=false:=by rw [hv];rfl
         have a124:(s[i].toNat == 124)=false:=by rw [hv];rfl
         clear hv
         go_wp2
         refine ⟨⟨i+1,rfl,by omega,(by rw [ref_step1 _ s i hlt,← HST.out,HQ.out]),trivial⟩, ?_⟩
         simp [intOf];omega
       · have hq:Sp.qb false s[i]=[s[i]]:=by unfold Sp.qb Sp.mk Sp.mkX Sp.mkB;rw [hv];rfl
         have HQ:=Lib.hid hq
         clear hq
         have b46:((s[i].toNat:Int) == 46)=false:=by rw [hv];rfl
         have a46:(s[i].toNat == 46)=false:=by rw [hv];rfl
         have b91:((s[i].toNat:Int) == 91)=false:=by rw [hv];rfl
         have a91:(s[i].toNat == 91)=false:=by rw [hv];rfl
         have b42:((s[i].toNat:Int) == 42)=false:=by rw [hv];rfl
         have a42:(s[i].toNat == 42)=false:=by rw [hv];rfl
         have b94:((s[i].toNat:Int) == 94)=false:=by rw [hv];rfl
         have a94:(s[i].toNat == 94)=false:=by rw [hv];rfl
         have b36:((s[i].toNat:Int) == 36)=false:=by rw [hv];rfl
         have a36:(s[i].toNat == 36)=false:=by rw [hv];rfl
         have b92:((s[i].toNat:Int) == 92)=false:=by rw [hv];rfl
         have a92:(s[i].toNat == 92)=false:=by rw [hv];rfl
         have b40:((s[i].toNat:Int) == 40)=false:=by rw [hv];rfl
         have a40:(s[i].toNat == 40)=false:=by rw [hv];rfl
         have b41:((s[i].toNat:Int) == 41)=false:=by rw [hv];rfl
         have a41:(s[i].toNat == 41)=false:=by rw [hv];rfl
         have b43:((s[i].toNat:Int) == 43)=false:=by rw [hv];rfl
         have a43:(s[i].toNat == 43)=false:=by rw [hv];rfl
         have b63:((s[i].toNat:Int) == 63)=false:=by rw [hv];rfl
         have a63:(s[i].toNat == 63)=false:=by rw [hv];rfl
         have b123:((s[i].toNat:Int) == 123)=false:=by rw [hv];rfl
         have a123:(s[i].toNat == 123)=false:=by rw [hv];rfl
         have b124:((s[i].toNat:Int) == 124)=true:=by rw [hv];rfl
         have a124:(s[i].toNat == 124)=true:=by rw [hv];rfl
         clear hv
         go_wp2
         refine ⟨⟨i+1,rfl,by omega,(by rw [ref_step1 _ s i hlt,← HST.out,HQ.out]),trivial⟩, ?_⟩
         simp [intOf];omega
       · have hq:Sp.qb false s[i]=[s[i]]:=by unfold Sp.qb Sp.mk Sp.mkX Sp.mkB;simp;omega
         have HQ:=Lib.hid hq
         clear hq
         have b46:((s[i].toNat:Int) == 46)=false:=by rw [beq_eq_false_iff_ne];omega
         have a46:(s[i].toNat == 46)=false:=by rw [beq_eq_false_iff_ne];omega
         have b91:((s[i].toNat:Int) == 91)=false:=by rw [beq_eq_false_iff_ne];omega
         have a91:(s[i].toNat == 91)=false:=by rw [beq_eq_false_iff_ne];omega
         have b42:((s[i].toNat:Int) == 42)=false:=by rw [beq_eq_false_iff_ne];omega
         have a42:(s[i].toNat == 42)=false:=by rw [beq_eq_false_iff_ne];omega
         have b94:((s[i].toNat:Int) == 94)=false:=by rw [beq_eq_false_iff_ne];omega
         have a94:(s[i].toNat == 94)=false:=by rw [beq_eq_false_iff_ne];omega
         have b36:((s[i].toNat:Int) == 36)=false:=by rw [beq_eq_false_iff_ne];omega
         have a36:(s[i].toNat == 36)=false:=by rw [beq_eq_false_iff_ne];omega
         have b92:((s[i].toNat:Int) == 92)=false:=by rw [beq_eq_false_iff_ne];omega
         have a92:(s[i].toNat == 92)=false:=by rw [beq_eq_false_iff_ne];omega
         have b40:((s[i].toNat:Int) == 40)=false:=by rw [beq_eq_false_iff_ne];omega
         have a40:(s[i].toNat == 40)=false:=by rw [beq_eq_false_iff_ne];omega
         have b41:((s[i].toNat:Int) == 41)=false:=by rw [beq_eq_false_iff_ne];omega
         have a41:(s[i].toNat == 41)=false:=by rw [beq_eq_false_iff_ne];omega
         have b43:((s[i].toNat:Int) == 43)=false:=by rw [beq_eq_false_iff_ne];omega
         have a43:(s[i].toNat == 43)=false:=by rw [beq_eq_false_iff_ne];omega
         have b63:((s[i].toNat:Int) == 63)=false:=by rw [beq_eq_false_iff_ne];omega
         have a63:(s[i].toNat == 63)=false:=by rw [beq_eq_false_iff_ne];omega
         have b123:((s[i].toNat:Int) == 123)=false:=by rw [beq_eq_false_iff_ne];omega
         have a123:(s[i].toNat == 123)=false:=by rw [beq_eq_false_iff_ne];omega
         have b124:((s[i].toNat:Int) == 124)=false:=by rw [beq_eq_false_iff_ne];omega
         have a124:(s[i].toNat == 124)=false:=by rw [beq_eq_false_iff_ne];omega
         clear hv
         go_wp2
         refine ⟨⟨i+1,rfl,by omega,(by rw [ref_step1 _ s i hlt,← HST.out,HQ.out]),trivial⟩, ?_⟩
         simp [intOf];omega
     · have hd:decide ((i:Int) < s.size)=false:=by simp;omega
       have hd':decide (i < s.size)=false:=by simpa using hlt
       have hall:s.data.toList.take i=s.data.toList:=List.take_of_length_le (by simp;omega)
       rw [hall]
       clear hall
       go_wp2
       go_ret
       exact ⟨rfl,rfl⟩
end Go.Proofs.YtfcilopifjddpaaGreatDoor
namespace Go.Proofs.YtfcilopifjddpaaGreatDoor
open Go.RowKit
theorem dec_small {u:Nat} (h:u < 10):Lib.decDigits u=[UInt8.ofNat (48+u)]:=by rw [Lib.decDigits,dif_pos h]
theorem nDigits_le:∀ k u:Nat,0 < k→u < 10 ^ k→Lib.nDigits u ≤ k:=by
 intro k
 induction k with
 | zero=>intro u h;omega
 | succ k ih =>
   intro u _ hu
   rw [Lib.nDigits]
   split
   · omega
   · rename_i h
     rcases Nat.eq_zero_or_pos k with rfl | hk
     · omega
     · have:u / 10 < 10 ^ k:=by rw [Nat.pow_succ] at hu;omega
       have:=ih (u / 10) hk this
       omega
theorem dec_len {u:Nat} (h:u ≤ 9223372036854775808):(Lib.decDigits u).length ≤ 19:=by
 rw [Lib.decDigits_length]
 exact nDigits_le 19 u (by omega) (by omega)
def tx (l:List UInt8):ByteArray:=⟨l.toArray⟩
theorem tx_size (l:List UInt8):(tx l).size=l.length:=by simp [tx,ByteArray.size]
end Go.Proofs.YtfcilopifjddpaaGreatDoor
namespace Go.Proofs.YtfcilopifjddpaaGreatDoor
open Go.RowKit Go.Extern.Stop Go.Stop Go.Extern
def NewLink (T:TypeId) (n:Int) (v:Value) (w:World) (e:Ending) (w':World):Prop :=
 ∃ p,e=.returned (.iface T (.pointer (some ⟨p,0,none⟩)))∧w.heap.size ≤ p∧Below w.heap.size w w'∧w'.cell? ⟨p,0,none⟩=some (.int .i64 n)∧w'.cell? ⟨p,1,none⟩=some v
theorem at_any (n:Int) (t:TypeId) (q:Value) (w:World):Calls Tryz.prog 48 #[.int .i64 n,.iface t q] w (NewLink 63 n (.iface t q) w):=by
 go_enter Tryz.func48,Tryz.ntmps48
 go_wp2
 go_ret
 exact ⟨w.heap.size,rfl,Nat.le_refl _,(Below.refl _ _).alloc (Nat.le_refl _) _,by rw [cell_new];rfl,by rw [cell_new];rfl⟩
end Go.Proofs.YtfcilopifjddpaaGreatDoor
namespace Go.Proofs.YtfcilopifjddpaaGreatDoor
open Go.RowKit
theorem itoa_len {n:Int} (h0 : -9223372036854775808 ≤ n) (h1:n ≤ 9223372036854775807):(Lib.itoa n).length ≤ 20:=by
 unfold Lib.itoa
 split
 · have:=dec_len (u:=n.natAbs) (by omega);simp;omega
 · have:=dec_len (u:=n.toNat) (by omega);omega
end Go.Proofs.YtfcilopifjddpaaGreatDoor
namespace Go.Proofs.YtfcilopifjddpaaGreatDoor
open Go.RowKit
structure SpPow (w:World):Prop where
 pow : Lib.TabIs Tryz.prog w "internal/strconv.uint64pow10" .u64 Lib.pow10Tab
theorem SpPow.later {w w':World} (h:SpPow w) (hb:Below w.heap.size w w'):SpPow w':=⟨Lib.tabBelow_of_tabIs h.pow w' hb⟩
theorem itoa_is (x:Int) (hx : -9223372036854775808 ≤ x∧x ≤ 9223372036854775807) (w:World) (hF:SpPow w):Calls Tryz.prog 116 #[.int .i64 x] w fun e w'=>e=.returned (.string (tx (Lib.itoa x)))∧Below w.heap.size w w':=by
 refine (Tryz.strconv_Itoa x hx.1 hx.2 w hF.pow).mono ?_
 rintro e w' ⟨rfl,k,os,rfl⟩
 exact ⟨rfl,Lib.below_grow _ _ (Nat.le_refl _) _ _⟩
namespace Sp
def repTx (a b:Int):List UInt8 :=
 if b = -1 then (if a=0 then [42] else if a=1 then [43] else [123] ++ Lib.itoa a ++ [44,125])
 else if a=0∧b=1 then [63]
 else if b=a then [123] ++ Lib.itoa a ++ [125]
 else [123] ++ Lib.itoa a ++ [44] ++ Lib.itoa b ++ [125]
theorem repTx_len (a b:Int) (ha : -9223372036854775808 ≤ a∧a ≤ 9223372036854775807) (hb : -9223372036854775808 ≤ b∧b ≤ 9223372036854775807):(repTx a b).length ≤ 43:=by
 have h1:=itoa_len ha.1 ha.2
 have h2:=itoa_len hb.1 hb.2
 unfold repTx
 split
 · split
   · simp
   · split <;> simp <;> omega
 · split
   · simp
   · split <;> simp <;> omega
mutual
def txT (S:Tr→List UInt8):Tr→List UInt8
 | .node k a b c d s n lo hi br =>
   if k=2 then S (.node k a b c d s n lo hi br)
   else if k=3 then [94]
   else if k=4 then [36]
   else if k=5 then txS S [] s
   else if k=6 then txS S [124] s
   else if k=7 then [40] ++ txS S [] s ++ [41]
   else if k=8 then txS S [] s ++ repTx lo hi
   else []
def txS (S:Tr→List UInt8) (sep:List UInt8):List Tr→List UInt8
 | []=>[]
 | t :: l=>txT S t ++ txR S sep l
def txR (S:Tr→List UInt8) (sep:List UInt8):List Tr→List UInt8
 | []=>[]
 | t :: l=>sep ++ txT S t ++ txR S sep l
end
mutual
def lvsT:Tr→List Tr
 | .node k a b c d s n lo hi br=>if k=2 then [.node k a b c d s n lo hi br] else lvsS s
def lvsS:List Tr→List Tr
 | []=>[]
 | t :: l=>lvsT t ++ lvsS l
end
theorem txR_snoc (S:Tr→List UInt8) (sep:List UInt8) (x:Tr):∀ l:List Tr,txR S sep (l ++ [x])=txR S sep l ++ (sep ++ txT S x)
 | []=>by simp [txR]
 | t :: l=>by rw [List.cons_append,txR,txR,txR_snoc S sep x l];simp
theorem txS_snoc (S:Tr→List UInt8) (sep:List UInt8) (x:Tr) (l:List Tr):txS S sep (l ++ [x])=txS S sep l ++ ((if l.length=0 then [] else sep) ++ txT S x):=by
 cases l with
 | nil=>simp [txS,txR]
 | cons t l=>rw [List.cons_append,txS,txS,txR_snoc];simp
theorem txS_take (S:Tr→List UInt8) (sep:List UInt8) (l:List Tr) (m:Nat) (x:Tr) (h:l[m]? = some x):txS S sep (l.take (m+1))=txS S sep (l.take m) ++ ((if m=0 then [] else sep) ++ txT S x):=by
 have hm:m < l.length:=by
   rcases Nat.lt_or_ge m l.length with h' | h'
   · exact h'
   · rw [List.getElem?_eq_none h'] at h;cases h
 rw [List.take_add_one,h,Option.toList_some,txS_snoc,List.length_take,Nat.min_eq_left (by omega)]
theorem txS_le (S:Tr→List UInt8) (sep:List UInt8) (l:List Tr):∀ n m,m+n=l.length→(txS S sep (l.take m)).length ≤ (txS S sep l).length
 | 0,m,h=>by rw [List.take_of_length_le (by omega)];exact Nat.le_refl _
 | n+1,m,h=>by
   have h1:=txS_le S sep l n (m+1) (by omega)
   rw [txS_take S sep l m l[m] (List.getElem?_eq_getElem (by omega)),List.length_append] at h1
   omega
theorem lvsS_mem {x u:Tr} : ∀ {l:List Tr},x ∈ l→u ∈ lvsT x→u ∈ lvsS l
 | [],h,_=>by cases h
 | t :: l,h,hu=>by
   rw [lvsS]
   rcases List.mem_cons.1 h with rfl | h
   · exact List.mem_append_left _ hu
   · exact List.mem_append_right _ (lvsS_mem h hu)
end Sp
theorem Bl.later {B b:Nat} {l:List UInt8} {w w':World} (h:Bl B b l w) (hb:Below w.heap.size w w'):Bl B b l w':=by
 have key:∀ p,Lib.BuilderAtF 76 5 B b p (Lib.byteCells l) w→Lib.BuilderAtF 76 5 B b p (Lib.byteCells l) w':=by
   rintro p ⟨hB,v,hbk,hown,hne⟩
   refine ⟨hB,v,keep_blk hb hbk,hown.kept (row:=none) ⟨hb.os,hb.tape,hb.output,hb.size,fun k hk _=>hb.block k hk⟩ ?_,hne⟩
   cases h:Value.ownBlock v with
   | none=>exact .inl rfl
   | some g=>exact .inr (by simp)
 exact h.elim (fun x=>.inl (key _ x)) (fun x=>.inr (key _ x))
theorem BlTo.of_below {B b:Nat} {w w':World} (hB:B ≤ w.heap.size) (h:Below w.heap.size w w'):BlTo B b w w' :=
 ⟨h.mono hB,fun k o hk _ _=>by rw [h.block k (Array.getElem?_eq_some_iff.1 hk).1];exact hk⟩
theorem Bl.lt {B b:Nat} {l:List UInt8} {w:World} (h:Bl B b l w):b < w.heap.size:=h.elim (fun x=>x.lt) (fun x=>x.lt)
theorem BlTo.node {B b k:Nat} {w w':World} {cs:Array Value} (h:BlTo B b w w') (hk:w.heap[k]? = some (.cells cs 28)) (hb:k ≠ b):w'.heap[k]? = some (.cells cs 28) :=
 h.2 k _ hk (fun e=>hb (Option.some.inj e)) (fun c fz e=>by injection e with e1 e2 e3;exact absurd e2 (by decide))
def WrEnd (B b:Nat) (l:List UInt8) (w:World) (e:Ending) (w':World):Prop:=e=.returned (.tuple #[])∧Bl B b l w'∧BlTo B b w w'
def WrSet (W0:World) (S:Tr→List UInt8) (x:Tr):Prop:=∀ (w:World) (b:Nat) (l:List UInt8),Below W0.heap.size W0 w→Bl W0.heap.size b l w→l.length+(S x).length ≤ 70368744177664 →
 Calls Tryz.prog 77 #[.pointer (some ⟨b,0,none⟩),(.agg #[.int .u64 (Oc.U (x.w0)),.int .u64 (Oc.U (x.w1)),.int .u64 (Oc.U (x.w2)),.int .u64 (Oc.U (x.w3))])] w (WrEnd W0.heap.size b (l ++ S x) w)
theorem sprepeat_any (a b:Int) (ha : -9223372036854775808 ≤ a∧a ≤ 9223372036854775807) (hb : -9223372036854775808 ≤ b∧b ≤ 9223372036854775807) (w:World) (hF:SpPow w) :
   Calls Tryz.prog 81 #[.int .i64 a,.int .i64 b] w fun e w'=>e=.returned (.string (tx (Sp.repTx a b)))∧Below w.heap.size w w':=by
 have HA:=Lib.hid (fun w' (h:Below w.heap.size w w')=>itoa_is a ha w' (hF.later h))
 have HB:=Lib.hid (fun w' (h:Below w.heap.size w w')=>itoa_is b hb w' (hF.later h))
 have H0:=Lib.hid (Below.refl w.heap.size w)
 obtain ⟨R,hR⟩:∃ R,Sp.repTx a b=R:=⟨_,rfl⟩
 rw [hR]
 have hla:(tx (Lib.itoa a)).size ≤ 20:=by rw [tx_size];exact itoa_len ha.1 ha.2
 have hlb:(tx (Lib.itoa b)).size ≤ 20:=by rw [tx_size];exact itoa_len hb.1 hb.2
 unfold Sp.repTx at hR
 generalize hda:Lib.itoa a=da at *
 generalize hdb:Lib.itoa b=db at *
 clear hda hdb ha hb hF
 by_cases hb1:b = -1
 · rw [if_pos hb1] at hR
   subst hb1
   by_cases ha0:a=0
   · rw [if_pos ha0] at hR
     subst ha0;subst hR
     go_enter Tryz.func81,Tryz.ntmps81
     go_wp2
     go_ret
     exact ⟨rfl,H0.out⟩
   · rw [if_neg ha0] at hR
     have e0:(a == 0)=false:=by simpa using ha0
     by_cases ha1:a=1
     · rw [if_pos ha1] at hR
       subst ha1;subst hR
       clear e0
       go_enter Tryz.func81,Tryz.ntmps81
       go_wp2
       go_ret
       exact ⟨rfl,H0.out⟩
     · rw [if_neg ha1] at hR
       have e1:(a == 1)=false:=by simpa using ha1
       have HR:=Lib.hid hR
       clear hR ha0 ha1
       go_enter Tryz.func81,Tryz.ntmps81
       go_wp2_with fail
       refine (HA.out _ H0.out).mono ?_;rintro e w1 ⟨rfl,hb1⟩
       have HB1:=Lib.hid hb1
       clear hb1
       go_wp2
       go_ret
       refine ⟨?_,HB1.out⟩
       rw [← HR.out]
       exact congrArg (fun s=>Ending.returned (.string s)) (ba_mk (by simp [tx,ByteArray.data_append]))
 · rw [if_neg hb1] at hR
   have eb1:(b == -1)=false:=by simpa using hb1
   clear hb1
   by_cases h01:a=0∧b=1
   · rw [if_pos h01] at hR
     obtain ⟨rfl,rfl⟩:=h01
     subst hR
     clear eb1
     go_enter Tryz.func81,Tryz.ntmps81
     go_wp2
     go_ret
     exact ⟨rfl,H0.out⟩
   · rw [if_neg h01] at hR
     by_cases hab:b=a
     · rw [if_pos hab] at hR
       subst hab
       have HR:=Lib.hid hR
       clear hR
       have hx:(b == 0 && b == 1)=false:=by
         rw [Bool.eq_false_iff];intro h;simp only [Bool.and_eq_true,beq_iff_eq] at h;omega
       cases e0:(b == 0) <;> cases e1:(b == 1) <;> first
         | (rw [e0,e1] at hx;cases hx;done)
         | (clear h01 hx
            go_enter Tryz.func81,Tryz.ntmps81
            go_wp2_with fail
            refine (HA.out _ H0.out).mono ?_;rintro e w1 ⟨rfl,hb1⟩
            have HB1:=Lib.hid hb1
            clear hb1
            go_wp2
            go_ret
            refine ⟨?_,HB1.out⟩
            rw [← HR.out]
            exact congrArg (fun s=>Ending.returned (.string s)) (ba_mk (by simp [tx,ByteArray.data_append])))
     · rw [if_neg hab] at hR
       have HR:=Lib.hid hR
       have eab:(b == a)=false:=by simpa using hab
       clear hR hab
       have hx:(a == 0 && b == 1)=false:=by
         rw [Bool.eq_false_iff];intro h;simp only [Bool.and_eq_true,beq_iff_eq] at h;exact h01 h
       clear h01
       cases e0:(a == 0) <;> cases e1:(b == 1) <;> cases e2:(a == 1) <;> first
         | (rw [e0,e1] at hx;cases hx;done)
         | (clear hx
            go_enter Tryz.func81,Tryz.ntmps81
            go_wp2_with fail
            refine (HA.out _ H0.out).mono ?_;rintro e w1 ⟨rfl,hb1⟩
            have HB1:=Lib.hid hb1
            clear hb1
            go_wp2_with fail
            refine (HB.out _ HB1.out).mono ?_;rintro e w2 ⟨rfl,hb2⟩
            have HB2:=Lib.hid (HB1.out.trans (hb2.mono HB1.out.size))
            clear hb2
            go_wp2
            go_ret
            refine ⟨?_,HB2.out⟩
            rw [← HR.out]
            exact congrArg (fun s=>Ending.returned (.string s)) (ba_mk (by simp [tx,ByteArray.data_append])))
end Go.Proofs.YtfcilopifjddpaaGreatDoor
namespace Go.Proofs.YtfcilopifjddpaaGreatDoor
open Go.RowKit
def WrT (W0:World) (S:Tr→List UInt8) (t:Tr):Prop:=∀ (v:Value) (C:Nat→Prop) (w:World) (b:Nat) (l:List UInt8),NodeV W0 C v t→Below W0.heap.size W0 w→Bl W0.heap.size b l w→l.length+(Sp.txT S t).length ≤ 70368744177664 →
 Calls Tryz.prog 39 #[.pointer (some ⟨b,0,none⟩),v] w (WrEnd W0.heap.size b (l ++ Sp.txT S t) w)
theorem writesubs_of (W0:World) (S:Tr→List UInt8) (t:Tr) (ih:∀ u,u ∈ t.subs→WrT W0 S u) (sep:List UInt8) (v:Value) (C:Nat→Prop) (w:World) (b:Nat) (l:List UInt8) (hv:NodeV W0 C v t) (hb:Below W0.heap.size W0 w) (hl:Bl W0.heap.size b l w) (hlen:l.length+(Sp.txS S sep t.subs).length ≤ 70368744177664) :
   Calls Tryz.prog 79 #[.pointer (some ⟨b,0,none⟩),v,.string (tx sep)] w (WrEnd W0.heap.size b (l ++ Sp.txS S sep t.subs) w):=by
 obtain ⟨s,rfl,hs⟩:=hv
 obtain ⟨p,cap,rfl,hlens⟩:=hs.slice
 generalize hts:t.subs=ts at *
 have IH:=Lib.hid ih;have HS:=Lib.hid hs
 clear ih hs hts
 unfold Tr.cells at *
 have HBS:=Lib.hid blstr_any
 have hwz:=hb.size
 have hbw:Below W0.heap.size w (w.alloc (.cells #[.int .i64 t.kind,.int .u64 (Oc.U t.w0),.int .u64 (Oc.U t.w1),.int .u64 (Oc.U t.w2),.int .u64 (Oc.U t.w3),.slice p ts.length cap,.int .i64 t.num,.int .i64 t.least,.int .i64 t.most,.bool t.bare] 28)):=(Below.refl _ _).alloc hwz _
 have hbw2:Below w.heap.size w (w.alloc (.cells #[.int .i64 t.kind,.int .u64 (Oc.U t.w0),.int .u64 (Oc.U t.w1),.int .u64 (Oc.U t.w2),.int .u64 (Oc.U t.w3),.slice p ts.length cap,.int .i64 t.num,.int .i64 t.least,.int .i64 t.most,.bool t.bare] 28)):=(Below.refl _ _).alloc (Nat.le_refl _) _
 have HW:=Lib.hid (hb.trans hbw)
 have HL0:=Lib.hid (hl.later hbw2)
 have HT0:=Lib.hid (BlTo.of_below (b:=b) hwz hbw2)
 have hbl:b < w.heap.size:=hl.lt
 have hsz0:(w.alloc (.cells #[.int .i64 t.kind,.int .u64 (Oc.U t.w0),.int .u64 (Oc.U t.w1),.int .u64 (Oc.U t.w2),.int .u64 (Oc.U t.w3),.slice p ts.length cap,.int .i64 t.num,.int .i64 t.least,.int .i64 t.most,.bool t.bare] 28)).heap.size=w.heap.size+1:=by simp
 clear hb hl hbw hbw2
 go_enter Tryz.func79,Tryz.ntmps79
 go_wp2
 generalize w.alloc (.cells #[.int .i64 t.kind,.int .u64 (Oc.U t.w0),.int .u64 (Oc.U t.w1),.int .u64 (Oc.U t.w2),.int .u64 (Oc.U t.w3),.slice p ts.length cap,.int .i64 t.num,.int .i64 t.least,.int .i64 t.most,.bool t.bare] 28)=W1 at *
 go_loopw [11] (fun iv wr=>∃ m:Nat,iv=.int .i64 m∧m ≤ ts.length∧Hid (Below W0.heap.size W0 wr)∧Hid (Bl W0.heap.size b (l ++ Sp.txS S sep (ts.take m)) wr)∧Hid (BlTo W0.heap.size b w wr)) (fun iv _=>ts.length - (intOf iv).toNat)
 case atStart=>exact ⟨0,rfl,Nat.zero_le _,HW,Lib.hid (by simpa [Sp.txS] using HL0.out),HT0⟩
 case round =>
   obtain ⟨m,rfl,hm,HB,HL,HT⟩:=hrel
   have wm:IntKind.i64.wrap ((m:Int)+1)=(m:Int)+1:=IntWalk.i64_in _ (by omega)
   by_cases hlt:m < ts.length
   · obtain ⟨x,hx⟩:∃ x,ts[m]? = some x:=⟨_,List.getElem?_eq_getElem hlt⟩
     obtain ⟨b1,o1,s1,rfl,-,t1,sub1⟩:=HS.out.get hx
     obtain ⟨d0,d1,d2,d3,d4,d5,d6,d7,d8,d9⟩:=t1.keep (HB.out.block _ t1.lt)
     have hmem:=List.mem_of_getElem? hx
     obtain ⟨p1,c1,rfl,hl1⟩:=sub1.slice
     have hst:=Sp.txS_take S sep ts m x hx
     have hle:=Sp.txS_le S sep ts (ts.length - (m+1)) (m+1) (by omega)
     have HC:=Lib.hid (IH.out x hmem (.agg (x.cells (.slice p1 x.subs.length c1))) C)
     have HV:=Lib.hid (show NodeV W0 C (.agg (x.cells (.slice p1 x.subs.length c1))) x from ⟨_,rfl,sub1⟩)
     clear t1 sub1 hmem hx
     have hwzr:=HB.out.size
     have hbx:Below wr.heap.size wr (wr.alloc (.cells #[.int .i64 x.kind,.int .u64 (Oc.U x.w0),.int .u64 (Oc.U x.w1),.int .u64 (Oc.U x.w2),.int .u64 (Oc.U x.w3),.slice p1 x.subs.length c1,.int .i64 x.num,.int .i64 x.least,.int .i64 x.most,.bool x.bare] 28)):=(Below.refl _ _).alloc (Nat.le_refl _) _
     have HBX:=Lib.hid (HB.out.trans (hbx.mono hwzr))
     have HLX:=Lib.hid (HL.out.later hbx)
     have HTX:=Lib.hid (HT.out.trans (BlTo.of_below (b:=b) hwzr hbx))
     have hzx:=heap_alloc_new wr (.cells #[.int .i64 x.kind,.int .u64 (Oc.U x.w0),.int .u64 (Oc.U x.w1),.int .u64 (Oc.U x.w2),.int .u64 (Oc.U x.w3),.slice p1 x.subs.length c1,.int .i64 x.num,.int .i64 x.least,.int .i64 x.most,.bool x.bare] 28)
     have HZX:=Lib.hid hzx
     have hnb:wr.heap.size ≠ b:=by have:=HL.out.lt;omega
     clear hbx hzx HL HT HB
     unfold Tr.cells at HC HV
     go_upto_if 17 with (fail)
     generalize wr.alloc (.cells #[.int .i64 x.kind,.int .u64 (Oc.U x.w0),.int .u64 (Oc.U x.w1),.int .u64 (Oc.U x.w2),.int .u64 (Oc.U x.w3),.slice p1 x.subs.length c1,.int .i64 x.num,.int .i64 x.least,.int .i64 x.most,.bool x.bare] 28)=w1 at *
     clear d0 d1 d2 d3 d4 d5 d6 d7 d8 d9
     generalize hT:Sp.txS S sep (ts.take m)=T at *
     generalize hX:Sp.txT S x=X at *
     go_cut [17] (fun _ wx=>Hid (Below W0.heap.size W0 wx)∧Hid (Bl W0.heap.size b (l ++ (T ++ (if m=0 then [] else sep))) wx)∧Hid (BlTo W0.heap.size b w wx)∧Hid (wx.heap[wr.heap.size]? = some (.cells #[.int .i64 x.kind,.int .u64 (Oc.U x.w0),.int .u64 (Oc.U x.w1),.int .u64 (Oc.U x.w2),.int .u64 (Oc.U x.w3),.slice p1 x.subs.length c1,.int .i64 x.num,.int .i64 x.least,.int .i64 x.most,.bool x.bare] 28)))
     case first =>
       by_cases h0:m=0
       · subst h0
         go_wp2
         go_meet
         exact ⟨HBX,Lib.hid (by simpa using HLX.out),HTX,HZX⟩
       · have hd:decide ((0:Int) < (m:Int))=true:=by simp;omega
         have hd':decide (0 < m)=true:=by simp;omega
         rw [hst,if_neg h0] at hle
         have hl2:(l ++ T).length+(tx sep).size ≤ 140737488355328:=by rw [tx_size];simp only [List.length_append] at hle ⊢;omega
         go_wp2_with fail
         refine (HBS.out W0.heap.size b (l ++ T) (tx sep) _ HLX.out hl2 HBX.out.size).mono ?_;rintro e w2 ⟨rfl,h2,t2⟩
         have H2:=Lib.hid h2;have T2:=Lib.hid t2
         clear h2 t2
         go_wp2
         go_meet
         refine ⟨Lib.hid (HBX.out.trans T2.out.1),Lib.hid ?_,Lib.hid (HTX.out.trans T2.out),Lib.hid (T2.out.node HZX.out hnb)⟩
         rw [if_neg h0]
         have:=H2.out
         rw [List.append_assoc] at this
         exact this
     case rest =>
       obtain ⟨HB2,HL2,HT2,HZ2⟩:=hcut
       clear HBX HLX HTX HZX
       obtain ⟨d0,d1,d2,d3,d4,d5,d6,d7,d8,d9⟩:=allTen HZ2.out
       rw [hst] at hle
       have hl3:(l ++ (T ++ (if m=0 then [] else sep))).length+X.length ≤ 70368744177664:=by simp only [List.length_append] at hle ⊢;omega
       have hCall:=HC.out _ b _ HV.out HB2.out HL2.out hl3
       have HCL:=Lib.hid hCall
       have hbz:=HL2.out.lt
       clear hCall HC
       go_wp2_with fail
       refine HCL.out.mono ?_;rintro e w3 ⟨rfl,h3,t3⟩
       have H3:=Lib.hid h3;have T3:=Lib.hid t3
       clear h3 t3 d0 d1 d2 d3 d4 d5 d6 d7 d8 d9 HCL
       go_wp2
       refine ⟨⟨m+1,by go_num,by omega,Lib.hid (HB2.out.trans T3.out.1),Lib.hid ?_,Lib.hid (HT2.out.trans T3.out)⟩,by simp [intOf];omega⟩
       rw [hst]
       have:=H3.out
       simpa [List.append_assoc] using this
   · obtain rfl:m=ts.length:=by omega
     rw [List.take_length] at *
     go_wp2
     go_end0
     exact ⟨rfl,HL.out,HT.out⟩
theorem writetree_any (W0:World) (hF:SpPow W0) (S:Tr→List UInt8):∀ t:Tr,t.InForm→(∀ x,x ∈ Sp.lvsT t→WrSet W0 S x)→WrT W0 S t:=by
 intro t
 induction t using Tr.rec_subs with
 | h t ih =>
   intro hf hset v C w b l hv hb hl hlen
   have hsubs:∀ u,u ∈ t.subs→t.kind ≠ 2→WrT W0 S u:=fun u hu hk=>ih u hu (hf.sub hu) fun x hx=>hset x (by
     cases t with | node k a b c d s n lo hi br =>
     rw [Sp.lvsT,if_neg (show ¬ k=2 from hk)]
     exact Sp.lvsS_mem hu hx)
   have hfl:=hf.fields
   have HV:=Lib.hid hv
   obtain ⟨s,rfl,hs⟩:=hv
   obtain ⟨p,cap,rfl,hlens⟩:=hs.slice
   have hset2:t.kind=2→WrSet W0 S t:=fun hk=>hset t (by
     cases t with | node k a b c d s n lo hi br =>
     rw [Sp.lvsT,if_pos (show k=2 from hk)];exact List.mem_cons_self)
   clear ih hset hf hs
   have HWS:=Lib.hid (fun (h2:t.kind ≠ 2)=>writesubs_of W0 S t (fun u hu=>hsubs u hu h2))
   have HSET:=Lib.hid hset2
   have HBB:=Lib.hid blbyte_any;have HBS:=Lib.hid blstr_any
   have hF':=Lib.hid hF
   clear hsubs hset2 hF
   have hwz:=hb.size
   have hbw:Below W0.heap.size w (w.alloc (.cells #[.int .i64 t.kind,.int .u64 (Oc.U t.w0),.int .u64 (Oc.U t.w1),.int .u64 (Oc.U t.w2),.int .u64 (Oc.U t.w3),.slice p t.subs.length cap,.int .i64 t.num,.int .i64 t.least,.int .i64 t.most,.bool t.bare] 28)):=(Below.refl _ _).alloc hwz _
   have hbw2:Below w.heap.size w (w.alloc (.cells #[.int .i64 t.kind,.int .u64 (Oc.U t.w0),.int .u64 (Oc.U t.w1),.int .u64 (Oc.U t.w2),.int .u64 (Oc.U t.w3),.slice p t.subs.length cap,.int .i64 t.num,.int .i64 t.least,.int .i64 t.most,.bool t.bare] 28)):=(Below.refl _ _).alloc (Nat.le_refl _) _
   have HW:=Lib.hid (hb.trans hbw)
   have HL0:=Lib.hid (hl.later hbw2)
   have HT0:=Lib.hid (BlTo.of_below (b:=b) hwz hbw2)
   have HZ0:=Lib.hid (heap_alloc_new w (.cells #[.int .i64 t.kind,.int .u64 (Oc.U t.w0),.int .u64 (Oc.U t.w1),.int .u64 (Oc.U t.w2),.int .u64 (Oc.U t.w3),.slice p t.subs.length cap,.int .i64 t.num,.int .i64 t.least,.int .i64 t.most,.bool t.bare] 28))
   have hnb:w.heap.size ≠ b:=by have:=hl.lt;omega
   clear hb hl hbw hbw2
   have htx:Sp.txT S t=if t.kind=2 then S t else if t.kind=3 then [94] else if t.kind=4 then [36] else if t.kind=5 then Sp.txS S [] t.subs else if t.kind=6 then Sp.txS S [124] t.subs else if t.kind=7 then [40] ++ Sp.txS S [] t.subs ++ [41] else if t.kind=8 then Sp.txS S [] t.subs ++ Sp.repTx t.least t.most else []:=by
     cases t;rw [Sp.txT];rfl
   rw [htx] at hlen ⊢
   clear htx
   have hk:t.kind=1 ∨ t.kind=2 ∨ t.kind=3 ∨ t.kind=4 ∨ t.kind=5 ∨ t.kind=6 ∨ t.kind=7 ∨ (t.kind=8∧(0 ≤ t.least∧t.least ≤ 255)∧(t.most = -1 ∨ t.least ≤ t.most∧t.most ≤ 255)):=by
     unfold Tr.fieldsOk at hfl
     rcases hfl with ⟨h | h | h,-⟩ | ⟨h,-⟩ | ⟨h | h,-⟩ | ⟨h,-⟩ | ⟨h,-,-,-,-,-,-,h1,h2,h3,-⟩
     · exact .inl h
     · exact .inr (.inr (.inl h))
     · exact .inr (.inr (.inr (.inl h)))
     · exact .inr (.inl h)
     · exact .inr (.inr (.inr (.inr (.inl h))))
     · exact .inr (.inr (.inr (.inr (.inr (.inl h)))))
     · exact .inr (.inr (.inr (.inr (.inr (.inr (.inl h))))))
     · exact .inr (.inr (.inr (.inr (.inr (.inr (.inr ⟨h,⟨h1,h2⟩,h3⟩))))))
   clear hfl
   have hb3:b < w.heap.size+1:=by have:=HL0.out.lt;simp at this;omega
   unfold Tr.cells at *
   generalize t.kind=K at *
   rcases hk with rfl | rfl | rfl | rfl | rfl | rfl | rfl | ⟨rfl,hlo,hhi⟩
   · simp only [reduceIte,Int.reduceEq] at hlen ⊢
     obtain ⟨d0,d1,d2,d3,d4,d5,d6,d7,d8,d9⟩:=allTen HZ0.out
     go_enter Tryz.func39,Tryz.ntmps39
     go_upto_region 1 with (fail)
     generalize w.alloc (.cells #[.int .i64 1,.int .u64 (Oc.U t.w0),.int .u64 (Oc.U t.w1),.int .u64 (Oc.U t.w2),.int .u64 (Oc.U t.w3),.slice p t.subs.length cap,.int .i64 t.num,.int .i64 t.least,.int .i64 t.most,.bool t.bare] 28)=W1 at *
     go_wp2
     go_end0
     exact ⟨rfl,by simpa using HL0.out,HT0.out⟩
   · simp only [reduceIte,Int.reduceEq] at hlen ⊢
     obtain ⟨d0,d1,d2,d3,d4,d5,d6,d7,d8,d9⟩:=allTen HZ0.out
     go_enter Tryz.func39,Tryz.ntmps39
     go_upto_region 1 with (fail)
     generalize w.alloc (.cells #[.int .i64 2,.int .u64 (Oc.U t.w0),.int .u64 (Oc.U t.w1),.int .u64 (Oc.U t.w2),.int .u64 (Oc.U t.w3),.slice p t.subs.length cap,.int .i64 t.num,.int .i64 t.least,.int .i64 t.most,.bool t.bare] 28)=W1 at *
     have HC:=Lib.hid (HSET.out rfl _ b l HW.out HL0.out hlen)
     clear HSET
     go_wp2_with fail
     refine HC.out.mono ?_;rintro e w2 ⟨rfl,h2,t2⟩
     have H2:=Lib.hid h2;have T2:=Lib.hid (HT0.out.trans t2)
     clear h2 t2
     go_wp2
     go_end0
     exact ⟨rfl,H2.out,T2.out⟩
   · simp only [reduceIte,Int.reduceEq] at hlen ⊢
     obtain ⟨d0,d1,d2,d3,d4,d5,d6,d7,d8,d9⟩:=allTen HZ0.out
     go_enter Tryz.func39,Tryz.ntmps39
     go_upto_region 1 with (fail)
     generalize w.alloc (.cells #[.int .i64 3,.int .u64 (Oc.U t.w0),.int .u64 (Oc.U t.w1),.int .u64 (Oc.U t.w2),.int .u64 (Oc.U t.w3),.slice p t.subs.length cap,.int .i64 t.num,.int .i64 t.least,.int .i64 t.most,.bool t.bare] 28)=W1 at *
     have hl1:l.length+1 ≤ 140737488355328:=by simp at hlen;omega
     go_wp2_with fail
     refine (HBB.out W0.heap.size b l 94 (by omega) _ HL0.out hl1 HW.out.size).mono ?_;rintro e w2 ⟨rfl,h2,t2⟩
     have H2:=Lib.hid h2;have T2:=Lib.hid (HT0.out.trans t2)
     clear h2 t2
     go_wp2
     go_end0
     exact ⟨rfl,H2.out,T2.out⟩
   · simp only [reduceIte,Int.reduceEq] at hlen ⊢
     obtain ⟨d0,d1,d2,d3,d4,d5,d6,d7,d8,d9⟩:=allTen HZ0.out
     go_enter Tryz.func39,Tryz.ntmps39
     go_upto_region 1 with (fail)
     generalize w.alloc (.cells #[.int .i64 4,.int .u64 (Oc.U t.w0),.int .u64 (Oc.U t.w1),.int .u64 (Oc.U t.w2),.int .u64 (Oc.U t.w3),.slice p t.subs.length cap,.int .i64 t.num,.int .i64 t.least,.int .i64 t.most,.bool t.bare] 28)=W1 at *
     have hl1:l.length+1 ≤ 140737488355328:=by simp at hlen;omega
     go_wp2_with fail
     refine (HBB.out W0.heap.size b l 36 (by omega) _ HL0.out hl1 HW.out.size).mono ?_;rintro e w2 ⟨rfl,h2,t2⟩
     have H2:=Lib.hid h2;have T2:=Lib.hid (HT0.out.trans t2)
     clear h2 t2
     go_wp2
     go_end0
     exact ⟨rfl,H2.out,T2.out⟩
   · simp only [reduceIte,Int.reduceEq] at hlen ⊢
     obtain ⟨d0,d1,d2,d3,d4,d5,d6,d7,d8,d9⟩:=allTen HZ0.out
     go_enter Tryz.func39,Tryz.ntmps39
     go_upto_region 1 with (fail)
     generalize w.alloc (.cells #[.int .i64 5,.int .u64 (Oc.U t.w0),.int .u64 (Oc.U t.w1),.int .u64 (Oc.U t.w2),.int .u64 (Oc.U t.w3),.slice p t.subs.length cap,.int .i64 t.num,.int .i64 t.least,.int .i64 t.most,.bool t.bare] 28)=W1 at *
     have HC:=Lib.hid (HWS.out (by decide) [] _ C W1 b l HV.out HW.out HL0.out hlen)
     clear HWS
     go_wp2_with fail
     refine HC.out.mono ?_;rintro e w2 ⟨rfl,h2,t2⟩
     have H2:=Lib.hid h2;have T2:=Lib.hid (HT0.out.trans t2)
     clear h2 t2
     go_wp2
     go_end0
     exact ⟨rfl,H2.out,T2.out⟩
   · simp only [reduceIte,Int.reduceEq] at hlen ⊢
     obtain ⟨d0,d1,d2,d3,d4,d5,d6,d7,d8,d9⟩:=allTen HZ0.out
     go_enter Tryz.func39,Tryz.ntmps39
     go_upto_region 1 with (fail)
     generalize w.alloc (.cells #[.int .i64 6,.int .u64 (Oc.U t.w0),.int .u64 (Oc.U t.w1),.int .u64 (Oc.U t.w2),.int .u64 (Oc.U t.w3),.slice p t.subs.length cap,.int .i64 t.num,.int .i64 t.least,.int .i64 t.most,.bool t.bare] 28)=W1 at *
     have HC:=Lib.hid (HWS.out (by decide) [124] _ C W1 b l HV.out HW.out HL0.out hlen)
     clear HWS
     go_wp2_with fail
     refine HC.out.mono ?_;rintro e w2 ⟨rfl,h2,t2⟩
     have H2:=Lib.hid h2;have T2:=Lib.hid (HT0.out.trans t2)
     clear h2 t2
     go_wp2
     go_end0
     exact ⟨rfl,H2.out,T2.out⟩
   · simp only [reduceIte,Int.reduceEq] at hlen ⊢
     obtain ⟨d0,d1,d2,d3,d4,d5,d6,d7,d8,d9⟩:=allTen HZ0.out
     go_enter Tryz.func39,Tryz.ntmps39
     go_upto_region 1 with (fail)
     generalize w.alloc (.cells #[.int .i64 7,.int .u64 (Oc.U t.w0),.int .u64 (Oc.U t.w1),.int .u64 (Oc.U t.w2),.int .u64 (Oc.U t.w3),.slice p t.subs.length cap,.int .i64 t.num,.int .i64 t.least,.int .i64 t.most,.bool t.bare] 28)=W1 at *
     simp only [List.length_append,List.length_cons,List.length_nil] at hlen
     go_wp2_with fail
     refine (HBB.out W0.heap.size b l 40 (by omega) _ HL0.out (by omega) HW.out.size).mono ?_;rintro e w2 ⟨rfl,h2,t2⟩
     have H2:=Lib.hid h2;have T2:=Lib.hid (HT0.out.trans t2);have B2:=Lib.hid (HW.out.trans t2.1)
     have HZ2:=Lib.hid (t2.node HZ0.out hnb)
     clear h2 t2 d0 d1 d2 d3 d4 d5 d6 d7 d8 d9
     obtain ⟨d0,d1,d2,d3,d4,d5,d6,d7,d8,d9⟩:=allTen HZ2.out
     have HC:=Lib.hid (HWS.out (by decide) [] _ C w2 b _ HV.out B2.out H2.out (by simp only [List.length_append,List.length_cons,List.length_nil];omega))
     clear HWS
     go_wp2_with fail
     refine HC.out.mono ?_;rintro e w3 ⟨rfl,h3,t3⟩
     have H3:=Lib.hid h3;have T3:=Lib.hid (T2.out.trans t3);have B3:=Lib.hid (B2.out.trans t3.1)
     clear h3 t3 HC
     go_wp2_with fail
     refine (HBB.out W0.heap.size b _ 41 (by omega) _ H3.out (by simp only [List.length_append,List.length_cons,List.length_nil];omega) B3.out.size).mono ?_;rintro e w4 ⟨rfl,h4,t4⟩
     have H4:=Lib.hid h4;have T4:=Lib.hid (T3.out.trans t4)
     clear h4 t4
     go_wp2
     go_end0
     exact ⟨rfl,by simpa using H4.out,T4.out⟩
   · simp only [reduceIte,Int.reduceEq] at hlen ⊢
     obtain ⟨d0,d1,d2,d3,d4,d5,d6,d7,d8,d9⟩:=allTen HZ0.out
     go_enter Tryz.func39,Tryz.ntmps39
     go_upto_region 1 with (fail)
     generalize w.alloc (.cells #[.int .i64 8,.int .u64 (Oc.U t.w0),.int .u64 (Oc.U t.w1),.int .u64 (Oc.U t.w2),.int .u64 (Oc.U t.w3),.slice p t.subs.length cap,.int .i64 t.num,.int .i64 t.least,.int .i64 t.most,.bool t.bare] 28)=W1 at *
     have hrl:=Sp.repTx_len t.least t.most (by omega) (by omega)
     simp only [List.length_append] at hlen
     have HC:=Lib.hid (HWS.out (by decide) [] _ C W1 b l HV.out HW.out HL0.out (by omega))
     clear HWS
     go_wp2_with fail
     refine HC.out.mono ?_;rintro e w2 ⟨rfl,h2,t2⟩
     have H2:=Lib.hid h2;have T2:=Lib.hid (HT0.out.trans t2);have B2:=Lib.hid (HW.out.trans t2.1)
     have HZ2:=Lib.hid (t2.node HZ0.out hnb)
     clear h2 t2 d0 d1 d2 d3 d4 d5 d6 d7 d8 d9 HC
     obtain ⟨d0,d1,d2,d3,d4,d5,d6,d7,d8,d9⟩:=allTen HZ2.out
     have HR:=Lib.hid (sprepeat_any t.least t.most (by omega) (by omega) w2 (hF'.out.later B2.out))
     go_wp2_with fail
     refine HR.out.mono ?_;rintro e w3 ⟨rfl,hb3⟩
     have H3:=Lib.hid (H2.out.later hb3);have T3:=Lib.hid (T2.out.trans (BlTo.of_below (b:=b) B2.out.size hb3));have B3:=Lib.hid (B2.out.trans (hb3.mono B2.out.size))
     clear hb3 HR
     go_wp2_with fail
     refine (HBS.out W0.heap.size b _ (tx (Sp.repTx t.least t.most)) _ H3.out (by rw [tx_size];simp only [List.length_append];omega) B3.out.size).mono ?_;rintro e w4 ⟨rfl,h4,t4⟩
     have H4:=Lib.hid h4;have T4:=Lib.hid (T3.out.trans t4)
     clear h4 t4
     go_wp2
     go_end0
     exact ⟨rfl,by rw [← List.append_assoc];exact H4.out,T4.out⟩
end Go.Proofs.YtfcilopifjddpaaGreatDoor
