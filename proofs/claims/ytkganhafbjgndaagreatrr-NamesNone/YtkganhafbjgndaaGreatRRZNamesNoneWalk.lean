/- NamesNone, walked: it returns true. -/
import Derived.Test.YtkganhafbjgndaaGreatRRZWd
import Derived.Test.YtkganhafbjgndaaGreatRRZArgs
namespace Go.Proofs.YtkganhafbjgndaaGreatRR.V.namesNone
open Go.RowKit
set_option linter.unusedVariables false
set_option maxRecDepth 20000
set_option maxHeartbeats 8000000 in
theorem walk (w:World) (s u:List UInt8) (k:Int) (hk:-9223372036854775808≤k∧k≤9223372036854775807) (a b:Int):Calls Tryz.prog 4 #[.string (P.bs s),.string (P.bs u),.int .i64 k,.agg #[.int .i64 a,.int .i64 b]] w fun e w'=>e=.returned (.bool true)∧Below w.heap.size w w':=by
 obtain ⟨b0,b1,b2⟩:=D.box1 w (Obj.cells #[.int .i64 a,.int .i64 b] 26)
 have A0:=Lib.hid b0
 have B0:=Lib.hid b1
 clear b0 b1 b2
 go_enter Tryz.func4,Tryz.ntmps4
 go_upto_region 1 with fail
 have hlt0:w.heap.size<(w.alloc (Obj.cells #[.int .i64 a,.int .i64 b] 26)).heap.size:=by simp
 generalize w.alloc (Obj.cells #[.int .i64 a,.int .i64 b] 26)=W0 at *
 go_wp2_with fail
 refine (look_nil _ _).mono ?_
 rintro e v1 ⟨rfl,hb⟩
 have hb1:=hb.trans ((D.box1 v1 (Obj.cells z6 28)).2.1.mono hb.size)
 have A1:=Lib.hid ((hb1.block w.heap.size hlt0).trans A0.out)
 have B1:=Lib.hid (B0.out.trans (hb1.mono B0.out.size))
 have hlt1:w.heap.size<(v1.alloc (Obj.cells z6 28)).heap.size:=Nat.lt_of_lt_of_le hlt0 hb1.size
 clear hb hb1 A0 B0
 go_upto_region 2 with (first | (refine D.wpList_store_new rfl 28 _ _ rfl v1 z6 z6 rfl rfl z6_size rfl z6_one ?_) | fail)
 generalize v1.alloc (Obj.cells z6 28)=W1 at *
 go_wp2_with fail
 refine (mk_nil _ _ _).mono ?_
 rintro e v2 ⟨rfl,hb⟩
 have hb2:=hb.trans ((D.box1 v2 (Obj.cells z6 28)).2.1.mono hb.size)
 have A2:=Lib.hid ((hb2.block w.heap.size hlt1).trans A1.out)
 have B2:=Lib.hid (B1.out.trans (hb2.mono B1.out.size))
 have hlt2:w.heap.size<(v2.alloc (Obj.cells z6 28)).heap.size:=Nat.lt_of_lt_of_le hlt1 hb2.size
 clear hb hb2 A1 B1
 go_upto_region 3 with (first | (refine D.wpList_store_new rfl 28 _ _ rfl v2 z6 z6 rfl rfl z6_size rfl z6_one ?_) | fail)
 generalize v2.alloc (Obj.cells z6 28)=W2 at *
 go_wp2_with fail
 refine (ln_nil _ _ _).mono ?_
 rintro e v3 ⟨rfl,hb⟩
 have hb3:=hb.trans ((D.box1 v3 (Obj.cells z6 28)).2.1.mono hb.size)
 have A3:=Lib.hid ((hb3.block w.heap.size hlt2).trans A2.out)
 have B3:=Lib.hid (B2.out.trans (hb3.mono B2.out.size))
 have hlt3:w.heap.size<(v3.alloc (Obj.cells z6 28)).heap.size:=Nat.lt_of_lt_of_le hlt2 hb3.size
 clear hb hb3 A2 B2
 go_upto_region 4 with (first | (refine D.wpList_store_new rfl 28 _ _ rfl v3 z6 z6 rfl rfl z6_size rfl z6_one ?_) | fail)
 generalize v3.alloc (Obj.cells z6 28)=W3 at *
 go_wp2_with fail
 refine (ul_nil _ _).mono ?_
 rintro e v4 ⟨rfl,hb⟩
 have hb4:=hb.trans ((D.box1 v4 (Obj.cells z6 28)).2.1.mono hb.size)
 have A4:=Lib.hid ((hb4.block w.heap.size hlt3).trans A3.out)
 have B4:=Lib.hid (B3.out.trans (hb4.mono B3.out.size))
 have hlt4:w.heap.size<(v4.alloc (Obj.cells z6 28)).heap.size:=Nat.lt_of_lt_of_le hlt3 hb4.size
 clear hb hb4 A3 B3
 go_upto_region 5 with (first | (refine D.wpList_store_new rfl 28 _ _ rfl v4 z6 z6 rfl rfl z6_size rfl z6_one ?_) | fail)
 generalize v4.alloc (Obj.cells z6 28)=W4 at *
 go_wp2_with fail
 refine (rn_nil _ _ _).mono ?_
 rintro e v5 ⟨rfl,hb⟩
 have hb5:=hb.trans ((D.box1 v5 (Obj.cells z6 28)).2.1.mono hb.size)
 have A5:=Lib.hid ((hb5.block w.heap.size hlt4).trans A4.out)
 have B5:=Lib.hid (B4.out.trans (hb5.mono B4.out.size))
 have hlt5:w.heap.size<(v5.alloc (Obj.cells z6 28)).heap.size:=Nat.lt_of_lt_of_le hlt4 hb5.size
 clear hb hb5 A4 B4
 go_upto_region 6 with (first | (refine D.wpList_store_new rfl 28 _ _ rfl v5 z6 z6 rfl rfl z6_size rfl z6_one ?_) | fail)
 generalize v5.alloc (Obj.cells z6 28)=W5 at *
 go_wp2_with fail
 refine (list_nil _ _).mono ?_
 rintro e v6 ⟨rfl,hb⟩
 have A6:=Lib.hid ((hb.block w.heap.size hlt5).trans A5.out)
 have B6:=Lib.hid (B5.out.trans (hb.mono B5.out.size))
 have hlt6:w.heap.size<v6.heap.size:=Nat.lt_of_lt_of_le hlt5 hb.size
 clear hb A5 B5
 go_upto_region 7 with fail
 have c0:v6.cell? ⟨w.heap.size,0,none⟩=some (.int .i64 a):=cell_of_row _ _ 0 _ _ _ A6.out
 have c1:v6.cell? ⟨w.heap.size,1,none⟩=some (.int .i64 b):=cell_of_row _ _ 1 _ _ _ A6.out
 go_wp2_with fail
 clear c0 c1
 refine (by_nil _ _ _).mono ?_
 rintro e v7 ⟨rfl,hb⟩
 have hb7:=hb.trans ((D.box1 v7 (Obj.cells z6 28)).2.1.mono hb.size)
 have B7:=Lib.hid (B6.out.trans (hb7.mono B6.out.size))
 clear hb hb7 A6 B6
 go_upto_region 8 with (first | (refine D.wpList_store_new rfl 28 _ _ rfl v7 z6 z6 rfl rfl z6_size rfl z6_one ?_) | fail)
 generalize v7.alloc (Obj.cells z6 28)=W7 at *
 go_wp2_with fail
 refine (awake_any _).mono ?_
 rintro e w9 ⟨rfl,hb⟩
 have HB9:=Lib.hid (B7.out.trans (hb.mono B7.out.size))
 clear hb
 have hr:=rmdir_nil (P.bs s) w9
 have HR:Hid (∀ n,Calls Tryz.prog 15 #[.pointer none,.string (P.bs s)] (w9.drewN n) fun e w'=>e=.returned (.int .i64 1)∧∃ m,w'=w9.drewN m):=fun n=>(rmdir_nil (P.bs s) (w9.drewN n)).mono fun e w' ⟨h1,h2⟩=>⟨h1,n,h2.symm⟩
 clear hr
 go_wp2_with fail
 refine (rmdir_nil (P.bs s) _).mono ?_
 rintro e w10 ⟨rfl,rfl⟩
 go_wp2_with fail
 go_ret
 exact ⟨rfl,HB9.out⟩
end Go.Proofs.YtkganhafbjgndaaGreatRR.V.namesNone
