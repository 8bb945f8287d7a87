/- The library's slices.Sorted, maps.Keys and slices.Sort at ints, laid out of the shelf (tools/lay2tpl.py), in plain words. -/
import Derived.Shelf.SlIterI.Nil
import Derived.Shelf.SortM.Plain
import Derived.Shelf.SortM.SortNone
import Derived.Test.YtapfbnhcndifhaaProg
namespace Go.Proofs.Ytapfbnhcndifhaa
open Go.RowKit Go.Maps Go.Sort Go.Shelf

def keysA_ren : Go.Shelf.Ren := ⟨fun | 7 => 59 | 10 => 66 | n => n, fun | 23 => 80 | 26 => 3 | 3 => 38 | 28 => 104 | 0 => 0 | 27 => 103 | 33 => 66 | 4 => 4 | n => n, fun | n => n⟩
theorem keysA : Go.Proofs.SlLaysZI.n7 Try.prog keysA_ren := {
  mixed := by kernel_rfl
  , f7 := ⟨Try.f59.name, by decide, Try.func59.trans (congrArg some (by kernel_rfl))⟩
  , f10 := ⟨Try.f66.name, by decide, Try.func66.trans (congrArg some (by kernel_rfl))⟩
  , t0 := Try.underlying0
  , a0 := Try.isAgg0
  , z0 := Try.sizeOf0
  , v0 := Try.zeroValue0
  , t4 := Try.underlying4
  , a4 := Try.isAgg4
  , z4 := Try.sizeOf4
  , v4 := Try.zeroValue4
  , t23 := Try.underlying80
  , a23 := Try.isAgg80
  , z23 := Try.sizeOf80
  , v23 := Try.zeroValue80
  , t26 := Try.underlying3
  , a26 := Try.isAgg3
  , z26 := Try.sizeOf3
  , v26 := Try.zeroValue3
  , t27 := Try.underlying103
  , a27 := Try.isAgg103
  , z27 := Try.sizeOf103
  , v27 := Try.zeroValue103
  , t28 := Try.underlying104
  , a28 := Try.isAgg104
  , z28 := Try.sizeOf104
  , v28 := Try.zeroValue104
  , t33 := Try.underlying66
  , a33 := Try.isAgg66
  , z33 := Try.sizeOf66
  , v33 := Try.zeroValue66
  }
def sortedA_ren : Go.Shelf.Ren := ⟨fun | 6 => 58 | 8 => 64 | 9 => 65 | 11 => 67 | 13 => 69 | 12 => 68 | 23 => 79 | 24 => 80 | 14 => 70 | 15 => 71 | 16 => 72 | 17 => 73 | 18 => 74 | 19 => 75 | 20 => 76 | 21 => 77 | 22 => 78 | 25 => 81 | 26 => 82 | 27 => 83 | 28 => 84 | 29 => 85 | 30 => 86 | 31 => 87 | n => n, fun | 26 => 3 | 28 => 104 | 24 => 26 | 0 => 0 | 3 => 3 | 37 => 113 | 48 => 124 | 50 => 38 | 4 => 4 | 40 => 116 | 39 => 115 | 45 => 121 | 5 => 5 | 9 => 9 | 51 => 126 | 55 => 130 | 57 => 132 | 58 => 133 | 33 => 66 | n => n, fun | n => n⟩
theorem sortedA : Go.Proofs.SlLaysZI.n6 Try.prog sortedA_ren := {
  mixed := by kernel_rfl
  , f6 := ⟨Try.f58.name, by decide, Try.func58.trans (congrArg some (by kernel_rfl))⟩
  , f8 := ⟨Try.f64.name, by decide, Try.func64.trans (congrArg some (by kernel_rfl))⟩
  , f11 := ⟨Try.f67.name, by decide, Try.func67.trans (congrArg some (by kernel_rfl))⟩
  , t0 := Try.underlying0
  , a0 := Try.isAgg0
  , z0 := Try.sizeOf0
  , v0 := Try.zeroValue0
  , t24 := Try.underlying26
  , a24 := Try.isAgg26
  , z24 := Try.sizeOf26
  , v24 := Try.zeroValue26
  , t26 := Try.underlying3
  , a26 := Try.isAgg3
  , z26 := Try.sizeOf3
  , v26 := Try.zeroValue3
  , t28 := Try.underlying104
  , a28 := Try.isAgg104
  , z28 := Try.sizeOf104
  , v28 := Try.zeroValue104
  , i26 := by kernel_rfl
  }
def sortA_ren : Go.Shelf.Ren := ⟨fun | 5 => 65 | 8 => 69 | 7 => 68 | 19 => 79 | 20 => 80 | 10 => 70 | 11 => 71 | 12 => 72 | 13 => 73 | 14 => 74 | 15 => 75 | 16 => 76 | 17 => 77 | 18 => 78 | 30 => 81 | 31 => 82 | 32 => 83 | 33 => 84 | 34 => 85 | 35 => 86 | 40 => 87 | n => n, fun | 23 => 26 | 25 => 3 | 3 => 3 | 32 => 113 | 22 => 26 | 0 => 0 | 44 => 124 | 46 => 38 | 4 => 4 | 36 => 116 | 35 => 115 | 41 => 121 | 5 => 5 | 9 => 9 | 53 => 126 | 57 => 130 | 63 => 132 | 64 => 133 | n => n, fun | n => n⟩
theorem sortA : Go.Proofs.SlLaysM.n5 Try.prog sortA_ren := {
  mixed := by kernel_rfl
  , f5 := ⟨Try.f65.name, by decide, Try.func65.trans (congrArg some (by kernel_rfl))⟩
  , f7 := ⟨Try.f68.name, by decide, Try.func68.trans (congrArg some (by kernel_rfl))⟩
  , f8 := Try.func69.trans (congrArg some (by kernel_rfl))
  , f10 := ⟨Try.f70.name, by decide, Try.func70.trans (congrArg some (by kernel_rfl))⟩
  , f11 := ⟨Try.f71.name, by decide, Try.func71.trans (congrArg some (by kernel_rfl))⟩
  , f12 := ⟨Try.f72.name, by decide, Try.func72.trans (congrArg some (by kernel_rfl))⟩
  , f13 := ⟨Try.f73.name, by decide, Try.func73.trans (congrArg some (by kernel_rfl))⟩
  , f14 := ⟨Try.f74.name, by decide, Try.func74.trans (congrArg some (by kernel_rfl))⟩
  , f15 := ⟨Try.f75.name, by decide, Try.func75.trans (congrArg some (by kernel_rfl))⟩
  , f16 := ⟨Try.f76.name, by decide, Try.func76.trans (congrArg some (by kernel_rfl))⟩
  , f17 := ⟨Try.f77.name, by decide, Try.func77.trans (congrArg some (by kernel_rfl))⟩
  , f18 := ⟨Try.f78.name, by decide, Try.func78.trans (congrArg some (by kernel_rfl))⟩
  , f19 := Try.func79.trans (congrArg some (by kernel_rfl))
  , f20 := Try.func80.trans (congrArg some (by kernel_rfl))
  , f30 := ⟨Try.f81.name, by decide, Try.func81.trans (congrArg some (by kernel_rfl))⟩
  , f31 := Try.func82.trans (congrArg some (by kernel_rfl))
  , f32 := Try.func83.trans (congrArg some (by kernel_rfl))
  , f33 := ⟨Try.f84.name, by decide, Try.func84.trans (congrArg some (by kernel_rfl))⟩
  , f34 := ⟨Try.f85.name, by decide, Try.func85.trans (congrArg some (by kernel_rfl))⟩
  , f35 := ⟨Try.f86.name, by decide, Try.func86.trans (congrArg some (by kernel_rfl))⟩
  , f40 := ⟨Try.f87.name, by decide, Try.func87.trans (congrArg some (by kernel_rfl))⟩
  , t0 := Try.underlying0
  , a0 := Try.isAgg0
  , z0 := Try.sizeOf0
  , v0 := Try.zeroValue0
  , t3 := Try.underlying3
  , a3 := Try.isAgg3
  , z3 := Try.sizeOf3
  , v3 := Try.zeroValue3
  , t4 := Try.underlying4
  , a4 := Try.isAgg4
  , z4 := Try.sizeOf4
  , v4 := Try.zeroValue4
  , t5 := Try.underlying5
  , a5 := Try.isAgg5
  , z5 := Try.sizeOf5
  , v5 := Try.zeroValue5
  , t9 := Try.underlying9
  , a9 := Try.isAgg9
  , z9 := Try.sizeOf9
  , v9 := Try.zeroValue9
  , t22 := Try.underlying26
  , a22 := Try.isAgg26
  , z22 := Try.sizeOf26
  , v22 := Try.zeroValue26
  , t23 := Try.underlying26
  , a23 := Try.isAgg26
  , z23 := Try.sizeOf26
  , v23 := Try.zeroValue26
  , t25 := Try.underlying3
  , a25 := Try.isAgg3
  , z25 := Try.sizeOf3
  , v25 := Try.zeroValue3
  , t32 := Try.underlying113
  , a32 := Try.isAgg113
  , z32 := Try.sizeOf113
  , v32 := Try.zeroValue113
  , t35 := Try.underlying115
  , a35 := Try.isAgg115
  , z35 := Try.sizeOf115
  , v35 := Try.zeroValue115
  , t36 := Try.underlying116
  , a36 := Try.isAgg116
  , z36 := Try.sizeOf116
  , v36 := Try.zeroValue116
  , t41 := Try.underlying121
  , a41 := Try.isAgg121
  , z41 := Try.sizeOf121
  , v41 := Try.zeroValue121
  , t44 := Try.underlying124
  , a44 := Try.isAgg124
  , z44 := Try.sizeOf124
  , v44 := Try.zeroValue124
  , t46 := Try.underlying38
  , a46 := Try.isAgg38
  , z46 := Try.sizeOf38
  , v46 := Try.zeroValue38
  , t53 := Try.underlying126
  , a53 := Try.isAgg126
  , z53 := Try.sizeOf126
  , v53 := Try.zeroValue126
  , t57 := Try.underlying130
  , a57 := Try.isAgg130
  , z57 := Try.sizeOf130
  , v57 := Try.zeroValue130
  , t63 := Try.underlying132
  , a63 := Try.isAgg132
  , z63 := Try.sizeOf132
  , v63 := Try.zeroValue132
  , t64 := Try.underlying133
  , a64 := Try.isAgg133
  , z64 := Try.sizeOf133
  , v64 := Try.zeroValue133
  }
/-- slices.Sort's two contracts, at the fence that asks nothing. -/
theorem sortsA (m : Nat) : AnyZI.SortsIn Try.prog sortedA_ren Fence.wide m :=
  ⟨fun blk off cap ss W hH hblk hsz => callsIn_wide.2 (AnyM.slices_Sort_int sortA blk off cap ss W hH hblk hsz),
   fun p cap W => callsIn_wide.2 (AnyM.slices_Sort_int_none sortA p cap W)⟩
end Go.Proofs.Ytapfbnhcndifhaa
