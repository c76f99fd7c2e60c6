/- slices.Sort and slices.Compact of numbers, by the library's contracts: the numbers of this program's functions and types. -/
import Derived.Test.YtdocclkphffpkaaGreatRows
import Derived.Shelf.Sort.Plain
import Derived.Shelf.Slices.CompactI
import Derived.Sort.OwnSortedInts
import Derived.WalkKit
namespace Go.Proofs.YtdocclkphffpkaaGreat
open Go.RowKit Go.Shelf

/-- Where the sort's functions and types stand. -/
def renSort : Ren where
  f := fun
    | 125 => 119
    | 128 => 129
    | 129 => 130
    | 189 => 114
    | 215 => 136
    | 216 => 126
    | 257 => 118
    | 294 => 120
    | 295 => 121
    | 296 => 122
    | 297 => 123
    | 298 => 124
    | 299 => 125
    | 300 => 127
    | 301 => 128
    | 328 => 131
    | 329 => 132
    | 330 => 133
    | 331 => 134
    | 332 => 135
    | 343 => 137
    | _ => 0
  t := fun
    | 0 => 0
    | 3 => 3
    | 4 => 4
    | 5 => 5
    | 9 => 9
    | 28 => 114
    | 46 => 103
    | 51 => 86
    | 53 => 168
    | 131 => 95
    | 182 => 160
    | 183 => 161
    | 218 => 169
    | 222 => 173
    | 228 => 175
    | 229 => 176
    | _ => 0
  g := fun x => x

theorem laysSort : Lays.n189 Tryz.prog renSort where
  mixed := by kernel_rfl
  f125 := by kernel_rfl
  f128 := by kernel_rfl
  f129 := by kernel_rfl
  f189 := by kernel_rfl
  f215 := by kernel_rfl
  f216 := by kernel_rfl
  f257 := by kernel_rfl
  f294 := by kernel_rfl
  f295 := by kernel_rfl
  f296 := by kernel_rfl
  f297 := by kernel_rfl
  f298 := by kernel_rfl
  f299 := by kernel_rfl
  f300 := by kernel_rfl
  f301 := by kernel_rfl
  f328 := by kernel_rfl
  f329 := by kernel_rfl
  f330 := by kernel_rfl
  f331 := by kernel_rfl
  f332 := by kernel_rfl
  f343 := by kernel_rfl
  t0 := by kernel_rfl
  a0 := Tryz.isAgg0
  z0 := Tryz.sizeOf0
  v0 := Tryz.zeroValue0
  t3 := by kernel_rfl
  a3 := Tryz.isAgg3
  z3 := Tryz.sizeOf3
  v3 := Tryz.zeroValue3
  t4 := by kernel_rfl
  a4 := Tryz.isAgg4
  z4 := Tryz.sizeOf4
  v4 := Tryz.zeroValue4
  t5 := by kernel_rfl
  a5 := Tryz.isAgg5
  z5 := Tryz.sizeOf5
  v5 := Tryz.zeroValue5
  t9 := by kernel_rfl
  a9 := Tryz.isAgg9
  z9 := Tryz.sizeOf9
  v9 := Tryz.zeroValue9
  t28 := by kernel_rfl
  a28 := Tryz.isAgg114
  z28 := Tryz.sizeOf114
  v28 := Tryz.zeroValue114
  t46 := by kernel_rfl
  a46 := Tryz.isAgg103
  z46 := Tryz.sizeOf103
  v46 := Tryz.zeroValue103
  t51 := by kernel_rfl
  a51 := Tryz.isAgg86
  z51 := Tryz.sizeOf86
  v51 := Tryz.zeroValue86
  t53 := by kernel_rfl
  a53 := Tryz.isAgg168
  z53 := Tryz.sizeOf168
  v53 := Tryz.zeroValue168
  t131 := by kernel_rfl
  a131 := Tryz.isAgg95
  z131 := Tryz.sizeOf95
  v131 := Tryz.zeroValue95
  t182 := by kernel_rfl
  a182 := Tryz.isAgg160
  z182 := Tryz.sizeOf160
  v182 := Tryz.zeroValue160
  t183 := by kernel_rfl
  a183 := Tryz.isAgg161
  z183 := Tryz.sizeOf161
  v183 := Tryz.zeroValue161
  t218 := by kernel_rfl
  a218 := Tryz.isAgg169
  z218 := Tryz.sizeOf169
  v218 := Tryz.zeroValue169
  t222 := by kernel_rfl
  a222 := Tryz.isAgg173
  z222 := Tryz.sizeOf173
  v222 := Tryz.zeroValue173
  t228 := by kernel_rfl
  a228 := Tryz.isAgg175
  z228 := Tryz.sizeOf175
  v228 := Tryz.zeroValue175
  t229 := by kernel_rfl
  a229 := Tryz.isAgg176
  z229 := Tryz.sizeOf176
  v229 := Tryz.zeroValue176

/-- Where Compact's stand. -/
def renComp : Ren where
  f := fun
    | 20 => 115
    | _ => 0
  t := fun
    | 0 => 0
    | 3 => 3
    | 4 => 4
    | 22 => 114
    | _ => 0
  g := fun x => x
theorem laysComp : Lays2.n20 Tryz.prog renComp where
  mixed := by kernel_rfl
  f20 := by kernel_rfl
  t0 := by kernel_rfl
  a0 := Tryz.isAgg0
  z0 := Tryz.sizeOf0
  v0 := Tryz.zeroValue0
  t3 := by kernel_rfl
  a3 := Tryz.isAgg3
  z3 := Tryz.sizeOf3
  v3 := Tryz.zeroValue3
  t4 := by kernel_rfl
  a4 := Tryz.isAgg4
  z4 := Tryz.sizeOf4
  v4 := Tryz.zeroValue4
  t22 := by kernel_rfl
  a22 := Tryz.isAgg114
  z22 := Tryz.sizeOf114
  v22 := Tryz.zeroValue114
  i3 := by kernel_rfl
end Go.Proofs.YtdocclkphffpkaaGreat
