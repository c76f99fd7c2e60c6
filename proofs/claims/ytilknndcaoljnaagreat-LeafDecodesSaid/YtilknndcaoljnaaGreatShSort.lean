/- slices.Sort and slices.Compact of numbers, by the library's contracts: the numbers of this program's functions and types. -/
import Derived.Test.YtilknndcaoljnaaGreatRows
import Derived.Shelf.Sort.Plain
import Derived.Shelf.Slices.CompactI
import Derived.Sort.OwnSortedInts
import Derived.WalkKit
namespace Go.Proofs.YtilknndcaoljnaaGreat
open Go.RowKit Go.Shelf

/-- Where the sort's functions and types stand. -/
def renSort : Ren where
  f := fun
    | 125 => 94
    | 128 => 104
    | 129 => 105
    | 189 => 90
    | 215 => 111
    | 216 => 101
    | 257 => 93
    | 294 => 95
    | 295 => 96
    | 296 => 97
    | 297 => 98
    | 298 => 99
    | 299 => 100
    | 300 => 102
    | 301 => 103
    | 328 => 106
    | 329 => 107
    | 330 => 108
    | 331 => 109
    | 332 => 110
    | 343 => 112
    | _ => 0
  t := fun
    | 0 => 0
    | 3 => 3
    | 4 => 4
    | 5 => 5
    | 9 => 9
    | 28 => 78
    | 46 => 88
    | 51 => 70
    | 53 => 136
    | 131 => 123
    | 182 => 128
    | 183 => 129
    | 218 => 137
    | 222 => 141
    | 228 => 143
    | 229 => 144
    | _ => 0
  g := fun x => x

theorem laysSort : Lays.n189 Tryz.prog renSort where
  mixed := by kernel_rfl
  f125 := by kernel_rfl
  f128 := by kernel_rfl
  f129 := by kernel_rfl
  f189 := by kernel_rfl
  f215 := by kernel_rfl
  f216 := by kernel_rfl
  f257 := by kernel_rfl
  f294 := by kernel_rfl
  f295 := by kernel_rfl
  f296 := by kernel_rfl
  f297 := by kernel_rfl
  f298 := by kernel_rfl
  f299 := by kernel_rfl
  f300 := by kernel_rfl
  f301 := by kernel_rfl
  f328 := by kernel_rfl
  f329 := by kernel_rfl
  f330 := by kernel_rfl
  f331 := by kernel_rfl
  f332 := by kernel_rfl
  f343 := by kernel_rfl
  t0 := by kernel_rfl
  a0 := Tryz.isAgg0
  z0 := Tryz.sizeOf0
  v0 := Tryz.zeroValue0
  t3 := by kernel_rfl
  a3 := Tryz.isAgg3
  z3 := Tryz.sizeOf3
  v3 := Tryz.zeroValue3
  t4 := by kernel_rfl
  a4 := Tryz.isAgg4
  z4 := Tryz.sizeOf4
  v4 := Tryz.zeroValue4
  t5 := by kernel_rfl
  a5 := Tryz.isAgg5
  z5 := Tryz.sizeOf5
  v5 := Tryz.zeroValue5
  t9 := by kernel_rfl
  a9 := Tryz.isAgg9
  z9 := Tryz.sizeOf9
  v9 := Tryz.zeroValue9
  t28 := by kernel_rfl
  a28 := Tryz.isAgg78
  z28 := Tryz.sizeOf78
  v28 := Tryz.zeroValue78
  t46 := by kernel_rfl
  a46 := Tryz.isAgg88
  z46 := Tryz.sizeOf88
  v46 := Tryz.zeroValue88
  t51 := by kernel_rfl
  a51 := Tryz.isAgg70
  z51 := Tryz.sizeOf70
  v51 := Tryz.zeroValue70
  t53 := by kernel_rfl
  a53 := Tryz.isAgg136
  z53 := Tryz.sizeOf136
  v53 := Tryz.zeroValue136
  t131 := by kernel_rfl
  a131 := Tryz.isAgg123
  z131 := Tryz.sizeOf123
  v131 := Tryz.zeroValue123
  t182 := by kernel_rfl
  a182 := Tryz.isAgg128
  z182 := Tryz.sizeOf128
  v182 := Tryz.zeroValue128
  t183 := by kernel_rfl
  a183 := Tryz.isAgg129
  z183 := Tryz.sizeOf129
  v183 := Tryz.zeroValue129
  t218 := by kernel_rfl
  a218 := Tryz.isAgg137
  z218 := Tryz.sizeOf137
  v218 := Tryz.zeroValue137
  t222 := by kernel_rfl
  a222 := Tryz.isAgg141
  z222 := Tryz.sizeOf141
  v222 := Tryz.zeroValue141
  t228 := by kernel_rfl
  a228 := Tryz.isAgg143
  z228 := Tryz.sizeOf143
  v228 := Tryz.zeroValue143
  t229 := by kernel_rfl
  a229 := Tryz.isAgg144
  z229 := Tryz.sizeOf144
  v229 := Tryz.zeroValue144

/-- Where Compact's stand. -/
def renComp : Ren where
  f := fun
    | 20 => 91
    | _ => 0
  t := fun
    | 0 => 0
    | 3 => 3
    | 4 => 4
    | 22 => 78
    | _ => 0
  g := fun x => x
theorem laysComp : Lays2.n20 Tryz.prog renComp where
  mixed := by kernel_rfl
  f20 := by kernel_rfl
  t0 := by kernel_rfl
  a0 := Tryz.isAgg0
  z0 := Tryz.sizeOf0
  v0 := Tryz.zeroValue0
  t3 := by kernel_rfl
  a3 := Tryz.isAgg3
  z3 := Tryz.sizeOf3
  v3 := Tryz.zeroValue3
  t4 := by kernel_rfl
  a4 := Tryz.isAgg4
  z4 := Tryz.sizeOf4
  v4 := Tryz.zeroValue4
  t22 := by kernel_rfl
  a22 := Tryz.isAgg78
  z22 := Tryz.sizeOf78
  v22 := Tryz.zeroValue78
  i3 := by kernel_rfl
end Go.Proofs.YtilknndcaoljnaaGreat
