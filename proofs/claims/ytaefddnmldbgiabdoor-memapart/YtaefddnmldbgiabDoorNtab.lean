/- The package's table lies where the program's text lays it. -/
import Derived.Test.YtaefddnmldbgiabDoorNsml
import Derived.KernelRfl
namespace Go.Proofs.YtaefddnmldbgiabDoor
open Go.RowKit
set_option linter.unusedVariables false

set_option maxRecDepth 100000 in
theorem tab_begin : ((begin Tryd.prog (fun _ _ => 0) default).world.heap[1]?).bind Obj.row? = some ((List.replicate 64 (Value.int .u8 0)).toArray, 75) := by kernel_rfl
set_option maxRecDepth 100000 in
theorem tab_types : Tryd.prog.cellTypes Tryd.prog.depth 75 = some (List.replicate 64 5) := by kernel_rfl
theorem tab_builds : Tryd.prog.buildable 75 = true := by kernel_rfl
theorem tab_globals : (1 : Nat) < Tryd.prog.globals.size := by
  have : Tryd.prog.globals.size = 2 := by kernel_rfl
  omega
theorem tab_of {W : World} (h : W.ShapedOpen Tryd.prog) : Tab W := by
  obtain ⟨cs, h1, h2, h3⟩ := h.1 1 _ _ tab_globals tab_begin
  obtain ⟨ts, e1, ⟨m, e2⟩, e3⟩ := h3 tab_builds
  rw [tab_types] at e1
  obtain rfl := Option.some.inj e1
  refine ⟨cs, 75, (0, 0), h1, ⟨by decide, by decide, by decide⟩, fun i hi => ?_⟩
  have hs : cs.size = 64 := by rw [h2]; simp
  obtain ⟨u, hu, hc⟩ := e3 i cs[i] (Array.getElem?_eq_getElem (by omega))
  have hu5 : u = 5 := by
    rw [List.length_replicate, Nat.mod_eq_of_lt hi, List.getElem?_replicate, if_pos hi] at hu
    exact (Option.some.inj hu).symm
  subst hu5
  unfold Cell.ok at hc
  rw [Tryd.underlying5] at hc
  have hg := Array.getElem?_eq_getElem (show i < cs.size by omega)
  generalize cs[i] = v at hc hg
  cases v with
  | int k n =>
    obtain ⟨rfl, hn⟩ := hc
    have hn' : 0 ≤ n ∧ n ≤ 255 := by
      have h0 : IntKind.u8.min = 0 := by decide
      have h9 : IntKind.u8.max = 255 := by decide
      unfold IntKind.has at hn
      rw [h0, h9] at hn
      exact hn
    exact ⟨n.toNat, by rw [hg]; simp [Int.toNat_of_nonneg hn'.1], by omega⟩
  | _ => exact hc.elim
end Go.Proofs.YtaefddnmldbgiabDoor
