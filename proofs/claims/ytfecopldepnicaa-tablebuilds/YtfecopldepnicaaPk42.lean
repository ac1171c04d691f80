import Derived.BigQuiet
import Derived.Deep.RegionHeldLaw
import Derived.Test.YtfecopldepnicaaPk10
import Derived.Test.YtfecopldepnicaaPk17
import Derived.Test.YtfecopldepnicaaPk18
import Derived.Test.YtfecopldepnicaaPk24
import Derived.Test.YtfecopldepnicaaPk33
import Derived.Test.YtfecopldepnicaaPk39
import Derived.Test.YtfecopldepnicaaPk41
/- The landed table: what is read off it: Len, Most, May; a table that there is not. -/
namespace Go.Proofs.Ytfecopldepnicaa
open Go.RowKit
set_option linter.unusedVariables false
set_option linter.unusedSimpArgs false

theorem RTb.facts {w : World} {p : Nat} {l : List EntV} (h : RTb w p l) : ∃ wa wc ra rc, w.cell? ⟨p, 0, none⟩ = some (.slice wa (tblB l).length wc) ∧ w.cell? ⟨p, 1, none⟩ = some (.slice ra (rowsT l).length rc) ∧ w.cell? ⟨p, 2, none⟩ = some (.int .i64 ((flS l).1 : Int)) ∧ w.cell? ⟨p, 3, none⟩ = some (.int .i64 ((flS l).2 : Int)) ∧ w.cell? ⟨p, 4, none⟩ = some (.int .i64 (l.length : Int)) ∧ Sl w wa (tblB l).length wc (tblB l) ∧ RS rowE w ra (rowsT l).length rc (rowsT l) := by
  obtain ⟨h1, h2, wa, wc, ra, rc, h3, h4, h5⟩ := h
  exact ⟨wa, wc, ra, rc, by rw [cell_of h3]; rfl, by rw [cell_of h3]; rfl, by rw [cell_of h3]; rfl, by rw [cell_of h3]; rfl, by rw [cell_of h3]; rfl, h4, h5⟩
theorem lenA_t {w : World} {p : Nat} {l : List EntV} (h : RTb w p l) : Calls Try.prog 16 #[.pointer (some ⟨p, 0, none⟩)] w fun r w' => r = .returned (.int .i64 (l.length : Nat)) ∧ Below w.heap.size w w' := by
  obtain ⟨wa, wc, ra, rc, c0, c1, c2, c3, c4, _, _⟩ := h.facts
  clear h
  generalize l.length = n at c4 ⊢
  go_enter Try.func16, Try.ntmps16
  go_wp2_with fail
  exact bodyPost_ret (v := .int .i64 (n : Int)) (by simp [results, Try.results16, go_sem]) rfl ⟨rfl, Below.refl _ _⟩
theorem lenN_t {w : World} : Calls Try.prog 16 #[.pointer none] w fun r w' => r = .returned (.int .i64 0) ∧ Below w.heap.size w w' := by
  go_enter Try.func16, Try.ntmps16
  go_wp2_with fail
  exact bodyPost_ret (v := .int .i64 0) (by simp [results, Try.results16, go_sem]) rfl ⟨rfl, Below.refl _ _⟩
theorem mostN_t {w : World} : Calls Try.prog 18 #[.pointer none] w fun r w' => ∃ a c, r = .returned (.slice a 0 c) ∧ Below w.heap.size w w' := by
  go_enter Try.func18, Try.ntmps18
  go_wp2_with fail
  exact bodyPost_ret (v := .slice none 0 0) (by simp [results, Try.results18, go_sem]) rfl ⟨none, 0, rfl, Below.refl _ _⟩
theorem mayN2_t {w : World} {ka : Option Addr} {kl kc : Nat} : Calls Try.prog 23 #[.pointer none, .slice ka kl kc] w fun r w' => r = .returned (.bool false) ∧ Below w.heap.size w w' := by
  go_enter Try.func23, Try.ntmps23
  go_wp2_with fail
  go_quiet (fail)
  go_wp2_with fail
  exact bodyPost_ret (v := .bool false) (by simp [results, Try.results23, go_sem]) rfl ⟨rfl, below_drewN (Below.refl _ _) _⟩
theorem fromN_t {w : World} {ka : Option Addr} {kl kc : Nat} {s : Int} : Calls Try.prog 53 #[.pointer none, .slice ka kl kc, .int .i64 s] w fun r w' => r = .returned (.slice none 0 0) ∧ Below w.heap.size w w' := by
  have HB : Hid (Below w.heap.size w (((w.alloc (.cells #[.pointer none] 30)).alloc (.cells #[.slice ka kl kc] 25)).alloc (.cells #[.int .i64 s] 2))) := (((Below.refl _ w).alloc (Nat.le_refl _) _).alloc (by simp) _).alloc (by simp; omega) _
  go_enter Try.func53, Try.ntmps53
  go_wp2_with fail
  exact bodyPost_ret (v := .slice none 0 0) (by simp [results, Try.results53, go_sem]) rfl ⟨rfl, HB.out⟩
end Go.Proofs.Ytfecopldepnicaa

/- What the laws on blocks lean on: what a program's own must keep; the simple ones. -/
namespace Go.Proofs.Ytfecopldepnicaa
open Go.RowKit
set_option linter.unusedVariables false
set_option linter.unusedSimpArgs false

def encX (l : List EntV) : List Int := if blkE l = 0 then blkB l else []
/-- No key and no value is longer than a law may hand in. -/
def Lgt (l : List EntV) : Prop := ∀ e ∈ l, e.key.length ≤ 3000 ∧ e.val.length ≤ 3000
/-- The first that is not ahead. -/
def skE (l : List EntV) (key : List Int) (s : Int) : Option EntV := l.find? fun e => decide (0 < cmp e.key key ∨ cmp e.key key = 0 ∧ e.seq ≤ s)
/-- : what is asked of a program's blocks. -/
structure PBk : Prop where
  ordered : ∀ {w : World} {ao : Option Addr} {len cap : Nat} {l : List EntV}, RS entE w ao len cap l → len ≤ 450 → Lgt l → Calls Try.prog 29 #[.slice ao len cap] w fun e w' => e = .returned (.bool (ordB l)) ∧ Below w.heap.size w w'
  encode : ∀ {w : World} {ao : Option Addr} {len cap : Nat} {l : List EntV}, RS entE w ao len cap l → len ≤ 450 → Lgt l → Calls Try.prog 62 #[.slice ao len cap] w fun e w' => ∃ v, e = .returned (.tuple #[v, .int .i64 ((blkE l : Nat) : Int)]) ∧ SlV w' v (encX l) ∧ Below w.heap.size w w'
/-- : what is asked of a program's Decode: whether there is a block, and its entries. -/
structure PBd : Prop where
  decode : ∀ {w : World} {ao : Option Addr} {len cap : Nat} {d : List Int}, Sl w ao len cap d → len ≤ 5000000 → Calls Try.prog 54 #[.slice ao len cap] w fun e w' => ∃ (v : Value) (E : Nat), e = .returned (.tuple #[v, .int .i64 (E : Int)]) ∧ (E = 0 ↔ tkE d = 0) ∧ RSV entE w' v (tkB d) ∧ Below w.heap.size w w'
/-- : what is asked of a program's Seek. -/
structure PBs : Prop where
  seek : ∀ {w : World} {ao ka : Option Addr} {len cap kl kc : Nat} {d key : List Int} {s : Int}, Sl w ao len cap d → len ≤ 2000000 → Sl w ka kl kc key → In64 s → Calls Try.prog 77 #[.slice ao len cap, .slice ka kl kc, .int .i64 s] w fun r w' => (∃ B, GotE B (skE (tkB d) key s) r w') ∧ Below w.heap.size w w'

theorem sl_two (w : World) (c d : Nat) (hc : c < 256) (hd : d < 256) : Sl (w.alloc (.cells #[.int .u8 (c : Int), .int .u8 (d : Int)] 5 (2, 3))) (some ⟨w.heap.size, 0, none⟩) 2 2 [(c : Int), (d : Int)] := by
  refine ⟨rfl, fun x hx => by simp at hx; omega, (fun e => by cases e), Nat.le_refl _, by unfold maxLen; omega, fun k hk => ?_⟩
  have e : (w.alloc (.cells #[.int .u8 (c : Int), .int .u8 (d : Int)] 5 (2, 3))).heap[w.heap.size]? = some (.cells #[.int .u8 (c : Int), .int .u8 (d : Int)] 5 (2, 3)) := heap_alloc_new w _
  match k, hk with
  | 0, _ =>
    refine ⟨by simpa [xof] using hc, w.heap.size, 0, rfl, ?_⟩
    unfold World.cell?
    rw [e]
    simp [xof]
  | 1, _ =>
    refine ⟨by simpa [xof] using hd, w.heap.size, 0, rfl, ?_⟩
    unfold World.cell?
    rw [e]
    simp [xof]
def eK : EntV := ⟨[97, 98], 3, false, 0, [120]⟩
theorem blk_k : blkE [eK] = 0 := by decide
theorem enc_k : encX [eK] = [0, 2, 97, 98, 3, 0, 0, 1, 120, 0, 0, 0, 0, 0, 0, 0, 1] := by
  unfold encX
  rw [if_pos blk_k]
  simp [blkB, enEs, enTl, enE, shI, lb, uv_lt, eK, fx]
end Go.Proofs.Ytfecopldepnicaa

/- The landed block, on lists: restarts, and the search from one on. -/
namespace Go.Proofs.Ytfecopldepnicaa
set_option linter.unusedVariables false
set_option linter.unusedSimpArgs false

theorem eig_eq : ∀ (l : List EntV) (j : Nat), eig j l = (j + l.length + 7) / 8 - (j + 7) / 8
  | [], j => by simp [eig]
  | e :: r, j => by
    unfold eig
    rw [eig_eq r (j + 1), List.length_cons]
    split <;> omega
theorem enEs_app : ∀ (a : List EntV) (i : Nat) (prev : List Int) (b : List EntV), enEs i prev (a ++ b) = enEs i prev a ++ enEs (i + a.length) (lastK prev a) b
  | [], i, prev, b => by simp [enEs, lastK]
  | x :: r, i, prev, b => by
    show enE _ x ++ enEs (i + 1) x.key (r ++ b) = (enE _ x ++ enEs (i + 1) x.key r) ++ _
    rw [enEs_app r (i + 1) x.key b, List.append_assoc, List.length_cons, show i + 1 + r.length = i + (r.length + 1) by omega]
    rfl
theorem enTl_app : ∀ (a : List EntV) (i pos : Nat) (prev : List Int) (b : List EntV), enTl i pos prev (a ++ b) = enTl i pos prev a ++ enTl (i + a.length) (pos + (enEs i prev a).length) (lastK prev a) b
  | [], i, pos, prev, b => by simp [enTl, enEs, lastK]
  | x :: r, i, pos, prev, b => by
    show _ ++ enTl (i + 1) (pos + (enE (shI i x.key prev) x).length) x.key (r ++ b) = (_ ++ enTl (i + 1) (pos + (enE (shI i x.key prev) x).length) x.key r) ++ _
    rw [enTl_app r (i + 1) _ x.key b, List.append_assoc, List.length_cons, show i + 1 + r.length = i + (r.length + 1) by omega]
    show _ = _ ++ (_ ++ enTl _ (pos + (enE (shI i x.key prev) x ++ enEs (i + 1) x.key r).length) _ b)
    rw [List.length_append, ← Nat.add_assoc pos]
    rfl
/-- A block's parts. -/
theorem blk_parts {l : List EntV} (h1 : 1 ≤ l.length) (h4 : l.length ≤ 400) : lastN (blkB l) = eig 0 l ∧ bodyN (blkB l) = enEs 0 [] l ∧ plcN (blkB l) = enTl 0 0 [] l := by
  have hT := enTl_len l 0 0 []
  have he1 := eig_le l 0
  have he2 := eig_pos h1
  have hlen : (blkB l).length = (enEs 0 [] l).length + 4 * eig 0 l + 4 := by
    unfold blkB
    rw [List.length_append, List.length_append, fx_length, hT]
    omega
  have hlast : lastN (blkB l) = eig 0 l := by
    unfold lastN
    have e1 : (blkB l).drop ((blkB l).length - 4) = fx (eig 0 l) 4 := by
      rw [hlen]
      unfold blkB
      rw [hT, show 4 * eig 0 l / 4 = eig 0 l by omega, ← List.append_assoc]
      exact List.drop_left' (by rw [List.length_append, hT]; omega)
    rw [e1]
    have := fv_four (n := eig 0 l) (by omega) [] (fun x hx => by cases hx)
    simpa using this
  refine ⟨hlast, ?_, ?_⟩
  · unfold bodyN
    rw [hlast, hlen, show (enEs 0 [] l).length + 4 * eig 0 l + 4 - 4 - 4 * eig 0 l = (enEs 0 [] l).length by omega]
    unfold blkB
    exact List.take_left' rfl
  · unfold plcN
    rw [hlast, hlen, show (enEs 0 [] l).length + 4 * eig 0 l + 4 - 4 - 4 * eig 0 l = (enEs 0 [] l).length by omega]
    unfold blkB
    rw [List.drop_left' rfl]
    exact List.take_left' hT
/-- Where a restart begins. -/
def offK (l : List EntV) (i : Nat) : Nat := (enEs 0 [] (l.take (8 * i))).length
theorem plc_at {l : List EntV} {i : Nat} (hi : 8 * i < l.length) : ∃ t, Okb t ∧ (enTl 0 0 [] l).drop (4 * i) = fx (offK l i) 4 ++ t := by
  have e := enTl_app (l.take (8 * i)) 0 0 [] (l.drop (8 * i))
  rw [List.take_append_drop, List.length_take, Nat.min_eq_left (by omega), Nat.zero_add, Nat.zero_add] at e
  have hl : (enTl 0 0 [] (l.take (8 * i))).length = 4 * i := by
    rw [enTl_len, eig_eq, List.length_take]
    omega
  obtain ⟨x, r, hx⟩ : ∃ x r, l.drop (8 * i) = x :: r := by
    cases h : l.drop (8 * i) with
    | nil =>
      have := congrArg List.length h
      rw [List.length_drop] at this
      simp at this
      omega
    | cons x r => exact ⟨x, r, rfl⟩
  refine ⟨_, okb_enTl (l := r) (i := 8 * i + 1) (pos := offK l i + (enE (shI (8 * i) x.key (lastK [] (l.take (8 * i)))) x).length) (prev := x.key), ?_⟩
  rw [e, List.drop_left' hl, hx]
  show (if 8 * i % 8 = 0 then fx (offK l i) 4 else []) ++ enTl (8 * i + 1) (offK l i + (enE (shI (8 * i) x.key (lastK [] (l.take (8 * i)))) x).length) x.key r = _
  rw [if_pos (by omega)]
theorem body_at {l : List EntV} {i : Nat} (hi : 8 * i ≤ l.length) : (enEs 0 [] l).drop (offK l i) = enEs (8 * i) (lastK [] (l.take (8 * i))) (l.drop (8 * i)) := by
  have e := enEs_app (l.take (8 * i)) 0 [] (l.drop (8 * i))
  rw [List.take_append_drop, List.length_take, Nat.min_eq_left (by omega), Nat.zero_add] at e
  rw [e]
  exact List.drop_left' rfl
theorem off_le {l : List EntV} {i : Nat} : offK l i ≤ (enEs 0 [] l).length := by
  have e := enEs_app (l.take (8 * i)) 0 [] (l.drop (8 * i))
  rw [List.take_append_drop] at e
  rw [e, List.length_append]
  unfold offK
  omega
/-- An entry is taken as it was put. -/
theorem tE_en {prev : List Int} {e : EntV} {n : Nat} {t : List Int} (hn : n ≤ prev.length) (hk : n ≤ e.key.length) (hp : prev.length ≤ 512) (hsh : prev.take n = e.key.take n) (h : mayE e = true) (ho : OkE e) (ht : Okb t) : tE prev (enE n e ++ t) = (0, e, t) := by
  obtain ⟨h1, h2⟩ := deE1_en hn hk hp hsh h ho ht
  obtain ⟨a1, a2⟩ := tE_de hp h1
  rw [h2] at a1 a2
  have h0 := a1.2 rfl
  obtain ⟨b1, b2⟩ := a2 h0
  simp only [Prod.mk.injEq] at b2
  refine Prod.ext h0 (Prod.ext b1 b2.1.symm)
theorem tE_next {o : List Int} {p : List Int} {j : Nat} {e : EntV} {r : List EntV} (hj : j % 8 = 0 ∨ o = p) (hp : o.length ≤ 512) (h : mayE e = true) (ho : OkE e) (hr : ∀ x ∈ r, OkE x) : tE o (enEs j p (e :: r)) = (0, e, enEs (j + 1) e.key r) := by
  show tE o (enE (shI j e.key p) e ++ enEs (j + 1) e.key r) = _
  have ht := okb_enEs (i := j + 1) (prev := e.key) hr
  rcases hj with q | q
  · have hz : shI j e.key p = 0 := by unfold shI; rw [if_pos q]
    rw [hz]
    exact tE_en (Nat.zero_le _) (Nat.zero_le _) hp (by simp) h ho ht
  · subst q
    have hs := shI_ok j e.key o
    exact tE_en hs.1 hs.2.1 hp hs.2.2 h ho ht
theorem skE_ahK (l : List EntV) (key : List Int) (s : Int) : skE l key s = l.find? fun e => !ahK e key s := by
  unfold skE
  congr 1
  funext e
  unfold ahK
  have := cmp_vals e.key key
  rw [Bool.eq_iff_iff]
  simp only [decide_eq_true_eq, Bool.not_eq_true', decide_eq_false_iff_not]
  omega
theorem ahK_before {a b : EntV} {key : List Int} {s : Int} (h : ahead a b < 0) (hb : ahK b key s = true) : ahK a key s = true := by
  have h1 := ahK_ahead b ⟨key, s, false, 0, []⟩
  have h2 := ahK_ahead a ⟨key, s, false, 0, []⟩
  exact h2.2 (ahead_trans h (h1.1 hb))
theorem skE_from {l : List EntV} {key : List Int} {s : Int} {k : Nat} (ho : ordE l) (hk : k < l.length) (h : ahK l[k] key s = true) : skE l key s = skE (l.drop k) key s := by
  rw [skE_ahK, skE_ahK]
  have e : l = l.take k ++ l.drop k := (List.take_append_drop k l).symm
  conv => lhs; rw [e]
  rw [List.find?_append]
  have hn : (l.take k).find? (fun e => !ahK e key s) = none := by
    rw [List.find?_eq_none]
    intro x hx
    obtain ⟨j, hj, rfl⟩ := List.getElem_of_mem hx
    rw [List.getElem_take]
    have hjk : j < k := by rw [List.length_take] at hj; omega
    have hp : ahead l[j] l[k] < 0 := List.pairwise_iff_getElem.1 ho j k (by omega) hk hjk
    rw [ahK_before hp h]
    decide
  rw [hn]
  rfl
end Go.Proofs.Ytfecopldepnicaa
