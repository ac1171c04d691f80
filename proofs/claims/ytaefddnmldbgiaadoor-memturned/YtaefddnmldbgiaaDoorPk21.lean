import Derived.RangeFuncNested
import Derived.RangeFuncBound
import Derived.RangeFuncCalls
import Derived.RangeFuncLeaves
import Derived.Shelf.Abstract
import Derived.Shelf.RegionOpen
import Derived.WalkKit
import Derived.OwnWalkIn
import Derived.TacticsInMore
import Derived.LoopNIn
import Derived.LoopIn
import Derived.Test.YtaefddnmldbgiaaDoorPk16
import Derived.Test.YtaefddnmldbgiaaDoorPk17
import Derived.Test.YtaefddnmldbgiaaDoorPk20
/- The landed mem's Latest; rows of entries whose bytes may be written. -/
namespace Go.Proofs.YtaefddnmldbgiaaDoor
open Go.RowKit
set_option linter.unusedVariables false
set_option linter.unusedSimpArgs false

/-- An entry of a row, whose bytes may be written. -/
def EntW (w : World) (vs : List Value) (x : EntV) : Prop := EntM w vs x ∧ ∀ u ∈ vs, ∀ a n c, u = .slice a n c → Wr w a n
def entW : El EntV where
  ty := entE.ty
  size := entE.size
  M := EntW
  len := fun h => entE.len h.1
  one := fun h => entE.one h.1
  lt := fun h => entE.lt h.1
  keep := fun h hk => ⟨entE.keep h.1 hk, fun u hu a n c e => (h.2 u hu a n c e).keep fun b off ea hn => hk u hu b ⟨off, n, c, by rw [e, ea], hn⟩⟩
theorem entW_info : (Tryd.prog.info? entW.ty).map (fun i => (i.zero, i.size, i.bytes)) = some (some (.agg #[.slice none 0 0, .int .i64 0, .bool false, .int .i64 0, .slice none 0 0]), entW.size, 72) := entE_info
theorem lay_wr {w : World} : ∀ {us : List Value} {xs : List EntV}, Lay entW w us xs → Lay entE w us xs ∧ ∀ u ∈ us, ∀ a n c, u = .slice a n c → Wr w a n
  | us, [], h => ⟨h, fun u hu => by rw [show us = [] from h] at hu; cases hu⟩
  | us, x :: xs, h => by
    obtain ⟨vs, us', rfl, h1, h2⟩ := h
    have h3 := lay_wr h2
    refine ⟨⟨vs, us', rfl, h1.1, h3.1⟩, fun u hu => ?_⟩
    rcases List.mem_append.1 hu with q | q
    · exact h1.2 u q
    · exact h3.2 u q
theorem rowW_E {B : Nat} {F : Nat → Prop} {w : World} {v : Value} {xs : List EntV} (h : RowF entW B F w v xs) : RowF entE B F w v xs := by
  obtain ⟨us, h1, h2, h3, h4⟩ := h
  exact ⟨us, h1, (lay_wr h2).1, h3, h4⟩
theorem told_W {w' : World} {x : EntV} {ka va : Option Addr} {kc vc : Nat} (h : EntM w' (entL ka kc va vc x) x) (r1 : Wr w' ka x.key.length) (r2 : Wr w' va x.val.length) : EntW w' (entL ka kc va vc x) x := by
  refine ⟨h, fun u hu a n c e => ?_⟩
  unfold entL at hu
  simp only [List.mem_cons, List.not_mem_nil, or_false] at hu
  rcases hu with rfl | rfl | rfl | rfl | rfl
  · simp only [Value.slice.injEq] at e; obtain ⟨rfl, rfl, rfl⟩ := e; exact r1
  · cases e
  · cases e
  · cases e
  · simp only [Value.slice.injEq] at e; obtain ⟨rfl, rfl, rfl⟩ := e; exact r2
/-- The keys that are asked for. -/
def inK (ub : List Int) (n : Nd) : Bool := decide (ub.length = 0 ∨ cmp n.key ub < 0)
theorem list_flat (fr ub : List Int) : ∀ ns : List Nd, listE (flat ns) fr ub = flat ((bck ns fr).filter (inK ub))
  | [] => rfl
  | n :: r => by
    have ih := list_flat fr ub r
    rw [flat_cons]
    unfold listE at ih ⊢
    rw [List.filter_append, ih]
    have h1 : n.ents.filter (inE fr ub) = if ! decide (cmp n.key fr < 0) && inK ub n then n.ents else [] := by
      split
      · rename_i q
        rw [List.filter_eq_self]
        intro e he
        unfold inE
        rw [(ents_key he).1]
        unfold inK at q
        simp at q ⊢
        exact q
      · rename_i q
        rw [List.filter_eq_nil_iff]
        intro e he
        unfold inE
        rw [(ents_key he).1]
        unfold inK at q
        simp at q ⊢
        exact q
    rw [h1]
    by_cases q : cmp n.key fr < 0
    · have e1 : bck (n :: r) fr = bck r fr := by simp [bck, q]
      rw [e1]
      simp [q]
    · have e1 : bck (n :: r) fr = n :: bck r fr := by simp [bck, q]
      rw [e1]
      by_cases q2 : inK ub n = true
      · rw [List.filter_cons_of_pos q2, flat_cons]
        simp [q, q2]
      · rw [List.filter_cons_of_neg q2]
        simp [q, q2]
/-- Those asked for stand first. -/
theorem filter_take {Z : List Nd} (ho : Z.Pairwise fun a b => cmp a.key b.key < 0) {ub : List Int} {j : Nat} (h1 : ∀ m ∈ Z.take j, inK ub m = true) (h2 : ∀ m, Z[j]? = some m → inK ub m = false) : Z.filter (inK ub) = Z.take j := by
  conv => lhs; rw [← List.take_append_drop j Z]
  rw [List.filter_append, List.filter_eq_self.2 h1]
  have : (Z.drop j).filter (inK ub) = [] := by
    rw [List.filter_eq_nil_iff]
    intro x hx
    cases hz : Z[j]? with
    | none => rw [List.drop_eq_nil_of_le (List.getElem?_eq_none_iff.1 hz)] at hx; cases hx
    | some m =>
      have hm := h2 m hz
      have hj := (List.getElem?_eq_some_iff.1 hz).1
      rw [List.drop_eq_getElem_cons hj] at hx
      have e0 : Z[j] = m := (List.getElem?_eq_some_iff.1 hz).2
      rcases List.mem_cons.1 hx with e | e
      · rw [e, e0, hm]; simp
      · have hp : cmp m.key x.key < 0 := by
          obtain ⟨i, hi, rfl⟩ := List.getElem_of_mem e
          rw [List.length_drop] at hi
          rw [List.getElem_drop, ← e0]
          exact List.pairwise_iff_getElem.1 ho _ _ hj (by omega) (by omega)
        unfold inK at hm ⊢
        simp only [decide_eq_false_iff_not, not_or] at hm
        simp only [decide_eq_true_eq, not_or]
        exact ⟨hm.1, fun q => hm.2 (cmp_trans hp q)⟩
  rw [this, List.append_nil]
/-- Of one key: the first that is not newer. -/
theorem seen_more {s : Int} {k : List Int} : ∀ {L out : List EntV}, (∀ e ∈ L, e.key = k) → (∃ x, out.getLast? = some x ∧ x.key = k) → L.foldl (seen1 s) out = out
  | [], out, _, _ => rfl
  | e :: L, out, h1, ⟨x, hx, hk⟩ => by
    have e1 : seen1 s out e = out := by
      unfold seen1
      rw [if_neg]
      rintro ⟨_, q | ⟨y, hy, hc⟩⟩
      · rw [q] at hx; simp at hx
      · rw [hx] at hy
        obtain rfl : x = y := by simpa using hy
        apply hc
        rw [hk, h1 e (by simp)]
        exact cmp_refl _
    rw [List.foldl_cons, e1]
    exact seen_more (fun e' he => h1 e' (by simp [he])) ⟨x, hx, hk⟩
theorem seen_first {s : Int} {k : List Int} : ∀ {L out : List EntV}, (∀ e ∈ L, e.key = k) → (∀ x, out.getLast? = some x → cmp x.key k ≠ 0) → L.foldl (seen1 s) out = out ++ (L.find? fun e => decide (e.seq ≤ s)).toList
  | [], out, _, _ => by simp
  | e :: L, out, h1, h2 => by
    by_cases q : e.seq ≤ s
    · have e1 : seen1 s out e = out ++ [e] := by
        unfold seen1
        rw [if_pos]
        refine ⟨q, ?_⟩
        cases ho : out.getLast? with
        | none => exact .inl (List.getLast?_eq_none_iff.1 ho)
        | some x => exact .inr ⟨x, rfl, by rw [h1 e (by simp)]; exact h2 x ho⟩
      rw [List.foldl_cons, e1, seen_more (k := k) (fun e' he => h1 e' (by simp [he])) ⟨e, by simp, h1 e (by simp)⟩]
      simp [q]
    · have e1 : seen1 s out e = out := by
        unfold seen1
        rw [if_neg (fun h => q h.1)]
      rw [List.foldl_cons, e1, seen_first (fun e' he => h1 e' (by simp [he])) h2]
      simp [q]
def latV (s : Int) (n : Nd) : Option EntV := match atO n.vs s with
  | some v => if v.gone then none else some (v.ent n.key)
  | none => none
theorem seen_flat {s : Int} : ∀ (Y : List Nd), ordN Y → seenE (flat Y) s = Y.filterMap (fun n => (atO n.vs s).map (Vr.ent n.key)) := fun Y => by
  have main : ∀ (Y : List Nd) (out : List EntV), ordN Y → (∀ x, out.getLast? = some x → ∀ n ∈ Y, cmp x.key n.key ≠ 0) → (flat Y).foldl (seen1 s) out = out ++ Y.filterMap (fun n => (atO n.vs s).map (Vr.ent n.key)) := by
    intro Y
    induction Y with
    | nil => intro out _ _; simp [flat]
    | cons n r ih =>
      intro out ho hl
      rw [flat_cons, List.foldl_append]
      have hf : n.ents.foldl (seen1 s) out = out ++ ((atO n.vs s).map (Vr.ent n.key)).toList := by
        rw [seen_first (k := n.key) (fun e he => (ents_key he).1) (fun x hx => hl x hx n (by simp))]
        congr 2
        exact find_at (ho.2 n (by simp)) s n.key
      rw [hf, ih _ ⟨(List.pairwise_cons.1 ho.1).2, fun m hm => ho.2 m (by simp [hm])⟩ ?_]
      · rw [List.filterMap_cons]
        cases hc : (atO n.vs s).map (Vr.ent n.key) with
        | none => simp
        | some x => simp
      · intro x hx m hm
        cases hc : atO n.vs s with
        | none =>
          rw [hc] at hx
          simp at hx
          exact hl x hx m (by simp [hm])
        | some v =>
          rw [hc] at hx
          simp at hx
          have := (List.pairwise_cons.1 ho.1).1 m hm
          rw [← hx]
          show cmp n.key m.key ≠ 0
          omega
  intro ho
  have := main Y [] ho (fun x hx => by simp at hx)
  simpa [seenE] using this
theorem latest_flat {ns : List Nd} (ho : ordN ns) {fr ub : List Int} {s : Int} {j : Nat} (h1 : ∀ m ∈ (bck ns fr).take j, inK ub m = true) (h2 : ∀ m, (bck ns fr)[j]? = some m → inK ub m = false) : latestE (flat ns) fr ub s = ((bck ns fr).take j).filterMap (latV s) := by
  have hs : (bck ns fr).Sublist ns := List.filter_sublist
  have hb : (bck ns fr).Pairwise fun a b => cmp a.key b.key < 0 := ho.1.sublist hs
  unfold latestE
  rw [list_flat, filter_take hb h1 h2, seen_flat _ ⟨hb.sublist (List.take_sublist _ _), fun n hn => ho.2 n (hs.subset (List.mem_of_mem_take hn))⟩]
  generalize (bck ns fr).take j = Y
  induction Y with
  | nil => rfl
  | cons n r ih =>
    rw [List.filterMap_cons, List.filterMap_cons]
    cases hc : atO n.vs s with
    | none =>
      have e1 : latV s n = none := by unfold latV; rw [hc]
      rw [e1]
      simpa using ih
    | some v =>
      simp only [Option.map_some]
      cases hg : v.gone with
      | true =>
        have e1 : latV s n = none := by unfold latV; rw [hc]; simp [hg]
        rw [e1, List.filter_cons_of_neg (by simp [Vr.ent, hg])]
        exact ih
      | false =>
        have e1 : latV s n = some (v.ent n.key) := by unfold latV; rw [hc]; simp [hg]
        rw [e1, List.filter_cons_of_pos (by simp [Vr.ent, hg])]
        simp only
        rw [ih]
theorem list_flat_take {ns : List Nd} (ho : ordN ns) {fr ub : List Int} {j : Nat} (h1 : ∀ m ∈ (bck ns fr).take j, inK ub m = true) (h2 : ∀ m, (bck ns fr)[j]? = some m → inK ub m = false) : listE (flat ns) fr ub = flat ((bck ns fr).take j) := by
  have hb : (bck ns fr).Pairwise fun a b => cmp a.key b.key < 0 := ho.1.sublist List.filter_sublist
  rw [list_flat, filter_take hb h1 h2]
theorem flat_sub : ∀ {a b : List Nd}, a.Sublist b → (flat a).length ≤ (flat b).length := fun {a b} h => by
  induction h with
  | slnil => exact Nat.le_refl _
  | cons x h ih => rw [flat_cons, List.length_append]; omega
  | cons_cons x h ih => rw [flat_cons, flat_cons, List.length_append, List.length_append]; omega
/-- The key behind a key. -/
theorem nd_next {w : World} {p : Nat} {ns : List Nd} {c wt : Int} (h : MemAt w p ns c wt) (fr : List Int) {j : Nat} {m : Nd} (hm : (bck ns fr)[j]? = some m) : w.cell? ⟨m.b, 2, none⟩ = some (ptrO ((bck ns fr)[j + 1]?.map Nd.b)) := by
  have hc := h.lv 0 (by omega)
  rw [lev_zero (fun n hn => (h.bas.nd n hn).h.1)] at hc
  have e := frt_bck h.bas.ord.1 fr
  have hj := (List.getElem?_eq_some_iff.1 hm).1
  have e0 : (bck ns fr)[j] = m := (List.getElem?_eq_some_iff.1 hm).2
  have e2 : ns.map Nd.b = ((frt ns fr ++ (bck ns fr).take j).map Nd.b ++ [m.b]) ++ ((bck ns fr).drop (j + 1)).map Nd.b := by
    conv => lhs; rw [e, ← List.take_append_drop j (bck ns fr), List.drop_eq_getElem_cons hj, e0]
    simp
  rw [e2] at hc
  have hn := hc.from.next
  rw [lastB_app] at hn
  rw [hn]
  congr 2
  rw [List.head?_map, List.head?_drop]

set_option maxHeartbeats 4000000 in
set_option maxRecDepth 100000 in
theorem latest_m {w : World} {p : Nat} {l : List EntV} {F : Nat → Prop} {fa ta : Option Addr} {fl fc tl tc : Nat} {fr ub : List Int} {s : Int} (h : RM w p l F) (hok : okE l) (hl : l.length ≤ 100) (hf : Sl w fa fl fc fr) (ht : Sl w ta tl tc ub) (hs : In64 s) : Calls Tryd.prog 21 #[pm p, .slice fa fl fc, .slice ta tl tc, .int .i64 s] w fun r w' => ∃ v, r = .returned v ∧ RowF entE w.heap.size (fun b => w.heap.size ≤ b) w' v (latestE l fr ub s) ∧ Below w.heap.size w w' := by
  obtain ⟨ns, hm, rfl, rfl⟩ := h
  have hsk := seek_m hm hf
  rw [List.head?_eq_getElem?] at hsk
  have HH : Hid (MemAt w p ns ((flat ns).length : Nat) (wts (flat ns) : Nat) ∧ okE (flat ns) ∧ (flat ns).length ≤ 100 ∧ Sl w ta tl tc ub) := ⟨hm, hok, hl, ht⟩
  have HLL : Hid (∀ j, (((bck ns fr).take j).filterMap (latV s)).length ≤ 100) := fun j => by
    have h1 : ∀ Y : List Nd, (Y.filterMap (latV s)).length ≤ (flat Y).length := fun Y => by
      induction Y with
      | nil => simp [flat]
      | cons n r ih =>
        rw [List.filterMap_cons, flat_cons, List.length_append]
        cases hc : latV s n with
        | none => simp only; omega
        | some x =>
          simp only [List.length_cons]
          have : 1 ≤ n.ents.length := by
            unfold latV at hc
            cases ha : atO n.vs s with
            | none => rw [ha] at hc; cases hc
            | some v =>
              have := List.length_pos_of_mem (atO_mem ha)
              unfold Nd.ents
              simp
              omega
          omega
    have h2 := h1 ((bck ns fr).take j)
    have h3 : (flat ((bck ns fr).take j)).length ≤ (flat ns).length := by
      have hs : ((bck ns fr).take j).Sublist ns := (List.take_sublist _ _).trans List.filter_sublist
      exact flat_sub hs
    omega
  clear hm hok hl hf ht
  unfold pm at hsk ⊢
  obtain ⟨Z, hZ⟩ : ∃ Z, Z = bck ns fr := ⟨_, rfl⟩
  rw [← hZ] at hsk HLL
  have HZ := hid hZ
  clear hZ
  obtain ⟨o0, ho0⟩ : ∃ o0, ptrO (Z[0]?.map Nd.b) = .pointer o0 := by
    cases Z[0]?.map Nd.b with
    | none => exact ⟨_, rfl⟩
    | some b => exact ⟨_, rfl⟩
  rw [ho0] at hsk
  have HO0 := hid ho0
  clear ho0
  go_enter Tryd.func21, Tryd.ntmps21
  go_wp2_with fail
  refine hsk.mono ?_
  rintro e9 w2 ⟨rfl, b2⟩
  have H0 : Hid (RowF entW w.heap.size (fun b => w.heap.size ≤ b) w2 (.slice none 0 0) ((Z.take 0).filterMap (latV s)) ∧ Below w.heap.size w w2 ∧ ∀ m ∈ Z.take 0, inK ub m = true) := ⟨RowF.nil _ _ _, b2, fun m hm => by cases hm⟩
  clear hsk b2
  go_wp2_with fail
  go_loopg [9, 10, 11] Z.length (fun g v nv _ wr => ∃ j : Nat, j + g = Z.length ∧ nv = ptrO (Z[j]?.map Nd.b) ∧ Hid (RowF entW w.heap.size (fun b => w.heap.size ≤ b) wr v ((Z.take j).filterMap (latV s)) ∧ Below w.heap.size w wr ∧ ∀ m ∈ Z.take j, inK ub m = true))
  case atStart => exact ⟨0, by omega, HO0.out.symm, H0⟩
  case round =>
    obtain ⟨j, hj, rfl, HK⟩ := hrel
    have HDONE : Hid ((∀ m, Z[j]? = some m → inK ub m = false) → RowF entE w.heap.size (fun b => w.heap.size ≤ b) wr u9 (latestE (flat ns) fr ub s) ∧ Below w.heap.size w wr) := fun h2 => by
      have h1 := HK.out.2.2
      rw [HZ.out] at h1 h2
      rw [latest_flat HH.out.1.bas.ord h1 h2, ← HZ.out]
      exact ⟨rowW_E HK.out.1, HK.out.2.1⟩
    cases hz : Z[j]? with
    | none =>
      have hn := @ahead_nil wr ta tl tc
      have HD := hid (HDONE.out (fun m hm => by rw [hz] at hm; cases hm))
      simp only [Option.map_none, ptrO]
      clear hj hz HK HDONE
      go_wp2_with fail
      refine hn.mono ?_
      rintro e9 w9 ⟨rfl, hw⟩
      obtain rfl := hw.symm
      clear hn hw
      go_wp2_with fail
      go_ret
      exact ⟨_, rfl, HD.out⟩
    | some m =>
      have hmm : m ∈ ns := (bck_ge m (by rw [← HZ.out]; exact List.mem_of_getElem? hz)).1
      have hjl := (List.getElem?_eq_some_iff.1 hz).1
      have HM := hid (HH.out.1.later HK.out.2.1)
      have hn := ahead_m (HM.out.bas.nd m hmm) (HH.out.2.2.2.later HK.out.2.1)
      simp only [Option.map_some, ptrO]
      unfold ptr at hn ⊢
      by_cases hi : inK ub m = true
      · have hi' := hi
        unfold inK at hi'
        rw [hi'] at hn
        have hvl : m.vs.length ≤ 100000 := by have := vs_le hmm; have := HH.out.2.2.1; omega
        have hat := at_m (HM.out.bas.nd m hmm) hvl (HH.out.1.bas.ord.2 m hmm) (s := s)
        have HNX : Hid (∀ wx, Below w.heap.size w wx → wx.cell? ⟨m.b, 2, none⟩ = some (ptrO (Z[j + 1]?.map Nd.b))) := fun wx hb => by
          rw [HZ.out] at hz ⊢
          exact nd_next (HH.out.1.later hb) fr hz
        have HTK : Hid ((Z.take (j + 1)).filterMap (latV s) = (Z.take j).filterMap (latV s) ++ (latV s m).toList) := by
          show _ = _
          rw [List.take_add_one, hz, List.filterMap_append]
          cases hq : latV s m <;> simp [hq]
        have HIN : Hid (∀ x ∈ Z.take (j + 1), inK ub x = true) := fun x hx => by
          rw [List.take_add_one, hz] at hx
          rcases List.mem_append.1 hx with q | q
          · exact HK.out.2.2 x q
          · have e : x = m := by simpa using q
            rw [e]; exact hi
        have HL := hid (HLL.out j)
        obtain ⟨GK, HG⟩ : ∃ g, Hid (g < gk ∧ j + 1 + g = Z.length) := ⟨gk - 1, by omega, by omega⟩
        obtain ⟨o', ho'⟩ : ∃ o', ptrO (Z[j + 1]?.map Nd.b) = .pointer o' := by
          cases Z[j + 1]?.map Nd.b with
          | none => exact ⟨_, rfl⟩
          | some b => exact ⟨_, rfl⟩
        have HO' := hid ho'
        rw [ho'] at HNX
        unfold ptr at hat
        cases hav : atO m.vs s with
        | none =>
          have HLV : Hid (latV s m = none) := by show _ = _; unfold latV; rw [hav]
          rw [hav] at hat
          simp only [Option.map_none, ptrO] at hat
          have hnx := HNX.out wr HK.out.2.1
          clear hj hz hi hi' hvl hjl hav ho' HDONE
          go_wp2_with (first | (go_at_call 35; refine hn.mono ?_; rintro e9 w9 ⟨rfl, hw⟩; obtain rfl := hw.symm; clear hn hw) | (go_at_call 32; refine hat.mono ?_; rintro e9 w9 ⟨rfl, hw⟩; obtain rfl := hw.symm; clear hat hw))
          go_roundg GK
          case measure => exact HG.out.1
          case rel => exact ⟨j + 1, HG.out.2, HO'.out.symm, by rw [HTK.out, HLV.out]; simpa using HK.out.1, HK.out.2.1, HIN.out⟩
        | some v =>
          have hvm := atO_mem hav
          rw [hav] at hat
          simp only [Option.map_some, ptrO] at hat
          unfold ptr at hat
          have hgc := ((HM.out.bas.nd m hmm).vs v hvm).cells.2.1
          cases hg : v.gone with
          | true =>
            have HLV : Hid (latV s m = none) := by show _ = _; unfold latV; rw [hav]; simp [hg]
            rw [hg] at hgc
            have hnx := HNX.out wr HK.out.2.1
            clear hj hz hi hi' hvl hjl hav ho' HDONE hg
            go_wp2_with (first | (go_at_call 35; refine hn.mono ?_; rintro e9 w9 ⟨rfl, hw⟩; obtain rfl := hw.symm; clear hn hw) | (go_at_call 32; refine hat.mono ?_; rintro e9 w9 ⟨rfl, hw⟩; obtain rfl := hw.symm; clear hat hw))
            go_roundg GK
            case measure => exact HG.out.1
            case rel => exact ⟨j + 1, HG.out.2, HO'.out.symm, by rw [HTK.out, HLV.out]; simpa using HK.out.1, HK.out.2.1, HIN.out⟩
          | false =>
            have HLV : Hid (latV s m = some (v.ent m.key)) := by show _ = _; unfold latV; rw [hav]; simp [hg]
            rw [hg] at hgc
            have hlen := ok_key HH.out.2.1 hmm hvm
            have hent := entry_m (HM.out.bas.nd m hmm) hvm (by omega) (by omega)
            unfold ptr at hent
            have HVE := hid hvm
            generalize hx : v.ent m.key = x at hent HLV
            have HAP : Hid (∀ w5 a5 c5 a6 c6 v9 w9, Below w.heap.size w w5 → RowF entW w.heap.size (fun b => w.heap.size ≤ b) w5 u9 ((Z.take j).filterMap (latV s)) → RowF entW w.heap.size (fun b => w.heap.size ≤ b) w9 v9 ((Z.take j).filterMap (latV s) ++ [x]) → (w5.alloc (.cells #[.slice a5 x.key.length c5, .int .i64 x.seq, .bool x.gone, .int .i64 x.till, .slice a6 x.val.length c6] 28)).grownBy w9 u9.ownBlock → RowF entW w.heap.size (fun b => w.heap.size ≤ b) w9 v9 ((Z.take (j + 1)).filterMap (latV s)) ∧ Below w.heap.size w w9) := fun w5 a5 c5 a6 c6 v9 w9 hb5 hr5 r9 g9 => by
              refine ⟨by rw [HTK.out, HLV.out]; exact r9, ?_⟩
              have hba : Below w.heap.size w (w5.alloc (.cells #[.slice a5 x.key.length c5, .int .i64 x.seq, .bool x.gone, .int .i64 x.till, .slice a6 x.val.length c6] 28)) := hb5.alloc hb5.size _
              exact Below.grown hba g9 hba.size (fun k hk => (hr5.own_lt hk).1)
            unfold ToldE at hent
            clear hj hz hi hi' hvl hjl hav ho' HDONE hg hlen hvm hx
            go_wp2_with (first | (go_at_call 35; refine hn.mono ?_; rintro e9 w9 ⟨rfl, hw⟩; obtain rfl := hw.symm; clear hn hw) | (go_at_call 32; refine hat.mono ?_; rintro e9 w9 ⟨rfl, hw⟩; obtain rfl := hw.symm; clear hat hw) | (go_at_call 33; refine hent.mono ?_; rintro e9 w5 ⟨a5, c5, a6, c6, rfl, em5, n5, k5, k6, b5⟩; unfold entA; have HR5 := hid (HK.out.1.later b5); have HE5 := hid (told_W em5 k5 k6); have HN5 := hid n5; have HB5 : Hid (Below w.heap.size w w5 ∧ wr.heap.size ≤ w5.heap.size) := ⟨HK.out.2.1.trans (b5.mono HK.out.2.1.size), b5.size⟩; clear em5 n5 k5 k6 b5 hent) | (at_builtin; refine wpList_appF entW (t := 22) (z := .agg #[.slice none 0 0, .int .i64 0, .bool false, .int .i64 0, .slice none 0 0]) (bytes := 72) (B := w.heap.size) Tryd.underlying22 entW_info rfl (by decide) rfl (.tmp 35) (.tmp 39) rfl rfl (HR5.out.alloc _) rfl (rs_one HE5.out) (fun u hu b hr e => by have h1 := HN5.out u hu b hr; have h2 := (HK.out.1.own_lt e).2; omega) (fun u hu b hr => by have h1 := HN5.out u hu b hr; have h2 := HK.out.2.1.size; omega) (by have := HL.out; omega) (by have := HL.out; omega) (by have := HB5.out.1.size; simp; omega) ?_; intro v9 w9 r9 g9 m9; have HR9 := hid (HAP.out w5 a5 c5 a6 c6 v9 w9 HB5.out.1 HR5.out r9 g9); have hnx := HNX.out _ HR9.out.2; clear r9 g9 m9))
            go_roundg GK
            case measure => exact HG.out.1
            case rel => exact ⟨j + 1, HG.out.2, HO'.out.symm, HR9.out.1, HR9.out.2, HIN.out⟩
      · have hi' : inK ub m = false := by simpa using hi
        have HD := hid (HDONE.out (fun m' hm' => by rw [hz] at hm'; cases hm'; exact hi'))
        unfold inK at hi'
        rw [hi'] at hn
        clear hj hz hi hi' hjl HDONE
        go_wp2_with fail
        refine hn.mono ?_
        rintro e9 w9 ⟨rfl, hw⟩
        obtain rfl := hw.symm
        clear hn hw
        go_wp2_with fail
        go_ret
        exact ⟨_, rfl, HD.out⟩
end Go.Proofs.YtaefddnmldbgiaaDoor

/- The landed mem is a mem; and one that there isn't. -/
namespace Go.Proofs.YtaefddnmldbgiaaDoor
open Go.RowKit
set_option linter.unusedVariables false
set_option linter.unusedSimpArgs false

theorem rm_lt {w : World} {p : Nat} {l : List EntV} {F : Nat → Prop} (h : RM w p l F) : ∀ k, F k → k < w.heap.size := by
  obtain ⟨ns, hm, rfl, rfl⟩ := h
  exact fun k hk => hm.bas.lt hk
theorem rm_same {w w' : World} {p : Nat} {l : List EntV} {F : Nat → Prop} (h : RM w p l F) (h1 : ∀ k, F k → w'.heap[k]? = w.heap[k]?) (h2 : ∀ k, k < 2 → w'.heap[k]? = w.heap[k]?) : RM w' p l F := by
  obtain ⟨ns, hm, rfl, rfl⟩ := h
  exact ⟨ns, hm.keep h1 (h2 1 (by omega)), rfl, rfl⟩
theorem rm_rn {w : World} {p : Nat} {l : List EntV} {F : Nat → Prop} (h : RM w p l F) : 2 ≤ w.heap.size := by
  obtain ⟨ns, hm, rfl, rfl⟩ := h
  exact hm.bas.tab.lt
/-- -/
def theMem : PM where
  R := RM
  G := Tab
  N := 2
  gk := fun h hb => h.later hb
  gn := fun h => h.lt
  rn := fun h => rm_rn h
  lt := fun h => rm_lt h
  same := fun h h1 h2 => rm_same h h1 h2
  new := fun h => new_m h
  may := fun _ => @may_m _ _ _ _ _ _
  add := fun h _ h2 h3 h4 h5 h6 h7 => add_m h h2 h3 h4 h5 h6 h7
  len := fun h _ _ _ => len_m h
  weight := fun h _ _ _ => weight_m h
  get := fun h _ h2 h3 h4 h5 => get_m h h2 h3 h4 h5
  latest := fun h _ h2 h3 h4 h5 h6 => latest_m h h2 h3 h4 h5 h6
end Go.Proofs.YtaefddnmldbgiaaDoor

/- slices.Backward of a key's entries: a range over it. -/
namespace Go.Proofs.YtaefddnmldbgiaaDoor
open Go.RowKit Go.Shelf
set_option linter.unusedVariables false
set_option linter.unusedSimpArgs false
attribute [local go_sem] Oper.semAt_some

/-- What comes of a key: its place, the entry. -/
abbrev Com (m : Nd) := { x : Nat × Vr // x.2 ∈ m.vs }
def encC {m : Nd} (x : Com m) : Array Value := #[.int .i64 (x.1.1 : Int), .pointer (some ⟨x.1.2.b, 0, none⟩)]

set_option maxRecDepth 100000 in
set_option maxHeartbeats 2000000 in
theorem bw1_in (F : Fence) (n : Nat) (hf : F.fn 46) (hro : F.round = none) (hn : 1 ≤ n) (l Bs : Nat) (Kp : World → World → Prop) (hKr : ∀ A, Kp A A) (hKt : ∀ {A B C : World}, Kp A B → Kp B C → Kp A C) (m : Nd) (ao : Option Addr) (cap : Nat) (hvl : m.vs.length ≤ 100000) (J Jx : List (Com m) → World → Prop)
    (hY : ∀ pre x W, J pre W → pre.length < m.vs.length → YieldAt F (n - 1) Tryd.prog l (encC x) W fun e W' =>
      (e = .returned (.bool true) ∧ J (pre ++ [x]) W' ∧ Kp W W') ∨ (e = .returned (.bool false) ∧ Jx (pre ++ [x]) W'))
    (W : World) (hBs : ∀ W', Kp W W' → W'.cell? ⟨Bs, 0, none⟩ = some (.slice ao m.vs.length cap)) (hc : ∀ W', Kp W W' → ∀ i v, m.vs[i]? = some v → ∃ b, ao = some ⟨b, 0, none⟩ ∧ W'.cell? ⟨b, i, none⟩ = some (.pointer (some ⟨v.b, 0, none⟩))) (h0 : J [] W) :
    CallsIn F n Tryd.prog 46 #[.func (.yield l) #[] #[], .pointer (some ⟨Bs, 0, none⟩)] W fun e W' => (∃ v, e = .returned v) ∧
      ((∃ ys : List (Com m), ys.map (fun x => x.1.2) = m.vs.reverse ∧ J ys W') ∨ (∃ pre, Jx pre W')) := by
  refine callsIn_of_wp Tryd.func46 rfl hf ?_ hro
  simp only [Tryd.ntmps46, List.size_toArray, List.length_cons, List.length_nil, Nat.reduceAdd, Nat.reduceSub, Array.replicate_succ, Array.replicate_zero, List.push_toArray, List.append_toArray, List.nil_append, List.cons_append]
  have hb0 := hBs W (hKr _)
  obtain ⟨N, hN⟩ : ∃ N, N = m.vs.length := ⟨_, rfl⟩
  rw [← hN] at hvl hb0
  have HBS : Hid (∀ W', Kp W W' → W'.cell? ⟨Bs, 0, none⟩ = some (.slice ao N cap)) := by rw [hN]; exact hBs
  have HC : Hid (∀ W', Kp W W' → ∀ i v, m.vs[i]? = some v → ∃ b, ao = some ⟨b, 0, none⟩ ∧ W'.cell? ⟨b, i, none⟩ = some (.pointer (some ⟨v.b, 0, none⟩))) := hc
  have HN : Hid (N = m.vs.length) := hN
  have H0 : Hid (J [] W) := h0
  have HY : Hid (∀ pre x W, J pre W → pre.length < m.vs.length → YieldAt F (n - 1) Tryd.prog l (encC x) W fun e W' =>
      (e = .returned (.bool true) ∧ J (pre ++ [x]) W' ∧ Kp W W') ∨ (e = .returned (.bool false) ∧ Jx (pre ++ [x]) W')) := hY
  clear hBs hc hN h0 hY
  gi_wp2
  gi_loopw [3] (fun i wr => ∃ (t : Nat) (pre : List (Com m)), Hid (t ≤ N ∧ pre.map (fun x => x.1.2) = m.vs.reverse.take t ∧ J pre wr ∧ Kp W wr) ∧ i = .int .i64 ((N : Int) - 1 - (t : Int)))
    (fun i _ => ((intOf i) + 1).toNat)
  case atStart => exact ⟨0, [], ⟨Nat.zero_le _, rfl, H0.out, hKr _⟩, by simp⟩
  case round =>
    obtain ⟨t, pre, HK, rfl⟩ := hrel
    have ht : t ≤ N := HK.out.1
    have hbx := HBS.out wr HK.out.2.2.2
    by_cases hlt : t < N
    · obtain ⟨k, hk⟩ : ∃ k, k = N - 1 - t := ⟨_, rfl⟩
      have hkN : k < m.vs.length := by have := HN.out; omega
      have hij : (N : Int) - 1 - (t : Int) = (k : Int) := by omega
      rw [hij]
      obtain ⟨b, hao, hcell⟩ := HC.out wr HK.out.2.2.2 k _ (List.getElem?_eq_getElem hkN)
      subst hao
      obtain ⟨x, hx⟩ : ∃ x : Com m, x = ⟨(k, m.vs[k]), List.getElem_mem hkN⟩ := ⟨_, rfl⟩
      have hlen : pre.length = t := by
        have h1 := congrArg List.length HK.out.2.1
        rw [List.length_map, List.length_take, List.length_reverse] at h1
        have := HN.out
        omega
      obtain ⟨fn, tmps, assign, body, hy, hR⟩ := HY.out pre x wr HK.out.2.2.1 (by have := HN.out; omega)
      have HNXT : Hid (∀ W3, J (pre ++ [x]) W3 → Kp wr W3 → t + 1 ≤ N ∧ (pre ++ [x]).map (fun x => x.1.2) = m.vs.reverse.take (t + 1) ∧ J (pre ++ [x]) W3 ∧ Kp W W3) := fun W3 h1 h2 => by
        refine ⟨by omega, ?_, h1, hKt HK.out.2.2.2 h2⟩
        have hg : m.vs.reverse[t]? = some m.vs[k] := by
          rw [List.getElem?_reverse (by have := HN.out; omega), ← List.getElem?_eq_getElem hkN]
          congr 1
          have := HN.out
          omega
        rw [List.map_append, HK.out.2.1, List.take_add_one, hg, hx]
        rfl
      have hxe : encC x = #[.int .i64 (k : Int), .pointer (some ⟨m.vs[k].b, 0, none⟩)] := by rw [hx]; rfl
      rw [hxe] at hy
      have hkb : (k : Int) < (N : Int) := by omega
      have hkb2 : k < N := by omega
      have HKE : Hid (k + 1 + t = N) := by show _ = _; omega
      clear hx hxe hij hk hlen
      generalize m.vs[k].b = vb at hy hcell
      gi_wp2
      refine hR.mono ?_
      rintro e W3 (⟨rfl, hJ3, hk3⟩ | ⟨rfl, hJx3⟩)
      · have HN3 := hid (HNXT.out W3 hJ3 hk3)
        gi_wp2
        go_roundw
        case rel => exact ⟨t + 1, pre ++ [x], HN3.out, by congr 1; have := HKE.out; omega⟩
        case measure => simp [intOf]
      · gi_wp2
        refine bodyPost_ret (results_none rfl _ _ _) rfl ?_
        exact ⟨⟨_, rfl⟩, .inr ⟨_, hJx3⟩⟩
    · obtain rfl : t = N := by omega
      have hij : ((t : Nat) : Int) - 1 - (t : Int) = -1 := by omega
      rw [hij]
      have HF : Hid (pre.map (fun x => x.1.2) = m.vs.reverse ∧ J pre wr) := ⟨by
        have h1 := HK.out.2.1
        rw [List.take_of_length_le (by rw [List.length_reverse]; have := HN.out; omega)] at h1
        exact h1, HK.out.2.2.1⟩
      clear hij hlt
      gi_wp2
      go_end0
      exact ⟨⟨_, rfl⟩, .inl ⟨pre, HF.out⟩⟩

set_option maxHeartbeats 1000000 in
theorem bw_in (F : Fence) (n : Nat) (hf : F.fn 36) (hro : F.round = none) (a : Option Addr) (len cap : Nat) (w : World) :
    CallsIn F n Tryd.prog 36 #[.slice a len cap] w fun e w' => e = .returned (.func (.func 46) #[] #[.pointer (some ⟨w.heap.size, 0, none⟩)]) ∧ w' = w.alloc (.cells #[.slice a len cap] 53) := by
  refine callsIn_of_wp Tryd.func36 rfl hf ?_ hro
  simp only [Tryd.ntmps36, List.size_toArray, List.length_cons, List.length_nil, Nat.reduceAdd, Nat.reduceSub, Array.replicate_succ, Array.replicate_zero, List.push_toArray, List.append_toArray, List.nil_append, List.cons_append]
  gi_wp2
  go_ret
  exact ⟨rfl, rfl⟩
/-- What a round keeps: all below n₀, and the iterator's own box. -/
def KB (n₀ Bs : Nat) (A B : World) : Prop := Below n₀ A B ∧ B.heap[Bs]? = A.heap[Bs]?
theorem KB.trans {n₀ Bs : Nat} {A B C : World} (h : KB n₀ Bs A B) (h2 : KB n₀ Bs B C) : KB n₀ Bs A C := ⟨h.1.trans h2.1, h2.2.trans h.2⟩
/-- The key's entries, newest first; or a part of them. -/
theorem bw_stops (F : Fence) (n : Nat) (hf : F.fn 46) (hro : F.round = none) (hn : 1 ≤ n) (Bs n₀ : Nat) {m : Nd} {w : World} (hm : NdAt w m) (hvl : m.vs.length ≤ 100000) (hBs : w.cell? ⟨Bs, 0, none⟩ = some m.rv) (h1 : Bs < w.heap.size) (h2 : ∀ k, Ows m.rv k → k < n₀) (h3 : n₀ ≤ w.heap.size) :
    SeqStopsK F n Tryd.prog 46 #[.pointer (some ⟨Bs, 0, none⟩)] (encC (m := m)) (KB n₀ Bs) (fun ys => ys.map (fun x => x.1.2) = m.vs.reverse) (fun _ => True) m.vs.length w := fun l J Jx W hW _ _ hY h0 => by
  obtain ⟨ao, cap, hrv, q1, q2, q3, q4⟩ := hm.rowv
  have hb0 : KB n₀ Bs w W := ⟨hW.mono h3, hW.block Bs h1⟩
  refine (bw1_in F n hf hro hn l Bs (KB n₀ Bs) (fun A => ⟨Below.refl _ _, rfl⟩) KB.trans m ao cap hvl J Jx hY W (fun W' hb => ?_) (fun W' hb i v hv => ?_) h0).mono ?_
  · rw [← hrv]
    exact (World.cell?_of_block (a := ⟨Bs, 0, none⟩) (hb0.trans hb).2).trans hBs
  · obtain ⟨b, e, hc⟩ := q4 i v hv
    refine ⟨b, e, ((hb0.trans hb).1.cell (p := ⟨b, i, none⟩) (h2 b (by rw [hrv, e]; rfl))).trans hc⟩
  · rintro e W' ⟨he, ⟨ys, hy, hj⟩ | ⟨pre, hj⟩⟩
    · exact ⟨he, .inl ⟨ys, hy, hj⟩⟩
    · exact ⟨he, .inr ⟨pre, trivial, hj⟩⟩
end Go.Proofs.YtaefddnmldbgiaaDoor
