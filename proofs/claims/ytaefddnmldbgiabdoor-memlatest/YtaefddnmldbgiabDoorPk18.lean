import Derived.Test.YtaefddnmldbgiabDoorPk15
import Derived.Test.YtaefddnmldbgiabDoorPk17
/- How the landed mem lies in memory. -/
namespace Go.Proofs.YtaefddnmldbgiabDoor
open Go.RowKit
set_option linter.unusedVariables false
set_option linter.unusedSimpArgs false

/-- A pointer to a block. -/
def ptr (b : Nat) : Value := .pointer (some ⟨b, 0, none⟩)
def ptrO : Option Nat → Value
  | none => .pointer none
  | some b => ptr b
/-- What a value of one's own lies in. -/
def Ows (v : Value) (k : Nat) : Prop := v.ownBlock = some k
theorem ownsRow_keep {w w' : World} {B : Nat} {e : TypeId} {sz : Nat} {v : Value} {n : Nat} {us : List Value} (h : w.ownsRow B e sz v n us) (hk : ∀ k, Ows v k → w'.heap[k]? = w.heap[k]?) : w'.ownsRow B e sz v n us := by
  refine ⟨h.1, ?_⟩
  rcases h.2 with q | ⟨g, cap, cur, q1, q2, q3, q4⟩
  · exact .inl q
  · exact .inr ⟨g, cap, cur, q1, q2, (hk g (by rw [q1]; rfl)).trans q3, q4⟩
theorem ownsRow_lt {w : World} {B : Nat} {e : TypeId} {sz : Nat} {v : Value} {n : Nat} {us : List Value} (h : w.ownsRow B e sz v n us) {k : Nat} (hk : Ows v k) : k < w.heap.size := by
  rcases h.2 with q | ⟨g, cap, cur, q1, q2, q3, q4⟩
  · rw [q.1] at hk; cases hk
  · rw [q1] at hk
    obtain rfl : g = k := by simpa [Ows, Value.ownBlock] using hk
    exact (Array.getElem?_eq_some_iff.1 q3).1
/-- Its block's type. -/
theorem ownsRow_ty {w : World} {B : Nat} {e : TypeId} {sz : Nat} {v : Value} {n : Nat} {us : List Value} (h : w.ownsRow B e sz v n us) {k : Nat} (hk : Ows v k) : ∃ C, w.heap[k]? = some (.cells C e (0, 0)) := by
  rcases h.2 with q | ⟨g, cap, cur, q1, q2, q3, q4⟩
  · rw [q.1] at hk; cases hk
  · rw [q1] at hk
    obtain rfl : g = k := by simpa [Ows, Value.ownBlock] using hk
    exact ⟨cur, q3⟩
theorem ty_ne {w : World} {a b : Nat} {C D : Array Value} {s t : TypeId} {f g : Nat × Nat} (h1 : w.heap[a]? = some (.cells C s f)) (h2 : w.heap[b]? = some (.cells D t g)) (h : s ≠ t) : a ≠ b := by
  rintro rfl
  rw [h1] at h2
  simp only [Option.some.injEq, Obj.cells.injEq] at h2
  exact h h2.2.1
/-- An entry of a key. -/
structure VrAt (w : World) (v : Vr) : Prop where
  blk : w.heap[v.b]? = some (.cells #[.int .i64 v.seq, .bool v.gone, .int .i64 v.till, v.vv] 56 (0, 0))
  val : Row 0 w v.vv v.val
  ok : Okb v.val
  i1 : In64 v.seq
  i2 : In64 v.till
/-- A key and its entries. -/
structure NdAt (w : World) (n : Nd) : Prop where
  blk : ∃ C, w.heap[n.b]? = some (.cells C 43 (0, 0)) ∧ C.size = 14 ∧ C[0]? = some n.kv ∧ C[1]? = some n.rv
  key : Row 0 w n.kv n.key
  ok : Okb n.key
  row : w.ownsRow 0 51 1 n.rv n.vs.length (n.vs.map fun v => ptr v.b)
  vs : ∀ v ∈ n.vs, VrAt w v
  h : 1 ≤ n.h ∧ n.h ≤ 12
/-- The blocks of a key. -/
def NF (n : Nd) (k : Nat) : Prop := k = n.b ∨ Ows n.kv k ∨ Ows n.rv k ∨ ∃ v ∈ n.vs, k = v.b ∨ Ows v.vv k
theorem VrAt.keep {w w' : World} {v : Vr} (h : VrAt w v) (hk : ∀ k, k = v.b ∨ Ows v.vv k → w'.heap[k]? = w.heap[k]?) : VrAt w' v :=
  ⟨(hk _ (.inl rfl)).trans h.blk, ownsRow_keep h.val fun k q => hk k (.inr q), h.ok, h.i1, h.i2⟩
theorem NdAt.keep {w w' : World} {n : Nd} (h : NdAt w n) (hk : ∀ k, NF n k → w'.heap[k]? = w.heap[k]?) : NdAt w' n := by
  obtain ⟨C, c1, c2⟩ := h.blk
  exact ⟨⟨C, (hk _ (.inl rfl)).trans c1, c2⟩, ownsRow_keep h.key fun k q => hk k (.inr (.inl q)), h.ok, ownsRow_keep h.row fun k q => hk k (.inr (.inr (.inl q))), fun v hv => (h.vs v hv).keep fun k q => hk k (.inr (.inr (.inr ⟨v, hv, q⟩))), h.h⟩
theorem NdAt.lt {w : World} {n : Nd} (h : NdAt w n) {k : Nat} (hk : NF n k) : k < w.heap.size := by
  rcases hk with rfl | q | q | ⟨v, hv, rfl | q⟩
  · obtain ⟨C, c1, c2⟩ := h.blk
    exact (Array.getElem?_eq_some_iff.1 c1).1
  · exact ownsRow_lt h.key q
  · exact ownsRow_lt h.row q
  · exact (Array.getElem?_eq_some_iff.1 (h.vs v hv).blk).1
  · exact ownsRow_lt (h.vs v hv).val q
/-- A level: from a block on, one behind another. -/
def Chain (w : World) (i : Nat) : Nat → List Nat → Prop
  | b, [] => w.cell? ⟨b, 2 + i, none⟩ = some (.pointer none)
  | b, c :: cs => w.cell? ⟨b, 2 + i, none⟩ = some (ptr c) ∧ Chain w i c cs
theorem Chain.keep {w w' : World} {i : Nat} : ∀ {cs : List Nat} {b : Nat}, Chain w i b cs → (∀ k, k = b ∨ k ∈ cs → w'.cell? ⟨k, 2 + i, none⟩ = w.cell? ⟨k, 2 + i, none⟩) → Chain w' i b cs
  | [], b, h, hk => by
    show _ = _
    rw [hk b (.inl rfl)]
    exact h
  | c :: cs, b, h, hk => ⟨by rw [hk b (.inl rfl)]; exact h.1, h.2.keep fun k q => hk k (.inr (by rcases q with rfl | q <;> simp [*]))⟩
/-- The last of a row, or the head. -/
def lastB (p : Nat) : List Nat → Nat
  | [] => p
  | c :: cs => lastB c cs
theorem lastB_app (p : Nat) (a : List Nat) (c : Nat) : lastB p (a ++ [c]) = c := by
  induction a generalizing p with
  | nil => rfl
  | cons x a ih => exact ih x
theorem lastB_mem : ∀ (p : Nat) (a : List Nat), lastB p a = p ∨ lastB p a ∈ a
  | p, [] => .inl rfl
  | p, c :: cs => by
    rcases lastB_mem c cs with q | q
    · exact .inr (by show lastB c cs ∈ _; rw [q]; simp)
    · exact .inr (List.mem_cons_of_mem _ q)
theorem Chain.from {w : World} {i : Nat} : ∀ {X Y : List Nat} {p : Nat}, Chain w i p (X ++ Y) → Chain w i (lastB p X) Y
  | [], Y, p, h => h
  | c :: X, Y, p, h => Chain.from (X := X) (p := c) h.2
theorem Chain.next {w : World} {i : Nat} {p : Nat} {Y : List Nat} (h : Chain w i p Y) : w.cell? ⟨p, 2 + i, none⟩ = some (ptrO Y.head?) := by
  cases Y with
  | nil => exact h
  | cons c cs => exact h.1
/-- The keys of a level. -/
def lev (ns : List Nd) (i : Nat) : List Nat := (ns.filter fun n => i < n.h).map Nd.b
theorem lev_app (a b : List Nd) (i : Nat) : lev (a ++ b) i = lev a i ++ lev b i := by simp [lev]
theorem lev_mem {ns : List Nd} {i k : Nat} (h : k ∈ lev ns i) : ∃ n ∈ ns, k = n.b ∧ i < n.h := by
  unfold lev at h
  obtain ⟨n, hn, rfl⟩ := List.mem_map.1 h
  rw [List.mem_filter] at hn
  exact ⟨n, hn.1, rfl, by simpa using hn.2⟩
/-- The mem: all but its levels. -/
structure Bas (w : World) (p : Nat) (ns : List Nd) (c wt : Int) : Prop where
  tab : Tab w
  head : ∃ C, w.heap[p]? = some (.cells C 45 (0, 0)) ∧ C.size = 16 ∧ C[14]? = some (.int .i64 c) ∧ C[15]? = some (.int .i64 wt)
  nd : ∀ n ∈ ns, NdAt w n
  ord : ordN ns
  nb : (ns.map Nd.b).Nodup
  rw : ns.Pairwise fun a b => ∀ k, Ows a.rv k → ¬ Ows b.rv k
/-- The mem. -/
structure MemAt (w : World) (p : Nat) (ns : List Nd) (c wt : Int) : Prop where
  bas : Bas w p ns c wt
  lv : ∀ i, i < 12 → Chain w i p (lev ns i)
def FP (p : Nat) (ns : List Nd) (k : Nat) : Prop := k = p ∨ ∃ n ∈ ns, NF n k
theorem Bas.lt {w : World} {p : Nat} {ns : List Nd} {c wt : Int} (h : Bas w p ns c wt) {k : Nat} (hk : FP p ns k) : k < w.heap.size := by
  rcases hk with rfl | ⟨n, hn, q⟩
  · obtain ⟨C, c1, c2⟩ := h.head
    exact (Array.getElem?_eq_some_iff.1 c1).1
  · exact (h.nd n hn).lt q
theorem Bas.keep {w w' : World} {p : Nat} {ns : List Nd} {c wt : Int} (h : Bas w p ns c wt) (hk : ∀ k, FP p ns k → w'.heap[k]? = w.heap[k]?) (ht : w'.heap[1]? = w.heap[1]?) : Bas w' p ns c wt := by
  obtain ⟨C, c1, c2⟩ := h.head
  exact ⟨h.tab.keep ht, ⟨C, (hk p (.inl rfl)).trans c1, c2⟩, fun n hn => (h.nd n hn).keep fun k q => hk k (.inr ⟨n, hn, q⟩), h.ord, h.nb, h.rw⟩
theorem fp_lev {p : Nat} {ns : List Nd} {i k : Nat} (h : k = p ∨ k ∈ lev ns i) : FP p ns k := by
  rcases h with rfl | q
  · exact .inl rfl
  · obtain ⟨n, hn, rfl, _⟩ := lev_mem q
    exact .inr ⟨n, hn, .inl rfl⟩
theorem MemAt.keep {w w' : World} {p : Nat} {ns : List Nd} {c wt : Int} (h : MemAt w p ns c wt) (hk : ∀ k, FP p ns k → w'.heap[k]? = w.heap[k]?) (ht : w'.heap[1]? = w.heap[1]?) : MemAt w' p ns c wt :=
  ⟨h.bas.keep hk ht, fun i hi => (h.lv i hi).keep fun k q => World.cell?_of_block (a := ⟨k, 2 + i, none⟩) (hk k (fp_lev q))⟩
theorem MemAt.later {w w' : World} {p : Nat} {ns : List Nd} {c wt : Int} (h : MemAt w p ns c wt) (hb : Below w.heap.size w w') : MemAt w' p ns c wt :=
  h.keep (fun k hk => hb.block k (h.bas.lt hk)) (hb.block 1 (by have := h.bas.tab.lt; omega))
theorem NdAt.cells {w : World} {n : Nd} (h : NdAt w n) : w.cell? ⟨n.b, 0, none⟩ = some n.kv ∧ w.cell? ⟨n.b, 1, none⟩ = some n.rv := by
  obtain ⟨C, c1, c2, c3, c4⟩ := h.blk
  rw [cell_of c1, cell_of c1]
  exact ⟨c3, c4⟩
theorem NdAt.sl {w : World} {n : Nd} (h : NdAt w n) : ∃ a c, n.kv = .slice a n.key.length c ∧ Sl w a n.key.length c n.key := Sl.ofRow h.key h.ok
theorem VrAt.sl {w : World} {v : Vr} (h : VrAt w v) : ∃ a c, v.vv = .slice a v.val.length c ∧ Sl w a v.val.length c v.val := Sl.ofRow h.val h.ok
theorem VrAt.cells {w : World} {v : Vr} (h : VrAt w v) : w.cell? ⟨v.b, 0, none⟩ = some (.int .i64 v.seq) ∧ w.cell? ⟨v.b, 1, none⟩ = some (.bool v.gone) ∧ w.cell? ⟨v.b, 2, none⟩ = some (.int .i64 v.till) ∧ w.cell? ⟨v.b, 3, none⟩ = some v.vv := by
  rw [cell_of h.blk, cell_of h.blk, cell_of h.blk, cell_of h.blk]
  exact ⟨rfl, rfl, rfl, rfl⟩
/-- The row of a key's entries. -/
theorem NdAt.rowv {w : World} {n : Nd} (h : NdAt w n) : ∃ ao cap, n.rv = .slice ao n.vs.length cap ∧ n.vs.length ≤ cap ∧ cap ≤ maxLen ∧ (ao = none → n.vs.length = 0) ∧ ∀ i v, n.vs[i]? = some v → ∃ b, ao = some ⟨b, 0, none⟩ ∧ w.cell? ⟨b, i, none⟩ = some (ptr v.b) := by
  have h1 := h.row
  rcases h1.2 with q | ⟨g, cap, cur, q1, q2, q3, q4, q5, q6, q7⟩
  · refine ⟨none, 0, by rw [q.2]; exact q.1, by omega, Nat.zero_le _, fun _ => q.2, fun i v hv => ?_⟩
    rw [List.eq_nil_of_length_eq_zero q.2] at hv
    simp at hv
  · refine ⟨_, _, q1, q4, q5, (fun e => by cases e), fun i v hv => ⟨g, rfl, ?_⟩⟩
    have hi := (List.getElem?_eq_some_iff.1 hv).1
    rw [cell_of q3]
    have e : (cur.toList.take (n.vs.length * 1))[i]? = some (ptr v.b) := by
      rw [q7, List.getElem?_map, hv]; rfl
    rw [List.getElem?_take, if_pos (by omega)] at e
    simpa using e
end Go.Proofs.YtaefddnmldbgiabDoor

/- What the landed mem finds among a key's entries. -/
namespace Go.Proofs.YtaefddnmldbgiabDoor
open Go.RowKit
set_option linter.unusedVariables false
set_option linter.unusedSimpArgs false

theorem vcmp_m {w : World} {v : Vr} (h : VrAt w v) {s : Int} : Calls Tryd.prog 34 #[ptr v.b, .int .i64 s] w fun e w' => e = .returned (.int .i64 (cmpI v.seq s)) ∧ w' = w := by
  have c := h.cells.1
  clear h
  have hc := @cmp64_m w v.seq s
  unfold ptr
  go_enter Tryd.func34, Tryd.ntmps34
  go_wp2_with fail
  refine hc.mono ?_
  rintro e w' ⟨rfl, rfl⟩
  go_wp2_with fail
  go_ret
  exact ⟨by simp, rfl⟩
theorem cmpI_lt (a b : Int) : (cmpI a b < 0) ↔ a < b := by
  unfold cmpI
  split
  · simp; assumption
  · split <;> simp <;> omega
theorem cmpI_eq (a b : Int) : (cmpI a b = 0) ↔ a = b := by
  unfold cmpI
  split
  · simp; omega
  · split <;> simp <;> omega
/-- What has been found out: all below lo are less, none from hi on is. -/
def Bet (vs : List Vr) (s : Int) (lo hi : Nat) : Prop := lo ≤ hi ∧ hi ≤ vs.length ∧ (∀ j (hj : j < vs.length), j < lo → vs[j].seq < s) ∧ ∀ j (hj : j < vs.length), hi ≤ j → s ≤ vs[j].seq

set_option maxHeartbeats 2000000 in
set_option maxRecDepth 100000 in
theorem bsf_m {w : World} {n : Nd} (h : NdAt w n) (hvl : n.vs.length ≤ 100000) (ho : n.vs.Pairwise fun a b => a.seq < b.seq) {s : Int} : Calls Tryd.prog 33 #[n.rv, .int .i64 s, .func (.func 34) #[] #[]] w fun e w' => e = .returned (.tuple #[.int .i64 (plc n.vs s : Nat), .bool (the n.vs s)]) ∧ w' = w := by
  obtain ⟨ao, cap, hrv, h1, h2, h3, h4⟩ := h.rowv
  have HC : Hid (∀ i v, n.vs[i]? = some v → ∃ b, ao = some ⟨b, 0, none⟩ ∧ w.cell? ⟨b, i, none⟩ = some (ptr v.b)) := h4
  have HV := hid h.vs
  have HO := hid ho
  rw [hrv]
  obtain ⟨N, hN⟩ : ∃ N, N = n.vs.length := ⟨_, rfl⟩
  rw [← hN] at h1 h3 ⊢
  have HN := hid hN
  have hN62 : N ≤ 2 ^ 47 := by omega
  have H0 : Hid (Bet n.vs s 0 N) := ⟨Nat.zero_le _, by omega, (fun j hj q => by omega), fun j hj q => by omega⟩
  clear h h2 h3 h4 ho hrv hN h1
  go_enter Tryd.func33, Tryd.ntmps33
  go_wp2_with fail
  go_loopg [9, 10, 11] N (fun g i j _ wr => wr = w ∧ ∃ lo hi : Nat, i = .int .i64 (lo : Int) ∧ j = .int .i64 (hi : Int) ∧ hi - lo = g ∧ hi ≤ N ∧ lo ≤ hi ∧ Hid (Bet n.vs s lo hi))
  case atStart => exact ⟨rfl, 0, N, rfl, rfl, by omega, by omega, by omega, H0⟩
  case round =>
    obtain ⟨rfl, lo, hi, rfl, rfl, hg, hn, hle, HB⟩ := hrel
    by_cases hlt : lo < hi
    · have hlt' : (lo : Int) < (hi : Int) := by omega
      obtain ⟨M, hM⟩ : ∃ M, M = (lo + hi) / 2 := ⟨_, rfl⟩
      have hM1 : ((lo : Int) + (hi : Int)) / 2 = (M : Int) := by omega
      have hMl : M < n.vs.length := by have := HN.out; omega
      have HM : Hid (lo ≤ M ∧ M < hi) := ⟨by omega, by omega⟩
      obtain ⟨b, rfl, hcell⟩ := HC.out M _ (List.getElem?_eq_getElem hMl)
      have hvc := vcmp_m (s := s) (HV.out _ (List.getElem_mem hMl))
      have hMN : (M : Int) < (N : Int) := by have := HN.out; omega
      have hMN' : M < N := by omega
      obtain ⟨S, hS⟩ : ∃ S, S = cmpI n.vs[M].seq s := ⟨_, rfl⟩
      have HSI : Hid (S < 0 ↔ n.vs[M].seq < s) := by rw [hS]; exact cmpI_lt _ _
      rw [← hS] at hvc
      unfold ptr at hvc hcell
      clear hS hM
      go_wp2_with fail
      refine hvc.mono ?_
      rintro e w' ⟨rfl, rfl⟩
      clear hvc
      by_cases hS : S < 0
      · have HBN : Hid (Bet n.vs s (M + 1) hi) := ⟨by have := HM.out; omega, HB.out.2.1, (fun j hj q => by
          have h1 := HSI.out.1 hS
          rcases Nat.lt_or_ge j M with a | a
          · have := List.pairwise_iff_getElem.1 HO.out j M hj hMl a; omega
          · obtain rfl : j = M := by omega
            exact h1), HB.out.2.2.2⟩
        go_wp2_with fail
        go_roundg (hi - (M + 1))
        case measure => have := HM.out; omega
        case rel => exact ⟨rfl, M + 1, hi, by go_num, rfl, rfl, hn, by have := HM.out; omega, HBN⟩
      · have hS' : 0 ≤ S := by omega
        have HBN : Hid (Bet n.vs s lo M) := ⟨HM.out.1, by omega, HB.out.2.2.1, (fun j hj q => by
          have h1 : ¬ n.vs[M].seq < s := fun e => hS (HSI.out.2 e)
          rcases Nat.eq_or_lt_of_le q with a | a
          · subst a; omega
          · have := List.pairwise_iff_getElem.1 HO.out M j hMl hj a; omega)⟩
        go_wp2_with fail
        go_roundg (M - lo)
        case measure => have := HM.out; omega
        case rel => exact ⟨rfl, lo, M, rfl, rfl, rfl, by have := HM.out; omega, HM.out.1, HBN⟩
    · obtain rfl : lo = hi := by omega
      have hP : plc n.vs s = lo := plc_eq HO.out HB.out.2.1 HB.out.2.2.1 HB.out.2.2.2
      have HP := hid hP
      by_cases hl : lo < N
      · have hl' : (lo : Int) < (N : Int) := by omega
        have hMl : lo < n.vs.length := by have := HN.out; omega
        obtain ⟨b, rfl, hcell⟩ := HC.out lo _ (List.getElem?_eq_getElem hMl)
        have hvc := vcmp_m (s := s) (HV.out _ (List.getElem_mem hMl))
        have HT : Hid (the n.vs s = (cmpI n.vs[lo].seq s == 0)) := by
          show _ = _
          unfold the
          rw [hP, List.getElem?_eq_getElem hMl]
          simp only
          rw [Bool.eq_iff_iff]
          simp [cmpI_eq]
        generalize cmpI n.vs[lo].seq s = S at HT hvc
        unfold ptr at hvc hcell
        clear hP hlt
        go_wp2_with fail
        refine hvc.mono ?_
        rintro e w' ⟨rfl, rfl⟩
        clear hvc
        go_wp2_with fail
        exact bodyPost_ret (v := .tuple #[.int .i64 (lo : Int), .bool (S == 0)]) (by simp [results, Tryd.results33, go_sem]) rfl ⟨by rw [HT.out, HP.out], rfl⟩
      · have hl' : (N : Int) ≤ (lo : Int) := by omega
        have HT : Hid (the n.vs s = false) := by
          show _ = _
          unfold the
          rw [hP, List.getElem?_eq_none (by have := HN.out; omega)]
        clear hP hlt
        go_wp2_with fail
        exact bodyPost_ret (v := .tuple #[.int .i64 (lo : Int), .bool false]) (by simp [results, Tryd.results33, go_sem]) rfl ⟨by rw [HT.out, HP.out], rfl⟩
/-- Where a number stands, and whether it is there. -/
theorem place_m {w : World} {n : Nd} (h : NdAt w n) (hvl : n.vs.length ≤ 100000) (ho : n.vs.Pairwise fun a b => a.seq < b.seq) {s : Int} : Calls Tryd.prog 28 #[ptr n.b, .int .i64 s] w fun e w' => e = .returned (.tuple #[.int .i64 (plc n.vs s : Nat), .bool (the n.vs s)]) ∧ w' = w := by
  have hb := bsf_m h hvl ho (s := s)
  have c := h.cells.2
  clear h ho hvl
  unfold ptr
  generalize the n.vs s = T at hb ⊢
  generalize plc n.vs s = P at hb ⊢
  go_enter Tryd.func28, Tryd.ntmps28
  go_wp2_with fail
  refine hb.mono ?_
  rintro e w' ⟨rfl, rfl⟩
  clear hb
  go_wp2_with fail
  exact bodyPost_ret (v := .tuple #[.int .i64 (P : Int), .bool T]) (by simp [results, Tryd.results28, go_sem]) rfl ⟨rfl, rfl⟩
/-- The newest that is not newer. -/
theorem at_m {w : World} {n : Nd} (h : NdAt w n) (hvl : n.vs.length ≤ 100000) (ho : n.vs.Pairwise fun a b => a.seq < b.seq) {s : Int} : Calls Tryd.prog 20 #[ptr n.b, .int .i64 s] w fun e w' => e = .returned (ptrO ((atO n.vs s).map Vr.b)) ∧ w' = w := by
  have hb := place_m h hvl ho (s := s)
  have c := h.cells.2
  obtain ⟨ao, cap, hrv, h1, h2, h3, h4⟩ := h.rowv
  have HC : Hid (∀ i v, n.vs[i]? = some v → ∃ b, ao = some ⟨b, 0, none⟩ ∧ w.cell? ⟨b, i, none⟩ = some (ptr v.b)) := h4
  rw [hrv] at c
  obtain ⟨N, hN⟩ : ∃ N, N = n.vs.length := ⟨_, rfl⟩
  have hpl := plc_le n.vs s
  unfold atO
  generalize hT : the n.vs s = T at hb ⊢
  have HPI := hid (fun h : the n.vs s = true => the_true h)
  generalize hP : plc n.vs s = P at hb hpl HPI ⊢
  rw [← hN] at c hpl
  have HN := hid hN
  have hN5 : N ≤ 100000 := by omega
  clear h ho hvl hrv h1 h2 h3 h4 hN
  unfold ptr at hb ⊢
  cases T with
  | true =>
    obtain ⟨v, hv, _⟩ := HPI.out hT
    have hl : P < N := by have := (List.getElem?_eq_some_iff.1 hv).1; have := HN.out; omega
    have hl' : (P : Int) < (N : Int) := by omega
    obtain ⟨b, rfl, hcell⟩ := HC.out P v hv
    rw [if_pos rfl, hv]
    simp only [Option.map_some, ptrO]
    unfold ptr at hcell ⊢
    clear hT HPI hP hv
    go_enter Tryd.func20, Tryd.ntmps20
    go_wp2_with fail
    refine hb.mono ?_
    rintro e w' ⟨rfl, rfl⟩
    clear hb
    go_wp2_with fail
    go_ret
    exact ⟨by simp, rfl⟩
  | false =>
    rw [if_neg (by decide)]
    by_cases hz : P = 0
    · subst hz
      rw [if_pos rfl]
      simp only [Option.map_none, ptrO]
      clear hT HPI hP
      go_enter Tryd.func20, Tryd.ntmps20
      go_wp2_with fail
      refine hb.mono ?_
      rintro e w' ⟨rfl, rfl⟩
      clear hb
      go_wp2_with fail
      go_ret
      exact ⟨by simp, rfl⟩
    · rw [if_neg hz]
      have hl : P - 1 < n.vs.length := by have := HN.out; omega
      obtain ⟨b, rfl, hcell⟩ := HC.out (P - 1) _ (List.getElem?_eq_getElem hl)
      rw [List.getElem?_eq_getElem hl]
      simp only [Option.map_some, ptrO]
      unfold ptr at hcell ⊢
      generalize n.vs[P - 1].b = B at hcell ⊢
      obtain ⟨Q, rfl⟩ : ∃ Q, P = Q + 1 := ⟨P - 1, by omega⟩
      have hq : Q < N := by omega
      have hq6 : (Q : Int) ≤ 100000 := by omega
      have hq' : (Q : Int) < (N : Int) := by omega
      rw [Nat.add_sub_cancel] at hcell
      clear hT HPI hP hz hpl hl
      go_enter Tryd.func20, Tryd.ntmps20
      go_wp2_with fail
      refine hb.mono ?_
      rintro e w' ⟨rfl, rfl⟩
      clear hb
      go_wp2_with fail
      go_ret
      exact ⟨by simp, rfl⟩
end Go.Proofs.YtaefddnmldbgiabDoor

/- What the landed mem's before and seek answer. -/
namespace Go.Proofs.YtaefddnmldbgiabDoor
open Go.RowKit
set_option linter.unusedVariables false
set_option linter.unusedSimpArgs false

/-- The keys ahead of one, and the others. -/
def frt (ns : List Nd) (key : List Int) : List Nd := ns.filter fun n => decide (cmp n.key key < 0)
def bck (ns : List Nd) (key : List Int) : List Nd := ns.filter fun n => ! decide (cmp n.key key < 0)
theorem frt_bck {ns : List Nd} (h : ns.Pairwise fun a b => cmp a.key b.key < 0) (key : List Int) : ns = frt ns key ++ bck ns key := by
  induction ns with
  | nil => rfl
  | cons n r ih =>
    rw [List.pairwise_cons] at h
    by_cases q : cmp n.key key < 0
    · have e1 : frt (n :: r) key = n :: frt r key := by simp [frt, q]
      have e2 : bck (n :: r) key = bck r key := by simp [bck, q]
      rw [e1, e2, List.cons_append, ← ih h.2]
    · have hr : ∀ m ∈ r, ¬ cmp m.key key < 0 := fun m hm e => q (cmp_trans (h.1 m hm) e)
      have e1 : frt (n :: r) key = [] := by
        unfold frt
        rw [List.filter_eq_nil_iff]
        intro m hm
        rcases List.mem_cons.1 hm with rfl | hm
        · simpa using q
        · simpa using hr m hm
      have e2 : bck (n :: r) key = n :: r := by
        unfold bck
        rw [List.filter_eq_self]
        intro m hm
        rcases List.mem_cons.1 hm with rfl | hm
        · simpa using q
        · simpa using hr m hm
      rw [e1, e2]
      rfl
theorem frt_lt {ns : List Nd} {key : List Int} : ∀ n ∈ frt ns key, n ∈ ns ∧ cmp n.key key < 0 := fun n hn => by
  unfold frt at hn
  rw [List.mem_filter] at hn
  exact ⟨hn.1, by simpa using hn.2⟩
theorem bck_ge {ns : List Nd} {key : List Int} : ∀ n ∈ bck ns key, n ∈ ns ∧ ¬ cmp n.key key < 0 := fun n hn => by
  unfold bck at hn
  rw [List.mem_filter] at hn
  exact ⟨hn.1, by simpa using hn.2⟩
/-- The last of a level ahead of a key. -/
def pre (p : Nat) (ns : List Nd) (key : List Int) (i : Nat) : Nat := lastB p (lev (frt ns key) i)
/-- Where a level is gone on from, one level down. -/
theorem last_filter {α : Type} (f : α → Nat) (q : α → Bool) (p : Nat) : ∀ (n : Nat) (X : List α), X.length = n → ∃ j, j ≤ X.length ∧ lastB p ((X.filter q).map f) = lastB p ((X.take j).map f)
  | 0, X, h0 => by
    have e := List.eq_nil_of_length_eq_zero h0
    subst e
    exact ⟨0, Nat.le_refl _, rfl⟩
  | n + 1, X, h0 => by
    rcases List.eq_nil_or_concat X with rfl | ⟨X', c, rfl⟩
    · simp at h0
    · rw [List.concat_eq_append] at h0 ⊢
      by_cases h : q c = true
      · refine ⟨(X' ++ [c]).length, Nat.le_refl _, ?_⟩
        rw [List.take_length, List.filter_append, List.map_append, List.map_append]
        simp only [List.filter_cons, h, if_true, List.filter_nil, List.map_cons, List.map_nil]
        rw [lastB_app, lastB_app]
      · obtain ⟨j, hj, e⟩ := last_filter f q p n X' (by simp at h0; omega)
        refine ⟨j, by simp; omega, ?_⟩
        rw [List.filter_append]
        simp only [List.filter_cons, h, Bool.false_eq_true, if_false, List.filter_nil, List.append_nil]
        rw [e, List.take_append_of_le_length hj]
theorem pre_down (p : Nat) (A : List Nd) (i : Nat) : ∃ j, j ≤ (lev A i).length ∧ lastB p (lev A (i + 1)) = lastB p ((lev A i).take j) := by
  obtain ⟨j, hj, e⟩ := last_filter Nd.b (fun n => decide (i + 1 < n.h)) p _ (A.filter fun n => decide (i < n.h)) rfl
  have e1 : (A.filter fun n => decide (i < n.h)).filter (fun n => decide (i + 1 < n.h)) = A.filter fun n => decide (i + 1 < n.h) := by
    rw [List.filter_filter]
    congr 1
    funext n
    rw [Bool.eq_iff_iff]
    simp
    omega
  rw [e1, List.map_take] at e
  exact ⟨j, by unfold lev; simpa using hj, e⟩
/-- One step along a level. -/
theorem bef_next {w : World} {p : Nat} {ns : List Nd} {c wt : Int} (h : MemAt w p ns c wt) {key : List Int} {i : Nat} (hi : i < 12) {j : Nat} (hj : j ≤ (lev (frt ns key) i).length) :
    (∃ m ∈ ns, j < (lev (frt ns key) i).length ∧ w.cell? ⟨lastB p ((lev (frt ns key) i).take j), 2 + i, none⟩ = some (ptr m.b) ∧ lastB p ((lev (frt ns key) i).take (j + 1)) = m.b ∧ cmp m.key key < 0) ∨
    (j = (lev (frt ns key) i).length ∧ (w.cell? ⟨lastB p ((lev (frt ns key) i).take j), 2 + i, none⟩ = some (.pointer none) ∨ ∃ m ∈ ns, w.cell? ⟨lastB p ((lev (frt ns key) i).take j), 2 + i, none⟩ = some (ptr m.b) ∧ ¬ cmp m.key key < 0)) := by
  have hc := h.lv i hi
  rw [frt_bck h.bas.ord.1 key, lev_app] at hc
  have e : lev (frt ns key) i = (lev (frt ns key) i).take j ++ (lev (frt ns key) i).drop j := (List.take_append_drop _ _).symm
  have hc2 : Chain w i p ((lev (frt ns key) i).take j ++ ((lev (frt ns key) i).drop j ++ lev (bck ns key) i)) := by
    rw [← List.append_assoc, List.take_append_drop]
    exact hc
  have hn := hc2.from.next
  rcases Nat.lt_or_ge j (lev (frt ns key) i).length with q | q
  · left
    obtain ⟨m, hm, hb, hh⟩ := lev_mem (List.getElem_mem q)
    have hf := frt_lt m hm
    refine ⟨m, hf.1, q, ?_, ?_, hf.2⟩
    · rw [hn, List.drop_eq_getElem_cons q, hb]
      rfl
    · rw [List.take_add_one, List.getElem?_eq_getElem q]
      simp only [Option.toList]
      rw [lastB_app, hb]
  · right
    have hj2 : j = (lev (frt ns key) i).length := by omega
    refine ⟨hj2, ?_⟩
    rw [List.drop_of_length_le (by omega), List.nil_append] at hn
    cases hY : lev (bck ns key) i with
    | nil => rw [hY] at hn; exact .inl hn
    | cons y ys =>
      rw [hY] at hn
      obtain ⟨m, hm, hb, _⟩ := lev_mem (show y ∈ lev (bck ns key) i by rw [hY]; simp)
      have hf := bck_ge m hm
      exact .inr ⟨m, hf.1, by rw [hn]; simp [ptrO, hb], hf.2⟩
/-- What before has laid down. -/
structure BfS (w : World) (p : Nat) (ns : List Nd) (key : List Int) (L : Nat) (wx : World) : Prop where
  bel : Below w.heap.size w wx
  res : wx.heap[w.heap.size]? = some (.cells #[.pointer none, .pointer none, .pointer none, .pointer none, .pointer none, .pointer none, .pointer none, .pointer none, .pointer none, .pointer none, .pointer none, .pointer none] 41 (0, 0))
  pth : ∃ C, wx.heap[w.heap.size + 1]? = some (.cells C 41 (0, 0)) ∧ C.size = 12 ∧ ∀ i, L ≤ i → i < 12 → C[i]? = some (ptr (pre p ns key i))
theorem BfS.cell {w : World} {p : Nat} {ns : List Nd} {key : List Int} {L i : Nat} {wx : World} (h : BfS w p ns key L wx) (hi : i < 12) : (∃ v, wx.cell? ⟨w.heap.size + 1, i, none⟩ = some v) ∧ wx.frozen? ⟨w.heap.size + 1, i, none⟩ = false := by
  obtain ⟨C, h1, h2, h3⟩ := h.pth
  exact ⟨⟨C[i], by rw [cell_of h1]; exact Array.getElem?_eq_getElem (by omega)⟩, frozen_ofW h1 _⟩
theorem BfS.put {w : World} {p : Nat} {ns : List Nd} {key : List Int} {L : Nat} {wx : World} (h : BfS w p ns key (L + 1) wx) (hL : L < 12) : BfS w p ns key L (wx.setCell ⟨w.heap.size + 1, L, none⟩ (ptr (pre p ns key L))) := by
  obtain ⟨C, h1, h2, h3⟩ := h.pth
  refine ⟨below_set h.bel _ _ _ (by omega), (heap_ne wx _ _ (by omega)).trans h.res, _, heap_set h1 L _, by simpa using h2, fun i hi hi2 => ?_⟩
  rw [Array.getElem?_setIfInBounds]
  by_cases q : L = i
  · subst q
    rw [if_pos rfl, if_pos (by omega)]
  · rw [if_neg q]
    exact h3 i (by omega) hi2
theorem BfS.all {w : World} {p : Nat} {ns : List Nd} {key : List Int} {wx : World} (h : BfS w p ns key 0 wx) : wx.cell? ⟨w.heap.size + 1, 0, none⟩ = some (.pointer (some ⟨pre p ns key 0, 0, none⟩)) ∧ wx.cell? ⟨w.heap.size + 1, 1, none⟩ = some (.pointer (some ⟨pre p ns key 1, 0, none⟩)) ∧ wx.cell? ⟨w.heap.size + 1, 2, none⟩ = some (.pointer (some ⟨pre p ns key 2, 0, none⟩)) ∧ wx.cell? ⟨w.heap.size + 1, 3, none⟩ = some (.pointer (some ⟨pre p ns key 3, 0, none⟩)) ∧ wx.cell? ⟨w.heap.size + 1, 4, none⟩ = some (.pointer (some ⟨pre p ns key 4, 0, none⟩)) ∧ wx.cell? ⟨w.heap.size + 1, 5, none⟩ = some (.pointer (some ⟨pre p ns key 5, 0, none⟩)) ∧ wx.cell? ⟨w.heap.size + 1, 6, none⟩ = some (.pointer (some ⟨pre p ns key 6, 0, none⟩)) ∧ wx.cell? ⟨w.heap.size + 1, 7, none⟩ = some (.pointer (some ⟨pre p ns key 7, 0, none⟩)) ∧ wx.cell? ⟨w.heap.size + 1, 8, none⟩ = some (.pointer (some ⟨pre p ns key 8, 0, none⟩)) ∧ wx.cell? ⟨w.heap.size + 1, 9, none⟩ = some (.pointer (some ⟨pre p ns key 9, 0, none⟩)) ∧ wx.cell? ⟨w.heap.size + 1, 10, none⟩ = some (.pointer (some ⟨pre p ns key 10, 0, none⟩)) ∧ wx.cell? ⟨w.heap.size + 1, 11, none⟩ = some (.pointer (some ⟨pre p ns key 11, 0, none⟩)) := by
  obtain ⟨C, h1, h2, h3⟩ := h.pth
  refine ⟨?_, ?_, ?_, ?_, ?_, ?_, ?_, ?_, ?_, ?_, ?_, ?_⟩ <;> rw [cell_of h1] <;> exact h3 _ (by omega) (by omega)
theorem BfS.zero {w : World} {p : Nat} {ns : List Nd} {key : List Int} {L : Nat} {wx : World} (h : BfS w p ns key L wx) : wx.cell? ⟨w.heap.size, 0, none⟩ = some (.pointer none) ∧ wx.cell? ⟨w.heap.size, 1, none⟩ = some (.pointer none) ∧ wx.cell? ⟨w.heap.size, 2, none⟩ = some (.pointer none) ∧ wx.cell? ⟨w.heap.size, 3, none⟩ = some (.pointer none) ∧ wx.cell? ⟨w.heap.size, 4, none⟩ = some (.pointer none) ∧ wx.cell? ⟨w.heap.size, 5, none⟩ = some (.pointer none) ∧ wx.cell? ⟨w.heap.size, 6, none⟩ = some (.pointer none) ∧ wx.cell? ⟨w.heap.size, 7, none⟩ = some (.pointer none) ∧ wx.cell? ⟨w.heap.size, 8, none⟩ = some (.pointer none) ∧ wx.cell? ⟨w.heap.size, 9, none⟩ = some (.pointer none) ∧ wx.cell? ⟨w.heap.size, 10, none⟩ = some (.pointer none) ∧ wx.cell? ⟨w.heap.size, 11, none⟩ = some (.pointer none) := by
  refine ⟨?_, ?_, ?_, ?_, ?_, ?_, ?_, ?_, ?_, ?_, ?_, ?_⟩ <;> rw [cell_of h.res] <;> rfl
theorem BfS.frz {w : World} {p : Nat} {ns : List Nd} {key : List Int} {L : Nat} {wx : World} (h : BfS w p ns key L wx) (i : Nat) : wx.frozen? ⟨w.heap.size, i, none⟩ = false := frozen_ofW h.res i
def pathA (p : Nat) (ns : List Nd) (key : List Int) : Array Value := #[ptr (pre p ns key 0), ptr (pre p ns key 1), ptr (pre p ns key 2), ptr (pre p ns key 3), ptr (pre p ns key 4), ptr (pre p ns key 5), ptr (pre p ns key 6), ptr (pre p ns key 7), ptr (pre p ns key 8), ptr (pre p ns key 9), ptr (pre p ns key 10), ptr (pre p ns key 11)]
theorem arr12_size : (Tryd.prog.info? 41).map (·.size) = some 12 := by kernel_rfl
theorem path_one (p : Nat) (ns : List Nd) (key : List Int) : (pathA p ns key).all (·.oneCell') = true := by simp [pathA, ptr, Value.oneCell']
theorem below_row {B : Nat} {w0 w : World} (h : Below B w0 w) (q : Nat) (C : Array Value) (hq : B ≤ q) : Below B w0 (w.setRow q C) :=
  ⟨h.os, h.tape, h.output, by have : (w.setRow q C).heap.size = w.heap.size := by simp [World.setRow]
                              rw [this]; exact h.size, fun i hi => (setRow_other w q i C (by omega)).trans (h.block i hi)⟩
def lvv : Value → Nat
  | .int _ n => n.toNat
  | _ => 0

set_option maxHeartbeats 4000000 in
set_option maxRecDepth 100000 in
theorem before_m {w : World} {p : Nat} {ns : List Nd} {c wt : Int} (h : MemAt w p ns c wt) {ka : Option Addr} {kl kc : Nat} {key : List Int} (hk : Sl w ka kl kc key) : Calls Tryd.prog 14 #[pm p, .slice ka kl kc] w fun e w' => e = .returned (.agg (pathA p ns key)) ∧ Below w.heap.size w w' := by
  obtain ⟨W, hW⟩ : ∃ W, W = (w.alloc (.cells #[.pointer none, .pointer none, .pointer none, .pointer none, .pointer none, .pointer none, .pointer none, .pointer none, .pointer none, .pointer none, .pointer none, .pointer none] 41)).alloc (.cells #[.pointer none, .pointer none, .pointer none, .pointer none, .pointer none, .pointer none, .pointer none, .pointer none, .pointer none, .pointer none, .pointer none, .pointer none] 41) := ⟨_, rfl⟩
  have HSZ : Hid (W.heap.size = w.heap.size + 2) := by show _ = _; rw [hW]; simp
  have H0 : Hid (BfS w p ns key 12 W) := by
    have b1 : Below w.heap.size w (w.alloc (.cells #[.pointer none, .pointer none, .pointer none, .pointer none, .pointer none, .pointer none, .pointer none, .pointer none, .pointer none, .pointer none, .pointer none, .pointer none] 41)) := (Below.refl _ w).alloc (Nat.le_refl _) _
    have e1 := heap_alloc_new (w.alloc (.cells #[.pointer none, .pointer none, .pointer none, .pointer none, .pointer none, .pointer none, .pointer none, .pointer none, .pointer none, .pointer none, .pointer none, .pointer none] 41)) (.cells #[.pointer none, .pointer none, .pointer none, .pointer none, .pointer none, .pointer none, .pointer none, .pointer none, .pointer none, .pointer none, .pointer none, .pointer none] 41)
    rw [World.size_alloc] at e1
    refine ⟨by rw [hW]; exact b1.alloc b1.size _, by rw [hW]; exact (Below.heap_alloc _ _ _ (by simp)).trans (heap_alloc_new w _), _, by rw [hW]; exact e1, rfl, fun i hi hi2 => by omega⟩
  have HM : Hid (∀ wx, Below w.heap.size w wx → MemAt wx p ns c wt ∧ Sl wx ka kl kc key) := fun wx hb => ⟨h.later hb, hk.later hb⟩
  have HP : Hid (∃ j, j ≤ (lev (frt ns key) 11).length ∧ p = lastB p ((lev (frt ns key) 11).take j)) := ⟨0, Nat.zero_le _, rfl⟩
  have HW := hid hW
  unfold pm
  clear h hk hW
  go_enter Tryd.func14, Tryd.ntmps14
  go_wp2_with fail
  refine wp_scope_jumps 0 (fun a' w' => ∃ (L N : Nat), Hid (L < 12 ∧ BfS w p ns key (L + 1) w' ∧ ∃ j, j ≤ (lev (frt ns key) L).length ∧ N = lastB p ((lev (frt ns key) L).take j)) ∧ ∃ (u2 u3 u8 u9 u10 u11 u12 u13 u14 u15 u16 u17 u18 u19 u20 u21 u22 u23 u24 u25 u26 u27 u28 u29 u30 u31 u32 u33 u34 u35 u36 u37 u38 u39 u40 u41 u42 u43 u44 u45 : Value), a' = { tmps := #[.pointer (some ⟨p, 0, none⟩), .slice ka kl kc, u2, u3, .pointer (some ⟨w.heap.size, 0, none⟩), .pointer (some ⟨w.heap.size + 1, 0, none⟩), .int .i64 (L : Int), .pointer (some ⟨N, 0, none⟩), u8, u9, u10, u11, u12, u13, u14, u15, u16, u17, u18, u19, u20, u21, u22, u23, u24, u25, u26, u27, u28, u29, u30, u31, u32, u33, u34, u35, u36, u37, u38, u39, u40, u41, u42, u43, u44, u45], defers := [] }) (fun a _ => lvv (a.eval (.tmp 6))) rfl ?_ ?_
  · go_wp2_with fail
    rw [← HW.out]
    have HB : Hid (BfS w p ns key (11 + 1) W) := H0
    obtain ⟨j0, hj0, hp0⟩ := HP.out
    have H1 : Hid (p = lastB p ((lev (frt ns key) 11).take j0)) := hp0
    have hm62 : (lev (frt ns key) 11).length - j0 + j0 = (lev (frt ns key) 11).length := by omega
    clear hp0 HW HP H0
    go_step3
    have HC : Hid (MemAt W p ns c wt ∧ Sl W ka kl kc key) := HM.out _ HB.out.bel
    go_wp2_with fail
    go_loopg [7] ((lev (frt ns key) 11).length - j0) (fun g nv wx => wx = W ∧ ∃ j N : Nat, j + g = (lev (frt ns key) 11).length ∧ nv = .pointer (some ⟨N, 0, none⟩) ∧ Hid (N = lastB p ((lev (frt ns key) 11).take j)))
    case atStart => exact ⟨rfl, j0, _, by omega, rfl, H1⟩
    case round =>
      obtain ⟨rfl, j, N, hj, rfl, HN⟩ := hrel
      rcases bef_next HC.out.1 (key := key) (i := 11) (by omega) (j := j) (by omega) with ⟨m, hm, hlt, hcell, hnext, hcmp⟩ | ⟨hje, hcell | ⟨m, hm, hcell, hcmp⟩⟩
      · obtain ⟨a, cc, hv, hs⟩ := (HC.out.1.bas.nd m hm).sl
        have hkc := (HC.out.1.bas.nd m hm).cells.1
        rw [hv] at hkc
        have hcp := compare_l hs HC.out.2
        rw [← HN.out] at hcell
        unfold ptr at hcell
        simp only [Nat.reduceAdd] at hcell
        have HNX : Hid (m.b = lastB p ((lev (frt ns key) 11).take (j + 1))) := hnext.symm
        generalize cmp m.key key = S at hcp hcmp
        generalize m.b = mb at hcell hkc HNX
        generalize m.key.length = ml at hcp hkc
        clear hs hv hm hnext
        go_wp2_with fail
        refine hcp.mono ?_
        rintro e w' ⟨rfl, hw⟩
        obtain rfl := hw.symm
        clear hcp
        go_wp2_with fail
        go_roundg (gk - 1)
        case measure => omega
        case rel => exact ⟨rfl, j + 1, mb, by omega, rfl, HNX⟩
      · rw [← HN.out] at hcell
        simp only [Nat.reduceAdd] at hcell
        have hpre : N = pre p ns key 11 := by
          rw [HN.out, hje, List.take_length]
          rfl
        obtain ⟨⟨x, hx⟩, hf⟩ := HB.out.cell (i := 11) (by omega)
        have HB2 : Hid (BfS w p ns key 11 (wr.setCell ⟨w.heap.size + 1, 11, none⟩ (.pointer (some ⟨N, 0, none⟩)))) := by
          have := HB.out.put (L := 11) (by omega)
          rw [← hpre] at this
          exact this
        have HPR := hid hpre
        clear hpre HN HB hje hj H1 hm62
        go_wp2_with fail
        go_step3
        obtain ⟨j', hj', e'⟩ := pre_down p (frt ns key) 10
        exact ⟨rfl, 10, N, ⟨by omega, HB2.out, j', hj', HPR.out.trans e'⟩, _, _, _, _, _, _, _, _, _, _, _, _, _, _, _, _, _, _, _, _, _, _, _, _, _, _, _, _, _, _, _, _, _, _, _, _, _, _, _, _, rfl⟩
      · obtain ⟨a, cc, hv, hs⟩ := (HC.out.1.bas.nd m hm).sl
        have hkc := (HC.out.1.bas.nd m hm).cells.1
        rw [hv] at hkc
        have hcp := compare_l hs HC.out.2
        rw [← HN.out] at hcell
        unfold ptr at hcell
        simp only [Nat.reduceAdd] at hcell
        have hcmp' : 0 ≤ cmp m.key key := by omega
        generalize cmp m.key key = S at hcp hcmp hcmp'
        generalize m.b = mb at hcell hkc
        generalize m.key.length = ml at hcp hkc
        clear hs hv hm hcmp
        have hpre : N = pre p ns key 11 := by
          rw [HN.out, hje, List.take_length]
          rfl
        obtain ⟨⟨x, hx⟩, hf⟩ := HB.out.cell (i := 11) (by omega)
        have HB2 : Hid (BfS w p ns key 11 (wr.setCell ⟨w.heap.size + 1, 11, none⟩ (.pointer (some ⟨N, 0, none⟩)))) := by
          have := HB.out.put (L := 11) (by omega)
          rw [← hpre] at this
          exact this
        have HPR := hid hpre
        clear hpre HN HB hje hj H1 hm62
        go_wp2_with (first | (go_at_call 24; refine hcp.mono ?_; rintro e w' ⟨rfl, hw⟩; obtain rfl := hw.symm; clear hcp))
        go_step3
        obtain ⟨j', hj', e'⟩ := pre_down p (frt ns key) 10
        exact ⟨rfl, 10, N, ⟨by omega, HB2.out, j', hj', HPR.out.trans e'⟩, _, _, _, _, _, _, _, _, _, _, _, _, _, _, _, _, _, _, _, _, _, _, _, _, _, _, _, _, _, _, _, _, _, _, _, _, _, _, _, _, rfl⟩
  · rintro a' W ⟨L, N0, HI, u2, u3, u8, u9, u10, u11, u12, u13, u14, u15, u16, u17, u18, u19, u20, u21, u22, u23, u24, u25, u26, u27, u28, u29, u30, u31, u32, u33, u34, u35, u36, u37, u38, u39, u40, u41, u42, u43, u44, u45, rfl⟩
    have HB : Hid (BfS w p ns key (L + 1) W) := HI.out.2.1
    have hL12 : L < 12 := HI.out.1
    have hL12' : (L : Int) < 12 := by omega
    obtain ⟨j0, hj0, hp0⟩ := HI.out.2.2
    have H1 : Hid (N0 = lastB p ((lev (frt ns key) L).take j0)) := hp0
    clear hp0 HI HW HP H0
    have HC : Hid (MemAt W p ns c wt ∧ Sl W ka kl kc key) := HM.out _ HB.out.bel
    go_wp2_with fail
    go_loopg [7] ((lev (frt ns key) L).length - j0) (fun g nv wx => wx = W ∧ ∃ j N : Nat, j + g = (lev (frt ns key) L).length ∧ nv = .pointer (some ⟨N, 0, none⟩) ∧ Hid (N = lastB p ((lev (frt ns key) L).take j)))
    case atStart => exact ⟨rfl, j0, _, by omega, rfl, H1⟩
    case round =>
      obtain ⟨rfl, j, N, hj, rfl, HN⟩ := hrel
      rcases bef_next HC.out.1 (key := key) (i := L) (by omega) (j := j) (by omega) with ⟨m, hm, hlt, hcell, hnext, hcmp⟩ | ⟨hje, hcell | ⟨m, hm, hcell, hcmp⟩⟩
      · obtain ⟨a, cc, hv, hs⟩ := (HC.out.1.bas.nd m hm).sl
        have hkc := (HC.out.1.bas.nd m hm).cells.1
        rw [hv] at hkc
        have hcp := compare_l hs HC.out.2
        rw [← HN.out] at hcell
        unfold ptr at hcell
        have HNX : Hid (m.b = lastB p ((lev (frt ns key) L).take (j + 1))) := hnext.symm
        generalize cmp m.key key = S at hcp hcmp
        generalize m.b = mb at hcell hkc HNX
        generalize m.key.length = ml at hcp hkc
        clear hs hv hm hnext
        go_wp2_with fail
        refine hcp.mono ?_
        rintro e w' ⟨rfl, hw⟩
        obtain rfl := hw.symm
        clear hcp
        go_wp2_with fail
        go_roundg (gk - 1)
        case measure => omega
        case rel => exact ⟨rfl, j + 1, mb, by omega, rfl, HNX⟩
      · rw [← HN.out] at hcell
        have hpre : N = pre p ns key L := by
          rw [HN.out, hje, List.take_length]
          rfl
        obtain ⟨⟨x, hx⟩, hf⟩ := HB.out.cell (i := L) (by omega)
        have HB2 : Hid (BfS w p ns key L (wr.setCell ⟨w.heap.size + 1, L, none⟩ (.pointer (some ⟨N, 0, none⟩)))) := by
          have := HB.out.put (L := L) (by omega)
          rw [← hpre] at this
          exact this
        have HPR := hid hpre
        clear hpre HN HB hje hj H1
        by_cases hz : L = 0
        · subst hz
          have hg := HB2.out.res
          obtain ⟨C, g1, g2, g3⟩ := HB2.out.pth
          have hCA : C = pathA p ns key := by
            apply Array.ext
            · rw [g2]; rfl
            · intro i h1 h2
              have h12 : i < 12 := by omega
              have e1 := g3 i (by omega) h12
              rw [Array.getElem?_eq_getElem h1] at e1
              have e2 : (pathA p ns key)[i]? = some (ptr (pre p ns key i)) := by
                unfold pathA
                match i, h12 with
                | 0, _ => rfl
                | 1, _ => rfl
                | 2, _ => rfl
                | 3, _ => rfl
                | 4, _ => rfl
                | 5, _ => rfl
                | 6, _ => rfl
                | 7, _ => rfl
                | 8, _ => rfl
                | 9, _ => rfl
                | 10, _ => rfl
                | 11, _ => rfl
              rw [Array.getElem?_eq_getElem h2] at e2
              rw [Option.some.inj e1, Option.some.inj e2]
          subst hCA
          have HG := hid (And.intro hg g1)
          clear g3 g2 hg g1
          go_wp2_with (first | (refine wpList_load_row rfl 41 (.tmp 5) rfl (w.heap.size + 1) rfl 41 (pathA p ns key) (0, 0) (.array 12 40) HG.out.2 Tryd.underlying41 rfl arr12_size ?_) | (refine wpList_store_row rfl 41 (.tmp 4) (.tmp 45) rfl w.heap.size (pathA p ns key) rfl rfl 41 #[.pointer none, .pointer none, .pointer none, .pointer none, .pointer none, .pointer none, .pointer none, .pointer none, .pointer none, .pointer none, .pointer none, .pointer none] HG.out.1 arr12_size rfl (path_one p ns key) ?_))
          exact ⟨by simp, _, results_cell_row Tryd.results14 _ _ w.heap.size 41 (pathA p ns key) (0, 0) (.array 12 40) rfl (setRow_heap _ _ _ _ _ _ HG.out.1) Tryd.underlying41 rfl arr12_size, rfl, below_row HB2.out.bel _ _ (Nat.le_refl _)⟩
        · obtain ⟨M, rfl⟩ : ∃ M, L = M + 1 := ⟨L - 1, by omega⟩
          clear hz
          go_wp2_with fail
          go_step3
          obtain ⟨j', hj', e'⟩ := pre_down p (frt ns key) M
          refine ⟨rfl, ⟨M, N, ⟨by omega, HB2.out, j', hj', HPR.out.trans e'⟩, _, _, _, _, _, _, _, _, _, _, _, _, _, _, _, _, _, _, _, _, _, _, _, _, _, _, _, _, _, _, _, _, _, _, _, _, _, _, _, _, rfl⟩, ?_⟩
          simp [lvv, Act.eval]
      · obtain ⟨a, cc, hv, hs⟩ := (HC.out.1.bas.nd m hm).sl
        have hkc := (HC.out.1.bas.nd m hm).cells.1
        rw [hv] at hkc
        have hcp := compare_l hs HC.out.2
        rw [← HN.out] at hcell
        unfold ptr at hcell
        have hcmp' : 0 ≤ cmp m.key key := by omega
        generalize cmp m.key key = S at hcp hcmp hcmp'
        generalize m.b = mb at hcell hkc
        generalize m.key.length = ml at hcp hkc
        clear hs hv hm hcmp
        have hpre : N = pre p ns key L := by
          rw [HN.out, hje, List.take_length]
          rfl
        obtain ⟨⟨x, hx⟩, hf⟩ := HB.out.cell (i := L) (by omega)
        have HB2 : Hid (BfS w p ns key L (wr.setCell ⟨w.heap.size + 1, L, none⟩ (.pointer (some ⟨N, 0, none⟩)))) := by
          have := HB.out.put (L := L) (by omega)
          rw [← hpre] at this
          exact this
        have HPR := hid hpre
        clear hpre HN HB hje hj H1
        by_cases hz : L = 0
        · subst hz
          have hg := HB2.out.res
          obtain ⟨C, g1, g2, g3⟩ := HB2.out.pth
          have hCA : C = pathA p ns key := by
            apply Array.ext
            · rw [g2]; rfl
            · intro i h1 h2
              have h12 : i < 12 := by omega
              have e1 := g3 i (by omega) h12
              rw [Array.getElem?_eq_getElem h1] at e1
              have e2 : (pathA p ns key)[i]? = some (ptr (pre p ns key i)) := by
                unfold pathA
                match i, h12 with
                | 0, _ => rfl
                | 1, _ => rfl
                | 2, _ => rfl
                | 3, _ => rfl
                | 4, _ => rfl
                | 5, _ => rfl
                | 6, _ => rfl
                | 7, _ => rfl
                | 8, _ => rfl
                | 9, _ => rfl
                | 10, _ => rfl
                | 11, _ => rfl
              rw [Array.getElem?_eq_getElem h2] at e2
              rw [Option.some.inj e1, Option.some.inj e2]
          subst hCA
          have HG := hid (And.intro hg g1)
          clear g3 g2 hg g1
          go_wp2_with (first | (go_at_call 24; refine hcp.mono ?_; rintro e w' ⟨rfl, hw⟩; obtain rfl := hw.symm; clear hcp) | (refine wpList_load_row rfl 41 (.tmp 5) rfl (w.heap.size + 1) rfl 41 (pathA p ns key) (0, 0) (.array 12 40) HG.out.2 Tryd.underlying41 rfl arr12_size ?_) | (refine wpList_store_row rfl 41 (.tmp 4) (.tmp 45) rfl w.heap.size (pathA p ns key) rfl rfl 41 #[.pointer none, .pointer none, .pointer none, .pointer none, .pointer none, .pointer none, .pointer none, .pointer none, .pointer none, .pointer none, .pointer none, .pointer none] HG.out.1 arr12_size rfl (path_one p ns key) ?_))
          exact ⟨by simp, _, results_cell_row Tryd.results14 _ _ w.heap.size 41 (pathA p ns key) (0, 0) (.array 12 40) rfl (setRow_heap _ _ _ _ _ _ HG.out.1) Tryd.underlying41 rfl arr12_size, rfl, below_row HB2.out.bel _ _ (Nat.le_refl _)⟩
        · obtain ⟨M, rfl⟩ : ∃ M, L = M + 1 := ⟨L - 1, by omega⟩
          clear hz
          go_wp2_with (first | (go_at_call 24; refine hcp.mono ?_; rintro e w' ⟨rfl, hw⟩; obtain rfl := hw.symm; clear hcp))
          go_step3
          obtain ⟨j', hj', e'⟩ := pre_down p (frt ns key) M
          refine ⟨rfl, ⟨M, N, ⟨by omega, HB2.out, j', hj', HPR.out.trans e'⟩, _, _, _, _, _, _, _, _, _, _, _, _, _, _, _, _, _, _, _, _, _, _, _, _, _, _, _, _, _, _, _, _, _, _, _, _, _, _, _, _, rfl⟩, ?_⟩
          simp [lvv, Act.eval]
theorem lev_zero {ns : List Nd} (h : ∀ n ∈ ns, 1 ≤ n.h) : lev ns 0 = ns.map Nd.b := by
  unfold lev
  rw [List.filter_eq_self.2 (fun n hn => by have := h n hn; simp; omega)]
theorem pre_next {w : World} {p : Nat} {ns : List Nd} {c wt : Int} (h : MemAt w p ns c wt) (key : List Int) : w.cell? ⟨pre p ns key 0, 2, none⟩ = some (ptrO ((bck ns key).head?.map Nd.b)) := by
  have hc := h.lv 0 (by omega)
  rw [frt_bck h.bas.ord.1 key, lev_app] at hc
  have hn := hc.from.next
  rw [lev_zero (fun n hn => (h.bas.nd n (bck_ge n hn).1).h.1), List.head?_map] at hn
  exact hn
theorem seek_nil {w : World} {ka : Option Addr} {kl kc : Nat} : Calls Tryd.prog 19 #[.pointer none, .slice ka kl kc] w fun e w' => e = .returned (.pointer none) ∧ w' = w := by
  go_enter Tryd.func19, Tryd.ntmps19
  go_wp2_with fail
  go_ret
  exact ⟨by simp, rfl⟩
theorem run_ix0 (w : World) (c0 c1 c2 c3 c4 c5 c6 c7 c8 c9 c10 c11 : Option Addr) : (Instr.index 41 (.agg #[.pointer c0, .pointer c1, .pointer c2, .pointer c3, .pointer c4, .pointer c5, .pointer c6, .pointer c7, .pointer c8, .pointer c9, .pointer c10, .pointer c11]) (.int .i64 0)).run Tryd.prog w = .ok (.pointer c0) w := by
  simp [Instr.index, run_underlying Tryd.underlying41, asIntOf, go_sem]
theorem seek_m {w : World} {p : Nat} {ns : List Nd} {c wt : Int} (h : MemAt w p ns c wt) {ka : Option Addr} {kl kc : Nat} {key : List Int} (hk : Sl w ka kl kc key) : Calls Tryd.prog 19 #[pm p, .slice ka kl kc] w fun e w' => e = .returned (ptrO ((bck ns key).head?.map Nd.b)) ∧ Below w.heap.size w w' := by
  have hb := before_m h hk
  have HN : Hid (∀ wx, Below w.heap.size w wx → wx.cell? ⟨pre p ns key 0, 2, none⟩ = some (ptrO ((bck ns key).head?.map Nd.b))) := fun wx hb => pre_next (h.later hb) key
  clear h hk
  obtain ⟨V, hV⟩ : ∃ V, V = ptrO ((bck ns key).head?.map Nd.b) := ⟨_, rfl⟩
  have hV2 : ∃ o, V = .pointer o := by
    rw [hV]
    cases (bck ns key).head?.map Nd.b with
    | none => exact ⟨_, rfl⟩
    | some b => exact ⟨_, rfl⟩
  rw [← hV] at HN ⊢
  unfold pathA at hb
  unfold pm ptr at *
  generalize pre p ns key 0 = b0 at hb HN
  obtain ⟨o, rfl⟩ := hV2
  clear hV
  go_enter Tryd.func19, Tryd.ntmps19
  go_wp2_with fail
  refine hb.mono ?_
  rintro e w' ⟨rfl, b1⟩
  have hc := HN.out _ b1
  have HB := hid b1
  clear hb HN b1
  have hix := run_ix0
  go_wp2_with fail
  go_ret
  exact ⟨by simp, HB.out⟩
end Go.Proofs.YtaefddnmldbgiabDoor
