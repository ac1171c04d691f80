/- What the laws on blocks lean on: what a program's own must keep; the simple ones. -/
import Derived.Test.YtifgojkmdicdmaaBlt2
import Derived.Test.YtifgojkmdicdmaaMput
import Derived.Test.YtifgojkmdicdmaaMawake
import Derived.BigQuiet
namespace Go.Proofs.Ytifgojkmdicdmaa
open Go.RowKit
set_option linter.unusedVariables false
set_option linter.unusedSimpArgs false

def encX (l : List EntV) : List Int := if blkE l = 0 then blkB l else []
/-- No key and no value is longer than a law may hand in. -/
def Lgt (l : List EntV) : Prop := ∀ e ∈ l, e.key.length ≤ 3000 ∧ e.val.length ≤ 3000
/-- The first that is not ahead. -/
def skE (l : List EntV) (key : List Int) (s : Int) : Option EntV := l.find? fun e => decide (0 < cmp e.key key ∨ cmp e.key key = 0 ∧ e.seq ≤ s)
/-- : what is asked of a program's blocks. -/
structure PBk : Prop where
  ordered : ∀ {w : World} {ao : Option Addr} {len cap : Nat} {l : List EntV}, RS entE w ao len cap l → len ≤ 450 → Lgt l → Calls Try.prog 12 #[.slice ao len cap] w fun e w' => e = .returned (.bool (ordB l)) ∧ Below w.heap.size w w'
  encode : ∀ {w : World} {ao : Option Addr} {len cap : Nat} {l : List EntV}, RS entE w ao len cap l → len ≤ 450 → Lgt l → Calls Try.prog 10 #[.slice ao len cap] w fun e w' => ∃ v, e = .returned (.tuple #[v, .int .i64 ((blkE l : Nat) : Int)]) ∧ SlV w' v (encX l) ∧ Below w.heap.size w w'
/-- : what is asked of a program's Decode: whether there is a block, and its entries. -/
structure PBd : Prop where
  decode : ∀ {w : World} {ao : Option Addr} {len cap : Nat} {d : List Int}, Sl w ao len cap d → len ≤ 2000000 → Calls Try.prog 14 #[.slice ao len cap] w fun e w' => ∃ (v : Value) (E : Nat), e = .returned (.tuple #[v, .int .i64 (E : Int)]) ∧ (E = 0 ↔ tkE d = 0) ∧ RSV entE w' v (tkB d) ∧ Below w.heap.size w w'
/-- : what is asked of a program's Seek. -/
structure PBs : Prop where
  seek : ∀ {w : World} {ao ka : Option Addr} {len cap kl kc : Nat} {d key : List Int} {s : Int}, Sl w ao len cap d → len ≤ 2000000 → Sl w ka kl kc key → In64 s → Calls Try.prog 18 #[.slice ao len cap, .slice ka kl kc, .int .i64 s] w fun r w' => (∃ B, GotE B (skE (tkB d) key s) r w') ∧ Below w.heap.size w w'

theorem sl_two (w : World) (c d : Nat) (hc : c < 256) (hd : d < 256) : Sl (w.alloc (.cells #[.int .u8 (c : Int), .int .u8 (d : Int)] 5 (2, 3))) (some ⟨w.heap.size, 0, none⟩) 2 2 [(c : Int), (d : Int)] := by
  refine ⟨rfl, fun x hx => by simp at hx; omega, (fun e => by cases e), Nat.le_refl _, by unfold maxLen; omega, fun k hk => ?_⟩
  have e : (w.alloc (.cells #[.int .u8 (c : Int), .int .u8 (d : Int)] 5 (2, 3))).heap[w.heap.size]? = some (.cells #[.int .u8 (c : Int), .int .u8 (d : Int)] 5 (2, 3)) := heap_alloc_new w _
  match k, hk with
  | 0, _ =>
    refine ⟨by simpa [xof] using hc, w.heap.size, 0, rfl, ?_⟩
    unfold World.cell?
    rw [e]
    simp [xof]
  | 1, _ =>
    refine ⟨by simpa [xof] using hd, w.heap.size, 0, rfl, ?_⟩
    unfold World.cell?
    rw [e]
    simp [xof]
def eK : EntV := ⟨[97, 98], 3, false, 0, [120]⟩
theorem blk_k : blkE [eK] = 0 := by decide
theorem enc_k : encX [eK] = [0, 2, 97, 98, 3, 0, 0, 1, 120, 0, 0, 0, 0, 0, 0, 0, 1] := by
  unfold encX
  rw [if_pos blk_k]
  simp [blkB, enEs, enTl, enE, shI, lb, uv_lt, eK, fx]
set_option maxHeartbeats 1000000 in
set_option maxRecDepth 100000 in
theorem awake11_any (D : PBk) (w : World) : Calls Try.prog 9 #[] w fun e w' => e = .returned (.bool true) ∧ Below w.heap.size w w' := by
  have hcv2 : ∀ (w : World) X, (convert 25 25 (.slice (some ⟨w.heap.size + 1, 0, none⟩) 1 1)).run Try.prog ((w.alloc X).alloc (.cells #[.int .u8 120] 5)) = .ok (.slice (some ⟨w.heap.size + 1, 0, none⟩) 1 1) ((w.alloc X).alloc (.cells #[.int .u8 120] 5 (1, 2))) := fun w X => by
    have := Lib.run_convert_bytes_const (P := Try.prog) (w.alloc X) 25 5 #[.int .u8 120] 1 1 Try.underlying25 Try.underlying5
    simpa using this
  have hcv := fun (w : World) a l c => Lib.run_convert_bytes_const (P := Try.prog) w 25 5 a l c Try.underlying25 Try.underlying5
  obtain ⟨W3, hW3⟩ : ∃ W, W = (w.alloc (.cells #[.int .u8 97, .int .u8 98] 5 (2, 3))).alloc (.cells #[.int .u8 120] 5 (1, 2)) := ⟨_, rfl⟩
  have b2 : Below w.heap.size w W3 := by rw [hW3]; exact ((Below.refl _ w).alloc (Nat.le_refl _) _).alloc (by simp) _
  have s1 : Sl W3 (some ⟨w.heap.size, 0, none⟩) 2 2 [97, 98] := by rw [hW3]; exact (sl_two w 97 98 (by decide) (by decide)).later ((Below.refl _ _).alloc (Nat.le_refl _) _)
  have s2 : Sl W3 (some ⟨w.heap.size + 1, 0, none⟩) 1 1 [120] := by
    have := sl_byte (w.alloc (.cells #[.int .u8 97, .int .u8 98] 5 (2, 3))) 120 (by decide)
    rw [hW3]
    simpa using this
  have hM : entE.M W3 [.slice (some ⟨w.heap.size, 0, none⟩) 2 2, .int .i64 3, .bool false, .int .i64 0, .slice (some ⟨w.heap.size + 1, 0, none⟩) 1 1] eK := ⟨_, 2, _, 1, rfl, s1, s2, ⟨by decide, by decide⟩, ⟨by decide, by decide⟩⟩
  have hone := rs_one hM
  have hp := D.encode ⟨_, hone⟩ (by decide) (fun e he => by rw [List.mem_singleton.1 he]; exact ⟨by decide, by decide⟩)
  rw [blk_k, enc_k] at hp
  have hsz : W3.heap.size = w.heap.size + 2 := by rw [hW3]; simp
  have HB : Hid (Below w.heap.size w (W3.alloc (.cells #[.slice (some ⟨w.heap.size, 0, none⟩) 2 2, .int .i64 3, .bool false, .int .i64 0, .slice (some ⟨w.heap.size + 1, 0, none⟩) 1 1] 35))) := b2.alloc b2.size _
  rw [hsz] at hp
  rw [hW3] at hp HB
  clear hM hone b2 s1 s2 hsz hW3
  go_enter Try.func9, Try.ntmps9
  go_wp2_with (go_at_call 10; refine hp.mono ?_; rintro e w1 ⟨v1, rfl, ⟨a1, c1, rfl, hs1⟩, hb1⟩; have hst := str_l hs1; rw [show strOfNums [0, 2, 97, 98, 3, 0, 0, 1, 120, 0, 0, 0, 0, 0, 0, 0, 1] = ⟨#[0, 2, 97, 98, 3, 0, 0, 1, 120, 0, 0, 0, 0, 0, 0, 0, 1]⟩ from rfl, show ([0, 2, 97, 98, 3, 0, 0, 1, 120, 0, 0, 0, 0, 0, 0, 0, 1] : List Int).length = 17 from rfl] at hst)
  exact bodyPost_ret (v := .bool true) (by simp [results, Try.results9, go_sem]) rfl ⟨rfl, HB.out.trans (hb1.mono HB.out.size)⟩

set_option maxHeartbeats 1000000 in
set_option maxRecDepth 100000 in
theorem light11_any {w : World} {ao : Option Addr} {len cap : Nat} {l : List EntV} (h : RS entE w ao len cap l) :
    Calls Try.prog 8 #[.slice ao len cap] w fun e w' => (e = .returned (.bool false) ∨ (e = .returned (.bool true) ∧ len ≤ 450 ∧ Lgt l)) ∧ Below w.heap.size w w' := by
  have hln : l.length = len := h.len.1
  have hl63 : len ≤ 2 ^ 63 - 1 := by have := h.len.2; unfold maxLen at this; omega
  have HS := hid h
  clear h
  go_enter Try.func8, Try.ntmps8
  go_wp2_with fail
  go_loopg [3, 4, 7] len (fun g _ _ i wr => ∃ k : Nat, k + g = len ∧ i = .int .i64 (k : Int) ∧ Hid (k ≤ 450 ∧ (∀ j (hj : j < l.length), j < k → l[j].key.length ≤ 3000 ∧ l[j].val.length ≤ 3000) ∧ Below w.heap.size w wr))
  case atStart => exact ⟨0, by omega, rfl, Nat.zero_le _, fun j _ h => absurd h (by omega), Below.refl _ _⟩
  case round =>
    obtain ⟨k, hk, rfl, HK⟩ := hrel
    by_cases hkl : k < len
    · have hkl' : (k : Int) < (len : Int) := by omega
      have hkx : k < l.length := by omega
      have bel := HK.out.2.2
      obtain ⟨b, off, ka, kc, va, vc, rfl, d0, d1, d2, d3, d4, sk, sv, i1, i2⟩ := RS.ent (HS.out.later bel) (List.getElem?_eq_getElem hkx)
      have HP : Hid (l[k].key.length ≤ 3000 ∧ l[k].val.length ≤ 3000 → ∀ j (hj : j < l.length), j < k + 1 → l[j].key.length ≤ 3000 ∧ l[j].val.length ≤ 3000) := fun q j hj hjk => if e : j = k then by subst e; exact q else HK.out.2.1 j hj (by omega)
      have hk1 : l[k].key.length ≤ 2 ^ 63 - 1 := by have := sk.2.2.2; unfold maxLen at this; omega
      have hv1 : l[k].val.length ≤ 2 ^ 63 - 1 := by have := sv.2.2.2; unfold maxLen at this; omega
      generalize l[k].seq = sq at d1
      generalize l[k].gone = gn at d2
      generalize l[k].till = tl at d3
      generalize l[k].key.length = kl at d0 HP hk1
      generalize l[k].val.length = vl at d4 HP hv1
      have hk62 : k ≤ 2 ^ 61 := by have := HK.out.1; omega
      obtain ⟨GK, HG⟩ : ∃ g, Hid (g < gk ∧ k + 1 + g = len) := ⟨gk - 1, by omega, by omega⟩
      have HB2 : Hid (Below w.heap.size w (wr.alloc (.cells #[.slice ka kl kc, .int .i64 sq, .bool gn, .int .i64 tl, .slice va vl vc] 35))) := bel.alloc bel.size _
      clear sk sv i1 i2 hk bel hl63
      by_cases q4 : 450 ≤ k
      · have q4' : (450 : Int) ≤ (k : Int) := by omega
        clear q4
        go_wp2_with fail
        exact bodyPost_ret (v := .bool false) (by simp [results, Try.results8, go_sem]) rfl ⟨.inl rfl, HB2.out⟩
      · have q4' : ¬ ((450 : Int) ≤ (k : Int)) := by omega
        have HK4 : Hid (k + 1 ≤ 450) := by show _ ≤ _; omega
        clear q4
        by_cases qk : 3000 < kl
        · have qk' : (3000 : Int) < (kl : Int) := by omega
          clear qk
          go_wp2_with fail
          exact bodyPost_ret (v := .bool false) (by simp [results, Try.results8, go_sem]) rfl ⟨.inl rfl, HB2.out⟩
        · have qk' : ¬ ((3000 : Int) < (kl : Int)) := by omega
          by_cases qv : 3000 < vl
          · have qv' : (3000 : Int) < (vl : Int) := by omega
            clear qk qv
            go_wp2_with fail
            exact bodyPost_ret (v := .bool false) (by simp [results, Try.results8, go_sem]) rfl ⟨.inl rfl, HB2.out⟩
          · have qv' : ¬ ((3000 : Int) < (vl : Int)) := by omega
            have HN := hid (HP.out ⟨by omega, by omega⟩)
            clear qk qv
            go_wp2_with fail
            go_roundg GK
            case measure => exact HG.out.1
            case rel => exact ⟨k + 1, HG.out.2, by go_num, HK4.out, HN.out, HB2.out⟩
    · have hkl' : ¬ ((k : Int) < (len : Int)) := by omega
      have HF : Hid (len ≤ 450 ∧ Lgt l ∧ Below w.heap.size w wr) := by
        refine ⟨by have := HK.out.1; omega, fun e he => ?_, HK.out.2.2⟩
        obtain ⟨j, hj, rfl⟩ := List.getElem_of_mem he
        exact HK.out.2.1 j hj (by omega)
      clear hk hkl HK
      go_wp2_with fail
      exact bodyPost_ret (v := .bool true) (by simp [results, Try.results8, go_sem]) rfl ⟨.inr ⟨rfl, HF.out.1, HF.out.2.1⟩, HF.out.2.2⟩
end Go.Proofs.Ytifgojkmdicdmaa
