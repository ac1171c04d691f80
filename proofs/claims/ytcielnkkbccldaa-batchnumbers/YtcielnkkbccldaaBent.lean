/- Entries in memory; the document's own Entries; what is the same. -/
import Derived.Test.YtcielnkkbccldaaBel
import Derived.Deep.RegionHeldLaw
namespace Go.Proofs.Ytcielnkkbccldaa
open Go.RowKit
set_option linter.unusedVariables false
set_option linter.unusedSimpArgs false

/-- An entry. -/
structure EntV where
  key : List Int
  seq : Int
  gone : Bool
  till : Int
  val : List Int
/-- An entry in five cells. -/
def EntM (w : World) (vs : List Value) (o : EntV) : Prop :=
  ∃ ka kc va vc, vs = [.slice ka o.key.length kc, .int .i64 o.seq, .bool o.gone, .int .i64 o.till, .slice va o.val.length vc] ∧ Sl w ka o.key.length kc o.key ∧ Sl w va o.val.length vc o.val ∧ In64 o.seq ∧ In64 o.till
def entE : El EntV where
  ty := 46
  size := 5
  M := EntM
  len := fun h => by obtain ⟨ka, kc, va, vc, rfl, _⟩ := h; rfl
  one := fun h v hv => by
    obtain ⟨ka, kc, va, vc, rfl, _⟩ := h
    simp only [List.mem_cons, List.not_mem_nil, or_false] at hv
    rcases hv with rfl | rfl | rfl | rfl | rfl <;> rfl
  lt := fun h v hv b hr => by
    obtain ⟨ka, kc, va, vc, rfl, h1, h2, _⟩ := h
    simp only [List.mem_cons, List.not_mem_nil, or_false] at hv
    rcases hv with rfl | rfl | rfl | rfl | rfl
    · exact h1.lt hr
    · exact (refs_int hr).elim
    · exact (refs_bool hr).elim
    · exact (refs_int hr).elim
    · exact h2.lt hr
  keep := fun h hk => by
    obtain ⟨ka, kc, va, vc, rfl, h1, h2, h3⟩ := h
    exact ⟨ka, kc, va, vc, rfl, h1.keep fun b hr => hk _ (by simp) b hr, h2.keep fun b hr => hk _ (by simp) b hr, h3⟩
theorem entE_info : (Try.prog.info? entE.ty).map (fun i => (i.zero, i.size, i.bytes)) = some (some (.agg #[.slice none 0 0, .int .i64 0, .bool false, .int .i64 0, .slice none 0 0]), entE.size, 72) := by kernel_rfl
/-- The cells of an entry of a row. -/
theorem RS.ent {w : World} {ao : Option Addr} {len cap : Nat} {os : List EntV} (h : RS entE w ao len cap os) {i : Nat} {o : EntV} (hx : os[i]? = some o) :
    ∃ b off ka kc va vc, ao = some ⟨b, off, none⟩ ∧ w.cell? ⟨b, off + i * 5, none⟩ = some (.slice ka o.key.length kc) ∧ w.cell? ⟨b, off + i * 5 + 1, none⟩ = some (.int .i64 o.seq) ∧ w.cell? ⟨b, off + i * 5 + 2, none⟩ = some (.bool o.gone) ∧ w.cell? ⟨b, off + i * 5 + 3, none⟩ = some (.int .i64 o.till) ∧ w.cell? ⟨b, off + i * 5 + 4, none⟩ = some (.slice va o.val.length vc) ∧
      Sl w ka o.key.length kc o.key ∧ Sl w va o.val.length vc o.val ∧ In64 o.seq ∧ In64 o.till := by
  obtain ⟨b, off, vs, e, ⟨ka, kc, va, vc, rfl, h1, h2, h3, h4⟩, hc⟩ := RS.at h (by decide) hx
  refine ⟨b, off, ka, kc, va, vc, e, ?_, ?_, ?_, ?_, ?_, h1, h2, h3, h4⟩
  · exact hc 0 _ rfl
  · exact hc 1 _ rfl
  · exact hc 2 _ rfl
  · exact hc 3 _ rfl
  · exact hc 4 _ rfl
/-- The entries of changes. -/
def ents : Int → List OpV → List EntV
  | _, [] => []
  | s, o :: r => ⟨o.key, s, o.gone, o.till, o.val⟩ :: ents (s + 1) r
theorem ents_len : ∀ (s : Int) (os : List OpV), (ents s os).length = os.length
  | _, [] => rfl
  | s, o :: r => by rw [ents, List.length_cons, List.length_cons, ents_len]
theorem ents_app : ∀ (s : Int) (xs ys : List OpV), ents s (xs ++ ys) = ents s xs ++ ents (s + xs.length) ys
  | s, [], ys => by simp [ents]
  | s, o :: r, ys => by
    rw [List.cons_append, ents, ents_app (s + 1) r ys, ents, List.cons_append, List.length_cons]
    congr 3
    omega
theorem ents_take {s : Int} {os : List OpV} {k : Nat} {o : OpV} (h : os[k]? = some o) : ents s (os.take (k + 1)) = ents s (os.take k) ++ [⟨o.key, s + (k : Int), o.gone, o.till, o.val⟩] := by
  obtain ⟨hk, rfl⟩ := List.getElem?_eq_some_iff.1 h
  rw [List.take_add_one, List.getElem?_eq_getElem hk, ents_app, List.length_take, show min k os.length = k by omega]
  rfl
def entV (s : Int) (os : List OpV) : List EntV := if mayB s os = 0 then ents s os else []

set_option maxHeartbeats 4000000 in
set_option maxRecDepth 100000 in
theorem rents_any {w : World} {ao : Option Addr} {len cap : Nat} {s : Int} {os : List OpV} (h : RS opE w ao len cap os) (hs : In64 s) :
    Calls Try.prog 13 #[.agg #[.int .i64 s, .slice ao len cap]] w fun e w' => ∃ v, e = .returned (.tuple #[v, .int .i64 (mayB s os : Nat)]) ∧ RowS entE w.heap.size w' v (entV s os) ∧ Below w.heap.size w w' := by
  have hl := h.len
  have hl63 : len ≤ 2 ^ 63 - 1 := by have := hl.2; unfold maxLen at this; omega
  obtain ⟨W, hW⟩ : ∃ W, W = w.alloc (.cells #[.int .i64 s, .slice ao len cap] 24) := ⟨_, rfl⟩
  have hWb : Below w.heap.size w W := by rw [hW]; exact (Below.refl _ w).alloc (Nat.le_refl _) _
  have hWs : W.heap.size = w.heap.size + 1 := by rw [hW]; simp
  have x0 : W.cell? ⟨w.heap.size, 0, none⟩ = some (.int .i64 s) := by rw [hW, cell_of (heap_alloc_new w _)]; rfl
  have x1 : W.cell? ⟨w.heap.size, 1, none⟩ = some (.slice ao len cap) := by rw [hW, cell_of (heap_alloc_new w _)]; rfl
  have hmay := rmay_any (h.later hWb) hs
  unfold entV
  by_cases q : mayB s os = 0
  · rw [if_pos q, q]
    rw [q] at hmay
    have hok := mayB_ok q
    have HS : Hid (RS opE w ao len cap os ∧ len ≤ 400 ∧ W = w.alloc (.cells #[.int .i64 s, .slice ao len cap] 24) ∧ Below w.heap.size w W ∧ W.heap.size = w.heap.size + 1 ∧ 1 ≤ s ∧ s ≤ 4611686018427387904) := ⟨h, by omega, hW, hWb, hWs, hok.2.2.1, by omega⟩
    have hln := hl.1
    have hpB : w.heap.size < W.heap.size := by omega
    have HX : Hid (∀ wx, Below W.heap.size W wx → wx.cell? ⟨w.heap.size, 0, none⟩ = some (.int .i64 s) ∧ wx.cell? ⟨w.heap.size, 1, none⟩ = some (.slice ao len cap)) := fun wx hb => ⟨cell_below hb hpB x0, cell_below hb hpB x1⟩
    rw [hW] at hmay
    clear h hl hl63 hok hs q hWb hWs hW x0 x1
    go_enter Try.func13, Try.ntmps13
    go_wp2_with (go_at_call 15; refine hmay.mono ?_; rintro e w2 ⟨rfl, hb2⟩; rw [← HS.out.2.2.1] at hb2; obtain ⟨y0, y1⟩ := HX.out _ hb2)
    have H0 : Hid (RowS entE W.heap.size w2 (.slice none 0 0) (ents s (os.take 0)) ∧ Below W.heap.size W w2) := ⟨RowS.nil _ _, hb2⟩
    clear hmay hb2
    go_loopg [5, 6, 7, 16] len (fun g v _ _ i wr => ∃ k : Nat, k + g = len ∧ i = .int .i64 (k : Int) ∧ Hid (RowS entE W.heap.size wr v (ents s (os.take k)) ∧ Below W.heap.size W wr))
    case atStart => exact ⟨0, by omega, rfl, H0⟩
    case round =>
      obtain ⟨k, hk, rfl, HK⟩ := hrel
      by_cases hkl : k < len
      · have hkl' : (k : Int) < (len : Int) := by omega
        have hko : k < os.length := by omega
        have hox := List.getElem?_eq_getElem hko
        obtain ⟨b, off, ka, kc, va, vc, rfl, e0, e1, e2, e3, l1, l2, k3⟩ := RS.op (HS.out.1.later HS.out.2.2.2.1) hox
        have hbW : b < W.heap.size := World.block_lt_of_cell? _ _ e0
        have d0 := cell_below HK.out.2 hbW e0
        have d1 := cell_below HK.out.2 hbW e1
        have d2 := cell_below HK.out.2 hbW e2
        have d3 := cell_below HK.out.2 hbW e3
        have k1 := l1.later HK.out.2
        have k2 := l2.later HK.out.2
        have hr0 := HK.out.1
        clear e0 e1 e2 e3
        obtain ⟨z0, z1⟩ := HX.out _ (HK.out.2.alloc HK.out.2.size (.cells #[.slice ka os[k].key.length kc, .bool os[k].gone, .int .i64 os[k].till, .slice va os[k].val.length vc] 42))
        have het := ents_take (s := s) hox
        generalize os[k] = o at d0 d1 d2 d3 k1 k2 k3 het z0 z1 l1 l2
        obtain ⟨key, gone, till, vl⟩ := o
        simp only at d0 d1 d2 d3 k1 k2 k3 het z0 z1 l1 l2
        have hin : In64 (s + (k : Int)) := ⟨by have := HS.out.2.2.2.2.2; omega, by have := HS.out.2.2.2.2.2; have := HS.out.2.1; omega⟩
        have hsk : IntKind.i64.wrap (s + (k : Int)) = s + (k : Int) := by rw [IntKind.wrap_i64]; have := HS.out.2.2.2.2.2; have := HS.out.2.1; omega
        have hsk' : wrap64 (s + (k : Int)) = s + (k : Int) := by unfold wrap64; have := HS.out.2.2.2.2.2; have := HS.out.2.1; omega
        have hM : EntM wr [.slice ka key.length kc, .int .i64 (s + (k : Int)), .bool gone, .int .i64 till, .slice va vl.length vc] ⟨key, s + (k : Int), gone, till, vl⟩ := ⟨ka, kc, va, vc, rfl, k1, k2, hin, k3⟩
        have hb1 : Below wr.heap.size wr (wr.alloc (.cells #[.slice ka key.length kc, .bool gone, .int .i64 till, .slice va vl.length vc] 42)) := (Below.refl _ _).alloc (Nat.le_refl _) _
        have hM1 := El.later (E := entE) hM hb1
        have hr1 := HK.out.1.later hb1
        have hone := rs_one (E := entE) hM1
        have hb2 : Below (wr.alloc (.cells #[.slice ka key.length kc, .bool gone, .int .i64 till, .slice va vl.length vc] 42)).heap.size (wr.alloc (.cells #[.slice ka key.length kc, .bool gone, .int .i64 till, .slice va vl.length vc] 42)) _ := (Below.refl _ _).alloc (Nat.le_refl _) (.cells #[.slice ka key.length kc, .int .i64 (s + (k : Int)), .bool gone, .int .i64 till, .slice va vl.length vc] 46)
        have hr2 := hr1.later hb2
        have hB12 : Below W.heap.size W _ := (HK.out.2.trans (hb1.mono HK.out.2.size)).trans (hb2.mono (Nat.le_trans HK.out.2.size hb1.size))
        have hlt : ∀ u ∈ [Value.slice ka key.length kc, .int .i64 (s + (k : Int)), .bool gone, .int .i64 till, .slice va vl.length vc], ∀ b, Refs u b → u5.ownBlock ≠ some b := fun u hu b hr e => by
          have hge := (hr0.own_lt e).1
          simp only [List.mem_cons, List.not_mem_nil, or_false] at hu
          rcases hu with rfl | rfl | rfl | rfl | rfl
          · have := l1.lt hr; omega
          · exact refs_int hr
          · exact refs_bool hr
          · exact refs_int hr
          · have := l2.lt hr; omega
        have hln400 : (ents s (os.take k)).length ≤ 400 := by rw [ents_len, List.length_take]; have := HS.out.2.1; omega
        have HA : Hid (RowS entE W.heap.size (((wr.alloc (.cells #[.slice ka key.length kc, .bool gone, .int .i64 till, .slice va vl.length vc] 42)).alloc (.cells #[.slice ka key.length kc, .int .i64 (s + (k : Int)), .bool gone, .int .i64 till, .slice va vl.length vc] 46))) u5 (ents s (os.take k)) ∧ Below W.heap.size W ((wr.alloc (.cells #[.slice ka key.length kc, .bool gone, .int .i64 till, .slice va vl.length vc] 42)).alloc (.cells #[.slice ka key.length kc, .int .i64 (s + (k : Int)), .bool gone, .int .i64 till, .slice va vl.length vc] 46)) ∧ (ents s (os.take k)).length ≤ 400) := ⟨hr2, hB12, hln400⟩
        have hsz : (wr.alloc (.cells #[.slice ka key.length kc, .bool gone, .int .i64 till, .slice va vl.length vc] 42)).heap.size = wr.heap.size + 1 := by simp
        rw [hsz] at hone
        have HO : Hid _ := hone
        have HL : Hid _ := hlt
        have HT : Hid _ := het
        have hk62 : k ≤ 2 ^ 62 := by have := HS.out.2.1; omega
        obtain ⟨GK, HG⟩ : ∃ g, Hid (g < gk ∧ k + 1 + g = len) := ⟨gk - 1, by omega, by omega⟩
        clear hk het hM hb1 hM1 hr1 hone hb2 hr2 hB12 hlt hsz hln400 HK k1 k2 k3 hox l1 l2 hr0 hin hbW hsk
        go_wp2_with (at_builtin; refine wpList_appS entE (t := 31) (z := .agg #[.slice none 0 0, .int .i64 0, .bool false, .int .i64 0, .slice none 0 0]) (bytes := 72) Try.underlying31 entE_info rfl (by decide) rfl (.tmp 21) (.tmp 35) rfl rfl HA.out.1 rfl HO.out HL.out (by have := HA.out.2.2; omega) (by have := HA.out.2.2; omega) HA.out.2.1.size ?_; intro v9 w9 r9 g9 m9)
        have HF : Hid (RowS entE W.heap.size w9 v9 (ents s (os.take (k + 1))) ∧ Below W.heap.size W w9) := ⟨by rw [HT.out]; exact r9, HA.out.2.1.trans (HA.out.1.below g9 HA.out.2.1.size)⟩
        go_roundg GK
        case measure => exact HG.out.1
        case rel => exact ⟨k + 1, HG.out.2, by go_num, HF⟩
      · have hkl' : (len : Int) ≤ (k : Int) := by omega
        obtain rfl : k = len := by omega
        have HF : Hid (RowS entE w.heap.size wr u5 (ents s os) ∧ Below w.heap.size w wr) := by
          have hsz := HS.out.2.2.2.2.1
          refine ⟨?_, HS.out.2.2.2.1.trans (HK.out.2.mono (by omega))⟩
          have := HK.out.1.base (show w.heap.size ≤ W.heap.size by omega)
          rw [← hln, List.take_length] at this
          exact this
        clear hk HK hkl
        go_wp2_with fail
        exact bodyPost_ret (v := .tuple #[u5, .int .i64 0]) (by simp [results, Try.results13, go_sem]) rfl ⟨u5, rfl, HF.out.1, HF.out.2⟩
  · rw [if_neg q]
    rw [hW] at hmay hWb
    obtain ⟨m, hm⟩ : ∃ m, m = mayB s os := ⟨_, rfl⟩
    rw [← hm] at hmay q ⊢
    have hne : ((m : Int) != 0) = true := by simp; omega
    have HB : Hid (Below w.heap.size w (w.alloc (.cells #[.int .i64 s, .slice ao len cap] 24))) := hWb
    clear h hl hs x0 x1 hWb hWs hm q hW
    go_enter Try.func13, Try.ntmps13
    go_wp2_with (go_at_call 15; refine hmay.mono ?_; rintro e w2 ⟨rfl, hb2⟩)
    exact bodyPost_ret (v := .tuple #[.slice none 0 0, .int .i64 (m : Nat)]) (by simp [results, Try.results13, go_sem]) rfl ⟨_, rfl, RowS.nil _ _, HB.out.trans (hb2.mono HB.out.size)⟩
end Go.Proofs.Ytcielnkkbccldaa
