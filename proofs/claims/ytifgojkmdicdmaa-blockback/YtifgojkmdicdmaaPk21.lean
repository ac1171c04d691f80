import Derived.Deep.RegionHeldLaw
import Derived.Deep.RegionLaw
import Derived.BigQuiet
import Derived.Test.YtifgojkmdicdmaaPk04
import Derived.Test.YtifgojkmdicdmaaPk10
import Derived.Test.YtifgojkmdicdmaaPk13
import Derived.Test.YtifgojkmdicdmaaPk16
import Derived.Test.YtifgojkmdicdmaaPk19
import Derived.Test.YtifgojkmdicdmaaPk20
/- Slices of bytes as lists: read, cut, summed, taken. -/
namespace Go.Proofs.Ytifgojkmdicdmaa
open Go.RowKit
set_option linter.unusedVariables false
set_option linter.unusedSimpArgs false

theorem nl_bl (xs : List Int) : bl (xof xs) xs.length = nl xs := by
  apply List.ext_getElem
  · simp [bl, nl]
  · intro i h1 h2
    have hi : i < xs.length := by simpa [nl] using h2
    simp [bl, nl, xof, List.getElem?_eq_getElem hi]
theorem rtake_l {w : World} {ao : Option Addr} {len cap : Nat} {xs : List Int} (h : Sl w ao len cap xs) : Calls Try.prog 51 #[.slice ao len cap] w fun e w' => e = .returned (takeV (xof xs) len (enL xs)) ∧ w' = w := by
  have he := end_enL xs h.2.1
  rw [h.1] at he
  exact rtake_any ao len cap _ _ w h.2.2.2.2.2 h.2.2.2.1 h.2.2.2.2.1 he
theorem take_l {w : World} {ao : Option Addr} {len cap : Nat} {xs : List Int} (h : Sl w ao len cap xs) : Calls Try.prog 64 #[.slice ao len cap] w fun e w' => e = .returned (takeV (xof xs) len (enL xs)) ∧ w' = w := by
  have he := end_enL xs h.2.1
  rw [h.1] at he
  exact take_any ao len cap _ _ w h.2.2.2.2.2 h.2.2.2.1 h.2.2.2.2.1 he
theorem in4 : InSize 4 := by unfold InSize; decide
theorem rread4_l {w : World} {ao : Option Addr} {len cap : Nat} {xs : List Int} (h : Sl w ao len cap xs) (h4 : 4 ≤ len) : Calls Try.prog 35 #[.slice ao len cap, .int .i64 4] w fun e w' => e = .returned (.tuple #[.int .u64 (fv (xof xs) 4 : Nat), .int .i64 0]) ∧ w' = w := by
  have := rread_any ao len cap _ 4 w h.2.2.2.2.2 h.2.2.2.1
  unfold readV at this
  rw [if_pos in4, if_neg (by omega)] at this
  exact this
theorem read4_l {w : World} {ao : Option Addr} {len cap : Nat} {xs : List Int} (h : Sl w ao len cap xs) (h4 : 4 ≤ len) : Calls Try.prog 50 #[.slice ao len cap, .int .i64 4] w fun e w' => e = .returned (.tuple #[.int .u64 (fv (xof xs) 4 : Nat), .int .i64 0]) ∧ w' = w := by
  have := read_any ao len cap _ 4 w h.2.2.2.2.2 h.2.2.2.1
  unfold readV at this
  rw [if_pos in4, if_neg (by omega)] at this
  exact this
theorem fv4_lt {xs : List Int} (h : Okb xs) (h4 : 4 ≤ xs.length) : fv (xof xs) 4 < 4294967296 := by
  have := fv_lt (xof xs) 4 (fun j hj => by
    have := h xs[j] (List.getElem_mem (by omega))
    simp [xof, List.getElem?_eq_getElem (show j < xs.length by omega)]
    omega)
  omega
theorem nl_lt {xs : List Int} (h : Okb xs) : ∀ x ∈ nl xs, x < 256 := fun x hx => by
  obtain ⟨y, hy, rfl⟩ := List.mem_map.1 hx
  have := h y hy
  omega
theorem more0_lt {xs : List Int} (h : Okb xs) : more 0 (nl xs) < 4294967296 := more_lt (by decide) (nl_lt h)
end Go.Proofs.Ytifgojkmdicdmaa

/- The document's own TakeBlock: the walk. -/
namespace Go.Proofs.Ytifgojkmdicdmaa
open Go.RowKit
set_option linter.unusedVariables false
set_option linter.unusedSimpArgs false

theorem okb_blkB {l : List EntV} (h : ∀ e ∈ l, OkE e) : Okb (blkB l) := (okb_enEs h).app (okb_enTl.app (okb_fx _ _))
theorem RS.okE {w : World} {ao : Option Addr} {len cap : Nat} {l : List EntV} (h : RS entE w ao len cap l) : ∀ e ∈ l, OkE e := fun e he => by
  obtain ⟨i, hi, rfl⟩ := List.getElem_of_mem he
  obtain ⟨b, off, ka, kc, va, vc, _, _, _, _, _, _, sk, sv, _, _⟩ := RS.ent h (List.getElem?_eq_getElem hi)
  exact ⟨sk.2.1, sv.2.1⟩
theorem RS.toV {α : Type} {E : El α} {w : World} {ao : Option Addr} {len cap : Nat} {l : List α} (h : RS E w ao len cap l) : RSV E w (.slice ao len cap) l := by
  obtain ⟨us, h1, h2⟩ := h
  subst h1
  exact ⟨ao, cap, rfl, us, rfl, h2⟩
theorem rblk_any {w : World} {ao : Option Addr} {len cap : Nat} {l : List EntV} (h : RS entE w ao len cap l) (hl : len ≤ 2 ^ 61) :
    Calls Try.prog 11 #[.slice ao len cap] w fun e w' => ∃ v, e = .returned (.tuple #[v, .int .i64 ((blkE l : Nat) : Int)]) ∧ Row w.heap.size w' v (if blkE l = 0 then blkB l else []) ∧ Below w.heap.size w w' := by
  have hln := h.len.1
  by_cases q : len = 0 ∨ 400 < len
  · have hE : blkE l = 13 := by unfold blkE; rw [if_pos (by omega)]
    rw [hE]
    exact (rblk_many (ao := ao) (cap := cap) (w := w) q hl).mono fun e w' ⟨he, hb⟩ => ⟨_, he, by rw [if_neg (by decide)]; exact Row.nil _ _, hb⟩
  · by_cases q2 : l.all mayE = false ∨ ordB l = false
    · have hE : blkE l ≠ 0 ∧ ((blkE l : Nat) : Int) = if l.all mayE = false then 1 else 11 := by
        unfold blkE
        rw [if_neg (by omega)]
        by_cases q3 : l.all mayE = false
        · rw [if_pos q3, if_pos q3]; decide
        · rw [if_neg q3, if_neg q3, if_pos (q2.resolve_left q3)]; decide
      exact (rblk_bad h (by omega) (by omega) q2 hE.2).mono fun e w' ⟨he, hb⟩ => ⟨_, he, by rw [if_neg hE.1]; exact Row.nil _ _, hb⟩
    · have hm : l.all mayE = true ∧ ordB l = true := by
        simp only [not_or, Bool.not_eq_false] at q2
        exact q2
      have hE : blkE l = 0 := by
        unfold blkE
        rw [if_neg (by omega), if_neg (by rw [hm.1]; decide), if_neg (by rw [hm.2]; decide)]
      exact (rblk_good h (by omega) (by omega) hm).mono fun e w' ⟨v, he, hr, hb⟩ => ⟨v, by rw [hE]; exact he, by rw [if_pos hE]; exact hr, hb⟩

set_option maxHeartbeats 4000000 in
set_option maxRecDepth 100000 in
theorem rtakeK_any {w : World} {ao : Option Addr} {len cap : Nat} {d : List Int} (h : Sl w ao len cap d) (hl : len ≤ 1000000000) :
    Calls Try.prog 15 #[.slice ao len cap] w fun e w' => ∃ v, e = .returned (.tuple #[v, .int .i64 ((tkE d : Nat) : Int)]) ∧ RSV entE w' v (tkB d) ∧ Below w.heap.size w w' := by
  have hln := h.1
  by_cases q4 : len < 4
  · have hE : tkE d = 5 := by unfold tkE; rw [if_pos (by omega)]
    have hT : tkB d = [] := by unfold tkB; rw [if_neg (by omega)]
    rw [hE, hT]
    have q4' : (len : Int) < 4 := by omega
    clear h hE hT hln hl q4
    go_enter Try.func15, Try.ntmps15
    go_wp2_with fail
    exact bodyPost_ret (v := .tuple #[.slice none 0 0, .int .i64 5]) (by simp [results, Try.results15, go_sem]) rfl ⟨_, rfl, RSV.nil _, Below.refl _ _⟩
  obtain ⟨L, hL⟩ : ∃ L, len = L + 4 := ⟨len - 4, by omega⟩
  have q4' : ¬ ((len : Int) < 4) := by omega
  have hL1 : (len : Int) - 4 = (L : Int) := by omega
  have hL62 : L ≤ 2 ^ 60 := by omega
  have hcf := run_fromK .i64 ao len cap L (by omega) h.2.2.2.1
  have hsf := h.from L (by omega)
  have hrd := rread4_l hsf (by omega)
  have hNn : fv (xof (d.drop L)) 4 = lastN d := by unfold lastN; rw [hln, show len - 4 = L by omega]
  have hN32 := fv4_lt hsf.2.1 (by rw [List.length_drop]; omega)
  rw [hNn] at hrd hN32
  obtain ⟨N, hN⟩ : ∃ N, N = lastN d := ⟨_, rfl⟩
  rw [← hN] at hrd hN32
  have hN62 : N ≤ 2 ^ 60 := by omega
  have hl62 : len ≤ 2 ^ 60 := by omega
  have hL4 : (L : Int) / 4 = ((L / 4 : Nat) : Int) := by omega
  by_cases qN : N = 0 ∨ L / 4 < N
  · have hE : tkE d = 3 := by unfold tkE; rw [if_neg (by omega), if_pos (by rw [← hN, hln, show len - 4 = L by omega]; exact qN)]
    have hT : tkB d = [] := by unfold tkB; rw [if_neg (by omega)]
    rw [hE, hT]
    by_cases q0 : N = 0
    · have q0' : ((N : Int) == 0) = true := by simp; omega
      clear h hE hT hln hl q4 hL hsf hNn hN32 hN qN q0
      go_enter Try.func15, Try.ntmps15
      go_wp2_with (go_at_call 35; refine hrd.mono ?_; rintro e w' ⟨rfl, hw⟩; obtain rfl := hw.symm)
      exact bodyPost_ret (v := .tuple #[.slice none 0 0, .int .i64 3]) (by simp [results, Try.results15, go_sem]) rfl ⟨_, rfl, RSV.nil _, Below.refl _ _⟩
    · have q0' : ((N : Int) == 0) = false := by simp; omega
      have q1 : ((L / 4 : Nat) : Int) < (N : Int) := by omega
      generalize L / 4 = D at hL4 q1 qN
      clear h hE hT hln hl q4 hL hsf hNn hN32 hN qN q0
      go_enter Try.func15, Try.ntmps15
      go_wp2_with (go_at_call 35; refine hrd.mono ?_; rintro e w' ⟨rfl, hw⟩; obtain rfl := hw.symm)
      exact bodyPost_ret (v := .tuple #[.slice none 0 0, .int .i64 3]) (by simp [results, Try.results15, go_sem]) rfl ⟨_, rfl, RSV.nil _, Below.refl _ _⟩
  have q0' : ((N : Int) == 0) = false := by simp; omega
  have q1 : ¬ (((L / 4 : Nat) : Int) < (N : Int)) := by omega
  obtain ⟨K, hK⟩ : ∃ K, L = K + 4 * N := ⟨L - 4 * N, by omega⟩
  have hK1 : (L : Int) - 4 * (N : Int) = (K : Int) := by omega
  have hcu := run_uptoK .i64 ao len cap K (by have := h.2.2.2.1; omega)
  have hbody : d.take K = bodyN d := by unfold bodyN; rw [hln, ← hN, show len - 4 - 4 * N = K by omega]
  have hsu := h.upto0 K (by omega)
  rw [hbody] at hsu
  have hlast : tkE d = if (deBk d).2.2 ≠ 0 then (deBk d).2.2 else if blkE (deBk d).1 ≠ 0 ∨ blkB (deBk d).1 ≠ d then 3 else 0 := by
    conv => lhs; unfold tkE
    rw [if_neg (by omega), if_neg (by rw [← hN, hln, show len - 4 = L by omega]; exact qN)]
  have HTK : Hid (tkE d = if (deBk d).2.2 ≠ 0 then (deBk d).2.2 else if blkE (deBk d).1 ≠ 0 ∨ blkB (deBk d).1 ≠ d then 3 else 0) := hlast
  obtain ⟨W, hW⟩ : ∃ W, W = w.alloc (.cells #[.slice (cutA ao cap 0) K cap, .int .i64 0] 62) := ⟨_, rfl⟩
  have hWb : Below w.heap.size w W := by rw [hW]; exact (Below.refl _ w).alloc (Nat.le_refl _) _
  have hrdA : RdAt W w.heap.size (bodyN d, 0) := ⟨cutA ao cap 0, K, cap, by rw [hW]; exact heap_alloc_new w _, hsu.later hWb, fun b hr => h.lt (refs_cut (i := 0) (j := K) h (by omega) (by simpa using hr)), by omega⟩
  have hbl : (bodyN d).length = K := by rw [← hbody, List.length_take]; omega
  have HT0 : Hid (TG w w.heap.size (fun b => w.heap.size + 1 ≤ b) W (.slice none 0 0) [] (bodyN d, 0) ∧ deBk d = ([] ++ (deEs len [] (bodyN d, 0)).1, (deEs len [] (bodyN d, 0)).2) ∧ (bodyN d).length ≤ len) := ⟨⟨hrdA, RowF.nil _ _ _, fun b x => x, hWb, Nat.le_refl _⟩, by unfold deBk; rw [hln]; simp, by omega⟩
  have HW := hid hW
  have HD : Hid (Sl w ao len cap d ∧ len ≤ 1000000000) := ⟨h, hl⟩
  have hK62 : K ≤ 2 ^ 60 := by omega
  generalize L / 4 = D at hL4 q1 qN
  have hdn : decide (D < N) = false := decide_eq_false (by omega)
  generalize cutA ao cap 0 = ac at hcu HW
  clear h hl hln q4 hL hsf hNn hN32 hN qN hK hbody hsu hlast hW hWb hrdA hbl
  go_enter Try.func15, Try.ntmps15
  go_upto_block 0 with (go_at_call 35; refine hrd.mono ?_; rintro e w' ⟨rfl, hw⟩; obtain rfl := hw.symm)
  rw [← HW.out]
  clear hrd hcf hcu q1 q4' q0' hL4 hK1 HW hdn
  go_cut [7, 8, 9, 10, 11] from 48 to 149 (fun v _ _ _ _ wx => ∃ (acc : List EntV) (st : Rd), Hid (TG w w.heap.size (fun b => w.heap.size + 1 ≤ b) wx v acc st ∧ deBk d = (acc, st) ∧ acc.length ≤ len))
  case rest =>
    obtain ⟨acc, st, HC⟩ := hcut
    obtain ⟨a9, c9, hv9, rs9⟩ := HC.out.1.rs
    subst hv9
    obtain ⟨xa, xc, y0, y1, f0, f1, -, -, -, -⟩ := HC.out.1.cells
    have HTE := HTK.out
    rw [HC.out.2.1] at HTE
    simp only at HTE
    have HB9 : Hid (Below w.heap.size w wc ∧ acc.length ≤ len) := ⟨HC.out.1.bel, HC.out.2.2⟩
    have HDB : Hid (deBk d = (acc, st)) := HC.out.2.1
    clear HC HTK HT0
    by_cases q5 : st.2 = 0
    · rw [if_neg (by simpa using q5)] at HTE
      have hne : ((st.2 : Int) != 0) = false := by simp; omega
      have hbk := rblk_any rs9 (by have := HB9.out.2; have := HD.out.2; omega)
      have HOK := hid (okb_blkB rs9.okE)
      have HRS := hid rs9
      have HTB : Hid (tkE d = 0 → tkB d = acc) := fun e => by unfold tkB; rw [if_pos e, HDB.out]
      have HTN : Hid (tkE d ≠ 0 → tkB d = []) := fun e => by unfold tkB; rw [if_neg e]
      generalize acc.length = n9 at hbk HRS HB9
      obtain ⟨E, hE⟩ : ∃ E, E = blkE acc := ⟨_, rfl⟩
      rw [← hE] at hbk HTE
      clear rs9 q5 hE
      by_cases qE : E = 0
      · subst qE
        rw [if_pos rfl] at hbk
        simp only [ne_eq, not_true_eq_false, false_or] at HTE
        obtain ⟨X, hX⟩ : ∃ X, X = blkB acc := ⟨_, rfl⟩
        rw [← hX] at hbk HTE HOK
        have HTE' := hid HTE
        have heqs := str_eq HOK.out HD.out.1.2.1
        have HST : Hid (∀ wx, Below w.heap.size w wx → (convert 25 9 (.slice ao len cap)).run Try.prog wx = .ok (.string (strOfNums d)) wx) := fun wx hb => str_l (HD.out.1.later hb)
        clear hX HTE
        go_upto_region 27 with (go_at_call 11; refine hbk.mono ?_; rintro e w10 ⟨v10, rfl, r10, b10⟩; obtain ⟨a10, c10, hv10, hs10⟩ := Sl.ofRow r10 HOK.out; subst hv10)
        have hst1 := str_l hs10
        have hst2 := HST.out w10 (HB9.out.1.trans (b10.mono HB9.out.1.size))
        have HB10 : Hid (Below w.heap.size w w10 ∧ RS entE w10 a9 n9 c9 acc) := ⟨HB9.out.1.trans (b10.mono HB9.out.1.size), HRS.out.later b10⟩
        generalize X.length = xl at hst1
        clear hbk r10 b10 hs10 HST
        by_cases qX : X = d
        · have hq : ((strOfNums X).toList == (strOfNums d).toList) = true := by rw [heqs]; simpa using qX
          have hTE : tkE d = 0 := by rw [HTE'.out, if_neg (by simpa using qX)]
          have HF : Hid (tkE d = 0 ∧ tkB d = acc) := ⟨hTE, HTB.out hTE⟩
          generalize strOfNums X = sX at hst1 hq
          generalize strOfNums d = sd at hst2 hq
          have hq2 := eq_of_beq hq
          clear qX hTE heqs HTE'
          go_wp2_with fail
          exact bodyPost_ret (v := .tuple #[.slice a9 n9 c9, .int .i64 0]) (by simp [results, Try.results15, go_sem]) rfl ⟨_, by rw [HF.out.1]; rfl, by rw [HF.out.2]; exact HB10.out.2.toV, HB10.out.1⟩
        · have hq : ((strOfNums X).toList == (strOfNums d).toList) = false := by rw [heqs]; simpa using qX
          have hTE : tkE d = 3 := by rw [HTE'.out, if_pos (by simpa using qX)]
          have HF : Hid (tkE d = 3 ∧ tkB d = []) := ⟨hTE, HTN.out (by omega)⟩
          generalize strOfNums X = sX at hst1 hq
          generalize strOfNums d = sd at hst2 hq
          have hq2 := ne_of_beq_false hq
          clear qX hTE heqs HTE'
          go_wp2_with fail
          exact bodyPost_ret (v := .tuple #[.slice none 0 0, .int .i64 3]) (by simp [results, Try.results15, go_sem]) rfl ⟨_, by rw [HF.out.1]; rfl, by rw [HF.out.2]; exact RSV.nil _, HB10.out.1⟩
      · have hnE : ((E : Int) != 0) = true := by simp; omega
        rw [if_neg qE] at hbk
        have hTE : tkE d = 3 := by rw [HTE, if_pos (.inl qE)]
        have HF : Hid (tkE d = 3 ∧ tkB d = []) := ⟨hTE, HTN.out (by omega)⟩
        clear HTE hTE qE
        go_wp2_with (go_at_call 11; refine hbk.mono ?_; rintro e w10 ⟨v10, rfl, r10, b10⟩)
        exact bodyPost_ret (v := .tuple #[.slice none 0 0, .int .i64 3]) (by simp [results, Try.results15, go_sem]) rfl ⟨_, by rw [HF.out.1]; rfl, by rw [HF.out.2]; exact RSV.nil _, HB9.out.1.trans (b10.mono HB9.out.1.size)⟩
    · rw [if_pos q5] at HTE
      have hne : ((st.2 : Int) != 0) = true := by simp; omega
      have HF : Hid (tkE d = st.2 ∧ tkB d = []) := ⟨HTE, by unfold tkB; rw [if_neg (by omega)]⟩
      clear HTE q5 rs9
      go_wp2_with fail
      go_quiet (fail)
      go_wp2_with fail
      exact bodyPost_ret (v := .tuple #[.slice none 0 0, .int .i64 (st.2 : Nat)]) (by simp [results, Try.results15, go_sem]) rfl ⟨_, by rw [HF.out.1], by rw [HF.out.2]; exact RSV.nil _, below_drewN HB9.out.1 _⟩
  case first =>
    clear HTK
    go_wp2_with fail
    go_loopg [7, 8, 9, 10, 11] len (fun g v kv _ _ _ wr => ∃ (acc : List EntV) (st : Rd) (key : List Int) (ka : Option Addr) (kc : Nat), kv = .slice ka key.length kc ∧ Hid (TG w w.heap.size (fun b => w.heap.size + 1 ≤ b) wr v acc st ∧ Sg (fun b => w.heap.size + 1 ≤ b) wr ka kc key ∧ deBk d = (acc ++ (deEs g key st).1, (deEs g key st).2) ∧ st.1.length ≤ g ∧ acc.length + g = len ∧ key.length ≤ 512))
    case atStart => exact ⟨[], (bodyN d, 0), [], none, 0, rfl, HT0.out.1, Sg.nil _ _, HT0.out.2.1, HT0.out.2.2, by simp, by simp⟩
    case round =>
      obtain ⟨acc, st, key, ka, kc, rfl, HR⟩ := hrel
      obtain ⟨xa, xc, y0, y1, f0, f1, sx, -, hx6, -⟩ := HR.out.1.cells
      have hn62 : st.1.length ≤ 2 ^ 60 := by omega
      have hk62 : key.length ≤ 2 ^ 60 := by have := HR.out.2.2.2.2.2; omega
      by_cases qc : st.1.length = 0 ∨ st.2 ≠ 0
      · have HX : Hid (TG w w.heap.size (fun b => w.heap.size + 1 ≤ b) wr u7 acc st ∧ deBk d = (acc, st) ∧ acc.length ≤ len) := by
          refine ⟨HR.out.1, ?_, by have := HR.out.2.2.2.2.1; omega⟩
          cases gk with
          | zero => have := HR.out.2.2.1; simpa [deEs] using this
          | succ g => exact (deEs_step HR.out.2.2.1).1 qc
        by_cases q0 : st.1.length = 0
        · have q0' : ¬ ((0 : Int) < (st.1.length : Int)) := by omega
          have q0d : decide ((0 : Int) < (st.1.length : Int)) = false := by simpa using q0'
          generalize st.1.length = n at y0 q0' q0d
          clear qc q0 sx hx6 hn62
          go_wp2_with fail
          go_meet
          exact ⟨acc, st, HX⟩
        · have q0' : (0 : Int) < (st.1.length : Int) := by omega
          have q2 : ((st.2 : Int) == 0) = false := by simp; have := qc.resolve_left q0; omega
          generalize st.1.length = n at y0 q0' hn62
          clear qc q0 sx hx6
          go_wp2_with fail
          go_meet
          exact ⟨acc, st, HX⟩
      · have hq0 : ¬ st.1.length = 0 := fun e => qc (.inl e)
        have hs2 : st.2 = 0 := Classical.byContradiction fun e => qc (.inr e)
        have q0' : (0 : Int) < (st.1.length : Int) := by omega
        have q2 : ((st.2 : Int) == 0) = true := by simp; omega
        obtain ⟨g, rfl⟩ : ∃ g, gk = g + 1 := ⟨gk - 1, by have := HR.out.2.2.2.1; omega⟩
        have HST := hid (deEs_step HR.out.2.2.1)
        have HQC := hid qc
        have HLS : Hid (st.2 = 0 ∧ st.1.length ≤ g + 1 ∧ acc.length + (g + 1) = len ∧ key.length ≤ 512) := ⟨hs2, HR.out.2.2.2.1, HR.out.2.2.2.2.1, HR.out.2.2.2.2.2⟩
        have hN1 := HR.out.1.number key.length (by have := HR.out.2.2.2.2.2; omega)
        have HSK := hid HR.out.2.1
        obtain ⟨S, hS⟩ : ∃ S, S = (rdN key.length st).1 := ⟨_, rfl⟩
        obtain ⟨st1, hst1⟩ : ∃ s, s = (rdN key.length st).2 := ⟨_, rfl⟩
        have hSk : S ≤ key.length := by rw [hS]; exact rdN_le
        rw [← hS, ← hst1] at hN1
        obtain ⟨M, hM⟩ : ∃ M, M = (rdN 9223372036854775808 st1).1 := ⟨_, rfl⟩
        obtain ⟨st2, hst2⟩ : ∃ s, s = (rdN 9223372036854775808 st1).2 := ⟨_, rfl⟩
        have hM63 : M ≤ 9223372036854775808 := by rw [hM]; exact rdN_le
        have HKN : Hid (kNum key st = (S, M, if st2.2 ≠ 0 then st2 else if 512 < M ∨ 512 < S + M then (st2.1, 2) else if st2.1.length < M then (st2.1, 5) else st2)) := by
          show _ = _
          unfold kNum
          rw [← hst1, ← hS, ← hM, ← hst2]
        have HM2 : Hid (∀ {wx : World}, TG w w.heap.size (fun b => w.heap.size + 1 ≤ b) wx u7 acc st1 → Calls Try.prog 36 #[.pointer (some ⟨w.heap.size, 0, none⟩), .int .u64 9223372036854775808] wx fun e w' => e = .returned (.int .u64 (M : Int)) ∧ TG w w.heap.size (fun b => w.heap.size + 1 ≤ b) w' u7 acc st2 ∧ wx.grownBy w' (some w.heap.size)) := fun {wx} T => by
          have := T.number 9223372036854775808 (by decide)
          rw [← hM, ← hst2] at this
          exact this
        generalize hn : st.1.length = n at y0 q0' hn62
        have HNN := hid hn
        obtain ⟨kl, hkl⟩ : ∃ k, k = key.length := ⟨_, rfl⟩
        rw [← hkl] at hN1 hk62 hSk ⊢
        have HKL := hid hkl
        clear qc hq0 sx hx6 hs2 hS hst1 hM hst2 HR hn hkl
        go_upto_region 11 with (go_at_call 36; refine hN1.mono ?_; rintro e w1 ⟨rfl, T1, g1⟩)
        go_upto_region 12 with (go_at_call 36; refine (HM2.out T1).mono ?_; rintro e w2 ⟨rfl, T2, g2⟩)
        have HSK2 := hid ((HSK.out.grown g1 (fun b x e => by simp only [Option.some.injEq] at e; omega)).grown g2 (fun b x e => by simp only [Option.some.injEq] at e; omega))
        have HT2 := hid T2
        obtain ⟨xa2, xc2, z0, z1, e0, e1, sx2, sr2, hx2, zb⟩ := T2.cells
        have HER : Hid (∀ st' : Rd, st'.2 ≠ 0 → (kNum key st).2.2 = st' → deBk d = (acc, st') ∧ acc.length ≤ len) := fun st' h1 h2 => by
          refine ⟨?_, by have := HLS.out.2.2.1; omega⟩
          rw [← h2]
          exact HST.out.2.1 HQC.out (by rw [h2]; exact h1)
        obtain ⟨n2, hn2⟩ : ∃ n, n = st2.1.length := ⟨_, rfl⟩
        rw [← hn2] at z0 sx2 sr2 hx2 zb
        have HN2 := hid hn2
        have HSX : Hid (Sl w2 xa2 n2 xc2 st2.1 ∧ (∀ b, Refs (.slice xa2 n2 xc2) b → b < w.heap.size) ∧ n2 ≤ 175921860444160 ∧ w2.heap[w.heap.size]? = some (.cells #[.slice xa2 n2 xc2, .int .i64 (st2.2 : Nat)] 62 (0, 0))) := ⟨sx2, sr2, hx2, zb⟩
        have hn262 : n2 ≤ 2 ^ 60 := by omega
        have hS60 : S ≤ 2 ^ 60 := by omega
        clear T1 T2 g1 g2 y0 y1 f0 f1 hN1 HM2 q0' q2 HSK sx2 sr2 hx2 zb hn2 hM63
        by_cases r0 : st2.2 = 0
        · have r0' : ((st2.2 : Int) == 0) = true := by simp; omega
          have r0n : ((st2.2 : Int) != 0) = false := by simp; omega
          by_cases rM : 512 < M
          · have rM' : (512 : Int) < (M : Int) := by omega
            have HF := hid (HER.out (st2.1, 2) (by simp) (by rw [HKN.out]; simp only; rw [if_neg (by simpa using r0), if_pos (.inl rM)]))
            clear r0 rM
            go_wp2_with fail
            go_meet
            exact ⟨acc, (st2.1, 2), HT2.out.sete 2, HF.out⟩
          · have rM' : ¬ ((512 : Int) < (M : Int)) := by omega
            have hM60 : M ≤ 2 ^ 60 := by omega
            by_cases rS : 512 < S + M
            · have rS' : (512 : Int) < (S : Int) + (M : Int) := by omega
              have HF := hid (HER.out (st2.1, 2) (by simp) (by rw [HKN.out]; simp only; rw [if_neg (by simpa using r0), if_pos (.inr rS)]))
              clear r0 rM
              go_wp2_with fail
              go_meet
              exact ⟨acc, (st2.1, 2), HT2.out.sete 2, HF.out⟩
            · have rS' : ¬ ((512 : Int) < (S : Int) + (M : Int)) := by omega
              by_cases rn : n2 < M
              · have rn' : (n2 : Int) < (M : Int) := by omega
                have HF := hid (HER.out (st2.1, 5) (by simp) (by rw [HKN.out]; simp only; rw [if_neg (by simpa using r0), if_neg (by omega), if_pos (by rw [← HN2.out]; exact rn)]))
                clear r0 rM
                go_wp2_with fail
                go_meet
                exact ⟨acc, (st2.1, 5), HT2.out.sete 5, HF.out⟩
              · have rn' : ¬ ((n2 : Int) < (M : Int)) := by omega
                have HKF : Hid (kNum key st = (S, M, st2) ∧ st2.2 = 0 ∧ S + M ≤ 512 ∧ M ≤ n2) := ⟨by rw [HKN.out, if_neg (by simpa using r0), if_neg (by omega), if_neg (by rw [← HN2.out]; exact rn)], r0, by omega, by omega⟩
                clear r0 rM rS rn
                obtain ⟨TM, hown⟩ := HT2.out.mark
                have HTM : Hid (TG w w.heap.size (fun b => w.heap.size + 1 ≤ b ∧ b < w2.heap.size) w2 u7 acc st2 ∧ (∀ b, u7.ownBlock = some b → b < w2.heap.size) ∧ w.heap.size + 1 ≤ w2.heap.size) := ⟨TM, hown, HT2.out.sz⟩
                have hcK := run_uptoK .u64 ka kl kc S (by have := HSK2.out.1.2.2.2.1; rw [HKL.out] at hSk; omega)
                have hcB := run_uptoK .u64 xa2 n2 xc2 M (by have := HSX.out.1.2.2.2.1; have := HKF.out; omega)
                have HS1 : Hid (∀ wx, Below w2.heap.size w2 wx → Sl wx (cutA ka kc 0) S kc (key.take S)) := fun wx hb => (HSK2.out.1.upto0 S (by rw [← HKL.out]; exact hSk)).later hb
                have HS2 : Hid (∀ wx, Below w2.heap.size w2 wx → Sl wx (cutA xa2 xc2 0) M xc2 (st2.1.take M)) := fun wx hb => (HSX.out.1.upto0 M (by have := HKF.out; omega)).later hb
                have HZ : Hid (∀ wx, Below w2.heap.size w2 wx → wx.cell? ⟨w.heap.size, 0, none⟩ = some (.slice xa2 n2 xc2)) := fun wx hb => cell_later hb z0
                have HLN : Hid (([] : List Int).length + S ≤ 140737488355328 ∧ ([] ++ key.take S).length + M ≤ 140737488355328) := ⟨by simp; omega, by simp only [List.nil_append, List.length_take]; omega⟩
                have HBD : Hid (Below w2.heap.size w2 w2.drew) := (Below.refl _ _).drew
                generalize cutA ka kc 0 = ka3 at hcK HS1
                generalize cutA xa2 xc2 0 = xa3 at hcB HS2
                clear TM hown
                go_upto_region 17 with fail
                go_cut [8] from 109 to 119 (fun v wx => Hid (Row w2.heap.size wx v ([] ++ key.take S ++ st2.1.take M) ∧ Below w2.heap.size w2 wx))
                case first =>
                  go_region_held_law (fun w' => w'.cell? ⟨w.heap.size, 0, none⟩ = some (.slice xa2 n2 xc2)) (first | exact z0 | exact zz5 | exact zz6) (first | (refine step_appL (B := w2.heap.size) (xs := []) (ys := key.take S) (ao := ka3) (m := S) (c := kc) (v := .slice none 0 0) rfl (.const (.slice none 0 0)) (.tmp 111) rfl rfl (Row.nil _ _) rfl (HS1.out _ HBD.out) HLN.out.1 HBD.out.size ?_; intro v5 w5 r5 g5 m5; have b5 : Below w2.heap.size w2 w5 := below_app' g5; have zz5 := HZ.out w5 b5) | (refine step_appL (B := w2.heap.size) (xs := [] ++ key.take S) (ys := st2.1.take M) (ao := xa3) (m := M) (c := xc2) (v := v5) rfl (.tmp 112) (.tmp 118) rfl rfl r5 rfl (HS2.out w5 b5) HLN.out.2 b5.size ?_; intro v6 w6 r6 g6 m6; have b6 := below_gb r5 b5 g6; have zz6 := HZ.out w6 b6))
                  go_wp2_with fail
                  go_meet
                  exact ⟨r6, b6⟩
                case rest =>
                  have hB3 := hcut.out.2
                  have hok3 : Okb ([] ++ key.take S ++ st2.1.take M) := by
                    rw [List.nil_append]
                    exact (HS1.out _ (Below.refl _ _)).2.1.app (HS2.out _ (Below.refl _ _)).2.1
                  obtain ⟨k8, kc8, hv8, sg8⟩ := sg_row hcut.out.1 hok3
                  subst hv8
                  have HK2 : Hid (keyK key st = [] ++ key.take S ++ st2.1.take M ∧ ([] ++ key.take S ++ st2.1.take M).length ≤ 512) := by
                    refine ⟨by unfold keyK; rw [HKF.out.1]; simp, ?_⟩
                    simp only [List.nil_append, List.length_append, List.length_take]
                    have := HKF.out.2.2.1
                    omega
                  generalize [] ++ key.take S ++ st2.1.take M = key2 at sg8 HK2 hok3
                  have hzc : wc.heap[w.heap.size]? = some (.cells #[.slice xa2 n2 xc2, .int .i64 (0 : Nat)] 62 (0, 0)) := by
                    rw [hB3.block w.heap.size (by have := HTM.out.2.2; omega), HSX.out.2.2.2, HKF.out.2.1]
                  have hsb := set_b (u := M) (x := .int .i64 0) hzc (HSX.out.1.later hB3) HSX.out.2.1 HSX.out.2.2.1 HKF.out.2.2.2
                  obtain ⟨W4, hW4⟩ : ∃ W4, W4 = wc.setCell ⟨w.heap.size, 0, none⟩ (.slice (cutA xa2 xc2 M) (n2 - M) (xc2 - M)) := ⟨_, rfl⟩
                  rw [← hW4] at hsb
                  have hg4 : wc.grownBy W4 (some w.heap.size) := by rw [hW4]; exact grown_set _ _ _ _
                  have T4 := (HTM.out.1.later hB3).read hg4 (st' := (st2.1.drop M, 0)) ⟨_, _, _, hsb⟩
                  have sg4 := sg8.grown hg4 (fun b x e => by simp only [Option.some.injEq] at e; have := HTM.out.2.2; omega)
                  have hz0 := HZ.out wc hB3
                  have hf0 : wc.frozen? ⟨w.heap.size, 0, none⟩ = false := frozen_of hzc 0
                  have hcF := run_fromK .u64 xa2 n2 xc2 M HKF.out.2.2.2 HSX.out.1.2.2.2.1
                  have hN4 := T4.number 4611686018427387904 (by decide)
                  rw [show ((4611686018427387904 : Nat) : Int) = 4611686018427387904 from rfl] at hN4
                  obtain ⟨Q, hQ⟩ : ∃ Q, Q = (rdN 4611686018427387904 (st2.1.drop M, 0)).1 := ⟨_, rfl⟩
                  obtain ⟨st4, hst4⟩ : ∃ x, x = (rdN 4611686018427387904 (st2.1.drop M, 0)).2 := ⟨_, rfl⟩
                  have hQ62 : Q ≤ 4611686018427387904 := by rw [hQ]; exact rdN_le
                  have hQ63 : Q ≤ 2 ^ 63 - 1 := by omega
                  rw [← hQ, ← hst4] at hN4
                  obtain ⟨gn, hgn⟩ : ∃ g, g = (rdF st4).1 := ⟨_, rfl⟩
                  obtain ⟨st5, hst5⟩ : ∃ x, x = (rdF st4).2 := ⟨_, rfl⟩
                  have HFL : Hid (∀ {wx : World}, TG w w.heap.size (fun b => w.heap.size + 1 ≤ b ∧ b < w2.heap.size) wx u7 acc st4 → Calls Try.prog 37 #[.pointer (some ⟨w.heap.size, 0, none⟩)] wx fun e w' => e = .returned (.bool gn) ∧ TG w w.heap.size (fun b => w.heap.size + 1 ≤ b ∧ b < w2.heap.size) w' u7 acc st5 ∧ wx.grownBy w' (some w.heap.size)) := fun {wx} T => by
                    have := T.flag
                    rw [← hgn, ← hst5] at this
                    exact this
                  have HDE : Hid (deE1 key st = if gn = true then (⟨key2, (Q : Int), true, 0, []⟩, st5) else (⟨key2, (Q : Int), false, ((rdN 4611686018427387904 st5).1 : Int), (rdB 2048 (rdN 4611686018427387904 st5).2).1⟩, (rdB 2048 (rdN 4611686018427387904 st5).2).2)) := by
                    show _ = _
                    unfold deE1
                    rw [HKF.out.1, HK2.out.1]
                    simp only
                    unfold deV
                    rw [← hst4, ← hQ, ← hgn, ← hst5]
                  have HFIN : Hid (∀ (e : EntV) (st' : Rd), deE1 key st = (e, st') → deBk d = (acc ++ [e] ++ (deEs g e.key st').1, (deEs g e.key st').2) ∧ st'.1.length ≤ g ∧ (acc ++ [e]).length + g = len) := fun e st' he => by
                    have hz : (kNum key st).2.2.2 = 0 := by rw [HKF.out.1]; exact HKF.out.2.1
                    have h1 := HST.out.2.2 HQC.out hz
                    have h2 := deE1_less HLS.out.1 hz
                    rw [he] at h1 h2
                    refine ⟨h1, by have := HLS.out.2.1; simp only at h2; omega, by rw [List.length_append]; have := HLS.out.2.2.1; simp; omega⟩
                  have HSG : Hid (Sg (fun b => w2.heap.size ≤ b) W4 k8 kc8 key2 ∧ w2.heap.size ≤ W4.heap.size) := ⟨sg4, Nat.le_trans hB3.size hg4.size⟩
                  have HW4 := hid hW4
                  have HLA : Hid (acc.length + 1 ≤ 1000000000) := by show _ ≤ _; have := HLS.out.2.2.1; have := HD.out.2; omega
                  obtain ⟨nk, hnk⟩ : ∃ n, n = key2.length := ⟨_, rfl⟩
                  rw [← hnk]
                  have HNK := hid hnk
                  have hM60' : M ≤ n2 := HKF.out.2.2.2
                  clear T4 sg4 sg8 hsb hzc hg4 hW4 hok3 hB3 hcut hQ hst4 hgn hst5 hQ62 hnk z0 z1 e0 e1 hcK hcB HS1 HS2 HZ HLN HBD r0' r0n rM' rS' rn' HER HKN
                  go_upto_region 19 with fail
                  rw [← HW4.out]
                  clear hz0 hf0 hcF
                  go_upto_region 20 with (first | (go_at_call 36; refine hN4.mono ?_; rintro e w5 ⟨rfl, T5, g5⟩) | (go_at_call 37; refine (HFL.out T5).mono ?_; rintro e w6 ⟨rfl, T6, g6⟩))
                  have HT6 : Hid (TU w w.heap.size w2.heap.size w6.heap.size (w6.alloc (.cells #[.slice k8 nk kc8, .int .i64 (Q : Int), .bool gn, .int .i64 0, .slice none 0 0] 35)) u7 acc #[.slice k8 nk kc8, .int .i64 (Q : Int), .bool gn, .int .i64 0, .slice none 0 0] st5 ∧ Sg (fun b => w2.heap.size ≤ b ∧ b < w6.heap.size) (w6.alloc (.cells #[.slice k8 nk kc8, .int .i64 (Q : Int), .bool gn, .int .i64 0, .slice none 0 0] 35)) k8 kc8 key2) := by
                    have hs5 := HSG.out.1.grown g5 (fun b x e => by simp only [Option.some.injEq] at e; have := HTM.out.2.2; omega)
                    have hs6 := hs5.grown g6 (fun b x e => by simp only [Option.some.injEq] at e; have := HTM.out.2.2; omega)
                    exact ⟨TU.begin T6 HTM.out.2.1 HTM.out.2.2 (Nat.le_trans HSG.out.2 (Nat.le_trans g5.size g6.size)) _, (hs6.weak (fun b hb x => ⟨x, hb⟩)).later ((Below.refl _ _).alloc (Nat.le_refl _) _)⟩
                  clear T5 T6 g5 g6 hN4 HFL HSG HW4
                  have hpo : w.heap.size < w6.heap.size := by have := HT6.out.1.pm; have := HT6.out.1.mo; omega
                  obtain ⟨W7, hW7⟩ : ∃ W7, W7 = w6.alloc (.cells #[.slice k8 nk kc8, .int .i64 (Q : Int), .bool gn, .int .i64 0, .slice none 0 0] 35) := ⟨_, rfl⟩
                  rw [← hW7] at HT6 ⊢
                  obtain ⟨ob, hob⟩ : ∃ o, o = w6.heap.size := ⟨_, rfl⟩
                  rw [← hob] at HT6 hpo ⊢
                  have HPO := hid hpo
                  clear hW7 hob hpo
                  obtain ⟨y0, y1, y2, y3, y4, f3, f4⟩ := HT6.out.1.facts
                  cases gn with
                  | true =>
                    rw [if_pos rfl] at HDE
                    have HDF := hid (HFIN.out _ _ HDE.out)
                    have hrd := TU.ready (o := ⟨key2, (Q : Int), true, 0, []⟩) (ka := k8) (kc := kc8) (va := none) (vc := 0) (by have := HT6.out.1; rw [HNK.out] at this; exact this) (HT6.out.2.weak (fun b _ x => x.1)) (Sg.nil _ _) (show In64 (Q : Int) from ⟨by omega, by omega⟩) (show In64 (0 : Int) from ⟨by decide, by decide⟩)
                    simp only [List.length_nil] at hrd
                    rw [← HNK.out] at hrd
                    have HRD := hid hrd
                    clear hrd
                    go_wp2_with (at_builtin; refine wpList_appF entE (t := 22) (z := .agg #[.slice none 0 0, .int .i64 0, .bool false, .int .i64 0, .slice none 0 0]) (bytes := 72) (B := w.heap.size + 1) Try.underlying22 entE_info rfl (by decide) rfl (.tmp 146) (.tmp 148) rfl rfl HRD.out.1 rfl HRD.out.2.1 HRD.out.2.2.1 HRD.out.2.2.2.1 (by have := HLA.out; omega) (by have := HLA.out; omega) HRD.out.2.2.2.2.1 ?_; intro v9 w9 r9 g9 m9)
                    have H9 := hid (HRD.out.2.2.2.2.2 _ _ g9 r9)
                    go_roundg g
                    case measure => omega
                    case rel => exact ⟨_, _, key2, k8, kc8, by rw [HNK.out], H9.out.1, H9.out.2, HDF.out.1, HDF.out.2.1, HDF.out.2.2, HK2.out.2⟩
                  | false =>
                    rw [if_neg (by decide)] at HDE
                    have HDF := hid (HFIN.out _ _ HDE.out)
                    have hN7 := HT6.out.1.number 4611686018427387904 (by decide)
                    rw [show ((4611686018427387904 : Nat) : Int) = 4611686018427387904 from rfl] at hN7
                    obtain ⟨U, hU⟩ : ∃ U, U = (rdN 4611686018427387904 st5).1 := ⟨_, rfl⟩
                    obtain ⟨st7, hst7⟩ : ∃ x, x = (rdN 4611686018427387904 st5).2 := ⟨_, rfl⟩
                    have hU62 : U ≤ 4611686018427387904 := by rw [hU]; exact rdN_le
                    have hU63 : U ≤ 2 ^ 63 - 1 := by omega
                    rw [← hU, ← hst7] at hN7 HDF
                    have HBY : Hid (∀ {wx : World} {C : Array Value}, TU w w.heap.size w2.heap.size ob wx u7 acc C st7 → Calls Try.prog 38 #[.pointer (some ⟨w.heap.size, 0, none⟩), .int .i64 2048] wx fun e w' => ∃ a c, e = .returned (.slice a (rdB 2048 st7).1.length c) ∧ Sg (fun b => ob < b) w' a c (rdB 2048 st7).1 ∧ TU w w.heap.size w2.heap.size ob w' u7 acc C (rdB 2048 st7).2 ∧ wx.grownBy w' (some w.heap.size)) := fun {wx C} T => T.bytes 2048 (by decide)
                    obtain ⟨vl, hvl⟩ : ∃ v, v = (rdB 2048 st7).1 := ⟨_, rfl⟩
                    obtain ⟨st8, hst8⟩ : ∃ x, x = (rdB 2048 st7).2 := ⟨_, rfl⟩
                    rw [← hvl, ← hst8] at HBY HDF
                    have HMO : Hid (w2.heap.size ≤ ob) := HT6.out.1.mo
                    clear hU hst7 hvl hst8 HDE HFIN hU62
                    go_upto_region 22 with (go_at_call 36; refine hN7.mono ?_; rintro e w8 ⟨rfl, T8, g8⟩; obtain ⟨x0, x1, x2, x3, x4, k3, k4⟩ := T8.facts)
                    have T9 := T8.set 3 (.int .i64 (U : Int))
                    have S9 := (HT6.out.2.grown g8 (fun b x e => by simp only [Option.some.injEq] at e; have := HTM.out.2.2; omega)).grown (grown_set w8 ob 3 (.int .i64 (U : Int))) (fun b x e => by simp only [Option.some.injEq] at e; omega)
                    obtain ⟨W9, hW9⟩ : ∃ W9, W9 = w8.setCell ⟨ob, 3, none⟩ (.int .i64 (U : Int)) := ⟨_, rfl⟩
                    rw [← hW9] at T9 S9 ⊢
                    have HT9 : Hid (TU w w.heap.size w2.heap.size ob W9 u7 acc #[.slice k8 nk kc8, .int .i64 (Q : Int), .bool false, .int .i64 (U : Int), .slice none 0 0] st7 ∧ Sg (fun b => w2.heap.size ≤ b ∧ b < ob) W9 k8 kc8 key2) := ⟨T9, S9⟩
                    clear y0 y1 y2 y3 y4 f3 f4 x0 x1 x2 x3 x4 k3 k4 T8 T9 S9 g8 hW9 hN7 HT6
                    obtain ⟨y0, y1, y2, y3, y4, f3, f4⟩ := HT9.out.1.facts
                    go_upto_region 23 with (go_at_call 38; refine (HBY.out HT9.out.1).mono ?_; rintro e w10 ⟨va, vc, rfl, SV, T10, g10⟩; obtain ⟨x0, x1, x2, x3, x4, k3, k4⟩ := T10.facts)
                    have T11 := T10.set 4 (.slice va vl.length vc)
                    have S11 := (HT9.out.2.grown g10 (fun b x e => by simp only [Option.some.injEq] at e; have := HTM.out.2.2; omega)).grown (grown_set w10 ob 4 (.slice va vl.length vc)) (fun b x e => by simp only [Option.some.injEq] at e; omega)
                    have V11 := SV.grown (grown_set w10 ob 4 (.slice va vl.length vc)) (fun b x e => by simp only [Option.some.injEq] at e; omega)
                    obtain ⟨W11, hW11⟩ : ∃ W11, W11 = w10.setCell ⟨ob, 4, none⟩ (.slice va vl.length vc) := ⟨_, rfl⟩
                    rw [← hW11] at T11 S11 V11 ⊢
                    obtain ⟨y0, y1, y2, y3, y4, f3, f4⟩ := (show TU w w.heap.size w2.heap.size ob W11 u7 acc #[.slice k8 nk kc8, .int .i64 (Q : Int), .bool false, .int .i64 (U : Int), .slice va vl.length vc] st8 from T11).facts
                    have hrd := TU.ready (o := ⟨key2, (Q : Int), false, (U : Int), vl⟩) (ka := k8) (kc := kc8) (va := va) (vc := vc) (by have := T11; rw [HNK.out] at this; exact this) (S11.weak (fun b _ x => x.1)) (V11.weak (fun b _ x => by have := HMO.out; omega)) (show In64 (Q : Int) from ⟨by omega, by omega⟩) (show In64 (U : Int) from ⟨by omega, by omega⟩)
                    simp only at hrd
                    rw [← HNK.out] at hrd
                    have HRD := hid hrd
                    generalize vl.length = vn at HRD y4
                    clear hrd x0 x1 x2 x3 x4 k3 k4 T10 T11 S11 V11 SV g10 hW11 HT9 HBY
                    go_wp2_with (at_builtin; refine wpList_appF entE (t := 22) (z := .agg #[.slice none 0 0, .int .i64 0, .bool false, .int .i64 0, .slice none 0 0]) (bytes := 72) (B := w.heap.size + 1) Try.underlying22 entE_info rfl (by decide) rfl (.tmp 146) (.tmp 148) rfl rfl HRD.out.1 rfl HRD.out.2.1 HRD.out.2.2.1 HRD.out.2.2.2.1 (by have := HLA.out; omega) (by have := HLA.out; omega) HRD.out.2.2.2.2.1 ?_; intro v9 w9 r9 g9 m9)
                    have H9 := hid (HRD.out.2.2.2.2.2 _ _ g9 r9)
                    go_roundg g
                    case measure => omega
                    case rel => exact ⟨_, _, key2, k8, kc8, by rw [HNK.out], H9.out.1, H9.out.2, HDF.out.1, HDF.out.2.1, HDF.out.2.2, HK2.out.2⟩
        · have r0' : ((st2.2 : Int) == 0) = false := by simp; omega
          have r0n : ((st2.2 : Int) != 0) = true := by simp; omega
          have HF := hid (HER.out st2 r0 (by rw [HKN.out]; simp only; rw [if_pos r0]))
          clear r0
          go_wp2_with fail
          go_meet
          exact ⟨acc, st2, HT2.out, HF.out⟩
end Go.Proofs.Ytifgojkmdicdmaa

/- What the laws on blocks lean on: what a program's own must keep; the simple ones. -/
namespace Go.Proofs.Ytifgojkmdicdmaa
open Go.RowKit
set_option linter.unusedVariables false
set_option linter.unusedSimpArgs false

def encX (l : List EntV) : List Int := if blkE l = 0 then blkB l else []
/-- No key and no value is longer than a law may hand in. -/
def Lgt (l : List EntV) : Prop := ∀ e ∈ l, e.key.length ≤ 3000 ∧ e.val.length ≤ 3000
/-- The first that is not ahead. -/
def skE (l : List EntV) (key : List Int) (s : Int) : Option EntV := l.find? fun e => decide (0 < cmp e.key key ∨ cmp e.key key = 0 ∧ e.seq ≤ s)
/-- : what is asked of a program's blocks. -/
structure PBk : Prop where
  ordered : ∀ {w : World} {ao : Option Addr} {len cap : Nat} {l : List EntV}, RS entE w ao len cap l → len ≤ 450 → Lgt l → Calls Try.prog 12 #[.slice ao len cap] w fun e w' => e = .returned (.bool (ordB l)) ∧ Below w.heap.size w w'
  encode : ∀ {w : World} {ao : Option Addr} {len cap : Nat} {l : List EntV}, RS entE w ao len cap l → len ≤ 450 → Lgt l → Calls Try.prog 10 #[.slice ao len cap] w fun e w' => ∃ v, e = .returned (.tuple #[v, .int .i64 ((blkE l : Nat) : Int)]) ∧ SlV w' v (encX l) ∧ Below w.heap.size w w'
/-- : what is asked of a program's Decode: whether there is a block, and its entries. -/
structure PBd : Prop where
  decode : ∀ {w : World} {ao : Option Addr} {len cap : Nat} {d : List Int}, Sl w ao len cap d → len ≤ 2000000 → Calls Try.prog 14 #[.slice ao len cap] w fun e w' => ∃ (v : Value) (E : Nat), e = .returned (.tuple #[v, .int .i64 (E : Int)]) ∧ (E = 0 ↔ tkE d = 0) ∧ RSV entE w' v (tkB d) ∧ Below w.heap.size w w'
/-- : what is asked of a program's Seek. -/
structure PBs : Prop where
  seek : ∀ {w : World} {ao ka : Option Addr} {len cap kl kc : Nat} {d key : List Int} {s : Int}, Sl w ao len cap d → len ≤ 2000000 → Sl w ka kl kc key → In64 s → Calls Try.prog 18 #[.slice ao len cap, .slice ka kl kc, .int .i64 s] w fun r w' => (∃ B, GotE B (skE (tkB d) key s) r w') ∧ Below w.heap.size w w'

theorem sl_two (w : World) (c d : Nat) (hc : c < 256) (hd : d < 256) : Sl (w.alloc (.cells #[.int .u8 (c : Int), .int .u8 (d : Int)] 5 (2, 3))) (some ⟨w.heap.size, 0, none⟩) 2 2 [(c : Int), (d : Int)] := by
  refine ⟨rfl, fun x hx => by simp at hx; omega, (fun e => by cases e), Nat.le_refl _, by unfold maxLen; omega, fun k hk => ?_⟩
  have e : (w.alloc (.cells #[.int .u8 (c : Int), .int .u8 (d : Int)] 5 (2, 3))).heap[w.heap.size]? = some (.cells #[.int .u8 (c : Int), .int .u8 (d : Int)] 5 (2, 3)) := heap_alloc_new w _
  match k, hk with
  | 0, _ =>
    refine ⟨by simpa [xof] using hc, w.heap.size, 0, rfl, ?_⟩
    unfold World.cell?
    rw [e]
    simp [xof]
  | 1, _ =>
    refine ⟨by simpa [xof] using hd, w.heap.size, 0, rfl, ?_⟩
    unfold World.cell?
    rw [e]
    simp [xof]
def eK : EntV := ⟨[97, 98], 3, false, 0, [120]⟩
theorem blk_k : blkE [eK] = 0 := by decide
theorem enc_k : encX [eK] = [0, 2, 97, 98, 3, 0, 0, 1, 120, 0, 0, 0, 0, 0, 0, 0, 1] := by
  unfold encX
  rw [if_pos blk_k]
  simp [blkB, enEs, enTl, enE, shI, lb, uv_lt, eK, fx]
set_option maxHeartbeats 1000000 in
set_option maxRecDepth 100000 in
theorem awake11_any (D : PBk) (w : World) : Calls Try.prog 9 #[] w fun e w' => e = .returned (.bool true) ∧ Below w.heap.size w w' := by
  have hcv2 : ∀ (w : World) X, (convert 25 25 (.slice (some ⟨w.heap.size + 1, 0, none⟩) 1 1)).run Try.prog ((w.alloc X).alloc (.cells #[.int .u8 120] 5)) = .ok (.slice (some ⟨w.heap.size + 1, 0, none⟩) 1 1) ((w.alloc X).alloc (.cells #[.int .u8 120] 5 (1, 2))) := fun w X => by
    have := Lib.run_convert_bytes_const (P := Try.prog) (w.alloc X) 25 5 #[.int .u8 120] 1 1 Try.underlying25 Try.underlying5
    simpa using this
  have hcv := fun (w : World) a l c => Lib.run_convert_bytes_const (P := Try.prog) w 25 5 a l c Try.underlying25 Try.underlying5
  obtain ⟨W3, hW3⟩ : ∃ W, W = (w.alloc (.cells #[.int .u8 97, .int .u8 98] 5 (2, 3))).alloc (.cells #[.int .u8 120] 5 (1, 2)) := ⟨_, rfl⟩
  have b2 : Below w.heap.size w W3 := by rw [hW3]; exact ((Below.refl _ w).alloc (Nat.le_refl _) _).alloc (by simp) _
  have s1 : Sl W3 (some ⟨w.heap.size, 0, none⟩) 2 2 [97, 98] := by rw [hW3]; exact (sl_two w 97 98 (by decide) (by decide)).later ((Below.refl _ _).alloc (Nat.le_refl _) _)
  have s2 : Sl W3 (some ⟨w.heap.size + 1, 0, none⟩) 1 1 [120] := by
    have := sl_byte (w.alloc (.cells #[.int .u8 97, .int .u8 98] 5 (2, 3))) 120 (by decide)
    rw [hW3]
    simpa using this
  have hM : entE.M W3 [.slice (some ⟨w.heap.size, 0, none⟩) 2 2, .int .i64 3, .bool false, .int .i64 0, .slice (some ⟨w.heap.size + 1, 0, none⟩) 1 1] eK := ⟨_, 2, _, 1, rfl, s1, s2, ⟨by decide, by decide⟩, ⟨by decide, by decide⟩⟩
  have hone := rs_one hM
  have hp := D.encode ⟨_, hone⟩ (by decide) (fun e he => by rw [List.mem_singleton.1 he]; exact ⟨by decide, by decide⟩)
  rw [blk_k, enc_k] at hp
  have hsz : W3.heap.size = w.heap.size + 2 := by rw [hW3]; simp
  have HB : Hid (Below w.heap.size w (W3.alloc (.cells #[.slice (some ⟨w.heap.size, 0, none⟩) 2 2, .int .i64 3, .bool false, .int .i64 0, .slice (some ⟨w.heap.size + 1, 0, none⟩) 1 1] 35))) := b2.alloc b2.size _
  rw [hsz] at hp
  rw [hW3] at hp HB
  clear hM hone b2 s1 s2 hsz hW3
  go_enter Try.func9, Try.ntmps9
  go_wp2_with (go_at_call 10; refine hp.mono ?_; rintro e w1 ⟨v1, rfl, ⟨a1, c1, rfl, hs1⟩, hb1⟩; have hst := str_l hs1; rw [show strOfNums [0, 2, 97, 98, 3, 0, 0, 1, 120, 0, 0, 0, 0, 0, 0, 0, 1] = ⟨#[0, 2, 97, 98, 3, 0, 0, 1, 120, 0, 0, 0, 0, 0, 0, 0, 1]⟩ from rfl, show ([0, 2, 97, 98, 3, 0, 0, 1, 120, 0, 0, 0, 0, 0, 0, 0, 1] : List Int).length = 17 from rfl] at hst)
  exact bodyPost_ret (v := .bool true) (by simp [results, Try.results9, go_sem]) rfl ⟨rfl, HB.out.trans (hb1.mono HB.out.size)⟩

set_option maxHeartbeats 1000000 in
set_option maxRecDepth 100000 in
theorem light11_any {w : World} {ao : Option Addr} {len cap : Nat} {l : List EntV} (h : RS entE w ao len cap l) :
    Calls Try.prog 8 #[.slice ao len cap] w fun e w' => (e = .returned (.bool false) ∨ (e = .returned (.bool true) ∧ len ≤ 450 ∧ Lgt l)) ∧ Below w.heap.size w w' := by
  have hln : l.length = len := h.len.1
  have hl63 : len ≤ 2 ^ 63 - 1 := by have := h.len.2; unfold maxLen at this; omega
  have HS := hid h
  clear h
  go_enter Try.func8, Try.ntmps8
  go_wp2_with fail
  go_loopg [3, 4, 7] len (fun g _ _ i wr => ∃ k : Nat, k + g = len ∧ i = .int .i64 (k : Int) ∧ Hid (k ≤ 450 ∧ (∀ j (hj : j < l.length), j < k → l[j].key.length ≤ 3000 ∧ l[j].val.length ≤ 3000) ∧ Below w.heap.size w wr))
  case atStart => exact ⟨0, by omega, rfl, Nat.zero_le _, fun j _ h => absurd h (by omega), Below.refl _ _⟩
  case round =>
    obtain ⟨k, hk, rfl, HK⟩ := hrel
    by_cases hkl : k < len
    · have hkl' : (k : Int) < (len : Int) := by omega
      have hkx : k < l.length := by omega
      have bel := HK.out.2.2
      obtain ⟨b, off, ka, kc, va, vc, rfl, d0, d1, d2, d3, d4, sk, sv, i1, i2⟩ := RS.ent (HS.out.later bel) (List.getElem?_eq_getElem hkx)
      have HP : Hid (l[k].key.length ≤ 3000 ∧ l[k].val.length ≤ 3000 → ∀ j (hj : j < l.length), j < k + 1 → l[j].key.length ≤ 3000 ∧ l[j].val.length ≤ 3000) := fun q j hj hjk => if e : j = k then by subst e; exact q else HK.out.2.1 j hj (by omega)
      have hk1 : l[k].key.length ≤ 2 ^ 63 - 1 := by have := sk.2.2.2; unfold maxLen at this; omega
      have hv1 : l[k].val.length ≤ 2 ^ 63 - 1 := by have := sv.2.2.2; unfold maxLen at this; omega
      generalize l[k].seq = sq at d1
      generalize l[k].gone = gn at d2
      generalize l[k].till = tl at d3
      generalize l[k].key.length = kl at d0 HP hk1
      generalize l[k].val.length = vl at d4 HP hv1
      have hk62 : k ≤ 2 ^ 61 := by have := HK.out.1; omega
      obtain ⟨GK, HG⟩ : ∃ g, Hid (g < gk ∧ k + 1 + g = len) := ⟨gk - 1, by omega, by omega⟩
      have HB2 : Hid (Below w.heap.size w (wr.alloc (.cells #[.slice ka kl kc, .int .i64 sq, .bool gn, .int .i64 tl, .slice va vl vc] 35))) := bel.alloc bel.size _
      clear sk sv i1 i2 hk bel hl63
      by_cases q4 : 450 ≤ k
      · have q4' : (450 : Int) ≤ (k : Int) := by omega
        clear q4
        go_wp2_with fail
        exact bodyPost_ret (v := .bool false) (by simp [results, Try.results8, go_sem]) rfl ⟨.inl rfl, HB2.out⟩
      · have q4' : ¬ ((450 : Int) ≤ (k : Int)) := by omega
        have HK4 : Hid (k + 1 ≤ 450) := by show _ ≤ _; omega
        clear q4
        by_cases qk : 3000 < kl
        · have qk' : (3000 : Int) < (kl : Int) := by omega
          clear qk
          go_wp2_with fail
          exact bodyPost_ret (v := .bool false) (by simp [results, Try.results8, go_sem]) rfl ⟨.inl rfl, HB2.out⟩
        · have qk' : ¬ ((3000 : Int) < (kl : Int)) := by omega
          by_cases qv : 3000 < vl
          · have qv' : (3000 : Int) < (vl : Int) := by omega
            clear qk qv
            go_wp2_with fail
            exact bodyPost_ret (v := .bool false) (by simp [results, Try.results8, go_sem]) rfl ⟨.inl rfl, HB2.out⟩
          · have qv' : ¬ ((3000 : Int) < (vl : Int)) := by omega
            have HN := hid (HP.out ⟨by omega, by omega⟩)
            clear qk qv
            go_wp2_with fail
            go_roundg GK
            case measure => exact HG.out.1
            case rel => exact ⟨k + 1, HG.out.2, by go_num, HK4.out, HN.out, HB2.out⟩
    · have hkl' : ¬ ((k : Int) < (len : Int)) := by omega
      have HF : Hid (len ≤ 450 ∧ Lgt l ∧ Below w.heap.size w wr) := by
        refine ⟨by have := HK.out.1; omega, fun e he => ?_, HK.out.2.2⟩
        obtain ⟨j, hj, rfl⟩ := List.getElem_of_mem he
        exact HK.out.2.1 j hj (by omega)
      clear hk hkl HK
      go_wp2_with fail
      exact bodyPost_ret (v := .bool true) (by simp [results, Try.results8, go_sem]) rfl ⟨.inr ⟨rfl, HF.out.1, HF.out.2.1⟩, HF.out.2.2⟩
end Go.Proofs.Ytifgojkmdicdmaa
