import Derived.Test.YtligofmcmjblpaaGreatPk09
/- What is asked of a program's disk: how it lies in memory is its own. -/
namespace Go.Proofs.YtligofmcmjblpaaGreat
open Go.RowKit
set_option linter.unusedVariables false

structure PD where
  R : World → Nat → DS → (Nat → Prop) → Prop
  lt : ∀ {w p σ F}, R w p σ F → ∀ k, F k → k < w.heap.size
  same : ∀ {w w' p σ F}, R w p σ F → (∀ k, F k → w'.heap[k]? = w.heap[k]?) → R w' p σ F
  new : ∀ (room : Int) (w : World), -9223372036854775808 ≤ room → room ≤ 9223372036854775807 → Calls Tryz.prog 6 #[.int .i64 room] w fun e w' => ∃ p F, e = .returned (ptr p) ∧ R w' p (DS.new room) F ∧ (∀ k, F k → w.heap.size ≤ k) ∧ Below w.heap.size w w'
  create : ∀ {w p σ F} (s : ByteArray), R w p σ F → Inv σ → s.size ≤ 2 ^ 63 - 1 → Calls Tryz.prog 17 #[ptr p, .string s] w fun e w' => e = .returned (.int .i64 (σ.create s).1) ∧ Nx R w p (σ.create s).2 F w'
  append : ∀ {w p σ F} (s : ByteArray) (bo : Option Addr) (len bc : Nat) (X : Nat → Nat), R w p σ F → Inv σ → Byt w bo len X → (bo = none → len = 0 ∧ bc = 0) → (0 < len → ∀ a, bo = some a → ¬ F a.block) → len ≤ 2 ^ 47 →
    Calls Tryz.prog 18 #[ptr p, .string s, .slice bo len bc] w fun e w' => e = .returned (.int .i64 (σ.append s (bs X len)).1) ∧ Nx R w p (σ.append s (bs X len)).2 F w'
  sync : ∀ {w p σ F} (s : ByteArray), R w p σ F → Inv σ → Calls Tryz.prog 19 #[ptr p, .string s] w fun e w' => e = .returned (.int .i64 (σ.sync s).1) ∧ Nx R w p (σ.sync s).2 F w'
  rename : ∀ {w p σ F} (s t : ByteArray), R w p σ F → Inv σ → t.size ≤ 2 ^ 63 - 1 → Calls Tryz.prog 20 #[ptr p, .string s, .string t] w fun e w' => e = .returned (.int .i64 (σ.rename s t).1) ∧ Nx R w p (σ.rename s t).2 F w'
  remove : ∀ {w p σ F} (s : ByteArray), R w p σ F → Inv σ → Calls Tryz.prog 21 #[ptr p, .string s] w fun e w' => e = .returned (.int .i64 (σ.remove s).1) ∧ Nx R w p (σ.remove s).2 F w'
  syncDir : ∀ {w p σ F}, R w p σ F → Inv σ → Calls Tryz.prog 22 #[ptr p] w fun e w' => e = .returned (.int .i64 σ.syncDir.1) ∧ Nx R w p σ.syncDir.2 F w'
  fuse : ∀ {w p σ F} (n : Int), R w p σ F → Inv σ → -9223372036854775808 ≤ n → n ≤ 9223372036854775807 → Calls Tryz.prog 23 #[ptr p, .int .i64 n] w fun e w' => e = .returned (.tuple #[]) ∧ Nx R w p (σ.setFuse n) F w'
  fault : ∀ {w p σ F} (f n : Int), R w p σ F → Inv σ → (-9223372036854775808 ≤ f ∧ f ≤ 9223372036854775807) → (-9223372036854775808 ≤ n ∧ n ≤ 9223372036854775807) → Calls Tryz.prog 24 #[ptr p, .int .i64 f, .int .i64 n] w fun e w' => e = .returned (.tuple #[]) ∧ Nx R w p (σ.setFault f n) F w'
  crash : ∀ {w p σ F} (po : Option Addr) (pl pc : Nat) (P : Nat → Int), R w p σ F → Inv σ → Ints w po pl P → (0 < pl → ∀ a, po = some a → ¬ F a.block) → (pl ≤ pc ∧ pc ≤ 2 ^ 63 - 1) → Calls Tryz.prog 25 #[ptr p, .slice po pl pc] w fun e w' => e = .returned (.tuple #[]) ∧ Nx R w p (σ.crash (is P pl)) F w'
  spoil : ∀ {w p σ F} (s : ByteArray) (at_ x : Int), R w p σ F → Inv σ → (-9223372036854775808 ≤ at_ ∧ at_ ≤ 9223372036854775807) → (0 ≤ x ∧ x < 256) → Calls Tryz.prog 26 #[ptr p, .string s, .int .i64 at_, .int .u8 x] w fun e w' => e = .returned (.bool (σ.spoil s at_ x).1) ∧ Nx R w p (σ.spoil s at_ x).2 F w'
  read : ∀ {w p σ F} (s : ByteArray), R w p σ F → Inv σ → Calls Tryz.prog 44 #[ptr p, .string s] w fun e w' => ∃ v, e = .returned (.tuple #[v, .int .i64 (σ.read s).2]) ∧ BytR w' v ((σ.read s).1.getD []) ∧ Below w.heap.size w w'
  listN : ∀ {w p σ F}, R w p σ F → Inv σ → Calls Tryz.prog 38 #[ptr p] w fun e w' => ∃ v, e = .returned v ∧ StrsR w' v σ.list ∧ Below w.heap.size w w' ∧ ∀ k, v.ownBlock = some k → w.heap.size ≤ k
  used : ∀ {w p σ F}, R w p σ F → Inv σ → Calls Tryz.prog 40 #[ptr p] w fun e w' => e = .returned (.int .i64 (σ.used : Int)) ∧ Below w.heap.size w w'
  calls : ∀ {w p σ F}, R w p σ F → Inv σ → Calls Tryz.prog 42 #[ptr p] w fun e w' => e = .returned (.int .i64 σ.c.calls) ∧ Below w.heap.size w w'
  down : ∀ {w p σ F}, R w p σ F → Inv σ → Calls Tryz.prog 43 #[ptr p] w fun e w' => e = .returned (.bool σ.c.off) ∧ Below w.heap.size w w'
  readAt : ∀ {w p σ F} (s : ByteArray) (at_ n : Int), R w p σ F → Inv σ → (-9223372036854775808 ≤ at_ ∧ at_ ≤ 9223372036854775807) → (-9223372036854775808 ≤ n ∧ n ≤ 9223372036854775807) → Calls Tryz.prog 12 #[ptr p, .string s, .int .i64 at_, .int .i64 n] w fun e w' => ∃ v, e = .returned (.tuple #[v, .int .i64 (σ.readAt s at_ n).2]) ∧ BytR w' v (σ.readAt s at_ n).1 ∧ Below w.heap.size w w'
  size : ∀ {w p σ F} (s : ByteArray), R w p σ F → Inv σ → Calls Tryz.prog 14 #[ptr p, .string s] w fun e w' => e = .returned (.tuple #[.int .i64 (((σ.read s).1.getD []).length : Int), .int .i64 (σ.read s).2]) ∧ Below w.heap.size w w'

variable (D : PD)
theorem PD.list (D : PD) {w : World} {p : Nat} {σ : DS} {F : Nat → Prop} (h : D.R w p σ F) (hi : Inv σ) : Calls Tryz.prog 38 #[ptr p] w fun e w' => ∃ v, e = .returned v ∧ StrsR w' v σ.list ∧ Below w.heap.size w w' := (D.listN h hi).mono fun e w' ⟨v, a, b, c, _⟩ => ⟨v, a, b, c⟩
theorem PD.later {D : PD} {w w' : World} {p : Nat} {σ : DS} {F : Nat → Prop} (h : D.R w p σ F) (hb : Below w.heap.size w w') : D.R w' p σ F := D.same h fun k hk => hb.block k (D.lt h k hk)
theorem PD.kept {D : PD} {w w' : World} {p : Nat} {σ : DS} {F G : Nat → Prop} (h : D.R w p σ F) (hk : Kept G w w') (hd : ∀ k, F k → ¬ G k) : D.R w' p σ F := D.same h fun k hF => hk.block k (D.lt h k hF) (hd k hF)
end Go.Proofs.YtligofmcmjblpaaGreat
