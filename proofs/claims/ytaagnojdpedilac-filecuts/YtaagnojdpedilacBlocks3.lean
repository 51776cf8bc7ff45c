/-
  Contracts of blocks.Outside, store.Check, Outside, Used, New. Nothing here is trusted.
-/
import Derived.Test.YtaagnojdpedilacBlocks2
import Derived.Laws.ResultCell
set_option linter.unusedVariables false
namespace Go.Proofs.Ytaagnojdpedilac
open Go.RowKit

/-- it answers the store, in new memory, and no error -/
def RetS (base : Nat) (e : Ending) (w : World) (n : Nat) (B : Nat → Blk) : Prop := ∃ g c, e = .returned (.tuple #[.agg #[.slice (some ⟨g, 0, none⟩) n c], .int .i64 0]) ∧ base ≤ g ∧ g < w.heap.size ∧ Blocks (fun b => base ≤ b) w g 0 n B
theorem store_of {w : World} {g n : Nat} {Q : Nat → Prop} {B : Nat → Blk} (hg : g < w.heap.size) (h : Blocks Q w g 0 n B) : StoreAt w (some ⟨g, 0, none⟩) n B := fun _ => ⟨g, 0, rfl, hg, h.weaken fun _ _ _ => trivial⟩

/-- how often the block is held by others than blocks -/
def outs (n : Nat) (B : Nat → Blk) (k : Nat) : Int := (B k).refs - ((among n B ((k : Int) + 1) : Nat) : Int)

theorem ownsRow_base {w : World} {B B' : Nat} {e : TypeId} {size : Nat} {v : Value} {n : Nat} {xs : List Value} (hB : B' ≤ B) (h : w.ownsRow B e size v n xs) : w.ownsRow B' e size v n xs := by
  refine ⟨h.1, ?_⟩
  rcases h.2 with h2 | ⟨g, cap, cur, hv, hg, r⟩
  · exact .inl h2
  · exact .inr ⟨g, cap, cur, hv, Nat.le_trans hB hg, r⟩
theorem Row.base {w : World} {base base' g n : Nat} {f : Nat → Int} (r : Row w base g n f) (h : base' ≤ base) : Row w base' g n f := ownsRow_base h r

theorem among_bd {n : Nat} {B : Nat → Blk} (h : Right n B) (k : Nat) (hk : k < n) : 0 ≤ ((among n B ((k : Int) + 1) : Nat) : Int) ∧ ((among n B ((k : Int) + 1) : Nat) : Int) ≤ 1000000 := by
  have h1 := h.held k hk
  have h2 := (h.one k hk).bounds
  simp at h1
  omega

theorem ptr_boxed (a : Option Addr) (n c : Nat) (B : Nat → Blk) (w : World) (t : TypeId) (h : StoreAt w a n B) : PtrAt (w.alloc (.cells #[.slice a n c] t)) ⟨w.heap.size, 0, none⟩ a n c B := by
  refine ⟨by simp, ?_, h.below (below_alloc _ _)⟩
  rw [World.cell?_alloc_at _ _ _ _ rfl]
  rfl

theorem storeCheck_any (a : Option Addr) (n c : Nat) (B : Nat → Blk) (w : World) (h : StoreAt w a n B) :
    Calls Try.prog 32 #[.agg #[.slice a n c]] w fun e w' => RetE e (Right n B) ∧ Below w.heap.size w w' := by
  go_enter Try.func32, Try.ntmps32
  go_wp2_with fail
  refine (check_any _ a n c B _ (ptr_boxed a n c B w _ h)).mono ?_
  rintro e w1 ⟨⟨e', rfl, he⟩, hb1⟩
  replace he := hid he
  go_wp2_with fail
  go_ret
  exact ⟨⟨e', rfl, he.out⟩, Below.tr (below_alloc _ _) hb1⟩

/-- how many of the first i blocks are there -/
def usedTo (B : Nat → Blk) (i : Nat) : Nat := sumTo (fun k => if 0 < (B k).refs then 1 else 0) i
theorem usedTo_succ (B : Nat → Blk) (i : Nat) : usedTo B (i + 1) = usedTo B i + if 0 < (B i).refs then 1 else 0 := rfl
theorem usedTo_le (B : Nat → Blk) : ∀ i, usedTo B i ≤ i
  | 0 => by simp [usedTo, sumTo]
  | i + 1 => by
    have := usedTo_le B i
    rw [usedTo_succ]
    split <;> omega

theorem Try.infoBlk : (Try.prog.info? 70).map (fun i => (i.zero, i.size, i.bytes)) = some (some (.agg #[.int .i64 0, .int .i64 0, .slice none 0 0, .slice none 0 0]), 4, 64) := by kernel_rfl

theorem blkAt_zero {w : World} {g off : Nat} {Q : Nat → Prop} (h : ∀ k, k < 4 → w.cell? ⟨g, off + k, none⟩ = (#[Value.int .i64 0, .int .i64 0, .slice none 0 0, .slice none 0 0])[k]?) : BlkAt Q w g off Blk.zero none 0 0 none 0 0 :=
  ⟨h 0 (by omega), h 1 (by omega), h 2 (by omega), h 3 (by omega), numsAt_nil _ _ _ _, numsAt_nil _ _ _ _, by simp [Blk.zero], by simp [Blk.zero], by omega⟩

theorem made_blks (n i k : Nat) (hi : i < n) (hk : k < 4) : (madeCells (Value.agg #[.int .i64 0, .int .i64 0, .slice none 0 0, .slice none 0 0]).cells (n * 4)).toList[i * 4 + k]? = (#[Value.int .i64 0, .int .i64 0, .slice none 0 0, .slice none 0 0])[k]? := by
  have h : i * 4 + k < n * 4 := by omega
  have e : (i * 4 + k) % 4 = k := by omega
  simp [madeCells, Value.cells, h, e]
  match k, hk with
  | 0, _ => rfl
  | 1, _ => rfl
  | 2, _ => rfl
  | 3, _ => rfl

/-- a row of blocks that are all zero -/
theorem blocks_made {w : World} {base g n : Nat} {Q : Nat → Prop} (hown : w.ownsRow base 70 4 (.slice (some ⟨g, 0, none⟩) n n) n (madeCells (Value.agg #[.int .i64 0, .int .i64 0, .slice none 0 0, .slice none 0 0]).cells (n * 4)).toList) :
    Blocks Q w g 0 n (fun _ => Blk.zero) := by
  intro i hi
  refine ⟨none, 0, 0, none, 0, 0, blkAt_zero fun k hk => ?_⟩
  rw [show 0 + i * 4 + k = i * 4 + k by omega, hown.cellAt _ (by omega)]
  exact made_blks n i k hi hk

set_option maxHeartbeats 1000000 in
set_option maxRecDepth 100000 in
theorem storeNew_ok (n : Nat) (w : World) (hn : n ≤ 400) :
    Calls Try.prog 41 #[.int .i64 n] w fun e w' => RetS w.heap.size e w' n (fun _ => Blk.zero) ∧ Below w.heap.size w w' := by
  obtain ⟨i0, hi, hz0, hz1, hz2⟩ := info_parts Try.infoBlk
  have h1 : ¬ (n : Int) < 0 := by omega
  have h2 : ¬ 400 < (n : Int) := by omega
  go_enter Try.func41, Try.ntmps41
  go_wp2_with (at_make; refine wpList_make_full _ rfl (.tmp 11) (.tmp 11) 22 rfl (w.heap.size + 1) 70 i0 _ 4 Try.underlying22 hi hz0 hz1 .i64 .i64 n n n rfl rfl rfl rfl (by rw [hz2]; omega) (by unfold maxLen; omega) (by simp) ?_; intro w2 hown hgr; have hone : w2.heap[w.heap.size]? = some (.cells #[.slice none 0 0] 24 (0, 0)) := (by rw [hgr.block w.heap.size (by simp) (by simp)]; exact heap_alloc_new w _); have hrc := cell_of_one hone; have hrf := free_of_one hone)
  have hb : Below w.heap.size w w2 := ((Below.refl _ _).alloc (Nat.le_refl _) _).grown hgr (by simp) (by simp)
  refine bodyPost_ret (v := .tuple #[.agg #[.slice (some ⟨w.heap.size + 1, 0, none⟩) n n], .int .i64 0]) (by rw [results_cell_tmp rfl]; go_simp) rfl ⟨⟨_, _, rfl, by omega, ?_⟩, hb.setCell (Nat.le_refl _) _⟩
  have hown' : w2.ownsRow (w.heap.size + 1) 70 4 (.slice (some ⟨w.heap.size + 1, 0, none⟩) n n) n (madeCells (Value.agg #[.int .i64 0, .int .i64 0, .slice none 0 0, .slice none 0 0]).cells (n * 4)).toList := by simpa using hown
  refine ⟨by have := (hown'.lt _ rfl).2; simpa using this, ?_⟩
  exact Blocks.weaken (Blocks.kept (g := w.heap.size) (blocks_made hown' (Q := fun b => w.heap.size < b)) (by omega) (fun b h => by omega) (Kept.setCell (g := w.heap.size) (Kept.refl _ _) (p := ⟨w.heap.size, 0, none⟩) rfl _)) (fun b _ h => by omega)

end Go.Proofs.Ytaagnojdpedilac
