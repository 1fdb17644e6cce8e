/- The document's answer: the declarations. Own work. -/
import Derived.Test.YtfifodibagidgaaGreatRefPlace
import Derived.Test.YtfifodibagidgaaGreatSelector
import Derived.RegionTactic
namespace Go.Proofs.YtfifodibagidgaaGreat
open Go.RowKit

theorem Tryz.info144 : (Tryz.prog.info? 144).map (fun i => (i.zero, i.size, i.bytes)) = some (some (.agg #[.int .u8 0, .string ⟨#[]⟩, .bool false]), 3, 32) := by kernel_rfl

/-- Each declaration has three bytes at least. -/
def DOK (t : ByteArray) : Prop := ∀ k, k < t.size → (k = 0 ∨ bt t (k - 1) = 59) → k + 2 < t.size ∧ bt t k ≠ 59 ∧ bt t (k + 1) ≠ 59 ∧ bt t (k + 2) ≠ 59

structure DRel (w : World) (t : ByteArray) (vo : Value) (f : Nat) (wr : World) (n : Nat) (xs : List Value) : Prop where
  bel : Below w.heap.size w wr
  own : wr.ownsRow w.heap.size 144 3 vo n xs
  few : n ≤ f
  hi : f ≤ t.size + 1
  beg : f < t.size → (f = 0 ∨ bt t (f - 1) = 59)

def DPost (w : World) (e : Ending) (w' : World) : Prop := ∃ (a : Option Addr) (n c : Nat), e = .returned (.slice a n c) ∧ Below w.heap.size w w'

theorem unt_three {t : ByteArray} {f r : Nat} (h : DOK t) (hf : f < t.size) (hb : f = 0 ∨ bt t (f - 1) = 59) (hu : Unt t f 59 r) : f + 2 < r ∧ r ≤ t.size := by
  obtain ⟨h1, h2, h3, h4⟩ := h f hf hb
  obtain ⟨u1, u2, u3, u4⟩ := hu
  refine ⟨?_, u2⟩
  apply Nat.lt_of_not_le
  intro hr
  have := u4 (by omega)
  have hc : r = f ∨ r = f + 1 ∨ r = f + 2 := by omega
  rcases hc with rfl | rfl | rfl
  · exact h2 this
  · exact h3 this
  · exact h4 this

theorem one3d (a : Int) (t : ByteArray) (b : Bool) : ∀ u ∈ [Value.int .u8 a, Value.string t, Value.bool b], u.oneCell' = true := by
  intro u hu
  simp only [List.mem_cons, List.not_mem_nil, or_false] at hu
  rcases hu with rfl | rfl | rfl <;> rfl

set_option maxRecDepth 100000 in
set_option maxHeartbeats 4000000 in
theorem decls_any (w : World) (t : ByteArray) (ht : t.size ≤ 400) (hD : DOK t) :
    Calls Tryz.prog 57 #[.string t] w fun e w' => DPost w e w' := by
  have HD : Hid (DOK t) := hD
  clear hD
  obtain ⟨i0, hi, iz0, iz1, iz2⟩ := info_parts Tryz.info144
  go_enter Tryz.func57, Tryz.ntmps57
  go_wp2_with fail
  go_loopg [3, 4] (t.size + 1) (fun gk vo fv wr => ∃ (f n : Nat) (xs : List Value), fv = .int .i64 f ∧ t.size + 1 - f ≤ gk ∧ DRel w t vo f wr n xs)
  case atStart => exact ⟨0, 0, [], rfl, by omega, Below.refl _ _, World.ownsRow_nil _ _ _ _, Nat.le_refl _, by omega, fun _ => Or.inl rfl⟩
  case round =>
    obtain ⟨f, n, xs, rfl, hgk, R⟩ := hrel
    have R_hi := R.hi
    have R_few := R.few
    obtain ⟨a, c, hv⟩ := own_shape R.own
    subst hv
    by_cases hlt : f < t.size
    · have hd : decide ((f : Int) < (t.size : Int)) = true := by simp; omega
      go_wp2_with fail
      refine (until_any _ t f 59 ht (by omega)).mono ?_
      rintro e w1 ⟨r, rfl, rfl, HU⟩
      obtain ⟨hr1, hr2⟩ := unt_three HD.out hlt (R.beg hlt) HU.out
      go_wp2
      go_region
      have hsz : 1 ≤ (t.extract (f + 2) r).size ∧ (t.extract (f + 2) r).size ≤ 400 := by rw [ByteArray.size_extract]; omega
      generalize t.extract (f + 2) r = u at hsz ⊢
      generalize (t[f].toNat : Int) = x
      obtain ⟨hsz1, hsz2⟩ := hsz
      have hul : u.size - 1 < u.size := by omega
      by_cases k1 : bt u (u.size - 1) = 33
      · have he : ((u[u.size - 1].toNat : Int) == 33) = true := by rw [← bt_at u _ hul, k1]; rfl
        clear k1
        go_wp2_with (at_builtin; refine wpList_append_own _ rfl (.tmp 40) (.tmp 42) 77 rfl w.heap.size 144 i0 (.agg #[.int .u8 0, .string ⟨#[]⟩, .bool false]) 3 32 Tryz.underlying77 hi iz0 iz1 iz2 rfl (by decide) _ _ _ rfl ((R.own.alloc _).alloc _).drew ⟨w1.heap.size + 1, 0, none⟩ 1 1 [.int .u8 x, .string (u.extract 0 (u.size - 1)), .bool true] rfl rfl ?c1a ?c2a ?c3a ?c4a ?c5a ?_)
        case c1a => exact new_cells (w1.alloc _) _ (by simp) _ _ _ rfl
        case c2a => exact one3d _ _ _
        case c3a => unfold maxLen; omega
        case c4a => omega
        case c5a => have := R.bel.size; simp; omega
        · intro v' w3 hown3 hg3 _
          have R3 : DRel w t v' (r + 1) w3 (n + 1) (xs ++ [.int .u8 x, .string (u.extract 0 (u.size - 1)), .bool true]) := by
            refine ⟨?_, hown3, by omega, by omega, fun h => Or.inr ?_⟩
            · refine Below.grown (Below.drew ((R.bel.alloc R.bel.size _).alloc (by have := R.bel.size; simp; omega) _)) hg3 (by have := R.bel.size; simp; omega) (fun k hk => (R.own.lt k hk).1)
            · have := HU.out.2.2.2 (by omega); simpa using this
          clear hown3 hg3 R
          go_wp2
          go_roundg (t.size + 1 - (r + 1))
          case measure => omega
          case rel => exact ⟨r + 1, n + 1, _, by go_num, Nat.le_refl _, R3⟩
      · have he : ((u[u.size - 1].toNat : Int) == 33) = false := by rw [← bt_at u _ hul]; simp; omega
        clear k1
        go_wp2_with (at_builtin; refine wpList_append_own _ rfl (.tmp 40) (.tmp 42) 77 rfl w.heap.size 144 i0 (.agg #[.int .u8 0, .string ⟨#[]⟩, .bool false]) 3 32 Tryz.underlying77 hi iz0 iz1 iz2 rfl (by decide) _ _ _ rfl ((R.own.alloc _).alloc _).drew ⟨w1.heap.size + 1, 0, none⟩ 1 1 [.int .u8 x, .string u, .bool false] rfl rfl ?c1b ?c2b ?c3b ?c4b ?c5b ?_)
        case c1b => exact new_cells (w1.alloc _) _ (by simp) _ _ _ rfl
        case c2b => exact one3d _ _ _
        case c3b => unfold maxLen; omega
        case c4b => omega
        case c5b => have := R.bel.size; simp; omega
        · intro v' w3 hown3 hg3 _
          have R3 : DRel w t v' (r + 1) w3 (n + 1) (xs ++ [.int .u8 x, .string u, .bool false]) := by
            refine ⟨?_, hown3, by omega, by omega, fun h => Or.inr ?_⟩
            · refine Below.grown (Below.drew ((R.bel.alloc R.bel.size _).alloc (by have := R.bel.size; simp; omega) _)) hg3 (by have := R.bel.size; simp; omega) (fun k hk => (R.own.lt k hk).1)
            · have := HU.out.2.2.2 (by omega); simpa using this
          clear hown3 hg3 R
          go_wp2
          go_roundg (t.size + 1 - (r + 1))
          case measure => omega
          case rel => exact ⟨r + 1, n + 1, _, by go_num, Nat.le_refl _, R3⟩
    · have R2 := R
      have hd : decide ((f : Int) < (t.size : Int)) = false := by simp; omega
      clear R
      go_wp2
      go_ret
      exact ⟨a, n, c, rfl, R2.bel⟩

end Go.Proofs.YtfifodibagidgaaGreat
