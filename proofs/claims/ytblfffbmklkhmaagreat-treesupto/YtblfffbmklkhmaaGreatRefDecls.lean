/- The document's answer: the declarations. Own work. -/
import Derived.Test.YtblfffbmklkhmaaGreatRefPlace
import Derived.Test.YtblfffbmklkhmaaGreatSelector
import Derived.RegionTactic
namespace Go.Proofs.YtblfffbmklkhmaaGreat
open Go.RowKit

theorem Tryz.info229 : (Tryz.prog.info? 229).map (fun i => (i.zero, i.size, i.bytes)) = some (some (.agg #[.int .u8 0, .string ⟨#[]⟩, .bool false]), 3, 32) := by kernel_rfl

/-- Each declaration has three bytes at least. -/
def DOK (t : ByteArray) : Prop := ∀ k, k < t.size → (k = 0 ∨ bt t (k - 1) = 59) → k + 2 < t.size ∧ bt t k ≠ 59 ∧ bt t (k + 1) ≠ 59 ∧ bt t (k + 2) ≠ 59

/-- A declaration: its property's letter, its value, whether it is important. -/
structure RDecl where
  pr : Nat
  val : ByteArray
  must : Bool
def flatD (ds : List RDecl) : List Value := ds.flatMap fun d => [.int .u8 d.pr, .string d.val, .bool d.must]
theorem flatD_snoc (ds : List RDecl) (d : RDecl) : flatD (ds ++ [d]) = flatD ds ++ [.int .u8 d.pr, .string d.val, .bool d.must] := by
  unfold flatD
  rw [List.flatMap_append]
  simp
theorem flatD_len (ds : List RDecl) : (flatD ds).length = ds.length * 3 := by
  induction ds with
  | nil => rfl
  | cons d ds ih => unfold flatD at ih ⊢; rw [List.flatMap_cons, List.length_append, ih]; simp; omega
theorem flatD_at {ds : List RDecl} {i : Nat} (h : i < ds.length) : (flatD ds)[i * 3]? = some (.int .u8 ds[i].pr) ∧ (flatD ds)[i * 3 + 1]? = some (.string ds[i].val) ∧ (flatD ds)[i * 3 + 2]? = some (.bool ds[i].must) := by
  induction ds generalizing i with
  | nil => simp at h
  | cons d ds ih =>
    cases i with
    | zero => exact ⟨rfl, rfl, rfl⟩
    | succ i =>
      obtain ⟨h1, h2, h3⟩ := ih (i := i) (by simpa using h)
      have e : flatD (d :: ds) = .int .u8 d.pr :: .string d.val :: .bool d.must :: flatD ds := rfl
      rw [e, show (i + 1) * 3 = i * 3 + 3 from by omega]
      refine ⟨?_, ?_, ?_⟩
      · simpa using h1
      · rw [show i * 3 + 3 + 1 = i * 3 + 1 + 3 from by omega]; simpa using h2
      · rw [show i * 3 + 3 + 2 = i * 3 + 2 + 3 from by omega]; simpa using h3
/-- The declaration that a text holds from f on, up to e. -/
def declOf (t : ByteArray) (f e : Nat) : RDecl :=
  if bt (t.extract (f + 2) e) ((t.extract (f + 2) e).size - 1) = 33 then ⟨bt t f, (t.extract (f + 2) e).extract 0 ((t.extract (f + 2) e).size - 1), true⟩ else ⟨bt t f, t.extract (f + 2) e, false⟩
/-- From i to j the text holds these declarations. -/
def DeclsPre (t : ByteArray) : Nat → Nat → List RDecl → Prop
  | i, j, [] => i = j
  | i, j, d :: ds => i < t.size ∧ ∃ e, Unt t i 59 e ∧ d = declOf t i e ∧ DeclsPre t (e + 1) j ds
theorem DeclsPre.snoc {t : ByteArray} {j e : Nat} (h1 : j < t.size) (h2 : Unt t j 59 e) : ∀ {ds : List RDecl} {i : Nat}, DeclsPre t i j ds → DeclsPre t i (e + 1) (ds ++ [declOf t j e])
  | [], _, h => by simp only [DeclsPre] at h; subst h; exact ⟨h1, e, h2, rfl, rfl⟩
  | _ :: _, _, ⟨a, x, b, c, d⟩ => ⟨a, x, b, c, DeclsPre.snoc h1 h2 d⟩
/-- All declarations of a text. -/
def DeclsAll (t : ByteArray) (ds : List RDecl) : Prop := ∃ j, t.size ≤ j ∧ DeclsPre t 0 j ds

structure DRel (w : World) (t : ByteArray) (vo : Value) (f : Nat) (wr : World) (ds : List RDecl) : Prop where
  bel : Below w.heap.size w wr
  own : wr.ownsRow w.heap.size 229 3 vo ds.length (flatD ds)
  few : ds.length ≤ f
  pre : DeclsPre t 0 f ds
  hi : f ≤ t.size + 1
  beg : f < t.size → (f = 0 ∨ bt t (f - 1) = 59)

def DPost (w : World) (t : ByteArray) (e : Ending) (w' : World) : Prop := ∃ (a : Option Addr) (c : Nat) (ds : List RDecl), e = .returned (.slice a ds.length c) ∧ Below w.heap.size w w' ∧ w'.ownsRow w.heap.size 229 3 (.slice a ds.length c) ds.length (flatD ds) ∧ Hid (DeclsAll t ds)

theorem unt_three {t : ByteArray} {f r : Nat} (h : DOK t) (hf : f < t.size) (hb : f = 0 ∨ bt t (f - 1) = 59) (hu : Unt t f 59 r) : f + 2 < r ∧ r ≤ t.size := by
  obtain ⟨h1, h2, h3, h4⟩ := h f hf hb
  obtain ⟨u1, u2, u3, u4⟩ := hu
  refine ⟨?_, u2⟩
  apply Nat.lt_of_not_le
  intro hr
  have := u4 (by omega)
  have hc : r = f ∨ r = f + 1 ∨ r = f + 2 := by omega
  rcases hc with rfl | rfl | rfl
  · exact h2 this
  · exact h3 this
  · exact h4 this

theorem one3d (a : Int) (t : ByteArray) (b : Bool) : ∀ u ∈ [Value.int .u8 a, Value.string t, Value.bool b], u.oneCell' = true := by
  intro u hu
  simp only [List.mem_cons, List.not_mem_nil, or_false] at hu
  rcases hu with rfl | rfl | rfl <;> rfl

set_option maxRecDepth 100000 in
set_option maxHeartbeats 4000000 in
theorem decls_any (w : World) (t : ByteArray) (ht : t.size ≤ 400) (hD : DOK t) :
    Calls Tryz.prog 133 #[.string t] w fun e w' => DPost w t e w' := by
  have HD : Hid (DOK t) := hD
  clear hD
  obtain ⟨i0, hi, iz0, iz1, iz2⟩ := info_parts Tryz.info229
  go_enter Tryz.func133, Tryz.ntmps133
  go_wp2_with fail
  go_loopg [3, 4] (t.size + 1) (fun gk vo fv wr => ∃ (f : Nat) (ds : List RDecl), fv = .int .i64 f ∧ t.size + 1 - f ≤ gk ∧ DRel w t vo f wr ds)
  case atStart => exact ⟨0, [], rfl, by omega, Below.refl _ _, World.ownsRow_nil _ _ _ _, Nat.le_refl _, rfl, by omega, fun _ => Or.inl rfl⟩
  case round =>
    obtain ⟨f, ds, rfl, hgk, R⟩ := hrel
    have R_hi := R.hi
    have R_few := R.few
    obtain ⟨a, c, hv⟩ := own_shape R.own
    subst hv
    by_cases hlt : f < t.size
    · have hd : decide ((f : Int) < (t.size : Int)) = true := by simp; omega
      go_wp2_with fail
      refine (until_any _ t f 59 ht (by omega)).mono ?_
      rintro e w1 ⟨r, rfl, rfl, HU⟩
      obtain ⟨hr1, hr2⟩ := unt_three HD.out hlt (R.beg hlt) HU.out
      go_wp2
      go_region
      have hsz : 1 ≤ (t.extract (f + 2) r).size ∧ (t.extract (f + 2) r).size ≤ 400 := by rw [ByteArray.size_extract]; omega
      have HDO : Hid (declOf t f r = if bt (t.extract (f + 2) r) ((t.extract (f + 2) r).size - 1) = 33 then ⟨t[f].toNat, (t.extract (f + 2) r).extract 0 ((t.extract (f + 2) r).size - 1), true⟩ else ⟨t[f].toNat, t.extract (f + 2) r, false⟩) := by
        unfold Hid declOf
        rw [bt_at t f hlt]
      generalize t.extract (f + 2) r = u at hsz HDO ⊢
      generalize t[f].toNat = x at HDO ⊢
      obtain ⟨hsz1, hsz2⟩ := hsz
      have hul : u.size - 1 < u.size := by omega
      by_cases k1 : bt u (u.size - 1) = 33
      · have he : ((u[u.size - 1].toNat : Int) == 33) = true := by rw [← bt_at u _ hul, k1]; rfl
        have HD2 : Hid (declOf t f r = ⟨x, u.extract 0 (u.size - 1), true⟩) := by unfold Hid; rw [HDO.out, if_pos k1]
        clear k1
        go_wp2_with (at_builtin; refine wpList_append_own _ rfl (.tmp 40) (.tmp 42) 162 rfl w.heap.size 229 i0 (.agg #[.int .u8 0, .string ⟨#[]⟩, .bool false]) 3 32 Tryz.underlying162 hi iz0 iz1 iz2 rfl (by decide) _ _ _ rfl ((R.own.alloc _).alloc _).drew ⟨w1.heap.size + 1, 0, none⟩ 1 1 [.int .u8 x, .string (u.extract 0 (u.size - 1)), .bool true] rfl rfl ?c1a ?c2a ?c3a ?c4a ?c5a ?_)
        case c1a => exact new_cells (w1.alloc _) _ (by simp) _ _ _ rfl
        case c2a => exact one3d _ _ _
        case c3a => unfold maxLen; omega
        case c4a => omega
        case c5a => have := R.bel.size; simp; omega
        · intro v' w3 hown3 hg3 _
          have R3 : DRel w t v' (r + 1) w3 (ds ++ [declOf t f r]) := by
            refine ⟨?_, by rw [flatD_snoc, HD2.out]; simpa using hown3, by simp; omega, R.pre.snoc hlt HU.out, by omega, fun h => Or.inr ?_⟩
            · refine Below.grown (Below.drew ((R.bel.alloc R.bel.size _).alloc (by have := R.bel.size; simp; omega) _)) hg3 (by have := R.bel.size; simp; omega) (fun k hk => (R.own.lt k hk).1)
            · have := HU.out.2.2.2 (by omega); simpa using this
          clear hown3 hg3 R
          go_wp2
          go_roundg (t.size + 1 - (r + 1))
          case measure => omega
          case rel => exact ⟨r + 1, _, by go_num, Nat.le_refl _, R3⟩
      · have he : ((u[u.size - 1].toNat : Int) == 33) = false := by rw [← bt_at u _ hul]; simp; omega
        have HD2 : Hid (declOf t f r = ⟨x, u, false⟩) := by unfold Hid; rw [HDO.out, if_neg k1]
        clear k1
        go_wp2_with (at_builtin; refine wpList_append_own _ rfl (.tmp 40) (.tmp 42) 162 rfl w.heap.size 229 i0 (.agg #[.int .u8 0, .string ⟨#[]⟩, .bool false]) 3 32 Tryz.underlying162 hi iz0 iz1 iz2 rfl (by decide) _ _ _ rfl ((R.own.alloc _).alloc _).drew ⟨w1.heap.size + 1, 0, none⟩ 1 1 [.int .u8 x, .string u, .bool false] rfl rfl ?c1b ?c2b ?c3b ?c4b ?c5b ?_)
        case c1b => exact new_cells (w1.alloc _) _ (by simp) _ _ _ rfl
        case c2b => exact one3d _ _ _
        case c3b => unfold maxLen; omega
        case c4b => omega
        case c5b => have := R.bel.size; simp; omega
        · intro v' w3 hown3 hg3 _
          have R3 : DRel w t v' (r + 1) w3 (ds ++ [declOf t f r]) := by
            refine ⟨?_, by rw [flatD_snoc, HD2.out]; simpa using hown3, by simp; omega, R.pre.snoc hlt HU.out, by omega, fun h => Or.inr ?_⟩
            · refine Below.grown (Below.drew ((R.bel.alloc R.bel.size _).alloc (by have := R.bel.size; simp; omega) _)) hg3 (by have := R.bel.size; simp; omega) (fun k hk => (R.own.lt k hk).1)
            · have := HU.out.2.2.2 (by omega); simpa using this
          clear hown3 hg3 R
          go_wp2
          go_roundg (t.size + 1 - (r + 1))
          case measure => omega
          case rel => exact ⟨r + 1, _, by go_num, Nat.le_refl _, R3⟩
    · have R2 := R
      have hd : decide ((f : Int) < (t.size : Int)) = false := by simp; omega
      clear R
      go_wp2
      go_ret
      exact ⟨a, c, ds, rfl, R2.bel, R2.own, f, by omega, R2.pre⟩

end Go.Proofs.YtblfffbmklkhmaaGreat
