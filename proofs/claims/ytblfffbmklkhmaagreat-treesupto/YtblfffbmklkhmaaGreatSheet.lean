/- The sheet. Own work. -/
import Derived.Test.YtblfffbmklkhmaaGreatRule
namespace Go.Proofs.YtblfffbmklkhmaaGreat
open Go.RowKit

/-- The cells hold rules with these selectors. -/
def Ruls (w : World) (base : Nat) : List Value → List PRu → Prop
  | xs, [] => xs = []
  | xs, r :: rs => ∃ (a : Option Addr) (c : Nat) (a' : Option Addr) (c' : Nat) (ps qs ys : List Value), xs = .int .i64 r.ly :: .slice a r.ss.length c :: .slice a' r.ds.length c' :: ys ∧ w.ownsRow base 141 1 (.slice a r.ss.length c) r.ss.length ps ∧ Sels w base ps r.ss ∧ (w.ownsRow base 253 5 (.slice a' r.ds.length c') r.ds.length qs ∧ Decs qs r.ds) ∧ Ruls w base ys rs

theorem Ruls.keep {w w' : World} {base : Nat} (hk : ∀ e, e ≠ 138 → Keeps w w' base e) : ∀ {xs : List Value} {rs : List PRu}, Ruls w base xs rs → Ruls w' base xs rs
  | _, [], h => h
  | _, _ :: _, ⟨a, c, a', c', ps, qs, ys, h1, h2, h3, h5, h4⟩ => ⟨a, c, a', c', ps, qs, ys, h1, (hk _ (by decide)).owns h2, h3.keep (hk _ (by decide)) (hk _ (by decide)), ⟨(hk _ (by decide)).owns h5.1, h5.2⟩, Ruls.keep hk h4⟩
theorem Ruls.mono {w : World} {base base' : Nat} (hb : base' ≤ base) : ∀ {xs : List Value} {rs : List PRu}, Ruls w base xs rs → Ruls w base' xs rs
  | _, [], h => h
  | _, _ :: _, ⟨a, c, a', c', ps, qs, ys, h1, h2, h3, h5, h4⟩ => ⟨a, c, a', c', ps, qs, ys, h1, own_mono h2 hb, h3.mono hb, ⟨own_mono h5.1 hb, h5.2⟩, Ruls.mono hb h4⟩
theorem Ruls.snoc {w : World} {base : Nat} (lv : Int) (a : Option Addr) (c : Nat) (a' : Option Addr) (c' : Nat) (ss : List (List PCp)) (ds : List PDc) (ps qs : List Value) (ho : w.ownsRow base 141 1 (.slice a ss.length c) ss.length ps) (hk : Sels w base ps ss) (hd : w.ownsRow base 253 5 (.slice a' ds.length c') ds.length qs ∧ Decs qs ds) :
    ∀ {xs : List Value} {rs : List PRu}, Ruls w base xs rs → Ruls w base (xs ++ [.int .i64 lv, .slice a ss.length c, .slice a' ds.length c']) (rs ++ [⟨lv, ss, ds⟩])
  | _, [], h => by simp only [Ruls] at h; subst h; exact ⟨a, c, a', c', ps, qs, [], rfl, ho, hk, hd, rfl⟩
  | _, _ :: _, ⟨a1, c1, a2, c2, ps', qs', ys, h1, h2, h3, h5, h4⟩ => ⟨a1, c1, a2, c2, ps', qs', _, by rw [h1]; rfl, h2, h3, h5, Ruls.snoc lv a c a' c' ss ds ps qs ho hk hd h4⟩

/-- From i to j there are rules with these selectors. -/
def RulsAt (s : ByteArray) : Nat → Nat → List PRu → Prop
  | i, j, [] => i = j
  | i, j, ss :: rs => ∃ l, RuleAt s i l ss ∧ i < l ∧ RulsAt s l j rs
theorem RulsAt.snoc {s : ByteArray} {i j l : Nat} {rs : List PRu} {ss : PRu} (h : RulsAt s i j rs) (hc : RuleAt s j l ss) (hl : j < l) : RulsAt s i l (rs ++ [ss]) := by
  induction rs generalizing i with
  | nil => simp only [RulsAt] at h; subst h; exact ⟨l, hc, hl, rfl⟩
  | cons x rs ih =>
    obtain ⟨l', h1, h2, h3⟩ := h
    exact ⟨l', h1, h2, ih h3⟩

structure SheetRel (w : World) (b : Nat) (s : ByteArray) (gk : Nat) (v : Value) (wr : World) (j : Nat) (mP : Int) (rs : List PRu) (xs : List Value) : Prop where
  at' : At (w.alloc (.cells #[.slice none 0 0] 82)) wr b s j mP
  own : wr.ownsRow (w.heap.size + 1) 138 3 v rs.length xs
  ruls : Ruls wr (w.heap.size + 1) xs rs
  few : rs.length ≤ j
  gk : s.size - j ≤ gk
  text : RulsAt s 0 j rs
  run : ∃ nc, V s 0 ⟨0, 0, -1⟩ 0 = V s 0 ⟨rs.length, nc, mP⟩ j

def SheetPost (w : World) (b : Nat) (s : ByteArray) (e : Ending) (w' : World) : Prop :=
  (∃ (a : Option Addr) (c : Nat) (rs : List PRu) (xs : List Value) (m' : Int), e = .returned (.tuple #[.agg #[.slice a rs.length c], .bool true]) ∧ At w w' b s s.size m' ∧ w'.ownsRow w.heap.size 138 3 (.slice a rs.length c) rs.length xs ∧ Ruls w' w.heap.size xs rs ∧
    Hid (RulsAt s 0 s.size rs ∧ V s 0 ⟨0, 0, -1⟩ 0 = (-1, m'))) ∨
  (∃ (j : Nat) (m' : Int), e = .returned (.tuple #[.agg #[.slice none 0 0], .bool false]) ∧ At w w' b s j m' ∧ Hid (V s 0 ⟨0, 0, -1⟩ 0 = ((j : Int), -1)))

theorem one3r (a : Int) (b : Option Addr) (n k : Nat) (b' : Option Addr) (n' k' : Nat) : ∀ u ∈ [Value.int .i64 a, Value.slice b n k, Value.slice b' n' k'], u.oneCell' = true := by
  intro u hu
  simp only [List.mem_cons, List.not_mem_nil, or_false] at hu
  rcases hu with rfl | rfl | rfl <;> rfl

theorem keeps_drewN (w : World) (n base : Nat) (e : TypeId) : Keeps w (w.drewN n) base e := fun _ _ _ hh => hh
theorem own_drewN {w : World} {base : Nat} {e : TypeId} {size : Nat} {v : Value} {n : Nat} {xs : List Value} (h : w.ownsRow base e size v n xs) (k : Nat) : (w.drewN k).ownsRow base e size v n xs := (keeps_drewN w k base e).owns h

set_option maxHeartbeats 4000000 in
theorem sheet_any (w : World) (b : Nat) (s : ByteArray) (h : Rd w b s 0 (-1)) :
    Calls Tryz.prog 77 #[.pointer (some ⟨b, 0, none⟩)] w fun e w' => SheetPost w b s e w' := by
  have hb := h.lt
  have htop := h.top
  obtain ⟨i0, hi, iz0, iz1, iz2⟩ := info_parts Tryz.info138
  go_enter Tryz.func77, Tryz.ntmps77
  go_wp2_with fail
  go_loopg [4] (s.size) (fun gk v wr => ∃ (j : Nat) (mP : Int) (rs : List PRu) (xs : List Value), SheetRel w b s gk v wr j mP rs xs)
  case atStart => exact ⟨0, -1, [], [], h.allocAt _, World.ownsRow_nil _ _ _ _, rfl, by simp, by omega, rfl, 0, rfl⟩
  case round =>
    obtain ⟨j, mP, rs, xs, R⟩ := hrel
    have hle := R.at'.rd.le
    obtain ⟨a, c, hv⟩ := own_shape R.own
    subst hv
    go_wp2_with fail
    refine (ended_any _ b s j mP (by exact R.at'.rd)).mono ?_
    rintro e w0 ⟨rfl, n0, rfl⟩
    by_cases hend : s.size ≤ j
    · obtain rfl : j = s.size := by omega
      have R2 := R
      have hz1 : w.heap.size < wr.heap.size := by have := R.at'.size; simp only [World.size_alloc] at this; omega
      obtain ⟨hc, hz⟩ := R.at'.cells w.heap.size (by simp) (by omega)
      clear R
      go_wp2
      refine bodyPost_ret (v := .tuple #[.agg #[.slice a rs.length c], .bool true]) (by simp [results, Tryz.results77, go_sem, hc]) rfl (Or.inl ⟨a, c, rs, xs, mP, rfl, ?_, ?_, ?_, ?_⟩)
      · exact (R2.at'.ofAlloc.drewN n0).setNew hb (Nat.le_refl _) _
      · exact own_mono (ownsRow_setCell_below (own_drewN R2.own n0) (by simp) _) (by omega)
      · exact (R2.ruls.keep (fun e _ => (keeps_drewN wr n0 _ _).trans (keeps_set _ (by simp) _ _))).mono (by omega)
      · obtain ⟨nc, r1⟩ := R2.run
        exact ⟨R2.text, by rw [r1, V_end (Nat.le_refl _)]; simp⟩
    · have hd : decide (s.size ≤ j) = false := by simpa using hend
      have hlt : j < s.size := by omega
      by_cases h4 : rs.length = 20
      · have g4 : ((rs.length : Int) == 20) = true := by simp [h4]
        have H4 : Hid (rs.length = 20) := h4
        clear h4
        go_wp2_with fail
        refine (noteMany_any _ b s j mP (by exact R.at'.rd.drewN _)).mono ?_
        rintro e w1 ⟨rfl, haN'⟩
        have haN : At wr w1 b s j (note mP j) := (R.at'.rd.at0.drewN n0).trans haN'
        have hM : Hid (∀ nc, V s 0 ⟨rs.length, nc, mP⟩ j = V s 18 ⟨rs.length + 1, 1, note mP j⟩ j) := fun nc => by rw [V_rule hlt]; simp [noteIf, H4.out]
        generalize note mP j = M at haN haN' hM
        go_wp2_with fail
        refine (rule_any _ b s j M (by exact haN.rd)).mono ?_
        rintro e w2 (⟨lv, a2, c2, ss, ps, a3, c3, ds, qs, l, M2, rfl, ha2, ho2, hs2, hd2, hf2⟩ | ⟨l, M2, rfl, ha2, hf2⟩)
        · have ha3 := (R.at'.trans haN).trans ha2
          have hz1 := (R.at'.trans haN).size
          simp only [World.size_alloc] at hz1
          have hz2 : w.heap.size < w2.heap.size := by have := ha3.size; simp only [World.size_alloc] at this; omega
          have own2 := (haN.trans ha2).owns R.own (by omega)
          have hlen := R.few
          go_wp2_with (at_builtin; refine wpList_append_own _ rfl (.tmp 23) (.tmp 25) 80 rfl (w.heap.size + 1) 138 i0 (.agg #[.int .i64 0, .slice none 0 0, .slice none 0 0]) 3 56 Tryz.underlying80 hi iz0 iz1 iz2 rfl (by decide) _ _ _ rfl ((own2.alloc _).alloc _) ⟨w2.heap.size + 1, 0, none⟩ 1 1 [.int .i64 lv, .slice a2 ss.length c2, .slice a3 ds.length c3] rfl rfl ?c1x ?c2x ?c3x ?c4x ?c5x ?_)
          case c1x => exact new_cells (w2.alloc _) _ (by simp) _ _ _ rfl
          case c2x => exact one3r _ _ _ _ _ _ _
          case c3x => unfold maxLen; omega
          case c4x => omega
          case c5x => simp; omega
          · intro v' w3 hown3 hg3 _
            have own3 : w3.ownsRow (w.heap.size + 1) 138 3 v' (rs ++ [(⟨lv, ss, ds⟩ : PRu)]).length (xs ++ [.int .i64 lv, .slice a2 ss.length c2, .slice a3 ds.length c3]) := by simpa using hown3
            have hk2 : ∀ e, Keeps wr w2 (w.heap.size + 1) e := fun e => keeps_at (haN.trans ha2) (by omega) _
            have hk3 : ∀ e, e ≠ 138 → Keeps w2 w3 (w.heap.size + 1) e := fun e he => ((keeps_alloc _ _ _ _).trans (keeps_alloc _ _ _ _)).trans (keeps_app he ((own2.alloc _).alloc _) hg3)
            have ruls3 : Ruls w3 (w.heap.size + 1) (xs ++ [.int .i64 lv, .slice a2 ss.length c2, .slice a3 ds.length c3]) (rs ++ [⟨lv, ss, ds⟩]) :=
              Ruls.snoc lv a2 c2 a3 c3 ss ds ps qs ((hk3 141 (by decide)).owns (own_mono ho2 hz1)) ((hs2.mono hz1).keep (hk3 _ (by decide)) (hk3 _ (by decide))) ⟨(hk3 253 (by decide)).owns (own_mono hd2 hz1), hf2.out.1⟩ (R.ruls.keep (fun e he => (hk2 e).trans (hk3 e he)))
            have at3 : At (w.alloc (.cells #[.slice none 0 0] 82)) w3 b s l M2 := ((ha3.alloc _).alloc _).app (by simp; omega) (by simpa using ((own2.alloc _).alloc _)) hg3
            obtain ⟨q0, q1, q2, nc', q3⟩ := hf2.out
            obtain ⟨nc, r1⟩ := R.run
            have R3 : SheetRel w b s (s.size - l) v' w3 l M2 (rs ++ [⟨lv, ss, ds⟩]) (xs ++ [.int .i64 lv, .slice a2 ss.length c2, .slice a3 ds.length c3]) := by
              refine ⟨at3, own3, ruls3, by simp; omega, Nat.le_refl _, R.text.snoc q1 q2, nc', ?_⟩
              rw [r1, hM.out nc, q3]
              simp
            have hgk := R.gk
            have hls := at3.rd.le
            clear hown3 hg3 own2 R hk2 hk3 q0 q1 q3 hf2 r1 own3 ruls3
            go_wp2
            go_roundg (s.size - l)
            case measure => omega
            case rel => exact ⟨l, M2, _, _, R3⟩
        · have ha3 := (R.at'.trans haN).trans ha2
          have hz2 : w.heap.size < w2.heap.size := by have := ha3.size; simp only [World.size_alloc] at this; omega
          obtain ⟨hc, hz⟩ := ha3.cells w.heap.size (by simp) (by omega)
          obtain ⟨nc, r1⟩ := R.run
          have HR : Hid (V s 0 ⟨0, 0, -1⟩ 0 = ((l : Int), -1)) := by unfold Hid; rw [r1, hM.out nc, hf2.out]
          clear r1
          go_wp2_with fail
          exact bodyPost_ret (v := .tuple #[.agg #[.slice none 0 0], .bool false]) (by simp [results, Tryz.results77, go_sem, hc, hz2]) rfl (Or.inr ⟨l, M2, rfl, (ha3.ofAlloc.setNew hb (Nat.le_refl _) _).alloc _, HR.out⟩)
      · have g4 : ((rs.length : Int) == 20) = false := by simp; omega
        obtain ⟨M, haN, hM⟩ : ∃ M, At wr (wr.drewN n0) b s j M ∧ Hid (∀ nc, V s 0 ⟨rs.length, nc, mP⟩ j = V s 18 ⟨rs.length + 1, 1, M⟩ j) := ⟨mP, R.at'.rd.at0.drewN n0, fun nc => by rw [V_rule hlt]; simp [noteIf, h4]⟩
        clear h4
        go_wp2_with fail
        refine (rule_any _ b s j M (by exact haN.rd)).mono ?_
        rintro e w2 (⟨lv, a2, c2, ss, ps, a3, c3, ds, qs, l, M2, rfl, ha2, ho2, hs2, hd2, hf2⟩ | ⟨l, M2, rfl, ha2, hf2⟩)
        · have ha3 := (R.at'.trans haN).trans ha2
          have hz1 := (R.at'.trans haN).size
          simp only [World.size_alloc] at hz1
          have hz2 : w.heap.size < w2.heap.size := by have := ha3.size; simp only [World.size_alloc] at this; omega
          have own2 := (haN.trans ha2).owns R.own (by omega)
          have hlen := R.few
          go_wp2_with (at_builtin; refine wpList_append_own _ rfl (.tmp 23) (.tmp 25) 80 rfl (w.heap.size + 1) 138 i0 (.agg #[.int .i64 0, .slice none 0 0, .slice none 0 0]) 3 56 Tryz.underlying80 hi iz0 iz1 iz2 rfl (by decide) _ _ _ rfl ((own2.alloc _).alloc _) ⟨w2.heap.size + 1, 0, none⟩ 1 1 [.int .i64 lv, .slice a2 ss.length c2, .slice a3 ds.length c3] rfl rfl ?c1y ?c2y ?c3y ?c4y ?c5y ?_)
          case c1y => exact new_cells (w2.alloc _) _ (by simp) _ _ _ rfl
          case c2y => exact one3r _ _ _ _ _ _ _
          case c3y => unfold maxLen; omega
          case c4y => omega
          case c5y => simp; omega
          · intro v' w3 hown3 hg3 _
            have own3 : w3.ownsRow (w.heap.size + 1) 138 3 v' (rs ++ [(⟨lv, ss, ds⟩ : PRu)]).length (xs ++ [.int .i64 lv, .slice a2 ss.length c2, .slice a3 ds.length c3]) := by simpa using hown3
            have hk2 : ∀ e, Keeps wr w2 (w.heap.size + 1) e := fun e => keeps_at (haN.trans ha2) (by omega) _
            have hk3 : ∀ e, e ≠ 138 → Keeps w2 w3 (w.heap.size + 1) e := fun e he => ((keeps_alloc _ _ _ _).trans (keeps_alloc _ _ _ _)).trans (keeps_app he ((own2.alloc _).alloc _) hg3)
            have ruls3 : Ruls w3 (w.heap.size + 1) (xs ++ [.int .i64 lv, .slice a2 ss.length c2, .slice a3 ds.length c3]) (rs ++ [⟨lv, ss, ds⟩]) :=
              Ruls.snoc lv a2 c2 a3 c3 ss ds ps qs ((hk3 141 (by decide)).owns (own_mono ho2 hz1)) ((hs2.mono hz1).keep (hk3 _ (by decide)) (hk3 _ (by decide))) ⟨(hk3 253 (by decide)).owns (own_mono hd2 hz1), hf2.out.1⟩ (R.ruls.keep (fun e he => (hk2 e).trans (hk3 e he)))
            have at3 : At (w.alloc (.cells #[.slice none 0 0] 82)) w3 b s l M2 := ((ha3.alloc _).alloc _).app (by simp; omega) (by simpa using ((own2.alloc _).alloc _)) hg3
            obtain ⟨q0, q1, q2, nc', q3⟩ := hf2.out
            obtain ⟨nc, r1⟩ := R.run
            have R3 : SheetRel w b s (s.size - l) v' w3 l M2 (rs ++ [⟨lv, ss, ds⟩]) (xs ++ [.int .i64 lv, .slice a2 ss.length c2, .slice a3 ds.length c3]) := by
              refine ⟨at3, own3, ruls3, by simp; omega, Nat.le_refl _, R.text.snoc q1 q2, nc', ?_⟩
              rw [r1, hM.out nc, q3]
              simp
            have hgk := R.gk
            have hls := at3.rd.le
            clear hown3 hg3 own2 R hk2 hk3 q0 q1 q3 hf2 r1 own3 ruls3
            go_wp2
            go_roundg (s.size - l)
            case measure => omega
            case rel => exact ⟨l, M2, _, _, R3⟩
        · have ha3 := (R.at'.trans haN).trans ha2
          have hz2 : w.heap.size < w2.heap.size := by have := ha3.size; simp only [World.size_alloc] at this; omega
          obtain ⟨hc, hz⟩ := ha3.cells w.heap.size (by simp) (by omega)
          obtain ⟨nc, r1⟩ := R.run
          have HR : Hid (V s 0 ⟨0, 0, -1⟩ 0 = ((l : Int), -1)) := by unfold Hid; rw [r1, hM.out nc, hf2.out]
          clear r1
          go_wp2_with fail
          exact bodyPost_ret (v := .tuple #[.agg #[.slice none 0 0], .bool false]) (by simp [results, Tryz.results77, go_sem, hc, hz2]) rfl (Or.inr ⟨l, M2, rfl, (ha3.ofAlloc.setNew hb (Nat.le_refl _) _).alloc _, HR.out⟩)

end Go.Proofs.YtblfffbmklkhmaaGreat
