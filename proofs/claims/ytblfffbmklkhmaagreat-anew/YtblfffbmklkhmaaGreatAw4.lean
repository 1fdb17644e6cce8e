/- Own work. -/
import Derived.Test.YtblfffbmklkhmaaGreatAw3
namespace Go.Proofs.YtblfffbmklkhmaaGreat
open Go.RowKit
theorem Tryz.info190 : (Tryz.prog.info? 190).map (fun i => (i.zero, i.size, i.bytes)) = some (some (.agg #[.int .u8 0, .int .u8 0, .slice none 0 0]), 3, 32) := by kernel_rfl
/-- The rows of one element type, from base on, are as they were. -/
def Keeps (w w' : World) (base : Nat) (e : TypeId) : Prop := ∀ g cur, base ≤ g → w.heap[g]? = some (.cells cur e (0, 0)) → w'.heap[g]? = some (.cells cur e (0, 0))
theorem Keeps.trans {a b c : World} {base : Nat} {e : TypeId} (h : Keeps a b base e) (k : Keeps b c base e) : Keeps a c base e := fun g cur hg hh => k g cur hg (h g cur hg hh)
theorem keeps_at {w w1 : World} {b : Nat} {s : ByteArray} {j : Nat} {m : Int} (h : At w w1 b s j m) {base : Nat} (hb : b < base) (e : TypeId) : Keeps w w1 base e := fun g cur hg hh =>
  (h.gb.block g (Array.getElem?_eq_some_iff.1 hh).1 (fun e => by injection e with e; omega)).trans hh
theorem keeps_alloc (w : World) (o : Obj) (base : Nat) (e : TypeId) : Keeps w (w.alloc o) base e := fun g _ _ hh => (Below.heap_alloc w o g (Array.getElem?_eq_some_iff.1 hh).1).trans hh
theorem keeps_set (w : World) {base : Nat} {p : Addr} (hp : p.block < base) (u : Value) (e : TypeId) : Keeps w (w.setCell p u) base e := fun g _ hg hh => (Below.heap_setCell w p u g (by omega)).trans hh
theorem keeps_app {w w' : World} {base base' : Nat} {e e' : TypeId} (hne : e ≠ e') {size : Nat} {v : Value} {n : Nat} {xs : List Value} (ho : w.ownsRow base' e' size v n xs) (hg : w.grownBy w' v.ownBlock) : Keeps w w' base e := by
  intro g cur _ hh
  refine (hg.block g (Array.getElem?_eq_some_iff.1 hh).1 ?_).trans hh
  intro eq
  rcases ho.2 with ⟨rfl, _⟩ | ⟨g', cap, cur', rfl, _, hgg, _⟩
  · simp [Value.ownBlock] at eq
  · simp [Value.ownBlock] at eq
    subst eq
    rw [hh] at hgg
    injection hgg with hgg
    injection hgg with _ h2 _
    exact hne h2
theorem Keeps.owns {w w' : World} {base : Nat} {e : TypeId} (hk : Keeps w w' base e) {size : Nat} {v : Value} {n : Nat} {xs : List Value} (h : w.ownsRow base e size v n xs) : w'.ownsRow base e size v n xs := by
  refine ⟨h.1, ?_⟩
  rcases h.2 with hn | ⟨g, cap, cur, hv, hg, hh, rest⟩
  · exact Or.inl hn
  · exact Or.inr ⟨g, cap, cur, hv, hg, hk g cur hg hh, rest⟩
/-- A compound, as the program keeps it. -/
structure PCp where
  sg : Int
  ty : Nat
  ps : List PPt
/-- The sign ahead of the compound at a place, in the selector that begins at i0. -/
def sgOf (s : ByteArray) (i0 i : Nat) : Int := if i = i0 then 0 else (bt s (i - 1) : Int)
theorem sgOf_self (s : ByteArray) (i : Nat) : sgOf s i i = 0 := if_pos rfl
theorem sgOf_next (s : ByteArray) {i l : Nat} (h : i < l + 1) : sgOf s i (l + 1) = bt s l := by
  unfold sgOf
  rw [if_neg (by omega), Nat.add_sub_cancel]
/-- The cells hold these compounds. -/
def Comps (w : World) (base : Nat) : List Value → List PCp → Prop
  | xs, [] => xs = []
  | xs, x :: cs => ∃ (a : Option Addr) (c : Nat) (ps ys : List Value), xs = .int .u8 x.sg :: .int .u8 x.ty :: .slice a x.ps.length c :: ys ∧ w.ownsRow base 192 5 (.slice a x.ps.length c) x.ps.length ps ∧ Kinds ps x.ps ∧ Comps w base ys cs
theorem Comps.keep {w w' : World} {base : Nat} (hk : Keeps w w' base 192) : ∀ {xs : List Value} {cs : List PCp}, Comps w base xs cs → Comps w' base xs cs
  | _, [], h => h
  | _, _ :: _, ⟨a, c, ps, ys, h1, h2, h3, h4⟩ => ⟨a, c, ps, ys, h1, hk.owns h2, h3, Comps.keep hk h4⟩
theorem Comps.mono {w : World} {base base' : Nat} (hb : base' ≤ base) : ∀ {xs : List Value} {cs : List PCp}, Comps w base xs cs → Comps w base' xs cs
  | _, [], h => h
  | _, _ :: _, ⟨a, c, ps, ys, h1, h2, h3, h4⟩ => ⟨a, c, ps, ys, h1, own_mono h2 hb, h3, Comps.mono hb h4⟩
theorem Comps.snoc {w : World} {base : Nat} (sg : Int) (ty : Nat) (a : Option Addr) (c : Nat) (ks : List PPt) (ps : List Value) (ho : w.ownsRow base 192 5 (.slice a ks.length c) ks.length ps) (hk : Kinds ps ks) :
    ∀ {xs : List Value} {cs : List PCp}, Comps w base xs cs → Comps w base (xs ++ [.int .u8 sg, .int .u8 ty, .slice a ks.length c]) (cs ++ [⟨sg, ty, ks⟩])
  | _, [], h => by simp only [Comps] at h; subst h; exact ⟨a, c, ps, [], rfl, ho, hk, rfl⟩
  | _, _ :: _, ⟨a', c', ps', ys, h1, h2, h3, h4⟩ => ⟨a', c', ps', _, by rw [h1]; rfl, h2, h3, Comps.snoc sg ty a c ks ps ho hk h4⟩
/-- From i to j there are compounds, each with a sign behind it. -/
def SelPre (s : ByteArray) (i0 : Nat) : Nat → Nat → List PCp → Prop
  | i, j, [] => i = j
  | i, j, x :: cs => ∃ l, CompAt s i l x.ty x.ps ∧ i < l ∧ isA (bt s l) = false ∧ isS (bt s l) = true ∧ SelPre s i0 (l + 1) j cs ∧ x.sg = sgOf s i0 i
theorem SelPre.snoc {s : ByteArray} {i0 i j l : Nat} {cs : List PCp} {sg : Int} {ty : Nat} {ks : List PPt} (h : SelPre s i0 i j cs) (hg : sg = sgOf s i0 j) (hc : CompAt s j l ty ks) (hl : j < l) (hA : isA (bt s l) = false) (hs : isS (bt s l) = true) : SelPre s i0 i (l + 1) (cs ++ [⟨sg, ty, ks⟩]) := by
  induction cs generalizing i with
  | nil => simp only [SelPre] at h; subst h; exact ⟨l, hc, hl, hA, hs, rfl, hg⟩
  | cons x cs ih =>
    obtain ⟨l', h1, h2, h3, h4, h5, h6⟩ := h
    exact ⟨l', h1, h2, h3, h4, ih h5, h6⟩
def SelAt (s : ByteArray) (i j : Nat) (cs : List PCp) : Prop :=
  ∃ pre l ty ks, cs = pre ++ [⟨sgOf s i l, ty, ks⟩] ∧ SelPre s i i l pre ∧ CompAt s l j ty ks ∧ l < j ∧ isA (bt s j) = false ∧ isS (bt s j) = false
structure SelRel (w : World) (b : Nat) (s : ByteArray) (i : Nat) (m : Int) (gk : Nat) (v : Value) (more : Bool) (wr : World) (j : Nat) (mP : Int) (cs : List PCp) (xs : List Value) : Prop where
  at' : At (w.alloc (.cells #[.slice none 0 0] 141)) wr b s j mP
  own : wr.ownsRow (w.heap.size + 1) 190 3 v cs.length xs
  comps : Comps wr (w.heap.size + 1) xs cs
  le : i ≤ j
  few : cs.length ≤ j - i
  gk : more = true → s.size - j < gk
  go : more = true → SelPre s i i j cs ∧ ∀ nr, V s 2 ⟨nr, 1, m⟩ i = V s 2 ⟨nr, cs.length + 1, noteIf (decide (cs.length = 4)) mP j⟩ j
  done : more = false → SelAt s i j cs ∧ ∀ nr, V s 2 ⟨nr, 1, m⟩ i = V s 3 ⟨nr, cs.length, mP⟩ j
def SelPost (w : World) (b : Nat) (s : ByteArray) (i : Nat) (m : Int) (e : Ending) (w' : World) : Prop :=
  (∃ (a : Option Addr) (c : Nat) (cs : List PCp) (xs : List Value) (j : Nat) (m' : Int), e = .returned (.tuple #[.agg #[.slice a cs.length c], .bool true]) ∧ At w w' b s j m' ∧ w'.ownsRow w.heap.size 190 3 (.slice a cs.length c) cs.length xs ∧ Comps w' w.heap.size xs cs ∧
    Hid (SelAt s i j cs ∧ i < j ∧ ∀ nr, V s 2 ⟨nr, 1, m⟩ i = V s 3 ⟨nr, cs.length, m'⟩ j)) ∨
  (∃ j m', e = .returned (.tuple #[.agg #[.slice none 0 0], .bool false]) ∧ At w w' b s j m' ∧ Hid (∀ nr, V s 2 ⟨nr, 1, m⟩ i = ((j : Int), -1)))
theorem one3 (a b : Int) (c : Option Addr) (n k : Nat) : ∀ u ∈ [Value.int .u8 a, Value.int .u8 b, Value.slice c n k], u.oneCell' = true := by
  intro u hu
  simp only [List.mem_cons, List.not_mem_nil, or_false] at hu
  rcases hu with rfl | rfl | rfl <;> rfl
theorem selpre_le {s : ByteArray} : ∀ {cs : List PCp} {i0 i j : Nat}, SelPre s i0 i j cs → i ≤ j
  | [], _, _, _, h => by simp only [SelPre] at h; omega
  | _ :: _, _, _, _, ⟨_, _, h2, _, _, h5, _⟩ => by have := selpre_le h5; omega
theorem sign_go {s : ByteArray} {i nr nc : Nat} {m : Int} (h : isS (bt s i) = true ∧ i < s.size) : V s 3 ⟨nr, nc, m⟩ i = V s 2 ⟨nr, nc + 1, noteIf (decide (nc = 4)) m (i + 1)⟩ (i + 1) := by
  have h33 : bt s i ≠ 33 := by have := h.1; simp only [isS, decide_eq_true_eq] at this; omega
  rw [V_go h.2 (m' := 2) (by simp [nxt, moreN, h.1, h33]) (by decide)]
  simp [cnt, h.1]
theorem Rd.allocAt {w : World} {b : Nat} {s : ByteArray} {j : Nat} {m : Int} (h : Rd w b s j m) (o : Obj) : At (w.alloc o) (w.alloc o) b s j m := (h.alloc o).at0
set_option maxHeartbeats 4000000 in
theorem selector_any (w : World) (b : Nat) (s : ByteArray) (i : Nat) (m : Int) (h : Rd w b s i m) :
    Calls Tryz.prog 179 #[.pointer (some ⟨b, 0, none⟩)] w fun e w' => SelPost w b s i m e w' := by
  have hb := h.lt
  have htop := h.top
  obtain ⟨i0, hi, iz0, iz1, iz2⟩ := info_parts Tryz.info190
  go_enter Tryz.func179, Tryz.ntmps179
  go_wp2_with fail
  go_loopg [4, 5, 6] (s.size - i + 1) (fun gk v sgv mv wr => ∃ (j : Nat) (mP : Int) (cs : List PCp) (xs : List Value) (sg : Int) (more : Bool), sgv = .int .u8 sg ∧ mv = .bool more ∧ SelRel w b s i m gk v more wr j mP cs xs ∧ Hid (more = true → sg = sgOf s i j))
  case atStart =>
    refine ⟨i, m, [], [], 0, true, rfl, rfl, ⟨h.allocAt _, World.ownsRow_nil _ _ _ _, rfl, Nat.le_refl _, by simp, fun _ => by omega, fun _ => ⟨rfl, fun nr => ?_⟩, fun e => by cases e⟩, fun _ => (sgOf_self s i).symm⟩
    simp [noteIf]
  case round =>
    obtain ⟨j, mP, cs, xs, sg, more, rfl, rfl, R, HSG⟩ := hrel
    have hle := R.at'.rd.le
    obtain ⟨a, c, hv⟩ := own_shape R.own
    subst hv
    cases more
    · have R2 := R
      have hz1 : w.heap.size < wr.heap.size := by have := R.at'.size; simp only [World.size_alloc] at this; omega
      obtain ⟨hc, hz⟩ := R.at'.cells w.heap.size (by simp) (by omega)
      clear R
      go_wp2
      refine bodyPost_ret (v := .tuple #[.agg #[.slice a cs.length c], .bool true]) (by simp [results, Tryz.results179, go_sem, hc]) rfl (Or.inl ⟨a, c, cs, xs, j, mP, rfl, R2.at'.ofAlloc.setNew hb (Nat.le_refl _) _, own_mono (ownsRow_setCell_below R2.own (by simp) _) (by omega), (R2.comps.keep (keeps_set _ (by simp) _ _)).mono (by omega), ?_⟩)
      obtain ⟨q1, q2⟩ := R2.done rfl
      refine ⟨q1, ?_, q2⟩
      obtain ⟨pre, l, ty, ks, _, h2, _, h4, _⟩ := q1
      have := selpre_le h2
      omega
    · replace HSG : Hid (sg = sgOf s i j) := HSG.out rfl
      by_cases h4 : cs.length = 4
      · have g4 : ((cs.length : Int) == 4) = true := by simp [h4]
        have H4 : Hid (cs.length = 4) := h4
        clear h4
        go_wp2_with fail
        refine (noteMany_any _ b s j mP (by exact R.at'.rd)).mono ?_
        rintro e w1 ⟨rfl, haN⟩
        have hM : Hid (∀ nr, V s 2 ⟨nr, cs.length + 1, noteIf (decide (cs.length = 4)) mP j⟩ j = V s 2 ⟨nr, cs.length + 1, note mP j⟩ j) := fun nr => by simp [noteIf, H4.out]
        generalize note mP j = M at haN hM
        go_wp2_with fail
        refine (compound_any _ b s j M (by exact haN.rd)).mono ?_
        rintro e w2 (⟨ty, a2, c2, ks, ps, l, rfl, ha2, ho2, hf2⟩ | ⟨l, rfl, ha2, hf2⟩)
        · have ha3 := (R.at'.trans haN).trans ha2
          have hz1 := (R.at'.trans haN).size
          simp only [World.size_alloc] at hz1
          have hz2 : w.heap.size < w2.heap.size := by have := ha3.size; simp only [World.size_alloc] at this; omega
          have own2 := (haN.trans ha2).owns R.own (by omega)
          have hlen := R.few
          go_wp2_with (at_builtin; refine wpList_append_own _ rfl (.tmp 25) (.tmp 27) 139 rfl (w.heap.size + 1) 190 i0 (.agg #[.int .u8 0, .int .u8 0, .slice none 0 0]) 3 32 Tryz.underlying139 hi iz0 iz1 iz2 rfl (by decide) _ _ _ rfl ((own2.alloc _).alloc _) ⟨w2.heap.size + 1, 0, none⟩ 1 1 [.int .u8 sg, .int .u8 ty, .slice a2 ks.length c2] rfl rfl ?c1x ?c2x ?c3x ?c4x ?c5x ?_)
          case c1x => exact new_cells (w2.alloc _) _ (by simp) _ _ _ rfl
          case c2x => exact one3 _ _ _ _ _
          case c3x => unfold maxLen; omega
          case c4x => omega
          case c5x => simp; omega
          · intro v' w3 hown3 hg3 _
            have own3 : w3.ownsRow (w.heap.size + 1) 190 3 v' (cs ++ [(⟨sg, ty, ks⟩ : PCp)]).length (xs ++ [.int .u8 sg, .int .u8 ty, .slice a2 ks.length c2]) := by simpa using hown3
            have hk2 : Keeps wr w2 (w.heap.size + 1) 192 := keeps_at (haN.trans ha2) (by omega) _
            have hk3 : Keeps w2 w3 (w.heap.size + 1) 192 := ((keeps_alloc _ _ _ _).trans (keeps_alloc _ _ _ _)).trans (keeps_app (by decide) ((own2.alloc _).alloc _) hg3)
            have comps3 : Comps w3 (w.heap.size + 1) (xs ++ [.int .u8 sg, .int .u8 ty, .slice a2 ks.length c2]) (cs ++ [⟨sg, ty, ks⟩]) :=
              Comps.snoc sg ty a2 c2 ks ps (hk3.owns (own_mono ho2 hz1)) hf2.out.1 (R.comps.keep (hk2.trans hk3))
            have at3 : At (w.alloc (.cells #[.slice none 0 0] 141)) w3 b s l M := ((ha3.alloc _).alloc _).app (by simp; omega) (by simpa using ((own2.alloc _).alloc _)) hg3
            obtain ⟨q1, q2, q3, q4, q5⟩ := hf2.out
            have HV : Hid (SelPre s i i j cs ∧ CompAt s j l ty ks ∧ j < l ∧ isA (bt s l) = false ∧ ∀ nr, V s 2 ⟨nr, 1, m⟩ i = V s 3 ⟨nr, cs.length + 1, M⟩ l) :=
              ⟨(R.go rfl).1, q5, q3, q4, fun nr => by rw [(R.go rfl).2 nr, hM.out, q2]⟩
            have hle := R.le
            have hgk := R.gk rfl
            have hfew : (cs ++ [(⟨sg, ty, ks⟩ : PCp)]).length ≤ l - i := by simp; omega
            clear hown3 hg3 own2 R hk2 hk3 q1 q2 q4 q5 hf2
            go_wp2_with fail
            refine (sign_any _ b s l M (by exact at3.rd)).mono ?_
            rintro e w4 (⟨rfl, ha4, hf4⟩ | ⟨rfl, ha4, hf4⟩)
            · have R4 : SelRel w b s i m (s.size - l) v' true w4 (l + 1) M (cs ++ [⟨sg, ty, ks⟩]) (xs ++ [.int .u8 sg, .int .u8 ty, .slice a2 ks.length c2]) := by
                obtain ⟨p1, p2, p3, p4, p5⟩ := HV.out
                have h4 := hf4.out
                refine ⟨at3.trans ha4, ha4.owns own3 (by omega), comps3.keep (keeps_at ha4 (by omega) _), by omega, by omega, fun _ => by omega, fun _ => ⟨p1.snoc (HSG.out) p2 p3 p4 h4.1, fun nr => ?_⟩, fun e => by cases e⟩
                rw [p5 nr, sign_go h4]
                simp
              have hls := hf4.out.2
              clear comps3 own3
              go_wp2
              go_roundg (s.size - l)
              case measure => omega
              case rel => exact ⟨l + 1, M, _, _, _, _, rfl, rfl, R4, fun _ => (sgOf_next s (by have := HV.out.2.2.1; omega)).symm⟩
            · have R4 : SelRel w b s i m 0 v' false w4 l M (cs ++ [⟨sg, ty, ks⟩]) (xs ++ [.int .u8 sg, .int .u8 ty, .slice a2 ks.length c2]) := by
                obtain ⟨p1, p2, p3, p4, p5⟩ := HV.out
                exact ⟨at3.trans ha4, ha4.owns own3 (by omega), comps3.keep (keeps_at ha4 (by omega) _), by omega, by omega, fun e => (by cases e), fun e => (by cases e), fun _ => ⟨⟨cs, j, ty, ks, by rw [HSG.out], p1, p2, p3, p4, hf4.out⟩, fun nr => by rw [p5 nr]; simp⟩⟩
              clear comps3 own3
              go_wp2
              go_roundg 0
              case measure => omega
              case rel => exact ⟨l, M, _, _, _, _, rfl, rfl, R4, fun e => by cases e⟩
        · have ha3 := (R.at'.trans haN).trans ha2
          have hz2 : w.heap.size < w2.heap.size := by have := ha3.size; simp only [World.size_alloc] at this; omega
          obtain ⟨hc, hz⟩ := ha3.cells w.heap.size (by simp) (by omega)
          go_wp2_with fail
          exact bodyPost_ret (v := .tuple #[.agg #[.slice none 0 0], .bool false]) (by simp [results, Tryz.results179, go_sem, hc, hz2]) rfl (Or.inr ⟨l, M, rfl, (ha3.ofAlloc.setNew hb (Nat.le_refl _) _).alloc _, fun nr => by rw [(R.go rfl).2 nr, hM.out, hf2.out]⟩)
      · have g4 : ((cs.length : Int) == 4) = false := by simp; omega
        obtain ⟨M, haN, hM⟩ : ∃ M, At wr wr b s j M ∧ Hid (∀ nr, V s 2 ⟨nr, cs.length + 1, noteIf (decide (cs.length = 4)) mP j⟩ j = V s 2 ⟨nr, cs.length + 1, M⟩ j) := ⟨mP, R.at'.rd.at0, fun nr => by simp [noteIf, h4]⟩
        clear h4
        go_wp2_with fail
        refine (compound_any _ b s j M (by exact haN.rd)).mono ?_
        rintro e w2 (⟨ty, a2, c2, ks, ps, l, rfl, ha2, ho2, hf2⟩ | ⟨l, rfl, ha2, hf2⟩)
        · have ha3 := (R.at'.trans haN).trans ha2
          have hz1 := (R.at'.trans haN).size
          simp only [World.size_alloc] at hz1
          have hz2 : w.heap.size < w2.heap.size := by have := ha3.size; simp only [World.size_alloc] at this; omega
          have own2 := (haN.trans ha2).owns R.own (by omega)
          have hlen := R.few
          go_wp2_with (at_builtin; refine wpList_append_own _ rfl (.tmp 25) (.tmp 27) 139 rfl (w.heap.size + 1) 190 i0 (.agg #[.int .u8 0, .int .u8 0, .slice none 0 0]) 3 32 Tryz.underlying139 hi iz0 iz1 iz2 rfl (by decide) _ _ _ rfl ((own2.alloc _).alloc _) ⟨w2.heap.size + 1, 0, none⟩ 1 1 [.int .u8 sg, .int .u8 ty, .slice a2 ks.length c2] rfl rfl ?c1y ?c2y ?c3y ?c4y ?c5y ?_)
          case c1y => exact new_cells (w2.alloc _) _ (by simp) _ _ _ rfl
          case c2y => exact one3 _ _ _ _ _
          case c3y => unfold maxLen; omega
          case c4y => omega
          case c5y => simp; omega
          · intro v' w3 hown3 hg3 _
            have own3 : w3.ownsRow (w.heap.size + 1) 190 3 v' (cs ++ [(⟨sg, ty, ks⟩ : PCp)]).length (xs ++ [.int .u8 sg, .int .u8 ty, .slice a2 ks.length c2]) := by simpa using hown3
            have hk2 : Keeps wr w2 (w.heap.size + 1) 192 := keeps_at (haN.trans ha2) (by omega) _
            have hk3 : Keeps w2 w3 (w.heap.size + 1) 192 := ((keeps_alloc _ _ _ _).trans (keeps_alloc _ _ _ _)).trans (keeps_app (by decide) ((own2.alloc _).alloc _) hg3)
            have comps3 : Comps w3 (w.heap.size + 1) (xs ++ [.int .u8 sg, .int .u8 ty, .slice a2 ks.length c2]) (cs ++ [⟨sg, ty, ks⟩]) :=
              Comps.snoc sg ty a2 c2 ks ps (hk3.owns (own_mono ho2 hz1)) hf2.out.1 (R.comps.keep (hk2.trans hk3))
            have at3 : At (w.alloc (.cells #[.slice none 0 0] 141)) w3 b s l M := ((ha3.alloc _).alloc _).app (by simp; omega) (by simpa using ((own2.alloc _).alloc _)) hg3
            obtain ⟨q1, q2, q3, q4, q5⟩ := hf2.out
            have HV : Hid (SelPre s i i j cs ∧ CompAt s j l ty ks ∧ j < l ∧ isA (bt s l) = false ∧ ∀ nr, V s 2 ⟨nr, 1, m⟩ i = V s 3 ⟨nr, cs.length + 1, M⟩ l) :=
              ⟨(R.go rfl).1, q5, q3, q4, fun nr => by rw [(R.go rfl).2 nr, hM.out, q2]⟩
            have hle := R.le
            have hgk := R.gk rfl
            have hfew : (cs ++ [(⟨sg, ty, ks⟩ : PCp)]).length ≤ l - i := by simp; omega
            clear hown3 hg3 own2 R hk2 hk3 q1 q2 q4 q5 hf2
            go_wp2_with fail
            refine (sign_any _ b s l M (by exact at3.rd)).mono ?_
            rintro e w4 (⟨rfl, ha4, hf4⟩ | ⟨rfl, ha4, hf4⟩)
            · have R4 : SelRel w b s i m (s.size - l) v' true w4 (l + 1) M (cs ++ [⟨sg, ty, ks⟩]) (xs ++ [.int .u8 sg, .int .u8 ty, .slice a2 ks.length c2]) := by
                obtain ⟨p1, p2, p3, p4, p5⟩ := HV.out
                have h4 := hf4.out
                refine ⟨at3.trans ha4, ha4.owns own3 (by omega), comps3.keep (keeps_at ha4 (by omega) _), by omega, by omega, fun _ => by omega, fun _ => ⟨p1.snoc (HSG.out) p2 p3 p4 h4.1, fun nr => ?_⟩, fun e => by cases e⟩
                rw [p5 nr, sign_go h4]
                simp
              have hls := hf4.out.2
              clear comps3 own3
              go_wp2
              go_roundg (s.size - l)
              case measure => omega
              case rel => exact ⟨l + 1, M, _, _, _, _, rfl, rfl, R4, fun _ => (sgOf_next s (by have := HV.out.2.2.1; omega)).symm⟩
            · have R4 : SelRel w b s i m 0 v' false w4 l M (cs ++ [⟨sg, ty, ks⟩]) (xs ++ [.int .u8 sg, .int .u8 ty, .slice a2 ks.length c2]) := by
                obtain ⟨p1, p2, p3, p4, p5⟩ := HV.out
                exact ⟨at3.trans ha4, ha4.owns own3 (by omega), comps3.keep (keeps_at ha4 (by omega) _), by omega, by omega, fun e => (by cases e), fun e => (by cases e), fun _ => ⟨⟨cs, j, ty, ks, by rw [HSG.out], p1, p2, p3, p4, hf4.out⟩, fun nr => by rw [p5 nr]; simp⟩⟩
              clear comps3 own3
              go_wp2
              go_roundg 0
              case measure => omega
              case rel => exact ⟨l, M, _, _, _, _, rfl, rfl, R4, fun e => by cases e⟩
        · have ha3 := (R.at'.trans haN).trans ha2
          have hz2 : w.heap.size < w2.heap.size := by have := ha3.size; simp only [World.size_alloc] at this; omega
          obtain ⟨hc, hz⟩ := ha3.cells w.heap.size (by simp) (by omega)
          go_wp2_with fail
          exact bodyPost_ret (v := .tuple #[.agg #[.slice none 0 0], .bool false]) (by simp [results, Tryz.results179, go_sem, hc, hz2]) rfl (Or.inr ⟨l, M, rfl, (ha3.ofAlloc.setNew hb (Nat.le_refl _) _).alloc _, fun nr => by rw [(R.go rfl).2 nr, hM.out, hf2.out]⟩)
end Go.Proofs.YtblfffbmklkhmaaGreat

namespace Go.Proofs.YtblfffbmklkhmaaGreat
open Go.RowKit
theorem Tryz.info141 : (Tryz.prog.info? 141).map (fun i => (i.zero, i.size, i.bytes)) = some (some (.agg #[.slice none 0 0]), 1, 24) := by kernel_rfl
/-- The cells hold selectors of these compounds. -/
def Sels (w : World) (base : Nat) : List Value → List (List PCp) → Prop
  | xs, [] => xs = []
  | xs, cs :: ss => ∃ (a : Option Addr) (c : Nat) (ps ys : List Value), xs = .slice a cs.length c :: ys ∧ w.ownsRow base 190 3 (.slice a cs.length c) cs.length ps ∧ Comps w base ps cs ∧ Sels w base ys ss
theorem Sels.keep {w w' : World} {base : Nat} (hk : Keeps w w' base 192) (hk' : Keeps w w' base 190) : ∀ {xs : List Value} {ss : List (List PCp)}, Sels w base xs ss → Sels w' base xs ss
  | _, [], h => h
  | _, _ :: _, ⟨a, c, ps, ys, h1, h2, h3, h4⟩ => ⟨a, c, ps, ys, h1, hk'.owns h2, h3.keep hk, Sels.keep hk hk' h4⟩
theorem Sels.mono {w : World} {base base' : Nat} (hb : base' ≤ base) : ∀ {xs : List Value} {ss : List (List PCp)}, Sels w base xs ss → Sels w base' xs ss
  | _, [], h => h
  | _, _ :: _, ⟨a, c, ps, ys, h1, h2, h3, h4⟩ => ⟨a, c, ps, ys, h1, own_mono h2 hb, h3.mono hb, Sels.mono hb h4⟩
theorem Sels.snoc {w : World} {base : Nat} (a : Option Addr) (c : Nat) (cs : List PCp) (ps : List Value) (ho : w.ownsRow base 190 3 (.slice a cs.length c) cs.length ps) (hk : Comps w base ps cs) :
    ∀ {xs : List Value} {ss : List (List PCp)}, Sels w base xs ss → Sels w base (xs ++ [.slice a cs.length c]) (ss ++ [cs])
  | _, [], h => by simp only [Sels] at h; subst h; exact ⟨a, c, ps, [], rfl, ho, hk, rfl⟩
  | _, _ :: _, ⟨a', c', ps', ys, h1, h2, h3, h4⟩ => ⟨a', c', ps', _, by rw [h1]; rfl, h2, h3, Sels.snoc a c cs ps ho hk h4⟩
/-- From i to j there are selectors, each with a comma behind it. -/
def SelsPre (s : ByteArray) : Nat → Nat → List (List PCp) → Prop
  | i, j, [] => i = j
  | i, j, cs :: ss => ∃ l, SelAt s i l cs ∧ i < l ∧ bt s l = 44 ∧ SelsPre s (l + 1) j ss
theorem SelsPre.snoc {s : ByteArray} {i j l : Nat} {ss : List (List PCp)} {cs : List PCp} (h : SelsPre s i j ss) (hc : SelAt s j l cs) (hl : j < l) (hs : bt s l = 44) : SelsPre s i (l + 1) (ss ++ [cs]) := by
  induction ss generalizing i with
  | nil => simp only [SelsPre] at h; subst h; exact ⟨l, hc, hl, hs, rfl⟩
  | cons x ss ih =>
    obtain ⟨l', h1, h2, h3, h4⟩ := h
    exact ⟨l', h1, h2, h3, ih h4⟩
def SelsAt (s : ByteArray) (i j : Nat) (ss : List (List PCp)) : Prop :=
  ∃ pre l cs, ss = pre ++ [cs] ∧ SelsPre s i l pre ∧ SelAt s l j cs ∧ l < j ∧ bt s j ≠ 44
theorem selspre_le {s : ByteArray} : ∀ {ss : List (List PCp)} {i j : Nat}, SelsPre s i j ss → i ≤ j
  | [], _, _, h => by simp only [SelsPre] at h; omega
  | _ :: _, _, _, ⟨_, _, h2, _, h5⟩ => by have := selspre_le h5; omega
structure SelsRel (w : World) (b : Nat) (s : ByteArray) (i : Nat) (m : Int) (gk : Nat) (v : Value) (more : Bool) (wr : World) (j : Nat) (mP : Int) (ss : List (List PCp)) (xs : List Value) : Prop where
  at' : At w wr b s j mP
  own : wr.ownsRow w.heap.size 141 1 v ss.length xs
  sels : Sels wr w.heap.size xs ss
  le : i ≤ j
  few : ss.length ≤ j - i
  gk : more = true → s.size - j < gk
  go : more = true → SelsPre s i j ss ∧ ∀ nr, V s 2 ⟨nr, 1, m⟩ i = V s 2 ⟨nr, 1, mP⟩ j
  done : more = false → SelsAt s i j ss ∧ isA (bt s j) = false ∧ isS (bt s j) = false ∧ ∃ nc, ∀ nr, V s 2 ⟨nr, 1, m⟩ i = V s 3 ⟨nr, nc, mP⟩ j
def SelsPost (w : World) (b : Nat) (s : ByteArray) (i : Nat) (m : Int) (e : Ending) (w' : World) : Prop :=
  (∃ (a : Option Addr) (c : Nat) (ss : List (List PCp)) (xs : List Value) (j : Nat) (m' : Int), e = .returned (.tuple #[.slice a ss.length c, .bool true]) ∧ At w w' b s j m' ∧ w'.ownsRow w.heap.size 141 1 (.slice a ss.length c) ss.length xs ∧ Sels w' w.heap.size xs ss ∧
    Hid (SelsAt s i j ss ∧ i < j ∧ isA (bt s j) = false ∧ isS (bt s j) = false ∧ bt s j ≠ 44 ∧ ∃ nc, ∀ nr, V s 2 ⟨nr, 1, m⟩ i = V s 3 ⟨nr, nc, m'⟩ j)) ∨
  (∃ j m', e = .returned (.tuple #[.slice none 0 0, .bool false]) ∧ At w w' b s j m' ∧ Hid (∀ nr, V s 2 ⟨nr, 1, m⟩ i = ((j : Int), -1)))
theorem one1 (c : Option Addr) (n k : Nat) : ∀ u ∈ [Value.slice c n k], u.oneCell' = true := by
  intro u hu
  simp only [List.mem_cons, List.not_mem_nil, or_false] at hu
  rcases hu with rfl; rfl
theorem comma_go {s : ByteArray} {i nr nc : Nat} {m : Int} (h : bt s i = 44) (hi : i < s.size) : V s 3 ⟨nr, nc, m⟩ i = V s 2 ⟨nr, 1, m⟩ (i + 1) := by
  rw [V_go hi (m' := 2) (by simp [nxt, moreN, h]) (by decide)]
  simp [cnt, h, isS]
set_option maxHeartbeats 4000000 in
theorem selectors_any (w : World) (b : Nat) (s : ByteArray) (i : Nat) (m : Int) (h : Rd w b s i m) :
    Calls Tryz.prog 158 #[.pointer (some ⟨b, 0, none⟩)] w fun e w' => SelsPost w b s i m e w' := by
  have hb := h.lt
  have htop := h.top
  obtain ⟨i0, hi, iz0, iz1, iz2⟩ := info_parts Tryz.info141
  go_enter Tryz.func158, Tryz.ntmps158
  go_wp2_with fail
  go_loopg [4, 5] (s.size - i + 1) (fun gk v mv wr => ∃ (j : Nat) (mP : Int) (ss : List (List PCp)) (xs : List Value) (more : Bool), mv = .bool more ∧ SelsRel w b s i m gk v more wr j mP ss xs)
  case atStart =>
    exact ⟨i, m, [], [], true, rfl, h.at0, World.ownsRow_nil _ _ _ _, rfl, Nat.le_refl _, by simp, fun _ => by omega, fun _ => ⟨rfl, fun nr => rfl⟩, fun e => by cases e⟩
  case round =>
    obtain ⟨j, mP, ss, xs, more, rfl, R⟩ := hrel
    have hle := R.at'.rd.le
    obtain ⟨a, c, hv⟩ := own_shape R.own
    subst hv
    cases more
    · have R2 := R
      clear R
      go_wp2
      go_ret2
      refine Or.inl ⟨a, c, ss, xs, j, mP, rfl, R2.at', R2.own, R2.sels, ?_⟩
      obtain ⟨q1, q2, q3, q4⟩ := R2.done rfl
      obtain ⟨pre, l, cs, p1, p2, p3, p4, p5⟩ := q1
      have := selspre_le p2
      exact ⟨⟨pre, l, cs, p1, p2, p3, p4, p5⟩, by omega, q2, q3, p5, q4⟩
    · go_wp2_with fail
      refine (selector_any _ b s j mP (by exact R.at'.rd)).mono ?_
      rintro e w2 (⟨a2, c2, cs, ps, l, M, rfl, ha2, ho2, hc2, hf2⟩ | ⟨l, M, rfl, ha2, hf2⟩)
      · have ha3 := R.at'.trans ha2
        have hz1 := R.at'.size
        have hz2 := ha3.size
        have own2 := ha2.owns R.own (by omega)
        have hlen := R.few
        go_wp2_with (at_builtin; refine wpList_append_own _ rfl (.tmp 16) (.tmp 18) 135 rfl w.heap.size 141 i0 (.agg #[.slice none 0 0]) 1 24 Tryz.underlying135 hi iz0 iz1 iz2 rfl (by decide) _ _ _ rfl ((own2.alloc _).alloc _) ⟨w2.heap.size + 1, 0, none⟩ 1 1 [.slice a2 cs.length c2] rfl rfl ?c1 ?c2 ?c3 ?c4 ?c5 ?_)
        case c1 => exact new_cells (w2.alloc _) _ (by simp) _ _ _ rfl
        case c2 => exact one1 _ _ _
        case c3 => unfold maxLen; omega
        case c4 => omega
        case c5 => simp; omega
        · intro v' w3 hown3 hg3 _
          have own3 : w3.ownsRow w.heap.size 141 1 v' (ss ++ [cs]).length (xs ++ [.slice a2 cs.length c2]) := by simpa using hown3
          have hk2 : ∀ e, Keeps wr w2 w.heap.size e := fun e => keeps_at ha2 (by omega) _
          have hk3 : ∀ e, e ≠ 141 → Keeps w2 w3 w.heap.size e := fun e he => ((keeps_alloc _ _ _ _).trans (keeps_alloc _ _ _ _)).trans (keeps_app he ((own2.alloc _).alloc _) hg3)
          have sels3 : Sels w3 w.heap.size (xs ++ [.slice a2 cs.length c2]) (ss ++ [cs]) :=
            Sels.snoc a2 c2 cs ps ((hk3 190 (by decide)).owns (own_mono ho2 hz1)) ((hc2.mono hz1).keep (hk3 192 (by decide))) (R.sels.keep ((hk2 _).trans (hk3 _ (by decide))) ((hk2 _).trans (hk3 _ (by decide))))
          have at3 : At w w3 b s l M := ((ha3.alloc _).alloc _).app hb ((own2.alloc _).alloc _) hg3
          obtain ⟨q1, q2, q3⟩ := hf2.out
          have HV : Hid (SelsPre s i j ss ∧ SelAt s j l cs ∧ j < l ∧ ∀ nr, V s 2 ⟨nr, 1, m⟩ i = V s 3 ⟨nr, cs.length, M⟩ l) :=
            ⟨(R.go rfl).1, q1, q2, fun nr => by rw [(R.go rfl).2 nr, q3]⟩
          have hle := R.le
          have hgk := R.gk rfl
          have hfew : (ss ++ [cs]).length ≤ l - i := by simp; omega
          clear hown3 hg3 own2 R hk2 hk3 q1 q3 hf2
          go_wp2_with fail
          refine (take_any _ b s l M 44 (by exact at3.rd) (by decide)).mono ?_
          rintro e w4 (⟨rfl, ha4, hf4⟩ | ⟨rfl, ha4, hf4⟩)
          · have R4 : SelsRel w b s i m (s.size - l) v' true w4 (l + 1) M (ss ++ [cs]) (xs ++ [.slice a2 cs.length c2]) := by
              obtain ⟨p1, p2, p3, p4⟩ := HV.out
              have h4 := hf4.out
              have h44 : bt s l = 44 := by omega
              exact ⟨at3.trans ha4, ha4.owns own3 (by omega), sels3.keep (keeps_at ha4 (by omega) _) (keeps_at ha4 (by omega) _), by omega, by omega, fun _ => by omega, fun _ => ⟨p1.snoc p2 p3 h44, fun nr => by rw [p4 nr, comma_go h44 h4.2]⟩, fun e => by cases e⟩
            have hls := hf4.out.2
            clear sels3 own3
            go_wp2
            go_roundg (s.size - l)
            case measure => omega
            case rel => exact ⟨l + 1, M, _, _, _, rfl, R4⟩
          · have R4 : SelsRel w b s i m 0 v' false w4 l M (ss ++ [cs]) (xs ++ [.slice a2 cs.length c2]) := by
              obtain ⟨p1, p2, p3, p4⟩ := HV.out
              have h44 : bt s l ≠ 44 := by have := hf4.out; omega
              have p2' := p2
              obtain ⟨_, _, _, _, _, _, _, _, hA, hS⟩ := p2'
              exact ⟨at3.trans ha4, ha4.owns own3 (by omega), sels3.keep (keeps_at ha4 (by omega) _) (keeps_at ha4 (by omega) _), by omega, by omega, fun e => (by cases e), fun e => (by cases e), fun _ => ⟨⟨ss, j, cs, rfl, p1, p2, p3, h44⟩, hA, hS, cs.length, p4⟩⟩
            clear sels3 own3
            go_wp2
            go_roundg 0
            case measure => omega
            case rel => exact ⟨l, M, _, _, _, rfl, R4⟩
      · have ha3 := R.at'.trans ha2
        go_wp2_with fail
        go_ret2
        exact Or.inr ⟨l, M, rfl, ha3.alloc _, fun nr => by rw [(R.go rfl).2 nr, hf2.out]⟩
end Go.Proofs.YtblfffbmklkhmaaGreat
