/- The selectors of a rule. Own work. -/
import Derived.Test.YtblfffbmklkhmaaGreatSelector
namespace Go.Proofs.YtblfffbmklkhmaaGreat
open Go.RowKit

theorem Tryz.info141 : (Tryz.prog.info? 141).map (fun i => (i.zero, i.size, i.bytes)) = some (some (.agg #[.slice none 0 0]), 1, 24) := by kernel_rfl

/-- The cells hold selectors of these compounds. -/
def Sels (w : World) (base : Nat) : List Value → List (List PCp) → Prop
  | xs, [] => xs = []
  | xs, cs :: ss => ∃ (a : Option Addr) (c : Nat) (ps ys : List Value), xs = .slice a cs.length c :: ys ∧ w.ownsRow base 190 3 (.slice a cs.length c) cs.length ps ∧ Comps w base ps cs ∧ Sels w base ys ss

theorem Sels.keep {w w' : World} {base : Nat} (hk : Keeps w w' base 192) (hk' : Keeps w w' base 190) : ∀ {xs : List Value} {ss : List (List PCp)}, Sels w base xs ss → Sels w' base xs ss
  | _, [], h => h
  | _, _ :: _, ⟨a, c, ps, ys, h1, h2, h3, h4⟩ => ⟨a, c, ps, ys, h1, hk'.owns h2, h3.keep hk, Sels.keep hk hk' h4⟩
theorem Sels.mono {w : World} {base base' : Nat} (hb : base' ≤ base) : ∀ {xs : List Value} {ss : List (List PCp)}, Sels w base xs ss → Sels w base' xs ss
  | _, [], h => h
  | _, _ :: _, ⟨a, c, ps, ys, h1, h2, h3, h4⟩ => ⟨a, c, ps, ys, h1, own_mono h2 hb, h3.mono hb, Sels.mono hb h4⟩
theorem Sels.snoc {w : World} {base : Nat} (a : Option Addr) (c : Nat) (cs : List PCp) (ps : List Value) (ho : w.ownsRow base 190 3 (.slice a cs.length c) cs.length ps) (hk : Comps w base ps cs) :
    ∀ {xs : List Value} {ss : List (List PCp)}, Sels w base xs ss → Sels w base (xs ++ [.slice a cs.length c]) (ss ++ [cs])
  | _, [], h => by simp only [Sels] at h; subst h; exact ⟨a, c, ps, [], rfl, ho, hk, rfl⟩
  | _, _ :: _, ⟨a', c', ps', ys, h1, h2, h3, h4⟩ => ⟨a', c', ps', _, by rw [h1]; rfl, h2, h3, Sels.snoc a c cs ps ho hk h4⟩

/-- From i to j there are selectors, each with a comma behind it. -/
def SelsPre (s : ByteArray) : Nat → Nat → List (List PCp) → Prop
  | i, j, [] => i = j
  | i, j, cs :: ss => ∃ l, SelAt s i l cs ∧ i < l ∧ bt s l = 44 ∧ SelsPre s (l + 1) j ss
theorem SelsPre.snoc {s : ByteArray} {i j l : Nat} {ss : List (List PCp)} {cs : List PCp} (h : SelsPre s i j ss) (hc : SelAt s j l cs) (hl : j < l) (hs : bt s l = 44) : SelsPre s i (l + 1) (ss ++ [cs]) := by
  induction ss generalizing i with
  | nil => simp only [SelsPre] at h; subst h; exact ⟨l, hc, hl, hs, rfl⟩
  | cons x ss ih =>
    obtain ⟨l', h1, h2, h3, h4⟩ := h
    exact ⟨l', h1, h2, h3, ih h4⟩
def SelsAt (s : ByteArray) (i j : Nat) (ss : List (List PCp)) : Prop :=
  ∃ pre l cs, ss = pre ++ [cs] ∧ SelsPre s i l pre ∧ SelAt s l j cs ∧ l < j ∧ bt s j ≠ 44
theorem selspre_le {s : ByteArray} : ∀ {ss : List (List PCp)} {i j : Nat}, SelsPre s i j ss → i ≤ j
  | [], _, _, h => by simp only [SelsPre] at h; omega
  | _ :: _, _, _, ⟨_, _, h2, _, h5⟩ => by have := selspre_le h5; omega

structure SelsRel (w : World) (b : Nat) (s : ByteArray) (i : Nat) (m : Int) (gk : Nat) (v : Value) (more : Bool) (wr : World) (j : Nat) (mP : Int) (ss : List (List PCp)) (xs : List Value) : Prop where
  at' : At w wr b s j mP
  own : wr.ownsRow w.heap.size 141 1 v ss.length xs
  sels : Sels wr w.heap.size xs ss
  le : i ≤ j
  few : ss.length ≤ j - i
  gk : more = true → s.size - j < gk
  go : more = true → SelsPre s i j ss ∧ ∀ nr, V s 2 ⟨nr, 1, m⟩ i = V s 2 ⟨nr, 1, mP⟩ j
  done : more = false → SelsAt s i j ss ∧ isA (bt s j) = false ∧ isS (bt s j) = false ∧ ∃ nc, ∀ nr, V s 2 ⟨nr, 1, m⟩ i = V s 3 ⟨nr, nc, mP⟩ j

def SelsPost (w : World) (b : Nat) (s : ByteArray) (i : Nat) (m : Int) (e : Ending) (w' : World) : Prop :=
  (∃ (a : Option Addr) (c : Nat) (ss : List (List PCp)) (xs : List Value) (j : Nat) (m' : Int), e = .returned (.tuple #[.slice a ss.length c, .bool true]) ∧ At w w' b s j m' ∧ w'.ownsRow w.heap.size 141 1 (.slice a ss.length c) ss.length xs ∧ Sels w' w.heap.size xs ss ∧
    Hid (SelsAt s i j ss ∧ i < j ∧ isA (bt s j) = false ∧ isS (bt s j) = false ∧ bt s j ≠ 44 ∧ ∃ nc, ∀ nr, V s 2 ⟨nr, 1, m⟩ i = V s 3 ⟨nr, nc, m'⟩ j)) ∨
  (∃ j m', e = .returned (.tuple #[.slice none 0 0, .bool false]) ∧ At w w' b s j m' ∧ Hid (∀ nr, V s 2 ⟨nr, 1, m⟩ i = ((j : Int), -1)))

theorem one1 (c : Option Addr) (n k : Nat) : ∀ u ∈ [Value.slice c n k], u.oneCell' = true := by
  intro u hu
  simp only [List.mem_cons, List.not_mem_nil, or_false] at hu
  rcases hu with rfl; rfl

theorem comma_go {s : ByteArray} {i nr nc : Nat} {m : Int} (h : bt s i = 44) (hi : i < s.size) : V s 3 ⟨nr, nc, m⟩ i = V s 2 ⟨nr, 1, m⟩ (i + 1) := by
  rw [V_go hi (m' := 2) (by simp [nxt, moreN, h]) (by decide)]
  simp [cnt, h, isS]

set_option maxHeartbeats 4000000 in
theorem selectors_any (w : World) (b : Nat) (s : ByteArray) (i : Nat) (m : Int) (h : Rd w b s i m) :
    Calls Tryz.prog 158 #[.pointer (some ⟨b, 0, none⟩)] w fun e w' => SelsPost w b s i m e w' := by
  have hb := h.lt
  have htop := h.top
  obtain ⟨i0, hi, iz0, iz1, iz2⟩ := info_parts Tryz.info141
  go_enter Tryz.func158, Tryz.ntmps158
  go_wp2_with fail
  go_loopg [4, 5] (s.size - i + 1) (fun gk v mv wr => ∃ (j : Nat) (mP : Int) (ss : List (List PCp)) (xs : List Value) (more : Bool), mv = .bool more ∧ SelsRel w b s i m gk v more wr j mP ss xs)
  case atStart =>
    exact ⟨i, m, [], [], true, rfl, h.at0, World.ownsRow_nil _ _ _ _, rfl, Nat.le_refl _, by simp, fun _ => by omega, fun _ => ⟨rfl, fun nr => rfl⟩, fun e => by cases e⟩
  case round =>
    obtain ⟨j, mP, ss, xs, more, rfl, R⟩ := hrel
    have hle := R.at'.rd.le
    obtain ⟨a, c, hv⟩ := own_shape R.own
    subst hv
    cases more
    · have R2 := R
      clear R
      go_wp2
      go_ret2
      refine Or.inl ⟨a, c, ss, xs, j, mP, rfl, R2.at', R2.own, R2.sels, ?_⟩
      obtain ⟨q1, q2, q3, q4⟩ := R2.done rfl
      obtain ⟨pre, l, cs, p1, p2, p3, p4, p5⟩ := q1
      have := selspre_le p2
      exact ⟨⟨pre, l, cs, p1, p2, p3, p4, p5⟩, by omega, q2, q3, p5, q4⟩
    · go_wp2_with fail
      refine (selector_any _ b s j mP (by exact R.at'.rd)).mono ?_
      rintro e w2 (⟨a2, c2, cs, ps, l, M, rfl, ha2, ho2, hc2, hf2⟩ | ⟨l, M, rfl, ha2, hf2⟩)
      · have ha3 := R.at'.trans ha2
        have hz1 := R.at'.size
        have hz2 := ha3.size
        have own2 := ha2.owns R.own (by omega)
        have hlen := R.few
        go_wp2_with (at_builtin; refine wpList_append_own _ rfl (.tmp 16) (.tmp 18) 135 rfl w.heap.size 141 i0 (.agg #[.slice none 0 0]) 1 24 Tryz.underlying135 hi iz0 iz1 iz2 rfl (by decide) _ _ _ rfl ((own2.alloc _).alloc _) ⟨w2.heap.size + 1, 0, none⟩ 1 1 [.slice a2 cs.length c2] rfl rfl ?c1 ?c2 ?c3 ?c4 ?c5 ?_)
        case c1 => exact new_cells (w2.alloc _) _ (by simp) _ _ _ rfl
        case c2 => exact one1 _ _ _
        case c3 => unfold maxLen; omega
        case c4 => omega
        case c5 => simp; omega
        · intro v' w3 hown3 hg3 _
          have own3 : w3.ownsRow w.heap.size 141 1 v' (ss ++ [cs]).length (xs ++ [.slice a2 cs.length c2]) := by simpa using hown3
          have hk2 : ∀ e, Keeps wr w2 w.heap.size e := fun e => keeps_at ha2 (by omega) _
          have hk3 : ∀ e, e ≠ 141 → Keeps w2 w3 w.heap.size e := fun e he => ((keeps_alloc _ _ _ _).trans (keeps_alloc _ _ _ _)).trans (keeps_app he ((own2.alloc _).alloc _) hg3)
          have sels3 : Sels w3 w.heap.size (xs ++ [.slice a2 cs.length c2]) (ss ++ [cs]) :=
            Sels.snoc a2 c2 cs ps ((hk3 190 (by decide)).owns (own_mono ho2 hz1)) ((hc2.mono hz1).keep (hk3 192 (by decide))) (R.sels.keep ((hk2 _).trans (hk3 _ (by decide))) ((hk2 _).trans (hk3 _ (by decide))))
          have at3 : At w w3 b s l M := ((ha3.alloc _).alloc _).app hb ((own2.alloc _).alloc _) hg3
          obtain ⟨q1, q2, q3⟩ := hf2.out
          have HV : Hid (SelsPre s i j ss ∧ SelAt s j l cs ∧ j < l ∧ ∀ nr, V s 2 ⟨nr, 1, m⟩ i = V s 3 ⟨nr, cs.length, M⟩ l) :=
            ⟨(R.go rfl).1, q1, q2, fun nr => by rw [(R.go rfl).2 nr, q3]⟩
          have hle := R.le
          have hgk := R.gk rfl
          have hfew : (ss ++ [cs]).length ≤ l - i := by simp; omega
          clear hown3 hg3 own2 R hk2 hk3 q1 q3 hf2
          go_wp2_with fail
          refine (take_any _ b s l M 44 (by exact at3.rd) (by decide)).mono ?_
          rintro e w4 (⟨rfl, ha4, hf4⟩ | ⟨rfl, ha4, hf4⟩)
          · have R4 : SelsRel w b s i m (s.size - l) v' true w4 (l + 1) M (ss ++ [cs]) (xs ++ [.slice a2 cs.length c2]) := by
              obtain ⟨p1, p2, p3, p4⟩ := HV.out
              have h4 := hf4.out
              have h44 : bt s l = 44 := by omega
              exact ⟨at3.trans ha4, ha4.owns own3 (by omega), sels3.keep (keeps_at ha4 (by omega) _) (keeps_at ha4 (by omega) _), by omega, by omega, fun _ => by omega, fun _ => ⟨p1.snoc p2 p3 h44, fun nr => by rw [p4 nr, comma_go h44 h4.2]⟩, fun e => by cases e⟩
            have hls := hf4.out.2
            clear sels3 own3
            go_wp2
            go_roundg (s.size - l)
            case measure => omega
            case rel => exact ⟨l + 1, M, _, _, _, rfl, R4⟩
          · have R4 : SelsRel w b s i m 0 v' false w4 l M (ss ++ [cs]) (xs ++ [.slice a2 cs.length c2]) := by
              obtain ⟨p1, p2, p3, p4⟩ := HV.out
              have h44 : bt s l ≠ 44 := by have := hf4.out; omega
              have p2' := p2
              obtain ⟨_, _, _, _, _, _, _, _, hA, hS⟩ := p2'
              exact ⟨at3.trans ha4, ha4.owns own3 (by omega), sels3.keep (keeps_at ha4 (by omega) _) (keeps_at ha4 (by omega) _), by omega, by omega, fun e => (by cases e), fun e => (by cases e), fun _ => ⟨⟨ss, j, cs, rfl, p1, p2, p3, h44⟩, hA, hS, cs.length, p4⟩⟩
            clear sels3 own3
            go_wp2
            go_roundg 0
            case measure => omega
            case rel => exact ⟨l, M, _, _, _, rfl, R4⟩
      · have ha3 := R.at'.trans ha2
        go_wp2_with fail
        go_ret2
        exact Or.inr ⟨l, M, rfl, ha3.alloc _, fun nr => by rw [(R.go rfl).2 nr, hf2.out]⟩

end Go.Proofs.YtblfffbmklkhmaaGreat
