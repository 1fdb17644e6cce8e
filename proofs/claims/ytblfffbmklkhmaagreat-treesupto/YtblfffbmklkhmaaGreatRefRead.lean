/- The document's answer: Read. Own work. -/
import Derived.Test.YtblfffbmklkhmaaGreatRefIn
import Derived.Deep.DeepCutAuto
namespace Go.Proofs.YtblfffbmklkhmaaGreat
open Go.RowKit

def RReadPost (w : World) (s : ByteArray) (e : Ending) (w' : World) : Prop :=
  ∃ pa : Option Addr, e = .returned (.tuple #[.pointer pa, .int .i64 (chk s).1, .int .i64 (chk s).2]) ∧ Below w.heap.size w w' ∧
    ((chk s).1 = 0 → ∃ (b : Nat) (a : Option Addr) (c : Nat) (rs : List (List (List (Nat × Nat)))) (xs : List Value) (mn : Int), pa = some ⟨b, 0, none⟩ ∧ Sh w' b (.slice a rs.length c) mn ∧ w'.ownsRow w.heap.size 164 3 (.slice a rs.length c) rs.length xs ∧ RRuls w' s w.heap.size xs rs ∧ RRulsAt s 0 s.size rs ∧ RInfo w' s w.heap.size s.size xs)

/-- Behind the note of a rule. -/
structure RN (w : World) (b : Nat) (s : ByteArray) (M : Int) (f : Nat) (wr : World) (hm : Int) (vL : Value) (rs : List (List (List (Nat × Nat)))) (xs : List Value) : Prop where
  sh : Sh wr b vL hm
  bel : Below w.heap.size w wr
  own : wr.ownsRow (w.heap.size + 1) 164 3 vL rs.length xs
  ruls : RRuls wr s (w.heap.size + 1) xs rs
  info : RInfo wr s (w.heap.size + 1) f xs
  noted : Noted hm f
  acc : Acc s 18 ⟨rs.length + 1, 1, hm⟩ f M

/-- Behind the layer. -/
structure RP (w : World) (b : Nat) (s : ByteArray) (M : Int) (f p : Nat) (w0 wr : World) (hm : Int) (vL : Value) (rs : List (List (List (Nat × Nat)))) (lv : Int) : Prop where
  inn : In w0 wr b vL hm lv (.slice none 0 0) (.slice none 0 0) 0 []
  layer : LayerAt s f p
  lay : lv = layOf s f
  noted : Noted hm p
  acc : Acc s 2 ⟨rs.length + 1, 1, hm⟩ p M

theorem layer_acc {s : ByteArray} {M : Int} {nr : Nat} {hm : Int} {f : Nat} (h : Acc s 18 ⟨nr, 1, hm⟩ f M) : (bt s f = 64 → f + 1 < s.size ∧ Acc s 2 ⟨nr, 1, hm⟩ (f + 2) M ∧ 48 ≤ bt s (f + 1) ∧ bt s (f + 1) ≤ 57) ∧ (bt s f ≠ 64 → Acc s 2 ⟨nr, 1, hm⟩ f M) := by
  have hl := h.lt (by omega)
  constructor
  · intro e
    have h1 := h.step hl
    rw [show nxt 18 (bt s f) = 1 from by simp [nxt, e]] at h1
    have hl1 := h1.lt (by omega)
    refine ⟨hl1, ?_⟩
    have h2 := h1.step hl1
    have ho := h1.ok hl1
    have hd : isD (bt s (f + 1)) = true := by
      cases hd : isD (bt s (f + 1)) with
      | true => rfl
      | false => exfalso; apply ho; simp [nxt, wh, hd]
    rw [show nxt 1 (bt s (f + 1)) = 2 from by simp [nxt, wh, hd]] at h2
    refine ⟨by simpa [cnt] using h2, ?_⟩
    simpa [isD] using hd
  · intro e
    unfold Acc at h ⊢
    rw [← h]
    exact ((layer_no (s := s) (i := f) (by omega)).1 nr 1 hm).symm

theorem own_ne {w : World} {base : Nat} {e : TypeId} {size : Nat} {v : Value} {n : Nat} {xs : List Value} (h : w.ownsRow base e size v n xs) {b : Nat} (hb : b < base) : v.ownBlock = none ∨ v.ownBlock ≠ some b := by
  cases hv : v.ownBlock with
  | none => exact Or.inl rfl
  | some g => right; intro e; injection e with e; have := (h.lt g hv).1; omega

/-- A rule more. -/
theorem ro_step {w w0 W5 w6 : World} {s : ByteArray} {M : Int} {f p q r : Nat} {hm1 hm lv : Int} {a a' a4 : Option Addr} {c c' c4 : Nat} {dl : List RDecl} {rs : List (List (List (Nat × Nat)))} {xs : List Value} {ss : List (List (Nat × Nat))} {ys : List Value} {v' : Value} {nc : Nat}
    (N : RN w w.heap.size s M f w0 hm1 (.slice a rs.length c) rs xs) (hfew : rs.length ≤ f) (hfp : LayerAt s f p) (ht : RRulsAt s 0 f rs)
    (h5 : In w0 W5 w.heap.size (.slice a rs.length c) hm lv (.slice a' ss.length c') (.slice a4 dl.length c4) ss.length ys) (hs5 : RSels W5 s (w0.heap.size + 1) ys ss)
    (hpq : p < q) (hqr : q + 1 ≤ r) (hrs : r < s.size) (hb : bt s q = 123) (hbn : ∀ k, p ≤ k → k < q → bt s k ≠ 123) (hr : bt s r = 125) (hrn : ∀ k, q ≤ k → k < r → bt s k ≠ 125)
    (hly : lv = layOf s f) (hdo : W5.ownsRow (w.heap.size + 1) 229 3 (.slice a4 dl.length c4) dl.length (flatD dl)) (hda : DeclsAll (s.extract (q + 1) r) dl) (hsel : RSelsAt s p q ss) (hno : Noted hm q) (hacc : Acc s 9 ⟨rs.length + 1, nc, hm⟩ (q + 1) M)
    (ho : w6.ownsRow (w.heap.size + 1) 164 3 v' (rs.length + 1) (xs ++ [.int .i64 lv, .slice a' ss.length c', .slice a4 dl.length c4]))
    (hg : ((W5.alloc (.cells #[.int .i64 lv, .slice a' ss.length c', .slice a4 dl.length c4] 164)).drew).grownBy w6 (Value.ownBlock (.slice a rs.length c))) :
    Sh w6 w.heap.size (.slice a rs.length c) hm ∧ RO w w.heap.size s M (r + 1) (w6.setCell ⟨w.heap.size, 0, none⟩ v') hm v' (rs ++ [ss]) (xs ++ [.int .i64 lv, .slice a' ss.length c', .slice a4 dl.length c4]) := by
  have hl := h5.lt
  have hz := h5.blt
  have ownL := N.own.kept h5.gb (own_ne N.own (by omega))
  have hne : ∀ k, k ≤ w.heap.size → some k ≠ Value.ownBlock (.slice a rs.length c) := by
    intro k hk e
    have := (N.own.lt k e.symm).1
    omega
  have hsz := h5.gb.size
  have sh6 : Sh w6 w.heap.size (.slice a rs.length c) hm :=
    (hg.block _ (by show _ < (W5.alloc _).heap.size; simp; omega) (hne _ (Nat.le_refl _))).trans ((Below.heap_alloc W5 _ _ h5.sh.lt).trans h5.sh)
  have hk : ∀ e, e ≠ 164 → Keeps W5 (w6.setCell ⟨w.heap.size, 0, none⟩ v') (w.heap.size + 1) e := fun e he =>
    ((keeps_alloc _ _ _ _).trans (keeps_app (w := (W5.alloc (.cells #[.int .i64 lv, .slice a' ss.length c', .slice a4 dl.length c4] 164)).drew) he ((ownL.alloc _).drew) hg)).trans (keeps_set _ (by simp) _ _)
  have hk0 : ∀ e, Keeps w0 W5 (w.heap.size + 1) e := fun e => keeps_gb h5.gb (by omega) e
  have hlay : f ≤ p := by rcases hfp with h | h <;> omega
  refine ⟨sh6, sh6.set0 _, ?_, by simpa using ownsRow_setCell_below ho (by simp) _, ?_, ?_, by simp; omega, by unfold Noted at *; omega, by omega, ?_, nc, ?_⟩
  · refine Below.setCell (Below.grown (Below.drew ((N.bel.grown h5.gb N.bel.size (fun k e => by injection e with e; omega)).alloc ?_ _)) hg ?_ ?_) (by simp) _
    · have := N.bel.size; omega
    · have := N.bel.size; show _ ≤ (W5.alloc _).heap.size; simp; omega
    · intro k hk
      have := (N.own.lt k hk).1
      omega
  · exact RRuls.snoc lv a' c' (.slice a4 dl.length c4) ss ys ((hk 166 (by decide)).owns (own_mono h5.own (by omega))) ((hs5.mono (by omega)).keep (hk 206 (by decide))) (N.ruls.keep ((hk0 206).trans (hk 206 (by decide))) ((hk0 166).trans (hk 166 (by decide))))
  · obtain ⟨is, i1, i2⟩ := N.info
    exact ⟨is ++ [(lv, dl)], RDecs.snoc lv _ a4 c4 dl ((hk 229 (by decide)).owns hdo) (i1.keep ((hk0 229).trans (hk 229 (by decide)))), RInfsAt.snoc ⟨p, q, hfp, hb, hbn, hpq, by omega, by simpa using hr, fun k k1 k2 => hrn k k1 (by omega), hly, by simpa using hda⟩ (by omega) i2⟩
  · refine RRulsAt.snoc (j := f) ⟨p, q, hfp, hsel, hb, hbn, by omega, by simpa using hr, fun k k1 k2 => hrn k k1 (by omega)⟩ (by omega) ht
  · obtain ⟨m, m1, m2, _, _⟩ := decl_run hacc (fun j j1 j2 => hrn j (by omega) j2) (by omega) (r - (q + 1)) (by omega)
    rw [show q + 1 + (r - (q + 1)) = r from by omega] at m2
    have h2 := m2.step hrs
    rw [(decl_next m1 (m2.ok hrs)).1 hr, decl_cnt m1] at h2
    simpa using h2

set_option maxRecDepth 100000 in
set_option maxHeartbeats 8000000 in
theorem refread_any (w : World) (s : ByteArray) (hs : s.size ≤ maxLen) :
    Calls Tryz.prog 87 #[.string s] w fun e w' => RReadPost w s e w' := by
  unfold maxLen at hs
  by_cases h400 : 400 < s.size
  · have HC : Hid (chk s = (1, 0)) := by unfold Hid chk; rw [if_pos h400]
    have hd : decide ((400 : Int) < (s.size : Int)) = true := by simp; omega
    go_enter Tryz.func87, Tryz.ntmps87
    go_wp2
    go_ret3
    exact ⟨none, by rw [HC.out]; rfl, Below.refl _ _, fun h => by rw [HC.out] at h; simp at h⟩
  have hd : decide ((400 : Int) < (s.size : Int)) = false := by simp; omega
  have ht : s.size ≤ 400 := by omega
  by_cases hv : 0 ≤ (V s 0 K0 0).1
  · have HC : Hid (chk s = (2, (V s 0 K0 0).1)) := by unfold Hid chk; rw [if_neg h400, if_pos hv]
    clear h400
    go_enter Tryz.func87, Tryz.ntmps87
    go_wp2_with fail
    refine (place_any _ s ht).mono ?_
    rintro e w1 ⟨rfl, rfl⟩
    generalize (V s 0 K0 0).1 = x at hv HC
    have hd2 : decide ((0 : Int) ≤ x) = true := by simpa using hv
    go_wp2
    go_ret3
    exact ⟨none, by rw [HC.out]; rfl, Below.refl _ _, fun h => by rw [HC.out] at h; simp at h⟩
  obtain ⟨M, hM⟩ : ∃ M, Acc s 0 K0 0 M := ⟨(V s 0 K0 0).2, by have := V_fst s 0 K0 0; unfold Acc; exact Prod.ext (by show _ = (-1 : Int); omega) rfl⟩
  have HM : Hid (Acc s 0 K0 0 M) := hM
  have HV : Hid ((V s 0 K0 0).1 = -1) := by have := V_fst s 0 K0 0; unfold Hid; omega
  have HC : Hid (chk s = if M = -1 then (0, 0) else (3, M)) := by unfold Hid chk; rw [if_neg h400, if_neg hv]; unfold Acc at hM; rw [hM]
  clear hM h400 hv
  obtain ⟨i0, hi, iz0, iz1, iz2⟩ := info_parts Tryz.info166
  obtain ⟨i1, hi', jz0, jz1, jz2⟩ := info_parts Tryz.info164
  go_enter Tryz.func87, Tryz.ntmps87
  go_wp2_with fail
  refine (place_any _ s ht).mono ?_
  rintro e w1 ⟨rfl, rfl⟩
  obtain ⟨w, rfl⟩ : ∃ w, w = w1 := ⟨_, rfl⟩
  rw [HV.out]
  go_wp2_with fail
  go_loopg [7] s.size (fun gk fv wr => ∃ (f : Nat) (hm : Int) (vL : Value) (rs : List (List (List (Nat × Nat)))) (xs : List Value), fv = .int .i64 f ∧ s.size - f ≤ gk ∧ RO w w.heap.size s M f wr hm vL rs xs)
  case atStart =>
    exact ⟨0, -1, .slice none 0 0, [], [], rfl, by omega, heap_alloc_new w _, (Below.refl _ _).alloc (Nat.le_refl _) _, World.ownsRow_nil _ _ _ _, rfl, ⟨[], rfl, rfl⟩, Nat.le_refl _, Or.inl rfl, Nat.zero_le _, rfl, 0, HM.out⟩
  case round =>
    obtain ⟨f, hm, vL, rs, xs, rfl, hgk, R⟩ := hrel
    have R_le := R.le
    have R_few := R.few
    obtain ⟨a, c, hvL⟩ := own_shape R.own
    subst hvL
    have c0 := R.sh.c0
    have c1 := R.sh.c1
    have fz := R.sh.fr
    have blt := R.sh.lt
    by_cases hlt : f < s.size
    · have hd3 : decide ((f : Int) < (s.size : Int)) = true := by simp; omega
      go_upto_if 32 with fail
      go_cut [] (fun wc => ∃ hm1, RN w w.heap.size s M f wc hm1 (.slice a rs.length c) rs xs)
      case first =>
        obtain ⟨nc, hacc⟩ := R.acc
        by_cases h4 : rs.length = 20
        · have g4 : ((rs.length : Int) == 20) = true := by simp [h4]
          have HA : Hid (Acc s 18 ⟨rs.length + 1, 1, note hm f⟩ f M ∧ Noted (note hm f) f) := by
            refine ⟨?_, ?_⟩
            · unfold Acc at hacc ⊢; rw [← hacc, V_rule hlt]; simp [noteIf, h4]
            · simpa [noteIf] using noted_note R.noted true (Nat.le_refl _)
          clear h4 hacc
          go_wp2_with fail
          refine (noted_any _ w.heap.size (.slice a rs.length c) hm f (by exact R.sh) R.noted).mono ?_
          rintro e w2 ⟨rfl, hsh, hg⟩
          have N : RN w w.heap.size s M f w2 (note hm f) (.slice a rs.length c) rs xs :=
            ⟨hsh, R.bel.grown hg R.bel.size (fun k hk => by injection hk with hk; omega), R.own.kept hg (own_ne R.own (by omega)), R.ruls.keep (keeps_gb hg (by omega) _) (keeps_gb hg (by omega) _), R.info.keep (keeps_gb hg (by omega) _), HA.out.2, HA.out.1⟩
          clear R
          go_wp2
          go_meet
          case rel => exact ⟨_, N⟩
        · have g4 : ((rs.length : Int) == 20) = false := by simp; omega
          have HA : Hid (Acc s 18 ⟨rs.length + 1, 1, hm⟩ f M) := by unfold Hid Acc at *; rw [← hacc, V_rule hlt]; simp [noteIf, h4]
          clear h4 hacc
          have N : RN w w.heap.size s M f wr hm (.slice a rs.length c) rs xs := ⟨R.sh, R.bel, R.own, R.ruls, R.info, R.noted, HA.out⟩
          clear R
          go_wp2
          go_meet
          case rel => exact ⟨_, N⟩
      case rest =>
        obtain ⟨hm1, N⟩ := hcut
        have R_text := R.text
        have RT : Hid (RRulsAt s 0 f rs) := R_text
        clear R R_text c0 c1 fz blt
        obtain ⟨w0, rfl⟩ : ∃ w0, w0 = wc := ⟨_, rfl⟩
        have Nlt := N.sh.lt
        have hin0 : ∀ lv, In w0 (w0.alloc (.cells #[.int .i64 lv, .slice none 0 0, .slice none 0 0] 164)) w.heap.size (.slice a rs.length c) hm1 lv (.slice none 0 0) (.slice none 0 0) 0 [] := fun lv =>
          ⟨(Below.heap_alloc w0 _ _ Nlt).trans N.sh, World.grownBy_alloc _ _ _, heap_alloc_new w0 _, World.ownsRow_nil _ _ _ _, Nlt⟩
        go_upto_if 40 with fail
        go_cut [7] (fun fv wq => ∃ (p : Nat) (lv : Int), fv = .int .i64 p ∧ RP w w.heap.size s M f p w0 wq hm1 (.slice a rs.length c) rs lv)
        case first =>
          by_cases h64 : bt s f = 64
          · have g64 : ((s[f].toNat : Int) == 64) = true := by rw [← bt_at s f hlt, h64]; rfl
            obtain ⟨l1, l2, l3, l4⟩ := (layer_acc N.acc).1 h64
            rw [bt_at s (f + 1) l1] at l3 l4
            have HLY : Hid (layOf s f = (s[f + 1].toNat : Int) - 48) := by unfold Hid layOf; rw [if_pos h64, bt_at s (f + 1) l1]
            have HRP : Hid (∀ lv, lv = layOf s f → RP w w.heap.size s M f (f + 2) w0 (w0.alloc (.cells #[.int .i64 lv, .slice none 0 0, .slice none 0 0] 164)) hm1 (.slice a rs.length c) rs lv) := fun lv hly =>
              ⟨hin0 lv, Or.inl ⟨h64, rfl⟩, hly, by have := N.noted; unfold Noted at *; omega, l2⟩
            clear l2 hin0 h64
            go_wp2
            go_meet
            case rel => exact ⟨f + 2, _, by go_num, HRP.out _ (by rw [HLY.out])⟩
          · have g64 : ((s[f].toNat : Int) == 64) = false := by rw [← bt_at s f hlt]; simp; omega
            have RPp : RP w w.heap.size s M f f w0 (w0.alloc (.cells #[.int .i64 10, .slice none 0 0, .slice none 0 0] 164)) hm1 (.slice a rs.length c) rs 10 :=
              ⟨hin0 10, Or.inr ⟨h64, rfl⟩, by unfold layOf; rw [if_neg h64], N.noted, (layer_acc N.acc).2 h64⟩
            clear hin0 h64
            go_wp2
            go_meet
            case rel => exact ⟨f, 10, rfl, RPp⟩
        case rest =>
          obtain ⟨p, lv, rfl, P⟩ := hcut
          clear hin0
          have hps : p < s.size := P.acc.lt (by omega)
          have hfp : f ≤ p := by rcases P.layer with h | h <;> omega
          go_wp2_with fail
          refine (until_any _ s p 123 ht (by omega)).mono ?_
          rintro e w2 ⟨q, rfl, rfl, HU⟩
          obtain ⟨hpq, hqs, HB⟩ : p < q ∧ q < s.size ∧ Hid (bt s q = 123 ∧ ∀ k, p ≤ k → k < q → bt s k ≠ 123) := by
            obtain ⟨u1, u2, u3, u4⟩ := HU.out
            obtain ⟨x, x1, x2, x3⟩ := sel_brace (s.size - p) (Nat.le_refl _) (Or.inl rfl) P.acc
            have hq : q < s.size := by
              apply Nat.lt_of_not_le
              intro hle
              exact u3 x x1 (by omega) x3
            have h123 := u4 hq
            refine ⟨?_, hq, h123, u3⟩
            apply Nat.lt_of_not_le
            intro hle
            obtain rfl : q = p := by omega
            exact P.acc.ok hps (by rw [h123]; decide)
          go_wp2_with fail
          go_loopg [7] (q + 1 - p) (fun gk fv wq => ∃ (f' : Nat) (hm' : Int) (vS : Value) (ss : List (List (Nat × Nat))) (ys : List Value), fv = .int .i64 f' ∧ q + 1 - f' ≤ gk ∧ RI w0 w.heap.size s p q (rs.length + 1) M f' wq hm' (.slice a rs.length c) lv vS ss ys)
          case atStart =>
            exact ⟨p, hm1, .slice none 0 0, [], [], rfl, Nat.le_refl _, P.inn, rfl, by simp, Nat.le_refl _, by omega, fun _ => ⟨rfl, P.noted, P.acc⟩, fun e => absurd hpq e⟩
          case round =>
            obtain ⟨f', hm', vS, ss, ys, rfl, hgk', I⟩ := hrel
            have I_lo := I.lo
            have I_hi := I.hi
            have I_few := I.few
            obtain ⟨a', c', hvS⟩ := own_shape I.inn.own
            subst hvS
            by_cases hlt' : f' < q
            · have hd4 : decide ((f' : Int) < (q : Int)) = true := by simp; omega
              go_wp2_with fail
              refine (until_any _ s f' 44 ht (by omega)).mono ?_
              rintro e w3 ⟨r1, rfl, rfl, HU1⟩
              go_upto_if 61 with fail
              go_cut [10] (fun ev wc => ∃ en : Nat, ev = .int .i64 en ∧ wc = w3 ∧ f' ≤ en ∧ en ≤ q ∧ Hid ((∀ k, f' ≤ k → k < en → bt s k ≠ 44) ∧ (en < q → bt s en = 44)))
              case first =>
                by_cases hrq : q < r1
                · have hd5 : decide ((q : Int) < (r1 : Int)) = true := by simp; omega
                  go_wp2
                  go_meet
                  case rel => exact ⟨q, rfl, rfl, by omega, Nat.le_refl _, fun k k1 k2 => HU1.out.2.2.1 k k1 (by omega), fun e => by omega⟩
                · have hd5 : decide ((q : Int) < (r1 : Int)) = false := by simp; omega
                  go_wp2
                  go_meet
                  case rel => exact ⟨r1, rfl, rfl, HU1.out.1, by omega, HU1.out.2.2.1, fun e => HU1.out.2.2.2 (by omega)⟩
              case rest =>
                obtain ⟨en, rfl, hwc, hfe, heq, HE⟩ := hcut
                obtain rfl := hwc
                obtain ⟨w3, rfl⟩ : ∃ w3, w3 = wc := ⟨_, rfl⟩
                have hmark : en = q ∨ en < q := by omega
                have HP : Hid (ChPre s f' en (rs.length + 1) M hm') := by
                  obtain ⟨g1, g2, g3⟩ := I.go hlt'
                  refine ⟨hfe, by omega, ht, fun k k1 k2 => ⟨HE.out.1 k k1 k2, HB.out.2 k (by omega) (by omega)⟩, ?_, g2, g3⟩
                  rcases hmark with e | e
                  · right; rw [e]; exact HB.out.1
                  · left; exact HE.out.2 e
                have HI : Hid (RSelsPre s p f' ss) := (I.go hlt').1
                clear hmark
                go_wp2_with fail
                refine (chain_any _ w.heap.size (.slice a rs.length c) hm' s f' en (rs.length + 1) M (by exact I.inn.sh) HP.out).mono ?_
                rintro e w4 ⟨a2, c2, segs, ps, hm2, rfl, sh4, g4, own4, hf4⟩
                have in4 := I.inn.call sh4 g4
                have sels4 := I.sels.keep (keeps_gb g4 (by have := I.inn.lt; omega) 206)
                have hz4 := in4.blt
                have hz3 := I.inn.blt
                have own4' : w4.ownsRow (w0.heap.size + 1) 206 2 (.slice a2 segs.length c2) segs.length ps := own_mono own4 (by omega)
                obtain ⟨rc0, rc1, rc2, rfz⟩ := in4.cells
                clear I sh4 own4
                go_wp2_with (at_builtin; refine wpList_append_own _ rfl (.tmp 69) (.tmp 71) 161 rfl (w0.heap.size + 1) 166 i0 (.slice none 0 0) 1 24 Tryz.underlying161 hi iz0 iz1 iz2 rfl (by decide) _ _ _ rfl (in4.own.alloc _) ⟨w4.heap.size, 0, none⟩ 1 1 [.slice a2 segs.length c2] rfl rfl ?c1 ?c2 ?c3 ?c4 ?c5 ?_)
                case c1 => exact new_cells w4 _ rfl _ _ _ rfl
                case c2 => exact one1 _ _ _
                case c3 => unfold maxLen; omega
                case c4 => omega
                case c5 => simp; omega
                · intro v' w5 hown5 hg5 _
                  have own5 : w5.ownsRow (w0.heap.size + 1) 166 1 v' (ss ++ [segs]).length (ys ++ [.slice a2 segs.length c2]) := by simpa using hown5
                  have in5 := (in4.alloc (.cells #[.slice a2 segs.length c2] 166)).app hg5 own5
                  have rb5 := (in4.alloc (.cells #[.slice a2 segs.length c2] 166)).appBlk hg5
                  have k5 : Keeps w4 (w5.setCell ⟨w0.heap.size, 1, none⟩ v') (w0.heap.size + 1) 206 := ((keeps_alloc _ _ _ _).trans (keeps_app (by decide) (in4.own.alloc _) hg5)).trans (keeps_set _ (by simp) _ _)
                  have I5 : RI w0 w.heap.size s p q (rs.length + 1) M (en + 1) (w5.setCell ⟨w0.heap.size, 1, none⟩ v') hm2 (.slice a rs.length c) lv v' (ss ++ [segs]) (ys ++ [.slice a2 segs.length c2]) := by
                    obtain ⟨t1, t2, t3, nc, t4⟩ := hf4.out
                    refine ⟨in5, RSels.snoc a2 c2 segs ps (k5.owns own4') t1 (sels4.keep k5), by simp; omega, by omega, by omega, fun e => ?_, fun e => ?_⟩
                    · have h44 := HE.out.2 (by omega)
                      refine ⟨RSelsPre.snoc t2 hfe h44 HE.out.1 HI.out, by unfold Noted at *; omega, ?_⟩
                      unfold Acc at t4 ⊢
                      rw [← t4, comma_go h44 (by omega)]
                    · have heq' : en = q := by
                        apply Nat.le_antisymm heq
                        apply Nat.le_of_not_lt
                        intro hl
                        have h44 := HE.out.2 hl
                        obtain rfl : q = en + 1 := by omega
                        have t5 : Acc s 2 ⟨rs.length + 1, 1, hm2⟩ (en + 1) M := by unfold Acc at t4 ⊢; rw [← t4, comma_go h44 (by omega)]
                        exact t5.ok hqs (by rw [HB.out.1]; decide)
                      subst heq'
                      exact ⟨rfl, ⟨ss, f', segs, rfl, HI.out, t2, hfe, HE.out.1⟩, t3, nc, t4⟩
                  have cc1 : w5.cell? ⟨w0.heap.size, 1, none⟩ = some (.slice a' ss.length c') := cell_of_blk rb5 rfl
                  have cz : ∀ j, w5.frozen? ⟨w0.heap.size, j, none⟩ = false := fun _ => frozen_of_blk rb5
                  obtain ⟨a5, c5, hv5⟩ := own_shape own5
                  rw [hv5] at I5 ⊢
                  rw [show (ss ++ [segs]).length = ss.length + 1 from by simp] at I5
                  simp only [List.length_append, List.length_cons, List.length_nil, Nat.zero_add]
                  clear hv5 in5 own5 hown5 hg5 k5 rb5 rc0 rc1 rc2 rfz in4 sels4 own4'
                  go_wp2
                  go_roundg (q + 1 - (en + 1))
                  case measure => omega
                  case rel => exact ⟨en + 1, hm2, _, _, _, by go_num, Nat.le_refl _, I5⟩
            · have hd4 : decide ((f' : Int) < (q : Int)) = false := by simp; omega
              obtain ⟨d1, d2, d3, nc, d4⟩ := I.done hlt'
              have acc9 : Acc s 9 ⟨rs.length + 1, nc, hm'⟩ (q + 1) M := by
                have := d4.step hqs
                rw [HB.out.1] at this
                simpa [nxt, moreN, isS, cnt] using this
              have HD : Hid (RSelsAt s p q ss ∧ Noted hm' q ∧ Acc s 9 ⟨rs.length + 1, nc, hm'⟩ (q + 1) M) := ⟨d2, d3, acc9⟩
              subst d1
              clear d2 d3 d4 acc9
              obtain ⟨wq, rfl⟩ : ∃ wq, wq = wr := ⟨_, rfl⟩
              go_wp2_with fail
              refine (until_any _ s q 125 ht (by omega)).mono ?_
              rintro e w3 ⟨r2, rfl, rfl, HU2⟩
              obtain ⟨hr1, hr2, HR⟩ : q + 1 ≤ r2 ∧ r2 < s.size ∧ Hid (bt s r2 = 125 ∧ ∀ k, q ≤ k → k < r2 → bt s k ≠ 125) := by
                obtain ⟨u1, u2, u3, u4⟩ := HU2.out
                obtain ⟨x, x1, x2, x3⟩ := decl_brace (s.size - (q + 1)) (Nat.le_refl _) ⟨by omega, by omega⟩ HD.out.2.2
                have hr : r2 < s.size := by
                  apply Nat.lt_of_not_le
                  intro hle
                  exact u3 x (by omega) (by omega) x3
                refine ⟨?_, hr, u4 hr, u3⟩
                apply Nat.lt_of_not_le
                intro hle
                obtain rfl : r2 = q := by omega
                have := u4 hr
                rw [HB.out.1] at this
                omega
              have hdok : DOK (s.extract (q + 1) r2) := dok_of HD.out.2.2 (fun j j1 j2 => HR.out.2 j (by omega) j2) (by omega) hr1 (fun _ => HR.out.1)
              have htx : (s.extract (q + 1) r2).size ≤ 400 := by rw [ByteArray.size_extract]; omega
              go_wp2_with fail
              refine (decls_any _ (s.extract (q + 1) r2) htx hdok).mono ?_
              rintro e w4 ⟨a4, c4, dl, rfl, hb4, hdo4, HDA⟩
              have in4 := I.inn.below hb4
              have sels4 := I.sels.keep (keeps_below hb4 _ _)
              obtain ⟨rc0, rc1, rc2, rfz⟩ := in4.cells
              have in5 := in4.setO 2 (.slice a4 dl.length c4) rfl in4.own
              have hzq := I.inn.blt
              have HDO : Hid ((w4.setCell ⟨w0.heap.size, 2, none⟩ (.slice a4 dl.length c4)).ownsRow (w0.heap.size + 1) 229 3 (.slice a4 dl.length c4) dl.length (flatD dl)) := (keeps_set w4 (p := ⟨w0.heap.size, 2, none⟩) (by simp) (.slice a4 dl.length c4) _).owns (own_mono hdo4 (by omega))
              have sels5 := sels4.keep (keeps_set w4 (p := ⟨w0.heap.size, 2, none⟩) (by simp) (.slice a4 dl.length c4) _)
              clear I hdok htx in4 sels4 hdo4 hzq
              go_upto_region 25 with fail
              obtain ⟨W5, hW5⟩ : ∃ W5, W5 = w4.setCell ⟨w0.heap.size, 2, none⟩ (.slice a4 dl.length c4) := ⟨_, rfl⟩
              rw [← hW5] at in5 sels5 HDO ⊢
              clear hW5 rc0 rc1 rc2 rfz hb4
              obtain ⟨rc0, rc1, rc2, rfz⟩ := in5.cells
              have h0 := in5.sh.c0
              have hfz := in5.sh.fr
              have hl5 := in5.sh.lt
              have hz5 := in5.blt
              have hl0 := in5.lt
              have ownL := N.own.kept in5.gb (own_ne N.own (by omega))
              go_region_law (refine step_append_mine rfl (.tmp 90) (.tmp 92) 158 rfl (w.heap.size + 1) 164 i1 (.agg #[.int .i64 0, .slice none 0 0, .slice none 0 0]) 3 56 Tryz.underlying158 hi' jz0 jz1 jz2 rfl (by decide) (.slice a rs.length c) rs.length xs (by simp [Act.eval]) ((ownL.alloc _).drew) ⟨W5.heap.size, 0, none⟩ 1 1 [.int .i64 lv, .slice a' ss.length c', .slice a4 dl.length c4] (by simp [Act.eval]) rfl (new_cells W5 _ rfl _ _ _ rfl) (one3r _ _ _ _ _ _ _) (by unfold maxLen; omega) (by omega) (by simp; omega) ?_; intro v' w6 hown6 hg6; obtain ⟨sh6, R6⟩ := ro_step N R_few P.layer RT.out in5 sels5 hpq hr1 hr2 HB.out.1 HB.out.2 HR.out.1 HR.out.2 P.lay (own_mono HDO.out (by omega)) HDA.out HD.out.1 HD.out.2.1 HD.out.2.2 hown6 hg6; have s60 := sh6.c0; have s6z := sh6.fr; obtain ⟨a6, c6, hv6⟩ := own_shape hown6; rw [hv6] at R6 ⊢; clear hv6 hown6 hg6)
              all_goals
                clear ownL sels5 in5 P N
                go_wp2
                go_roundg (s.size - (r2 + 1))
                case measure => omega
                case rel => exact ⟨r2 + 1, hm', _, _, _, by go_num, Nat.le_refl _, R6⟩
    · obtain rfl : f = s.size := by omega
      have hd3 : decide ((s.size : Int) < (s.size : Int)) = false := by simp
      have hMm : M = hm := by
        obtain ⟨nc, h⟩ := R.acc
        unfold Acc at h
        rw [V_end (Nat.le_refl _), if_pos rfl] at h
        injection h with _ h2
        exact h2.symm
      subst hMm
      by_cases hneg : M = -1
      · subst hneg
        have HC2 : Hid (chk s = (0, 0)) := by unfold Hid; rw [HC.out]; rfl
        have hd4 : decide ((0 : Int) ≤ -1) = false := by decide
        have R2 := R
        clear R
        go_wp2
        go_ret3
        exact ⟨_, by rw [HC2.out]; rfl, R2.bel, fun _ => ⟨_, a, c, rs, xs, -1, rfl, R2.sh, own_mono R2.own (by omega), R2.ruls.mono (by omega), R2.text, R2.info.mono (by omega)⟩⟩
      · have hnn := R.noted
        have hpos : 0 ≤ M := by unfold Noted at hnn; omega
        have HC2 : Hid (chk s = (3, M)) := by unfold Hid; rw [HC.out, if_neg hneg]
        have hd4 : decide ((0 : Int) ≤ M) = true := by simpa using hpos
        have R2 := R
        clear R hnn hneg HC
        go_wp2
        go_quiet (fail)
        go_wp2
        go_ret3
        exact ⟨none, by rw [HC2.out]; rfl, ⟨R2.bel.os, R2.bel.tape, R2.bel.output, R2.bel.size, R2.bel.block⟩, fun h => by rw [HC2.out] at h; simp at h⟩

set_option maxHeartbeats 1000000 in
theorem refcheck_any (w : World) (s : ByteArray) (hs : s.size ≤ maxLen) :
    Calls Tryz.prog 53 #[.string s] w fun e w' => CheckPost w s e w' := by
  go_enter Tryz.func53, Tryz.ntmps53
  go_wp2_with fail
  refine (refread_any _ s hs).mono ?_
  rintro e w1 ⟨pa, rfl, hb, _⟩
  go_wp2_with fail
  go_ret2
  exact ⟨rfl, hb⟩

end Go.Proofs.YtblfffbmklkhmaaGreat
