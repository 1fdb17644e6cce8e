/- The weight of a selector: the document's calls. Own work. -/
import Derived.Test.YtblfffbmklkhmaaGreatRefWeigh
import Derived.Test.YtblfffbmklkhmaaGreatRefRead
namespace Go.Proofs.YtblfffbmklkhmaaGreat
open Go.RowKit

theorem loop_ne (v : ByteArray) (i : Nat) (r : List UInt8) (h : i < v.size ∨ r ≠ []) : ByteArray.toList.loop v i r ≠ [] := by
  generalize hn : v.size - i = n
  induction n generalizing i r with
  | zero =>
    unfold ByteArray.toList.loop
    rw [if_neg (by omega)]
    intro e
    rcases h with h | h
    · omega
    · exact h (by simpa using e)
  | succ n ih =>
    unfold ByteArray.toList.loop
    rw [if_pos (by omega)]
    exact ih _ _ (Or.inr (by simp)) (by omega)
theorem toList_ne (v : ByteArray) (h : 0 < v.size) : v.toList.isEmpty = false := by
  have := loop_ne v 0 [] (Or.inl h)
  unfold ByteArray.toList
  cases hl : ByteArray.toList.loop v 0 [] with
  | nil => exact absurd hl this
  | cons a b => rfl

theorem below_draws {B : Nat} {a w : World} (h : Below B a w) (n : Nat) : Below B a (w.drewN n) := ⟨h.os, h.tape, h.output, h.size, h.block⟩

set_option maxRecDepth 100000 in
set_option maxHeartbeats 4000000 in
theorem refselw_any (w : World) (pa : Option Addr) (base : Nat) (s : ByteArray) (a : Option Addr) (c : Nat) (segs : List (Nat × Nat)) (cs : List PCp) (xs : List Value)
    (ho : w.ownsRow base 206 2 (.slice a segs.length c) segs.length xs) (ht : Txs s xs segs) (hc : CS s segs cs) (hsh : Short cs) (hsm : s.size ≤ 400) :
    Calls Tryz.prog 89 #[.pointer pa, .slice a segs.length c] w fun e w' => WOut w (cws cs) e w' := by
  have hlen := cs_len hc
  have HO : Hid (w.ownsRow base 206 2 (.slice a segs.length c) segs.length xs ∧ Txs s xs segs ∧ CS s segs cs ∧ Short cs) := ⟨ho, ht, hc, hsh⟩
  have hl := hsh.1
  clear ho ht hc hsh
  rw [hlen]
  rw [hlen] at HO
  clear hlen
  go_enter Tryz.func89, Tryz.ntmps89
  go_wp2_with fail
  go_loopg [5, 6] cs.length (fun gk sv iv wr => ∃ i : Nat, iv = .int .i64 i ∧ i ≤ cs.length ∧ cs.length - i ≤ gk ∧ sv = .int .i64 ((cws (cs.take i) : Nat) : Int) ∧ Below w.heap.size w wr)
  case atStart => exact ⟨0, rfl, Nat.zero_le _, by omega, by simp [cws], Below.refl _ _⟩
  case round =>
    obtain ⟨i, rfl, hi, hgk, rfl, hB⟩ := hrel
    by_cases hlt : i < cs.length
    · have hd : decide ((i : Int) < (cs.length : Int)) = true := by simp; omega
      obtain ⟨g, hg, hgl, hgc⟩ := own_cells HO.out.1 (by omega)
      subst hg
      obtain ⟨p, q, e0, e1, e2, e3⟩ := cs_at HO.out.2.1 HO.out.2.2.1 hlt
      have c0 := (hB.cell (p := ⟨g, i * 2 + 1, none⟩) hgl).trans (hgc _ _ e0)
      have HP : Hid (cws (cs.take (i + 1)) = cws (cs.take i) + cw cs[i].ty cs[i].ps) := cws_take hlt
      have hb1 := cws_take_le HO.out.2.2.2 i
      obtain ⟨ws, f1, f2, f3, f4⟩ := comp_cuts e1 e2
      have HR : Hid (Rst s q (s.extract p q) p ws (cws (cs.take i)) (cws (cs.take (i + 1)))) := ⟨rfl, by omega, f1, by rw [HP.out, f2], f3, f4⟩
      have hwl : ws.length ≤ 400 := by omega
      clear e0 e1 e2 hgc f1 f2 f3 f4 HP
      generalize s.extract p q = u at c0 HR
      generalize cws (cs.take i) = p0 at HR hb1
      obtain ⟨P, hP⟩ : ∃ P, P = cws (cs.take (i + 1)) := ⟨_, rfl⟩
      rw [← hP] at HR
      have HPE : Hid (P = cws (cs.take (i + 1))) := hP
      clear hP
      obtain ⟨wo, rfl⟩ : ∃ wo, wo = wr := ⟨_, rfl⟩
      go_wp2_with fail
      go_loopg [5, 7] ws.length (fun gk sv uv wr => ∃ (v : ByteArray) (j : Nat) (ys : List Nat) (t : Nat), uv = .string v ∧ sv = .int .i64 (t : Int) ∧ ys.length ≤ gk ∧ ys.length ≤ ws.length ∧ t ≤ p0 + 1000000 * (ws.length - ys.length) ∧ Hid (Rst s q v j ys t P) ∧ Below w.heap.size w wr)
      case atStart => exact ⟨u, p, ws, p0, rfl, rfl, Nat.le_refl _, Nat.le_refl _, by omega, HR.out, hB⟩
      case round =>
        obtain ⟨v, j, ys, t, rfl, rfl, hgk', hyl, htl, HR', hB'⟩ := hrel
        cases ys with
        | nil =>
          obtain ⟨r1, r2⟩ := HR'.out.nil
          subst r1 r2
          go_wp2
          go_roundg (cs.length - (i + 1))
          case measure => omega
          case rel => exact ⟨i + 1, by go_num, by omega, Nat.le_refl _, by rw [← HPE.out], hB'⟩
        | cons y ys =>
          obtain ⟨r1, r2, r3, r4, r5, r6⟩ := HR'.out.cons e3
          have hvs : v.size ≤ 400 := by rw [HR'.out.size e3]; omega
          have hne : v.toList.isEmpty = false := toList_ne v (by omega)
          have hyy := HR'.out.all y List.mem_cons_self
          have HC : Hid (cutV v 0 = y ∧ Rst s q (v.extract (cutN v 0) v.size) (j + cutN v 0) ys (t + y) P ∧ cutK (v.extract 0 (cutN v 0)) 0 < (v.extract 0 (cutN v 0)).size ∧ cutV (v.extract 0 (cutN v 0)) 0 = y) := ⟨r2, r3, r4, r5⟩
          have HN : Hid (cutN v 0 ≤ v.size) := r1
          simp only [List.length_cons] at hgk' hyl htl
          clear r1 r2 r3 r4 r5 r6
          go_wp2_with fail
          refine (cut_any _ v HN.out hvs).mono ?_
          rintro e w2 ⟨rfl, n2, rfl⟩
          go_wp2_with fail
          refine (weighs_any _ (v.extract 0 (cutN v 0)) HC.out.2.2.1 (by rw [ByteArray.size_extract]; omega)).mono ?_
          rw [HC.out.2.2.2]
          rintro e w3 ⟨rfl, rfl⟩
          have HR2 : Hid (Rst s q (v.extract (cutN v 0) v.size) (j + cutN v 0) ys (t + y) P) := HC.out.2.1
          generalize v.extract (cutN v 0) v.size = v2 at HR2
          generalize v.extract 0 (cutN v 0) = v3
          clear HC HN hne
          go_wp2
          go_roundg ys.length
          case measure => omega
          case rel => exact ⟨v2, _, ys, t + y, rfl, by go_num, Nat.le_refl _, by omega, by omega, HR2, below_draws hB' _⟩
    · have hd : decide ((i : Int) < (cs.length : Int)) = false := by simp; omega
      obtain rfl : i = cs.length := by omega
      go_wp2
      go_ret
      refine ⟨?_, hB⟩
      rw [List.take_length]
      rfl

end Go.Proofs.YtblfffbmklkhmaaGreat
