/- Own work. -/
import Derived.Test.YtblfffbmklkhmaaGreatAw13
import Derived.Test.YtblfffbmklkhmaaGreatAw28
namespace Go.Proofs.YtblfffbmklkhmaaGreat
open Go.RowKit
def withinB (els : List PEl) (y t : Int) : Bool := (List.range els.length).any fun j => decide (upP els j y = t)
theorem withinB_iff {els : List PEl} {y t : Int} : withinB els y t = true ↔ ∃ k, k < els.length ∧ upP els k y = t := by
  unfold withinB
  rw [List.any_eq_true]
  constructor
  · rintro ⟨j, hj, h⟩
    exact ⟨j, List.mem_range.1 hj, by simpa using h⟩
  · rintro ⟨j, hj, h⟩
    exact ⟨j, List.mem_range.2 hj, by simpa using h⟩
def reachOf (els l : List PEl) (t : Int) : List Int := (l.filter fun y => withinB els y.num t).map fun y => (y.num : Int)
def reachD (els l : List PEl) (par : Int) : List Int := l.flatMap fun t => if t.par = par then reachOf els els t.num else []
def reachP (els : List PEl) (n : Int) : List Int := match findP els n with | none => [] | some x => reachD els (els.drop (idxP els n)) x.par
theorem reachOf_take {els l : List PEl} {i : Nat} (h : i < l.length) (t : Int) : reachOf els (l.take (i + 1)) t = if withinB els l[i].num t = true then reachOf els (l.take i) t ++ [(l[i].num : Int)] else reachOf els (l.take i) t := by
  unfold reachOf
  rw [List.take_succ_eq_append_getElem h, List.filter_append]
  cases hu : withinB els l[i].num t <;> simp [hu]
theorem reachD_take {els l : List PEl} {i : Nat} (h : i < l.length) (par : Int) : reachD els (l.take (i + 1)) par = if l[i].par = par then reachD els (l.take i) par ++ reachOf els els l[i].num else reachD els (l.take i) par := by
  unfold reachD
  rw [List.take_succ_eq_append_getElem h, List.flatMap_append]
  split
  · rename_i h1
    simp [h1]
  · rename_i h1
    simp [h1]
theorem reachOf_len (els l : List PEl) (t : Int) : (reachOf els l t).length ≤ l.length := by
  unfold reachOf
  rw [List.length_map]
  exact List.length_filter_le _ _
theorem reachD_len (els : List PEl) (par : Int) : ∀ l : List PEl, (reachD els l par).length ≤ l.length * els.length
  | [] => Nat.zero_le _
  | t :: l => by
    have ih := reachD_len els par l
    have h1 := reachOf_len els els t.num
    have e : (t :: l).length * els.length = els.length + l.length * els.length := by rw [List.length_cons, Nat.succ_mul, Nat.add_comm]
    have e2 : reachD els (t :: l) par = (if t.par = par then reachOf els els t.num else []) ++ reachD els l par := rfl
    rw [e, e2, List.length_append]
    split
    · omega
    · simp only [List.length_nil]; omega
theorem reachP_len {els : List PEl} (h : els.length ≤ 24) (n : Int) : (reachP els n).length ≤ 1000 := by
  unfold reachP
  split
  · simp
  · rename_i x _
    have h1 := reachD_len els x.par (els.drop (idxP els n))
    have h2 : (els.drop (idxP els n)).length * els.length ≤ 24 * 24 := Nat.mul_le_mul (by rw [List.length_drop]; omega) h
    omega
theorem reachP_mem {els : List PEl} (hn : (els.map PEl.num).Nodup) {n : Int} {k : Nat} (h : ReachIn els n k) : (k : Int) ∈ reachP els n := by
  obtain ⟨i, x, hx, hxn, t, ht, htp, y, hy, hyk, hw⟩ := h
  have hf : findP els n = some x := by
    cases hf : findP els n with
    | none => exact absurd hxn (findP_none hf (List.mem_of_getElem? hx))
    | some z =>
      obtain ⟨hz, hzn⟩ := findP_some hf
      rw [pel_inj hn hz (List.mem_of_getElem? hx) (by omega)]
  have hi := idx_of hn hx
  rw [hxn] at hi
  unfold reachP
  rw [hf]
  show (k : Int) ∈ reachD els (els.drop (idxP els n)) x.par
  rw [hi]
  unfold reachD
  rw [List.mem_flatMap]
  refine ⟨t, ht, ?_⟩
  rw [if_pos htp]
  unfold reachOf
  rw [List.mem_map]
  exact ⟨y, List.mem_filter.2 ⟨hy, withinB_iff.2 hw⟩, by rw [hyk]⟩
/-- A new list of numbers. -/
def PRowI (w : World) (l : List Int) (e : Ending) (w' : World) : Prop := ∃ (a : Option Addr) (c : Nat), e = .returned (.slice a l.length c) ∧ w'.ownsRow w.heap.size 3 1 (.slice a l.length c) l.length (intsZ l) ∧ Below w.heap.size w w'
section
set_option maxRecDepth 100000
set_option maxHeartbeats 4000000
variable (w : World) (b : Nat) (a : Option Addr) (c : Nat) (els : List PEl) (n : Int)
theorem preach_any (h : TRd w b a c els) : Calls Tryz.prog 75 #[.pointer (some ⟨b, 1, none⟩), .int .i64 n] w fun e w' => PRowI w (reachP els n) e w' := by
  obtain ⟨i0, hi0, iz0, iz1, iz2⟩ := info_parts Tryz.info3
  have HT : Hid (TRd w b a c els) := h
  have hfew := h.few
  clear h
  go_enter Tryz.func75, Tryz.ntmps75
  go_wp2_with fail
  refine (pfind_any w b _ els n HT.out.cell HT.out.pl HT.out.few).mono ?_
  rintro e w1 ⟨hB, ⟨hf, rfl⟩ | ⟨ip, x, hx, hf, rfl⟩⟩
  · have HE : Hid (PRowI w (reachP els n) (.returned (.slice none 0 0)) w1) := by
      have : reachP els n = [] := by unfold reachP; rw [hf]
      rw [this]
      exact ⟨none, 0, rfl, World.ownsRow_nil _ _ _ _, hB⟩
    clear hf hB
    go_wp2
    go_ret
    exact HE.out
  · have hip : ip < els.length := (List.getElem?_eq_some_iff.1 hx).1
    have hxe : els[ip] = x := (List.getElem?_eq_some_iff.1 hx).2
    have HA : Hid (reachP els n = reachD els (els.drop ip) x.par) := by
      unfold Hid reachP
      rw [hf]
      have h1 := (findP_some hf).2
      have h2 := idx_of HT.out.nums hx
      rw [h1] at h2
      show reachD els (els.drop (idxP els n)) x.par = _
      rw [h2]
    have T1 := HT.out.below hB
    have hcap := own_cap T1.pl.row
    have hcm : c ≤ maxLen := own_capM T1.pl.row
    obtain ⟨g, hg, hgl, he⟩ := T1.pl.el hip
    subst hg
    have q1 := he.cell1
    rw [hxe] at q1
    have q0 := T1.cell
    have hil : (ip : Int) < (els.length : Int) := by omega
    have HB1 : Hid (Below w.heap.size w w1) := hB
    have hsz : (Tryz.prog.info? 134).map (·.size) = some 31 := Tryz.size134
    unfold maxLen at hcm
    clear hf hB hx hxe he T1
    generalize x.par = par at HA q1
    have hbl := HT.out.lt
    go_wp2_with fail
    · obtain ⟨m, hm⟩ : ∃ m, els.length - ip = m := ⟨_, rfl⟩
      have hml : m ≤ 24 := by omega
      have HM : Hid (els.length - ip = m) := hm
      have HDL : Hid ((els.drop ip).length = m) := by unfold Hid; rw [List.length_drop]; exact hm
      rw [hm]
      clear hm q0 q1
      go_loopg [8, 36] m (fun gk v iv wr => ∃ i : Nat, iv = .int .i64 i ∧ i ≤ m ∧ m - i ≤ gk ∧ Hid (wr.ownsRow w.heap.size 3 1 v (reachD els ((els.drop ip).take i) par).length (intsZ (reachD els ((els.drop ip).take i) par)) ∧ Below w.heap.size w wr))
      case atStart => exact ⟨0, rfl, Nat.zero_le _, by omega, World.ownsRow_nil _ _ _ _, HB1.out⟩
      case round =>
        obtain ⟨i, rfl, hi, hgk, HN⟩ := hrel
        obtain ⟨wo, rfl⟩ : ∃ wo, wo = wr := ⟨_, rfl⟩
        obtain ⟨a2, c2, hv2⟩ := own_shape HN.out.1
        subst hv2
        have hRL : (reachD els ((els.drop ip).take i) par).length ≤ 576 := by
          have h1 := reachD_len els par ((els.drop ip).take i)
          have h2 : ((els.drop ip).take i).length * els.length ≤ 24 * 24 := Nat.mul_le_mul (by rw [List.length_take]; omega) hfew
          omega
        have hbz := HN.out.2.size
        by_cases hlt : i < m
        · have hd : decide ((i : Int) < (m : Int)) = true := by simp; omega
          have hlt2 : ip + i < els.length := by have := HM.out; omega
          obtain ⟨g2, hg2, hgl2, he⟩ := HT.out.pl.el hlt2
          injection hg2 with hg2
          injection hg2 with hg2 _ _
          subst hg2
          have HE : Hid (ElAt wo g (ip * 31 + i * 31) els[ip + i].cells els[ip + i].num els[ip + i].par) := by
            rw [show ip * 31 + i * 31 = (ip + i) * 31 from by omega]
            exact he.below HN.out.2 hgl2
          have HST : Hid (reachD els ((els.drop ip).take (i + 1)) par = if els[ip + i].par = par then reachD els ((els.drop ip).take i) par ++ reachOf els els els[ip + i].num else reachD els ((els.drop ip).take i) par) := by
            have h1 := reachD_take (els := els) (l := els.drop ip) (i := i) (by rw [HDL.out]; exact hlt) par
            rw [List.getElem_drop] at h1
            exact h1
          have q0 : wo.cell? ⟨b, 1, none⟩ = some (.slice (some ⟨g, 0, none⟩) els.length c) := (HN.out.2.cell (p := ⟨b, 1, none⟩) hbl).trans HT.out.cell
          have hblr : b < wo.heap.size := by omega
          clear he
          generalize els[ip + i].par = py at HE HST
          generalize els[ip + i].num = ny at HE HST
          generalize els[ip + i].cells = cs at HE
          have c0 : cs[0]? = some (.int .i64 ny) := HE.out.c0
          have c1 : cs[1]? = some (.int .i64 py) := HE.out.c1
          generalize reachD els ((els.drop ip).take i) par = R at HN HST hRL ⊢
          by_cases hp : py = par
          · have gp : (py != par) = false := by simp [hp]
            have HST2 : Hid (reachD els ((els.drop ip).take (i + 1)) par = R ++ reachOf els els ny) := by unfold Hid; rw [HST.out, if_pos hp]
            have HBK : Hid ((wo.alloc (.cells cs.toArray 134)).heap[wo.heap.size]? = some (.cells cs.toArray 134)) := heap_alloc_new wo _
            have HN1 : Hid ((wo.alloc (.cells cs.toArray 134)).ownsRow w.heap.size 3 1 (.slice a2 R.length c2) (R ++ reachOf els (els.take 0) ny).length (intsZ (R ++ reachOf els (els.take 0) ny)) ∧ Below w.heap.size w (wo.alloc (.cells cs.toArray 134))) := by
              have : R ++ reachOf els (els.take 0) ny = R := by simp [reachOf]
              rw [this]
              exact ⟨HN.out.1.alloc _, HN.out.2.alloc hbz _⟩
            clear hp HST HN
            go_wp2_with (first | (refine wpList_load_mid rfl 134 _ rfl g (ip * 31 + i * 31) rfl cs _ HE.out.rng Tryz.underlying134 rfl HE.out.size ?_) | (refine wpList_store_new rfl 134 _ _ rfl _ cs.toArray 134 rfl rfl HE.out.size' HE.out.same HE.out.all ?_))
            go_loopg [8, 49] els.length (fun gk v kv wr => ∃ k : Nat, kv = .int .i64 k ∧ k ≤ els.length ∧ els.length - k ≤ gk ∧ Hid ((wr.ownsRow w.heap.size 3 1 v (R ++ reachOf els (els.take k) ny).length (intsZ (R ++ reachOf els (els.take k) ny)) ∧ Below w.heap.size w wr) ∧ wr.heap[wo.heap.size]? = some (.cells cs.toArray 134)))
            case atStart => exact ⟨0, rfl, Nat.zero_le _, by omega, HN1.out, HBK.out⟩
            case round =>
              obtain ⟨k, rfl, hk, hgk2, HJ⟩ := hrel
              obtain ⟨a3, c3, hv3⟩ := own_shape HJ.out.1.1
              subst hv3
              have hRL3 : (R ++ reachOf els (els.take k) ny).length ≤ 600 := by
                have h1 := reachOf_len els (els.take k) ny
                have h2 : (els.take k).length ≤ els.length := List.length_take_le' _ _
                rw [List.length_append]
                omega
              have hjz := HJ.out.1.2.size
              obtain ⟨L, hLd⟩ : ∃ L, R ++ reachOf els (els.take k) ny = L := ⟨_, rfl⟩
              have HLD : Hid (R ++ reachOf els (els.take k) ny = L) := hLd
              rw [hLd] at HJ hRL3 ⊢
              clear hLd
              by_cases hlk : k < els.length
              · have hd2 : decide ((k : Int) < (els.length : Int)) = true := by simp; omega
                obtain ⟨g3, hg3, hgl3, he3⟩ := HT.out.pl.el hlk
                injection hg3 with hg3
                injection hg3 with hg3 _ _
                subst hg3
                have HE3 : Hid (ElAt wr g (k * 31) els[k].cells els[k].num els[k].par) := he3.below HJ.out.1.2 hgl3
                have HST3 : Hid (reachOf els (els.take (k + 1)) ny = if withinB els els[k].num ny = true then reachOf els (els.take k) ny ++ [(els[k].num : Int)] else reachOf els (els.take k) ny) := reachOf_take hlk ny
                have q10 : wr.cell? ⟨wo.heap.size, 0, none⟩ = some (.int .i64 ny) := cell_of_blk HJ.out.2 (by simpa using c0)
                have hwl : wo.heap.size < wr.heap.size := (Array.getElem?_eq_some_iff.1 HJ.out.2).1
                clear he3
                generalize els[k].num = nk at HE3 HST3
                generalize els[k].par = pk at HE3
                generalize els[k].cells = cs3 at HE3
                have c03 : cs3[0]? = some (.int .i64 nk) := HE3.out.c0
                have HT3 : Hid (TRd (wr.alloc (.cells cs3.toArray 134)) b (some ⟨g, 0, none⟩) c els) := HT.out.below (HJ.out.1.2.alloc hjz _)
                have HEY : Hid (ElAt (wr.alloc (.cells cs3.toArray 134)) wr.heap.size 0 cs3 nk pk) := HE3.out.new wr
                go_wp2_with (first | (refine wpList_load_mid rfl 134 _ rfl g (k * 31) rfl cs3 _ HE3.out.rng Tryz.underlying134 rfl HE3.out.size ?_) | (refine wpList_store_new rfl 134 _ _ rfl _ cs3.toArray 134 rfl rfl HE3.out.size' HE3.out.same HE3.out.all ?_))
                refine (pwithin_any (wr.alloc (.cells cs3.toArray 134)) b _ els nk ny HT3.out.cell HT3.out.pl hfew).mono ?_
                rintro e w3 ⟨hB3, r, rfl, hr⟩
                have HR : Hid (r = true ↔ withinB els nk ny = true) := hr.trans withinB_iff.symm
                have hz3 : wr.heap.size + 1 ≤ w3.heap.size := by have := hB3.size; simpa using this
                have HB3 : Hid (Below (wr.heap.size + 1) (wr.alloc (.cells cs3.toArray 134)) w3) := by simpa [Hid] using hB3
                have HJ3 : Hid ((w3.ownsRow w.heap.size 3 1 (.slice a3 L.length c3) L.length (intsZ L) ∧ Below w.heap.size w w3) ∧ w3.heap[wo.heap.size]? = some (.cells cs.toArray 134)) :=
                  ⟨⟨own_below (HJ.out.1.1.alloc _) hB3, (HJ.out.1.2.alloc hjz _).trans (hB3.mono (by simp; omega))⟩, (hB3.block wo.heap.size (by simp; omega)).trans ((Below.heap_alloc _ _ _ hwl).trans HJ.out.2)⟩
                have HEY3 : Hid (ElAt w3 wr.heap.size 0 cs3 nk pk) := HEY.out.below HB3.out (by omega)
                have q12 : w3.cell? ⟨wr.heap.size, 0, none⟩ = some (.int .i64 nk) := HEY3.out.rng 0 _ HEY3.out.c0
                clear hB3 hr HB3 HJ HEY HT3 HE3 q10 c03 HEY3
                cases r with
                | false =>
                  have HJ5 : Hid ((w3.ownsRow w.heap.size 3 1 (.slice a3 L.length c3) (R ++ reachOf els (els.take (k + 1)) ny).length (intsZ (R ++ reachOf els (els.take (k + 1)) ny)) ∧ Below w.heap.size w w3) ∧ w3.heap[wo.heap.size]? = some (.cells cs.toArray 134)) := by
                    rw [HST3.out, if_neg (fun hx => by have := HR.out.2 hx; cases this), HLD.out]
                    exact HJ3.out
                  clear HST3 HR HJ3
                  go_wp2
                  go_roundg (els.length - (k + 1))
                  case measure => omega
                  case rel => exact ⟨k + 1, by go_num, by omega, Nat.le_refl _, HJ5⟩
                | true =>
                  have HST4 : Hid (R ++ reachOf els (els.take (k + 1)) ny = L ++ [(nk : Int)]) := by
                    unfold Hid
                    rw [HST3.out, if_pos (HR.out.1 rfl), ← HLD.out, List.append_assoc]
                  clear HST3 HR
                  go_wp2_with (first | (at_builtin; refine wpList_append_own _ rfl (.tmp 59) (.tmp 62) 40 rfl w.heap.size 3 i0 (.int .i64 0) 1 8 Tryz.underlying40 hi0 iz0 iz1 iz2 rfl (by decide) _ _ _ rfl (HJ3.out.1.1.alloc _) ⟨w3.heap.size, 0, none⟩ 1 1 [.int .i64 (nk : Int)] rfl rfl ?c1 ?c2 ?c3 ?c4 ?c5 ?_))
                  case c1 => exact new_cells w3 _ rfl _ _ _ rfl
                  case c2 => exact one_z nk
                  case c3 => unfold maxLen; omega
                  case c4 => omega
                  case c5 => simp; omega
                  intro v5 w5 own5 hg5 _
                  have HJ5 : Hid ((w5.ownsRow w.heap.size 3 1 v5 (R ++ reachOf els (els.take (k + 1)) ny).length (intsZ (R ++ reachOf els (els.take (k + 1)) ny)) ∧ Below w.heap.size w w5) ∧ w5.heap[wo.heap.size]? = some (.cells cs.toArray 134)) := by
                    rw [HST4.out]
                    refine ⟨⟨by simpa [intsZ] using own5, (HJ3.out.1.2.alloc (by omega) _).grown hg5 (by simp; omega) (fun k hk => (HJ3.out.1.1.lt k hk).1)⟩, ?_⟩
                    exact (hg5.block wo.heap.size (by simp; omega) (fun e => own_ne_type HJ3.out.1.1 HJ3.out.2 (by decide) e.symm)).trans ((Below.heap_alloc _ _ _ (by omega)).trans HJ3.out.2)
                  clear own5 hg5 HJ3 q12
                  go_wp2
                  go_roundg (els.length - (k + 1))
                  case measure => omega
                  case rel => exact ⟨k + 1, by go_num, by omega, Nat.le_refl _, HJ5⟩
              · have hd2 : decide ((k : Int) < (els.length : Int)) = false := by simp; omega
                obtain rfl : k = els.length := by omega
                have HN5 : Hid (wr.ownsRow w.heap.size 3 1 (.slice a3 L.length c3) (reachD els ((els.drop ip).take (i + 1)) par).length (intsZ (reachD els ((els.drop ip).take (i + 1)) par)) ∧ Below w.heap.size w wr) := by
                  have h1 := HLD.out
                  rw [List.take_length] at h1
                  rw [HST2.out, h1]
                  exact HJ.out.1
                clear HJ
                go_wp2
                go_roundg (m - (i + 1))
                case measure => omega
                case rel => exact ⟨i + 1, by go_num, by omega, Nat.le_refl _, HN5⟩
          · have gp : (py != par) = true := by simp [hp]
            have HN5 : Hid ((wo.alloc (.cells cs.toArray 134)).ownsRow w.heap.size 3 1 (.slice a2 R.length c2) (reachD els ((els.drop ip).take (i + 1)) par).length (intsZ (reachD els ((els.drop ip).take (i + 1)) par)) ∧ Below w.heap.size w (wo.alloc (.cells cs.toArray 134))) := by
              rw [HST.out, if_neg hp]
              exact ⟨HN.out.1.alloc _, HN.out.2.alloc hbz _⟩
            clear hp HST
            go_wp2_with (first | (refine wpList_load_mid rfl 134 _ rfl g (ip * 31 + i * 31) rfl cs _ HE.out.rng Tryz.underlying134 rfl HE.out.size ?_) | (refine wpList_store_new rfl 134 _ _ rfl _ cs.toArray 134 rfl rfl HE.out.size' HE.out.same HE.out.all ?_))
            go_roundg (m - (i + 1))
            case measure => omega
            case rel => exact ⟨i + 1, by go_num, by omega, Nat.le_refl _, HN5⟩
        · have hd : decide ((i : Int) < (m : Int)) = false := by simp; omega
          obtain rfl : i = m := by omega
          have HDT : Hid ((els.drop ip).take i = els.drop ip) := by
            unfold Hid
            rw [List.take_of_length_le (by rw [HDL.out]; exact Nat.le_refl _)]
          rw [HDT.out, ← HA.out] at HN hRL ⊢
          go_wp2
          go_ret
          exact ⟨a2, c2, rfl, HN.out.1, HN.out.2⟩
end
end Go.Proofs.YtblfffbmklkhmaaGreat
