/- Own work. -/
import Derived.Test.YtblfffbmklkhmaaGreatAw33
namespace Go.Proofs.YtblfffbmklkhmaaGreat
open Go.RowKit
theorem results_cell {P : Program} {fn : Func} {s : Tmp} {t : TypeId} (h : fn.results = #[.cell s t]) (tmps : Array Value) {w : World} {b : Nat} (hx : tmps.getD s undef = .pointer (some ⟨b, 0, none⟩)) {cs : List Value} {d : TypeDesc} (hc : w.rangeAt b 0 cs) (hu : P.underlying t = some d) (hd : d.isRow = true) (hi : (P.info? t).map (·.size) = some cs.length) :
    (results fn tmps).run P w = .ok (.agg cs.toArray) w := by
  have hx' : tmps[s]?.getD undef = .pointer (some ⟨b, 0, none⟩) := by simpa using hx
  simp [results, h, hx', asAddr, run_loadVar_mid w b 0 t cs d hc hu hd hi]
theorem below_setCells {base : Nat} {w : World} {b : Nat} (hb : base ≤ b) : ∀ (vs : List Value) (o : Nat) (wr : World), Below base w wr → Below base w (wr.setCells b o vs)
  | [], _, _, h => h
  | v :: vs, o, wr, h => below_setCells hb vs (o + 1) _ (h.setCell (by exact hb) v)
theorem there_new (w : World) (C : Array Value) (t : TypeId) (n : Nat) (hn : n ≤ C.size) : (w.alloc (.cells C t)).there w.heap.size 0 n := fun j hj => by
  rw [Nat.zero_add]
  refine ⟨?_, frozen_of_blk (heap_alloc_new w _)⟩
  rw [cell_of_row _ _ j C t (0, 0) (heap_alloc_new w _)]
  simp
  omega
theorem there_below {w wr : World} {base b o n : Nat} (hB : Below base w wr) (hb : b < base) (h : w.there b o n) : wr.there b o n := fun j hj => by
  obtain ⟨h1, h2⟩ := h j hj
  obtain ⟨u, hu⟩ := Option.isSome_iff_exists.1 h1
  have hl := World.block_lt_of_cell? w _ hu
  have he := hB.block b (by omega)
  refine ⟨by rw [hB.cell (p := ⟨b, o + j, none⟩) hb]; exact h1, ?_⟩
  unfold World.frozen? at h2 ⊢
  rw [he]
  exact h2
theorem there_part {w : World} {b o n o' n' : Nat} (h : w.there b o n) (h1 : o ≤ o') (h2 : o' + n' ≤ o + n) : w.there b o' n' := fun j hj => by
  have := h (o' - o + j) (by omega)
  rwa [show o + (o' - o + j) = o' + j from by omega] at this
/-- A claim is put into its place. -/
theorem range_set {w : World} {b : Nat} {W : List Clm} (h : w.rangeAt b 0 (flatW W)) (ht : w.there b 0 (W.length * 7)) {p : Nat} (hp : p < W.length) (c : Clm) : (w.setCells b (p * 7) c.cells).rangeAt b 0 (flatW (W.set p c)) := fun j v hv => by
  rw [Nat.zero_add]
  have hj : j < W.length * 7 := by
    have := (List.getElem?_eq_some_iff.1 hv).1
    rwa [flatW_len, List.length_set] at this
  have hi : j / 7 < W.length := by omega
  have hv2 : (flatW (W.set p c))[j / 7 * 7 + j % 7]? = some v := by rw [show j / 7 * 7 + j % 7 = j from by omega]; exact hv
  rw [flatW_at (by rw [List.length_set]; exact hi) (by omega), List.getElem_set] at hv2
  by_cases he : p = j / 7
  · rw [if_pos he] at hv2
    have := World.rangeAt_setCells_same w b (p * 7) c.cells (there_part ht (by omega) (by show p * 7 + 7 ≤ _; omega)) (j % 7) v hv2
    rwa [show p * 7 + j % 7 = j from by omega] at this
  · rw [if_neg he] at hv2
    rw [World.cell?_setCells_out b c.cells (p * 7) w ⟨b, j, none⟩ (fun _ _ => by
      show j < p * 7 ∨ p * 7 + 7 ≤ j
      omega)]
    have := h j v (by rw [← show j / 7 * 7 + j % 7 = j from by omega, flatW_at hi (by omega)]; exact hv2)
    rwa [Nat.zero_add] at this
/-- In the midst of after. -/
structure AfI (w : World) (ly : Int) (W : List Clm) (wr : World) : Prop where
  rng : wr.rangeAt w.heap.size 0 (flatW W)
  thr : wr.there w.heap.size 0 63
  lay : wr.cell? ⟨w.heap.size + 1, 0, none⟩ = some (.int .i64 ly)
  res : wr.there (w.heap.size + 2) 0 63
  below : Below w.heap.size w wr
  far : w.heap.size + 3 ≤ wr.heap.size
theorem AfI.go {w : World} {ly : Int} {W : List Clm} {wr w' : World} (h : AfI w ly W wr) (hB : Below wr.heap.size wr w') : AfI w ly W w' := by
  have h1 := h.far
  have h2 := h.below.size
  exact ⟨range_below hB (by omega) h.rng, there_below hB (by omega) h.thr, (hB.cell (p := ⟨w.heap.size + 1, 0, none⟩) (by show w.heap.size + 1 < _; omega)).trans h.lay, there_below hB (by omega) h.res, h.below.trans (hB.mono h2), Nat.le_trans h1 hB.size⟩
theorem AfI.put {w : World} {ly : Int} {W : List Clm} {wr : World} (h : AfI w ly W wr) (hl : W.length = 9) {p : Nat} (hp : p < 9) (c : Clm) : AfI w ly (W.set p c) (wr.setCells w.heap.size (p * 7) c.cells) := by
  refine ⟨range_set h.rng (by rw [hl]; exact h.thr) (by omega) c, World.there_setCells h.thr _ _ _, ?_, World.there_setCells h.res _ _ _, below_setCells (Nat.le_refl _) _ _ _ h.below, ?_⟩
  · rw [World.cell?_setCells_out w.heap.size c.cells (p * 7) wr ⟨w.heap.size + 1, 0, none⟩ (fun hb _ => absurd hb (by show ¬ (w.heap.size + 1 = w.heap.size); omega))]
    exact h.lay
  · have : ∀ (vs : List Value) (o : Nat) (wx : World), (wx.setCells w.heap.size o vs).heap.size = wx.heap.size := by
      intro vs
      induction vs with
      | nil => intro o wx; rfl
      | cons v vs ih => intro o wx; show ((wx.setCell _ v).setCells _ _ vs).heap.size = _; rw [ih]; simp
    rw [this]
    exact h.far
def PWin (w : World) (W : List Clm) (e : Ending) (w' : World) : Prop := e = .returned (.agg (flatW W).toArray) ∧ Below w.heap.size w w'
theorem one_win (W : List Clm) : ∀ v ∈ flatW W, v.oneCell' = true := by
  intro v hv
  unfold flatW at hv
  rw [List.mem_flatMap] at hv
  obtain ⟨c, _, hc⟩ := hv
  unfold Clm.cells at hc
  simp only [List.mem_cons, List.not_mem_nil, or_false] at hc
  rcases hc with rfl | rfl | rfl | rfl | rfl | rfl | rfl <;> rfl
theorem fold_take {ly wt : Int} {W : List Clm} {ds : List PDc} {i : Nat} (h : i < ds.length) : (ds.take (i + 1)).foldl (stepP ly wt) W = stepP ly wt ((ds.take i).foldl (stepP ly wt) W) ds[i] := by
  rw [List.take_succ_eq_append_getElem h, List.foldl_append]
  rfl
theorem step_fine {ly wt : Int} {W : List Clm} {d : PDc} (h : FineW W) (hd : d.fine) : FineW (stepP ly wt W d) := by
  refine ⟨by rw [stepP_len]; exact h.1, fun c hc => ?_⟩
  unfold stepP at hc
  split at hc
  · split at hc
    · rcases List.mem_or_eq_of_mem_set hc with hc | rfl
      · exact h.2 c hc
      · exact hd.2
    · exact h.2 c hc
  · exact h.2 c hc
theorem fold_fine {ly wt : Int} : ∀ {ds : List PDc} {W : List Clm}, FineW W → (∀ d ∈ ds, d.fine) → FineW (ds.foldl (stepP ly wt) W)
  | [], _, h, _ => h
  | d :: ds, W, h, hd => by
    rw [List.foldl_cons]
    exact fold_fine (step_fine h (hd d List.mem_cons_self)) (fun x hx => hd x (List.mem_cons_of_mem _ hx))
end Go.Proofs.YtblfffbmklkhmaaGreat

namespace Go.Proofs.YtblfffbmklkhmaaGreat
open Go.RowKit
theorem one7 (a b : Bool) (c d e f g : Int) : (#[.bool a, .bool b, .int .i64 c, .int .i64 d, .int .i64 e, .int .i64 f, .int .u8 g] : Array Value).all (·.oneCell') = true := all_oneCell_toArray (cs := [.bool a, .bool b, .int .i64 c, .int .i64 d, .int .i64 e, .int .i64 f, .int .u8 g]) (fun u hu => by
  simp only [List.mem_cons, List.not_mem_nil, or_false] at hu
  rcases hu with rfl | rfl | rfl | rfl | rfl | rfl | rfl <;> rfl)
theorem Tryz.sizeCl : (Tryz.prog.info? 221).map (·.size) = some 7 := by kernel_rfl
theorem afi_start (w : World) (W : List Clm) (hW : W.length = 9) (ly : Int) (v1 v2 : Value) (t1 t2 t3 : TypeId) (Z : Array Value) (hZ : Z.size = 63) : AfI w ly W (((w.alloc (.cells (flatW W).toArray t1)).alloc (.cells #[.int .i64 ly, v1, v2] t2)).alloc (.cells Z t3)) := by
  have e1 : (w.alloc (.cells (flatW W).toArray t1)).heap.size = w.heap.size + 1 := by simp
  have e2 : ((w.alloc (.cells (flatW W).toArray t1)).alloc (.cells #[.int .i64 ly, v1, v2] t2)).heap.size = w.heap.size + 2 := by simp
  have hl : (flatW W).toArray.size = 63 := by rw [List.size_toArray, flatW_len, hW]
  refine ⟨World.rangeAt_alloc (World.rangeAt_alloc (range_new w _ _) _) _, World.there_alloc (World.there_alloc (there_new w _ _ 63 (by omega)) _) _, ?_, ?_, (((Below.refl _ _).alloc (Nat.le_refl _) _).alloc (by simp) _).alloc (by simp; omega) _, by simp⟩
  · rw [World.cell?_alloc_lt _ _ _ (by show w.heap.size + 1 < _; omega)]
    have := new_at (w.alloc (.cells (flatW W).toArray t1)) #[.int .i64 ly, v1, v2] t2 (k := 0) (v := .int .i64 ly) rfl
    rwa [e1] at this
  · have := there_new ((w.alloc (.cells (flatW W).toArray t1)).alloc (.cells #[.int .i64 ly, v1, v2] t2)) Z t3 63 (by omega)
    rwa [e2] at this
section
set_option maxRecDepth 100000
set_option maxHeartbeats 1500000
variable (w : World)
theorem pafter_any (W : List Clm) (hF : FineW W) (ly wt : Int) (sa : Option Addr) (sn sc : Nat) (ad : Option Addr) (cd : Nat) (qs : List Value) (ds : List PDc) (ho : w.ownsRow 0 253 5 (.slice ad ds.length cd) ds.length qs) (hk : Decs qs ds) (hfd : ∀ d ∈ ds, d.fine) (hl : ds.length ≤ 400) :
    Calls Tryz.prog 182 #[.agg (flatW W).toArray, .agg #[.int .i64 ly, .slice sa sn sc, .slice ad ds.length cd], .int .i64 wt] w fun e w' => PWin w (ds.foldl (stepP ly wt) W) e w' := by
  have HF : Hid (∀ i, FineW ((ds.take i).foldl (stepP ly wt) W)) := fun i => fold_fine hF (fun d hd => hfd d (List.mem_of_mem_take hd))
  have HO : Hid (w.ownsRow 0 253 5 (.slice ad ds.length cd) ds.length qs ∧ Decs qs ds ∧ ∀ d ∈ ds, d.fine) := ⟨ho, hk, hfd⟩
  clear hF ho hk hfd
  go_enter Tryz.func182, Tryz.ntmps182
  go_wp2_with fail
  go_loopg [15] ds.length (fun gk iv wr => ∃ i : Nat, iv = .int .i64 i ∧ i ≤ ds.length ∧ ds.length - i ≤ gk ∧ Hid (AfI w ly ((ds.take i).foldl (stepP ly wt) W) wr))
  case atStart => exact ⟨0, rfl, Nat.zero_le _, by omega, afi_start w W (HF.out 0).1 ly _ _ _ _ _ _ rfl⟩
  case round =>
    obtain ⟨i, rfl, hi, hgk, HN⟩ := hrel
    have hfar := HN.out.far
    have hbz := HN.out.below.size
    by_cases hlt : i < ds.length
    · have hd : decide ((i : Int) < (ds.length : Int)) = true := by simp; omega
      obtain ⟨g, hg, hgl, hgc⟩ := own_cells HO.out.1 (by omega)
      subst hg
      obtain ⟨e0, e1, e2, e3, e4⟩ := decs_at HO.out.2.1 hlt
      have c0 := (HN.out.below.cell (p := ⟨g, i * 5, none⟩) hgl).trans (hgc _ _ e0)
      have c1 := (HN.out.below.cell (p := ⟨g, i * 5 + 1, none⟩) hgl).trans (hgc _ _ e1)
      have c2 := (HN.out.below.cell (p := ⟨g, i * 5 + 2, none⟩) hgl).trans (hgc _ _ e2)
      have c3 := (HN.out.below.cell (p := ⟨g, i * 5 + 3, none⟩) hgl).trans (hgc _ _ e3)
      have c4 := (HN.out.below.cell (p := ⟨g, i * 5 + 4, none⟩) hgl).trans (hgc _ _ e4)
      have HST : Hid ((ds.take (i + 1)).foldl (stepP ly wt) W = stepP ly wt ((ds.take i).foldl (stepP ly wt) W) ds[i]) := fold_take hlt
      have hfine := HO.out.2.2 ds[i] (List.getElem_mem hlt)
      have HFi : Hid (FineW ((ds.take i).foldl (stepP ly wt) W)) := HF.out i
      clear e0 e1 e2 e3 e4 hgc
      generalize ds[i] = d at c0 c1 c2 c3 c4 HST hfine
      obtain ⟨pr, kd, nu, va, im⟩ := d
      simp only at c0 c1 c2 c3 c4
      obtain ⟨hpr, hva⟩ := hfine
      simp only at hpr hva
      generalize (ds.take i).foldl (stepP ly wt) W = Wi at HN HST HFi
      obtain ⟨Wj, hWj⟩ : ∃ Wj, (ds.take (i + 1)).foldl (stepP ly wt) W = Wj := ⟨_, rfl⟩
      have HWJ : Hid ((ds.take (i + 1)).foldl (stepP ly wt) W = Wj) := hWj
      rw [hWj] at HST
      clear hWj
      have HNa : Hid (AfI w ly Wi (wr.alloc (.cells #[.int .u8 pr, .int .i64 kd, .int .i64 nu, .int .u8 va, .bool im] 253))) := HN.out.go ((Below.refl _ _).alloc (Nat.le_refl _) _)
      go_wp2_with fail
      refine (pplace_of_any _ pr hpr).mono ?_
      rintro e w1 ⟨rfl, hB⟩
      have HN1 : Hid (AfI w ly Wi w1) := HNa.out.go hB
      have hz1 : wr.heap.size < w1.heap.size := by have := hB.size; simp at this; omega
      have hfar1 := HN1.out.far
      have d1 : w1.cell? ⟨wr.heap.size, 1, none⟩ = some (.int .i64 kd) := (hB.cell (p := ⟨wr.heap.size, 1, none⟩) (by simp)).trans (cell_of_blk (heap_alloc_new wr _) rfl)
      have d2 : w1.cell? ⟨wr.heap.size, 2, none⟩ = some (.int .i64 nu) := (hB.cell (p := ⟨wr.heap.size, 2, none⟩) (by simp)).trans (cell_of_blk (heap_alloc_new wr _) rfl)
      have d3 : w1.cell? ⟨wr.heap.size, 3, none⟩ = some (.int .u8 va) := (hB.cell (p := ⟨wr.heap.size, 3, none⟩) (by simp)).trans (cell_of_blk (heap_alloc_new wr _) rfl)
      have d4 : w1.cell? ⟨wr.heap.size, 4, none⟩ = some (.bool im) := (hB.cell (p := ⟨wr.heap.size, 4, none⟩) (by simp)).trans (cell_of_blk (heap_alloc_new wr _) rfl)
      have dl := HN1.out.lay
      have hzl : w.heap.size + 1 < w1.heap.size := by omega
      clear hB c0 c1 c2 c3 c4 HN HNa
      cases hpl : placeOfP pr with
      | none =>
        have HN2 : Hid (AfI w ly Wj w1) := by
          have : Wj = Wi := by rw [HST.out]; unfold stepP; simp only [hpl]
          rw [this]
          exact HN1.out
        clear hpl HST
        simp only [Option.getD_none, Option.isSome_none]
        go_wp2
        go_roundg (ds.length - (i + 1))
        case measure => omega
        case rel => exact ⟨i + 1, by go_num, by omega, Nat.le_refl _, by unfold Hid; rw [HWJ.out]; exact HN2.out⟩
      | some k =>
        have hk9 : k < 9 := placeOfP_lt hpl
        have hkl : (k : Int) < 9 := by omega
        have hWl := HFi.out.1
        have HK : Hid ((flatW Wi)[k * 7]? = Wi[k].cells[0]? ∧ (flatW Wi)[k * 7 + 1]? = Wi[k].cells[1]? ∧ (flatW Wi)[k * 7 + 2]? = Wi[k].cells[2]? ∧ (flatW Wi)[k * 7 + 3]? = Wi[k].cells[3]? ∧ (flatW Wi)[k * 7 + 4]? = Wi[k].cells[4]? ∧ (flatW Wi)[k * 7 + 5]? = Wi[k].cells[5]? ∧ (flatW Wi)[k * 7 + 6]? = Wi[k].cells[6]?) :=
          ⟨flatW_at (j := 0) (by omega) (by omega), flatW_at (by omega) (by omega), flatW_at (by omega) (by omega), flatW_at (by omega) (by omega), flatW_at (by omega) (by omega), flatW_at (by omega) (by omega), flatW_at (by omega) (by omega)⟩
        have HST2 : Hid (Wj = if beatsP (laterP ly wt ⟨pr, kd, nu, va, im⟩) Wi[k] then Wi.set k (laterP ly wt ⟨pr, kd, nu, va, im⟩) else Wi) := by
          have : Wi.getD k Clm.none = Wi[k] := by rw [List.getD_eq_getElem?_getD, List.getElem?_eq_getElem (by omega)]; rfl
          unfold Hid
          rw [HST.out]
          unfold stepP
          simp only [hpl]
          rw [this]
        clear hpl HST
        generalize Wi[k] = xk at HK HST2
        obtain ⟨th2, im2, ly2, wt2, kd2, nu2, va2⟩ := xk
        simp only [Option.getD_some, Option.isSome_some]
        have HC : Hid (∀ wx, Below (w1.heap.size + 1) (w1.alloc (.cells #[.bool true, .bool im, .int .i64 ly, .int .i64 wt, .int .i64 kd, .int .i64 nu, .int .u8 va] 221)).drew wx → wx.cell? ⟨w1.heap.size, 0, none⟩ = some (.bool true) ∧ wx.cell? ⟨w1.heap.size, 1, none⟩ = some (.bool im) ∧ wx.cell? ⟨w1.heap.size, 2, none⟩ = some (.int .i64 ly) ∧ wx.cell? ⟨w1.heap.size, 3, none⟩ = some (.int .i64 wt) ∧ wx.cell? ⟨w1.heap.size, 4, none⟩ = some (.int .i64 kd) ∧ wx.cell? ⟨w1.heap.size, 5, none⟩ = some (.int .i64 nu) ∧ wx.cell? ⟨w1.heap.size, 6, none⟩ = some (.int .u8 va) ∧ wx.cell? ⟨w.heap.size, k * 7, none⟩ = some (.bool th2) ∧ wx.cell? ⟨w.heap.size, k * 7 + 1, none⟩ = some (.bool im2) ∧ wx.cell? ⟨w.heap.size, k * 7 + 2, none⟩ = some (.int .i64 ly2) ∧ wx.cell? ⟨w.heap.size, k * 7 + 3, none⟩ = some (.int .i64 wt2) ∧ wx.cell? ⟨w.heap.size, k * 7 + 4, none⟩ = some (.int .i64 kd2) ∧ wx.cell? ⟨w.heap.size, k * 7 + 5, none⟩ = some (.int .i64 nu2) ∧ wx.cell? ⟨w.heap.size, k * 7 + 6, none⟩ = some (.int .u8 va2)) := fun wx hb => by
          have hblk : (w1.alloc (.cells #[.bool true, .bool im, .int .i64 ly, .int .i64 wt, .int .i64 kd, .int .i64 nu, .int .u8 va] 221)).drew.heap[w1.heap.size]? = some (.cells #[.bool true, .bool im, .int .i64 ly, .int .i64 wt, .int .i64 kd, .int .i64 nu, .int .u8 va] 221) := heap_alloc_new w1 _
          have hx : wx.heap[w1.heap.size]? = some (.cells #[.bool true, .bool im, .int .i64 ly, .int .i64 wt, .int .i64 kd, .int .i64 nu, .int .u8 va] 221) := (hb.block _ (by omega)).trans hblk
          have hr0 : (w1.alloc (.cells #[.bool true, .bool im, .int .i64 ly, .int .i64 wt, .int .i64 kd, .int .i64 nu, .int .u8 va] 221)).drew.rangeAt w.heap.size 0 (flatW Wi) := World.rangeAt_alloc HN1.out.rng _
          have hr : wx.rangeAt w.heap.size 0 (flatW Wi) := range_below hb (by omega) hr0
          have hz : ∀ j v, (flatW Wi)[j]? = some v → wx.cell? ⟨w.heap.size, j, none⟩ = some v := fun j v hv => by have := hr j v hv; rwa [Nat.zero_add] at this
          obtain ⟨f0, f1, f2, f3, f4, f5, f6⟩ := HK.out
          exact ⟨cell_of_blk hx rfl, cell_of_blk hx rfl, cell_of_blk hx rfl, cell_of_blk hx rfl, cell_of_blk hx rfl, cell_of_blk hx rfl, cell_of_blk hx rfl, hz _ _ f0, hz _ _ f1, hz _ _ f2, hz _ _ f3, hz _ _ f4, hz _ _ f5, hz _ _ f6⟩
        have H0 : Hid (Below (w1.heap.size + 1) (w1.alloc (.cells #[.bool true, .bool im, .int .i64 ly, .int .i64 wt, .int .i64 kd, .int .i64 nu, .int .u8 va] 221)).drew (w1.alloc (.cells #[.bool true, .bool im, .int .i64 ly, .int .i64 wt, .int .i64 kd, .int .i64 nu, .int .u8 va] 221)).drew) := Below.refl _ _
        have HNb : Hid (AfI w ly Wi (w1.alloc (.cells #[.bool true, .bool im, .int .i64 ly, .int .i64 wt, .int .i64 kd, .int .i64 nu, .int .u8 va] 221)).drew) := HN1.out.go ((Below.refl _ _).alloc (Nat.le_refl _) _).drew
        have hzb : (w1.alloc (.cells #[.bool true, .bool im, .int .i64 ly, .int .i64 wt, .int .i64 kd, .int .i64 nu, .int .u8 va] 221)).drew.heap.size = w1.heap.size + 1 := by simp [World.drew]
        have HZB : Hid ((w1.alloc (.cells #[.bool true, .bool im, .int .i64 ly, .int .i64 wt, .int .i64 kd, .int .i64 nu, .int .u8 va] 221)).drew.heap.size = w1.heap.size + 1) := hzb
        clear hzb
        go_upto_region 7 with fail
        go_cut [39] (fun v wx => v = .bool (beatsP (laterP ly wt ⟨pr, kd, nu, va, im⟩) ⟨th2, im2, ly2, wt2, kd2, nu2, va2⟩) ∧ Hid (Below (w1.heap.size + 1) (w1.alloc (.cells #[.bool true, .bool im, .int .i64 ly, .int .i64 wt, .int .i64 kd, .int .i64 nu, .int .u8 va] 221)).drew wx))
        case first =>
          go_region_held3 (fun w' => w'.cell? ⟨w1.heap.size, 0, none⟩ = some (.bool true) ∧ w'.cell? ⟨w1.heap.size, 1, none⟩ = some (.bool im) ∧ w'.cell? ⟨w1.heap.size, 2, none⟩ = some (.int .i64 ly) ∧ w'.cell? ⟨w1.heap.size, 3, none⟩ = some (.int .i64 wt) ∧ w'.cell? ⟨w1.heap.size, 4, none⟩ = some (.int .i64 kd) ∧ w'.cell? ⟨w1.heap.size, 5, none⟩ = some (.int .i64 nu) ∧ w'.cell? ⟨w1.heap.size, 6, none⟩ = some (.int .u8 va) ∧ w'.cell? ⟨w.heap.size, k * 7, none⟩ = some (.bool th2) ∧ w'.cell? ⟨w.heap.size, k * 7 + 1, none⟩ = some (.bool im2) ∧ w'.cell? ⟨w.heap.size, k * 7 + 2, none⟩ = some (.int .i64 ly2) ∧ w'.cell? ⟨w.heap.size, k * 7 + 3, none⟩ = some (.int .i64 wt2) ∧ w'.cell? ⟨w.heap.size, k * 7 + 4, none⟩ = some (.int .i64 kd2) ∧ w'.cell? ⟨w.heap.size, k * 7 + 5, none⟩ = some (.int .i64 nu2) ∧ w'.cell? ⟨w.heap.size, k * 7 + 6, none⟩ = some (.int .u8 va2)) (first | exact HC.out _ H0.out | exact HC.out _ HX.out)
            (first | (go_at_call 196; refine (pbeats_any _ true im ly wt kd nu va th2 im2 ly2 wt2 kd2 nu2 va2).mono ?_; rintro e w2 ⟨rfl, hB2⟩; have HX : Hid (Below (w1.heap.size + 1) (w1.alloc (.cells #[.bool true, .bool im, .int .i64 ly, .int .i64 wt, .int .i64 kd, .int .i64 nu, .int .u8 va] 221)).drew w2) := hB2.mono (by have := HZB.out; omega)))
          all_goals
            go_wp2_with fail
            go_meet
            exact ⟨rfl, HX⟩
        case rest =>
          obtain ⟨rfl, HX⟩ := hcut
          have HNx : Hid (AfI w ly Wi wc) := HNb.out.go (HX.out.mono (by have := HZB.out; omega))
          have hfx := HNx.out.far
          have hzx : w1.heap.size + 1 ≤ wc.heap.size := by have := HX.out.size; have := HZB.out; omega
          clear d1 d2 d3 d4 dl
          cases hbt : beatsP (laterP ly wt ⟨pr, kd, nu, va, im⟩) ⟨th2, im2, ly2, wt2, kd2, nu2, va2⟩ with
          | true =>
            have HN2 : Hid (AfI w ly Wj (wc.setCells w.heap.size (k * 7) [.bool true, .bool im, .int .i64 ly, .int .i64 wt, .int .i64 kd, .int .i64 nu, .int .u8 va])) := by
              unfold Hid
              rw [HST2.out, hbt, if_pos rfl]
              exact HNx.out.put hWl hk9 _
            have HRC : Hid (wc.rangeAt w1.heap.size 0 [.bool true, .bool im, .int .i64 ly, .int .i64 wt, .int .i64 kd, .int .i64 nu, .int .u8 va]) := range_below HX.out (by omega) (range_new w1 _ _)
            obtain ⟨clv, hclv⟩ : ∃ clv : List Value, clv = [.bool true, .bool im, .int .i64 ly, .int .i64 wt, .int .i64 kd, .int .i64 nu, .int .u8 va] := ⟨_, rfl⟩
            have hlen : clv.length = 7 := by rw [hclv]; rfl
            have HO7 : Hid (clv.toArray.all (·.oneCell') = true) := by unfold Hid; rw [hclv]; exact one7 true im ly wt kd nu va
            rw [← hclv] at HRC HN2
            have HTH : Hid (wc.there w.heap.size (k * 7) clv.toArray.size) := (by unfold Hid; rw [show clv.toArray.size = 7 from (List.size_toArray).trans hlen]; exact there_part HNx.out.thr (by omega) (by omega))
            have HSZ : Hid ((Tryz.prog.info? 221).map (·.size) = some clv.length) := by unfold Hid; rw [hlen]; exact Tryz.sizeCl
            have HSZ2 : Hid ((Tryz.prog.info? 221).map (·.size) = some clv.toArray.size) := by unfold Hid; rw [List.size_toArray]; exact HSZ.out
            clear hbt HST2 HC H0 HNb HNx hclv hlen
            go_wp2_with (first | (refine wpList_load_mid rfl 221 _ rfl w1.heap.size 0 rfl clv _ HRC.out Tryz.underlying221 rfl HSZ.out ?_) | (refine wpList_store_mid rfl 221 _ _ rfl w.heap.size (k * 7) clv.toArray rfl rfl HTH.out HSZ2.out HO7.out ?_))
            go_roundg (ds.length - (i + 1))
            case measure => omega
            case rel => exact ⟨i + 1, by go_num, by omega, Nat.le_refl _, by unfold Hid; rw [HWJ.out]; exact HN2.out⟩
          | false =>
            have HN2 : Hid (AfI w ly Wj wc) := by
              unfold Hid
              rw [HST2.out, hbt]
              exact HNx.out
            clear hbt HST2 HC H0 HNb HNx
            go_wp2
            go_roundg (ds.length - (i + 1))
            case measure => omega
            case rel => exact ⟨i + 1, by go_num, by omega, Nat.le_refl _, by unfold Hid; rw [HWJ.out]; exact HN2.out⟩
    · have hd : decide ((i : Int) < (ds.length : Int)) = false := by simp; omega
      obtain rfl : i = ds.length := by omega
      rw [List.take_length] at HN
      have HFW : Hid (FineW (ds.foldl (stepP ly wt) W)) := by have := HF.out ds.length; rwa [List.take_length] at this
      obtain ⟨Wn, hWn⟩ : ∃ Wn, ds.foldl (stepP ly wt) W = Wn := ⟨_, rfl⟩
      rw [hWn] at HN HFW
      have HWN : Hid (ds.foldl (stepP ly wt) W = Wn) := hWn
      clear hWn
      have HSW : Hid ((Tryz.prog.info? 223).map (·.size) = some (flatW Wn).length) := sizeW HFW.out.1
      have HLN : Hid ((flatW Wn).toArray.size = 63) := by unfold Hid; rw [List.size_toArray, flatW_len, HFW.out.1]
      have HSW2 : Hid ((Tryz.prog.info? 223).map (·.size) = some (flatW Wn).toArray.size) := by unfold Hid; rw [List.size_toArray]; exact HSW.out
      have HTH : Hid (wr.there (w.heap.size + 2) 0 (flatW Wn).toArray.size) := by unfold Hid; rw [HLN.out]; exact HN.out.res
      have HON : Hid ((flatW Wn).toArray.all (·.oneCell') = true) := all_oneCell_toArray (one_win Wn)
      have HRE : Hid ((wr.setCells (w.heap.size + 2) 0 (flatW Wn)).rangeAt (w.heap.size + 2) 0 (flatW Wn)) := World.rangeAt_setCells_same wr _ 0 _ (by have := HTH.out; rwa [List.size_toArray] at this)
      have HBE : Hid (Below w.heap.size w (wr.setCells (w.heap.size + 2) 0 (flatW Wn))) := below_setCells (by omega) _ _ _ HN.out.below
      go_wp2_with (first | (refine wpList_load_mid rfl 223 _ rfl w.heap.size 0 rfl (flatW Wn) _ HN.out.rng Tryz.underlying223 rfl HSW.out ?_) | (refine wpList_store_mid rfl 223 _ _ rfl (w.heap.size + 2) 0 (flatW Wn).toArray rfl rfl HTH.out HSW2.out HON.out ?_))
      exact bodyPost_ret (results_cell Tryz.results182 _ rfl HRE.out Tryz.underlying223 rfl HSW.out) rfl ⟨by rw [HWN.out], HBE.out⟩
end
end Go.Proofs.YtblfffbmklkhmaaGreat
