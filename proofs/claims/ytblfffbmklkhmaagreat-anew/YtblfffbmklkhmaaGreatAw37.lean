/- Own work. -/
import Derived.Test.YtblfffbmklkhmaaGreatAw29
import Derived.Test.YtblfffbmklkhmaaGreatAw36
import Derived.RegionTactic
import Derived.Test.YtblfffbmklkhmaaGreatAw20
import Derived.Deep.RegionLaw
namespace Go.Proofs.YtblfffbmklkhmaaGreat
open Go.RowKit
theorem results_row_tmp {P : Program} {fn : Func} {s u : Tmp} {t : TypeId} (h : fn.results = #[.cell s t, .tmp u]) (tmps : Array Value) {w : World} {b : Nat} (hx : tmps.getD s undef = .pointer (some ⟨b, 0, none⟩)) {cs : List Value} {d : TypeDesc} (hc : w.rangeAt b 0 cs) (hu : P.underlying t = some d) (hd : d.isRow = true) (hi : (P.info? t).map (·.size) = some cs.length) :
    (results fn tmps).run P w = .ok (.tuple #[.agg cs.toArray, tmps.getD u undef]) w := by
  have hx' : tmps[s]?.getD undef = .pointer (some ⟨b, 0, none⟩) := by simpa using hx
  simp [results, h, hx', asAddr, run_loadVar_mid w b 0 t cs d hc hu hd hi]
def findK (kl : List (Int × List Int)) (n : Int) : Option (List Int) := (kl.find? fun x => decide (x.1 = n)).map Prod.snd
abbrev zeroS : List Int := [0, 0, 0, 0, 0, 0, 0, 0, 0]
def PFindK (w : World) (r : Option (List Int)) (e : Ending) (w' : World) : Prop := e = .returned (.tuple #[.agg (intsZ (r.getD zeroS)).toArray, .bool r.isSome]) ∧ Below w.heap.size w w'
theorem findK_at {kl : List (Int × List Int)} {n : Int} {i : Nat} (hi : i < kl.length) (hno : ∀ j (_ : j < kl.length), j < i → kl[j].1 = n → False) (h : kl[i].1 = n) : findK kl n = some kl[i].2 := by
  unfold findK
  have : (kl.find? fun x => decide (x.1 = n)) = some kl[i] := by
    rw [List.find?_eq_some_iff_getElem]
    refine ⟨by simpa using h, i, hi, rfl, fun j hj => ?_⟩
    have := hno j (by omega) hj
    simpa using this
  rw [this]
  rfl
theorem findK_no {kl : List (Int × List Int)} {n : Int} (hno : ∀ j (_ : j < kl.length), kl[j].1 = n → False) : findK kl n = none := by
  unfold findK
  have : (kl.find? fun x => decide (x.1 = n)) = none := by
    rw [List.find?_eq_none]
    intro x hx
    obtain ⟨j, hj, rfl⟩ := List.getElem_of_mem hx
    simpa using hno j hj
  rw [this]
  rfl
theorem findK_some {kl : List (Int × List Int)} {n : Int} {s : List Int} (h : findK kl n = some s) : (n, s) ∈ kl := by
  unfold findK at h
  cases hf : kl.find? fun x => decide (x.1 = n) with
  | none => rw [hf] at h; cases h
  | some x =>
    rw [hf] at h
    have h1 : x.1 = n := by simpa using List.find?_some hf
    have h2 : x.2 = s := by simpa using h
    have := List.mem_of_find?_eq_some hf
    rw [← h1, ← h2]
    exact this
theorem findK_none {kl : List (Int × List Int)} {n : Int} (h : findK kl n = none) : ∀ x ∈ kl, x.1 ≠ n := by
  unfold findK at h
  rw [Option.map_eq_none_iff, List.find?_eq_none] at h
  intro x hx
  simpa using h x hx
section
set_option maxRecDepth 100000
set_option maxHeartbeats 4000000
theorem pfindK_any (w : World) (b : Nat) (v : Value) (kl : List (Int × List Int)) (n : Int) (hb : w.cell? ⟨b, 3, none⟩ = some v) (h : KL w v kl) (hfew : kl.length ≤ 24) :
    Calls Tryz.prog 86 #[.pointer (some ⟨b, 3, none⟩), .int .i64 n] w fun e w' => PFindK w (findK kl n) e w' := by
  obtain ⟨a, c, hv⟩ := h.shape
  subst hv
  have HP : Hid (KL w (.slice a kl.length c) kl) := h
  have hbl : b < w.heap.size := World.block_lt_of_cell? w _ hb
  clear h
  have HSZ : Hid ((Tryz.prog.info? 103).map (·.size) = some (intsZ zeroS).toArray.size) := Tryz.sizeS
  go_enter Tryz.func86, Tryz.ntmps86
  go_wp2_with fail
  go_loopg [13] kl.length (fun gk iv wr => ∃ i : Nat, iv = .int .i64 i ∧ i ≤ kl.length ∧ kl.length - i ≤ gk ∧ Hid (Below w.heap.size w wr ∧ wr.there w.heap.size 0 9 ∧ w.heap.size < wr.heap.size ∧ ∀ j (_ : j < kl.length), j < i → kl[j].1 = n → False))
  case atStart => exact ⟨0, rfl, Nat.zero_le _, by omega, (Below.refl _ _).alloc (Nat.le_refl _) _, there_new w _ _ 9 (by decide), by simp, fun j _ h => by omega⟩
  case round =>
    obtain ⟨i, rfl, hi, hgk, HN⟩ := hrel
    have hbz := HN.out.1.size
    by_cases hlt : i < kl.length
    · have hd : decide ((i : Int) < (kl.length : Int)) = true := by simp; omega
      obtain ⟨g, hg, hgl, he⟩ := HP.out.el hlt
      subst hg
      have HE : Hid (KAt wr g (i * 10) (kCells kl[i]) kl[i].1) := he.below HN.out.1 hgl
      have h9 := HP.out.nine _ (List.getElem_mem hlt)
      have HF : Hid (kl[i].1 = n → findK kl n = some kl[i].2) := fun h => findK_at hlt HN.out.2.2.2 h
      have HNX : Hid (¬ kl[i].1 = n → ∀ j (_ : j < kl.length), j < i + 1 → kl[j].1 = n → False) := fun hm j hj h1 h2 => by
        by_cases e : j = i
        · subst e; exact hm h2
        · exact HN.out.2.2.2 j hj (by omega) h2
      clear he
      generalize kl[i] = y at HE HF HNX h9
      have HRS : Hid ((wr.alloc (.cells (kCells y).toArray 196)).rangeAt wr.heap.size 1 (intsZ y.2)) := fun j u hu => by
        have := (HE.out.new wr).rng (1 + j) u (by rw [Nat.add_comm]; exact hu)
        rwa [Nat.zero_add] at this
      obtain ⟨cs, hcs⟩ : ∃ cs, kCells y = cs := ⟨_, rfl⟩
      rw [hcs] at HE HRS
      clear hcs
      obtain ⟨y1, y2⟩ := y
      simp only at HE HF HNX h9 HRS
      have c0 : cs[0]? = some (.int .i64 y1) := HE.out.c0
      by_cases hy : y1 = n
      · have gy : (y1 == n) = true := by simp [hy]
        have HF2 : Hid (findK kl n = some y2) := HF.out hy
        have HS1 : Hid ((Tryz.prog.info? 103).map (·.size) = some (intsZ y2).length) := sizeS h9
        have hlen : (intsZ y2).toArray.size = 9 := List.size_toArray.trans (by rw [List.length_map]; exact h9)
        have HS2 : Hid ((Tryz.prog.info? 103).map (·.size) = some (intsZ y2).toArray.size) := by unfold Hid; rw [hlen]; exact Tryz.sizeS
        have HTH : Hid ((wr.alloc (.cells cs.toArray 196)).there w.heap.size 0 (intsZ y2).toArray.size) := by unfold Hid; rw [hlen]; exact World.there_alloc HN.out.2.1 _
        have HO9 : Hid ((intsZ y2).toArray.all (·.oneCell') = true) := one_ints y2
        have HRE : Hid (((wr.alloc (.cells cs.toArray 196)).setCells w.heap.size 0 (intsZ y2)).rangeAt w.heap.size 0 (intsZ y2)) := World.rangeAt_setCells_same _ _ 0 _ (by have := HTH.out; rwa [show (intsZ y2).toArray.size = (intsZ y2).length from List.size_toArray] at this)
        have HBE : Hid (Below w.heap.size w ((wr.alloc (.cells cs.toArray 196)).setCells w.heap.size 0 (intsZ y2))) := below_setCells (Nat.le_refl _) _ _ _ (HN.out.1.alloc hbz _)
        clear hy hlen HF HNX
        go_wp2_with (first | (refine wpList_load_mid rfl 196 _ rfl g (i * 10) rfl cs _ HE.out.rng Tryz.underlying196 rfl HE.out.size ?_) | (refine wpList_store_new rfl 196 _ _ rfl _ cs.toArray 196 rfl rfl HE.out.size' HE.out.same HE.out.all ?_) | (refine wpList_load_mid rfl 103 _ rfl wr.heap.size 1 rfl (intsZ y2) _ HRS.out Tryz.underlying103 rfl HS1.out ?_) | (refine wpList_store_mid rfl 103 _ _ rfl w.heap.size 0 (intsZ y2).toArray rfl rfl HTH.out HS2.out HO9.out ?_))
        exact bodyPost_ret (results_row_tmp Tryz.results86 _ rfl HRE.out Tryz.underlying103 rfl HS1.out) rfl ⟨by rw [HF2.out]; rfl, HBE.out⟩
      · have gy : (y1 == n) = false := by simp [hy]
        have HN2 : Hid (Below w.heap.size w (wr.alloc (.cells cs.toArray 196)) ∧ (wr.alloc (.cells cs.toArray 196)).there w.heap.size 0 9 ∧ w.heap.size < (wr.alloc (.cells cs.toArray 196)).heap.size ∧ ∀ j (_ : j < kl.length), j < i + 1 → kl[j].1 = n → False) := ⟨HN.out.1.alloc hbz _, World.there_alloc HN.out.2.1 _, by simp; omega, HNX.out hy⟩
        clear hy HF HNX
        go_wp2_with (first | (refine wpList_load_mid rfl 196 _ rfl g (i * 10) rfl cs _ HE.out.rng Tryz.underlying196 rfl HE.out.size ?_) | (refine wpList_store_new rfl 196 _ _ rfl _ cs.toArray 196 rfl rfl HE.out.size' HE.out.same HE.out.all ?_))
        go_roundg (kl.length - (i + 1))
        case measure => omega
        case rel => exact ⟨i + 1, by go_num, by omega, Nat.le_refl _, HN2⟩
    · have hd : decide ((i : Int) < (kl.length : Int)) = false := by simp; omega
      have HF2 : Hid (findK kl n = none) := findK_no (fun j hj h => HN.out.2.2.2 j hj (by omega) h)
      have HTH : Hid (wr.there w.heap.size 0 (intsZ zeroS).toArray.size) := HN.out.2.1
      have HO9 : Hid ((intsZ zeroS).toArray.all (·.oneCell') = true) := one_ints zeroS
      have HRE : Hid ((wr.setCells w.heap.size 0 (intsZ zeroS)).rangeAt w.heap.size 0 (intsZ zeroS)) := World.rangeAt_setCells_same _ _ 0 _ HN.out.2.1
      have HBE : Hid (Below w.heap.size w (wr.setCells w.heap.size 0 (intsZ zeroS))) := below_setCells (Nat.le_refl _) _ _ _ HN.out.1
      have HS1 : Hid ((Tryz.prog.info? 103).map (·.size) = some (intsZ zeroS).length) := sizeS rfl
      go_wp2_with (first | (refine wpList_store_mid rfl 103 _ _ rfl w.heap.size 0 (intsZ zeroS).toArray rfl rfl HTH.out HSZ.out HO9.out ?_))
      exact bodyPost_ret (results_row_tmp Tryz.results86 _ rfl HRE.out Tryz.underlying103 rfl HS1.out) rfl ⟨by rw [HF2.out]; rfl, HBE.out⟩
end
end Go.Proofs.YtblfffbmklkhmaaGreat

namespace Go.Proofs.YtblfffbmklkhmaaGreat
open Go.RowKit
theorem nine_of {s : List Int} (h : s.length = 9) : ∃ a b c d e f g i j, s = [a, b, c, d, e, f, g, i, j] := by
  match s, h with
  | [a, b, c, d, e, f, g, i, j], _ => exact ⟨a, b, c, d, e, f, g, i, j, rfl⟩
def PKeepPost (w : World) (b : Nat) (vS : Value × Value) (v : Value) (made : Nat) (kl : List (Int × List Int)) (e : Ending) (w' : World) : Prop :=
  e = .returned (.tuple #[]) ∧ ∃ v', w'.heap[b]? = some (docBlk (vS.1, v') v made) ∧ KL w' v' kl ∧ Fr w w' (fun k => k = b ∨ vS.2.ownBlock = some k) ∧ ∀ j, v'.ownBlock = some j → vS.2.ownBlock = some j ∨ w.heap.size ≤ j
section
set_option maxRecDepth 100000
set_option maxHeartbeats 4000000
theorem pkeep_any (w : World) (b : Nat) (vS : Value × Value) (v : Value) (made : Nat) (kl : List (Int × List Int)) (n : Int) (st : List Int) (hb : w.heap[b]? = some (docBlk vS v made)) (h : KL w vS.2 kl) (hfew : kl.length ≤ 24) (h9 : st.length = 9) :
    Calls Tryz.prog 128 #[.pointer (some ⟨b, 3, none⟩), .int .i64 n, .agg (intsZ st).toArray] w fun e w' => PKeepPost w b vS v made (kl ++ [(n, st)]) e w' := by
  obtain ⟨i0, z0, hi, iz, is, ib, izs⟩ := Tryz.infoK
  obtain ⟨vs1, vs2⟩ := vS
  simp only at h
  obtain ⟨a, c, hv⟩ := h.shape
  subst hv
  have HK : Hid (KL w (.slice a kl.length c) kl) := h
  have HBK : Hid (w.heap[b]? = some (docBlk (vs1, .slice a kl.length c) v made)) := hb
  have hbl : b < w.heap.size := (Array.getElem?_eq_some_iff.1 hb).1
  have q3 : w.cell? ⟨b, 3, none⟩ = some (.slice a kl.length c) := cell_of_blk hb rfl
  have q3f : w.frozen? ⟨b, 3, none⟩ = false := frozen_of_blk hb
  have HNE : Hid ((Value.slice a kl.length c).ownBlock ≠ some b) := own_ne_type h.row hb (by decide)
  obtain ⟨s0, s1, s2, s3, s4, s5, s6, s7, s8, hst⟩ := nine_of h9
  subst hst
  clear h hb h9
  have HEND : Hid (∀ (A B : Obj) (w8 : World) (v8 : Value), w8.ownsRow 0 196 10 v8 (kl.length + 1) (flatK kl ++ [.int .i64 n, .int .i64 s0, .int .i64 s1, .int .i64 s2, .int .i64 s3, .int .i64 s4, .int .i64 s5, .int .i64 s6, .int .i64 s7, .int .i64 s8]) → (((w.alloc A).alloc B).drew).grownBy w8 (Value.slice a kl.length c).ownBlock → (∀ j, v8.ownBlock = some j → (Value.slice a kl.length c).ownBlock = some j ∨ w.heap.size ≤ j) → PKeepPost w b (vs1, .slice a kl.length c) v made (kl ++ [(n, [s0, s1, s2, s3, s4, s5, s6, s7, s8])]) (.returned (.tuple #[])) (w8.setCell ⟨b, 3, none⟩ v8) ∧ w8.cell? ⟨b, 3, none⟩ = some (.slice a kl.length c) ∧ w8.frozen? ⟨b, 3, none⟩ = false ∧ b < w8.heap.size) := fun A B w8 v8 hown hg hj => by
    have hb8 : w8.heap[b]? = some (docBlk (vs1, .slice a kl.length c) v made) := (hg.block b (by simp [World.drew]; omega) (fun e => HNE.out e.symm)).trans ((Below.heap_alloc (w.alloc A) B b (by simp; omega)).trans ((Below.heap_alloc w A b hbl).trans HBK.out))
    have hne8 : v8.ownBlock ≠ some b := own_ne_type hown hb8 (by decide)
    have hfr : Fr w w8 (fun k => k = b ∨ (Value.slice a kl.length c).ownBlock = some k) := ((((Fr.refl w (fun k => k = b ∨ (Value.slice a kl.length c).ownBlock = some k)).alloc A).alloc B).drew1).gb hg (fun k hk => Or.inl (Or.inr hk))
    refine ⟨⟨rfl, v8, ?_, ⟨?_, fun x hx => ?_⟩, hfr.set (p := ⟨b, 3, none⟩) (Or.inl (Or.inl rfl)) _, hj⟩, cell_of_blk hb8 rfl, frozen_of_blk hb8, (Array.getElem?_eq_some_iff.1 hb8).1⟩
    · rw [heap_setCell_row hb8]; rfl
    · rw [flatK_snoc, List.length_append]
      exact own_set hown hne8 _
    · rcases List.mem_append.1 hx with hx | hx
      · exact HK.out.nine x hx
      · rw [List.mem_singleton] at hx
        rw [hx]
        rfl
  go_enter Tryz.func128, Tryz.ntmps128
  go_upto_region 1 with fail
  go_region_law (refine step_append_kept rfl (.tmp 10) (.tmp 14) 86 rfl 0 196 i0 z0 10 80 Tryz.underlying86 hi iz is ib izs (by decide) (.slice a kl.length c) kl.length (flatK kl) (by simp [Act.eval]) (((HK.out.row.alloc _).alloc _).drew) ⟨w.heap.size + 1, 0, none⟩ 1 1 [.int .i64 n, .int .i64 s0, .int .i64 s1, .int .i64 s2, .int .i64 s3, .int .i64 s4, .int .i64 s5, .int .i64 s6, .int .i64 s7, .int .i64 s8] (by simp [Act.eval]) rfl (new_cells (w.alloc _) _ (by simp) _ _ _ rfl) (kCells_one (n, [s0, s1, s2, s3, s4, s5, s6, s7, s8])) (by unfold maxLen; omega) (by omega) (Nat.zero_le _) ?_; intro v8 w8 hown8 hg8 hb8; obtain ⟨a8, c8, hv8⟩ := own_shape hown8; have HR8 := HEND.out _ _ w8 v8 hown8 hg8 (fun j hj => (hb8.out j hj).imp id (fun h => Nat.le_trans (by simp [World.drew]; omega) h)); have y1 := HR8.2.1; have y1f := HR8.2.2.1; have y1l := HR8.2.2.2; replace HR8 := HR8.1; rw [hv8] at HR8 ⊢; clear hv8 hown8 hg8 hb8)
  all_goals
    go_wp2
    go_end0
    exact HR8
end
end Go.Proofs.YtblfffbmklkhmaaGreat
