/- Own work. -/
import Derived.Test.YtblfffbmklkhmaaGreatRn47
namespace Go.Proofs.YtblfffbmklkhmaaGreat
open Go.RowKit
def tnB (b : Nat) (s : ByteArray) : ByteArray := if 97 ≤ bt s 0 then letB (bt s 0 - 97 + b) else s
def tn (b : Nat) (x : PNd) : PNd := { x with kind := tnB b x.kind, name := tnB b x.name }
theorem letB_mod (i j : Nat) (h : i % 26 = j % 26) : letB i = letB j := by unfold letB; rw [h]
theorem tnB_let (b j : Nat) : tnB b (letB j) = letB (j + b) := by
  have h : j % 26 < 26 := Nat.mod_lt _ (by decide)
  unfold tnB
  rw [bt_letB, if_pos (by omega)]
  exact letB_mod _ _ (by omega)
theorem tnB_none (b : Nat) : tnB b ⟨#[]⟩ = ⟨#[]⟩ := by unfold tnB; rw [if_neg (by decide)]
theorem tn_dft (b : Nat) : tn b dftN = dftN := by unfold tn dftN; simp only [tnB_none]
section
variable {b : Nat} {S : List PNd}
theorem tn_tree : treeS (S.map (tn b)) = treeS S := by unfold treeS; rw [List.map_map]; rfl
theorem tn_upd (k : Nat) {f g : PNd → PNd} (h : ∀ x, f (tn b x) = tn b (g x)) : updS (S.map (tn b)) k f = (updS S k g).map (tn b) := by
  unfold updS
  rw [List.map_map, List.map_map]
  apply List.map_congr_left
  intro x _
  show (if x.num = k then f (tn b x) else tn b x) = tn b (if x.num = k then g x else x)
  split
  · exact h x
  · rfl
theorem tn_pick (X : Int) : pickS (S.map (tn b)) X = tn b (pickS S X) := by
  unfold pickS
  rw [List.length_map, List.getD_eq_getElem?_getD, List.getD_eq_getElem?_getD, List.getElem?_map]
  cases S[pickZ X S.length]? with
  | none => show dftN = tn b dftN; rw [tn_dft]
  | some x => rfl
theorem tn_ins (made p at' : Nat) (kind : ByteArray) : insS (S.map (tn b)) made p at' (tnB b kind) = (insS S made p at' kind).map (tn b) := by
  unfold insS
  rw [List.map_append, tn_upd p (f := fun x => { x with kids := insL x.kids at' made }) (g := fun x => { x with kids := insL x.kids at' made }) (fun _ => rfl)]
  congr 1
theorem tn_rem (a : Nat) : remS (S.map (tn b)) a = (remS S a).map (tn b) := by
  unfold remS
  rw [tn_tree, List.filter_map, tn_upd _ (f := fun x => { x with kids := noneOf a x.kids }) (g := fun x => { x with kids := noneOf a x.kids }) (fun _ => rfl)]
  rfl
theorem tn_mov (a p at' : Nat) : movS (S.map (tn b)) a p at' = (movS S a p at').map (tn b) := by
  unfold movS
  rw [tn_tree, tn_upd _ (f := fun x => { x with kids := noneOf a x.kids }) (g := fun x => { x with kids := noneOf a x.kids }) (fun _ => rfl), tn_upd _ (f := fun x => { x with kids := insL (noneOf a x.kids) at' a }) (g := fun x => { x with kids := insL (noneOf a x.kids) at' a }) (fun _ => rfl), tn_upd _ (f := fun x => { x with par := p }) (g := fun x => { x with par := p }) (fun _ => rfl)]
theorem tn_name (Y : Int) : nameOf b Y = tnB b (nameOf 0 Y) := by
  unfold nameOf
  split
  · rw [tnB_let]; exact letB_mod _ _ rfl
  · rw [tnB_none]
theorem tn_setC (x : PNd) (k : Nat) (on : Bool) : (tn b x).setC k on = tn b (x.setC k on) := by unfold PNd.setC; (repeat' split) <;> rfl
theorem tn_step (last : Int) (made : Nat) (kd X Y Z : Int) : stepS b last (S.map (tn b)) made kd X Y Z = ((stepS 0 last S made kd X Y Z).1.map (tn b), (stepS 0 last S made kd X Y Z).2) := by
  unfold stepS
  split
  · rfl
  split
  · unfold insertS
    rw [List.length_map]
    split
    · rfl
    · rw [tn_pick, show letB (pickZ Z 4 + b) = tnB b (letB (pickZ Z 4 + 0)) from by rw [tnB_let]; rfl]
      show (insS (S.map (tn b)) made (pickS S X).num (pickZ Y ((pickS S X).kids.length + 1)) (tnB b (letB (pickZ Z 4 + 0))), made + 1) = _
      rw [tn_ins]
  split
  · show (removeS (S.map (tn b)) X, made) = ((removeS S X).map (tn b), made)
    unfold removeS
    rw [tn_pick]
    show (if (pickS S X).par < 0 then S.map (tn b) else remS (S.map (tn b)) (pickS S X).num, made) = _
    rw [tn_rem]
    split <;> rfl
  split
  · show (moveS (S.map (tn b)) X Y Z, made) = ((moveS S X Y Z).map (tn b), made)
    unfold moveS
    rw [tn_pick, tn_pick, tn_tree]
    show (if (pickS S X).par < 0 then S.map (tn b) else if tUnderB (treeS S) (pickS S X).num (pickS S Y).num = true then S.map (tn b) else movS (S.map (tn b)) (pickS S X).num (pickS S Y).num (pickZ Z ((noneOf (pickS S X).num (pickS S Y).kids).length + 1)), made) = _
    rw [tn_mov]
    split
    · rfl
    · split <;> rfl
  split
  · show (markS b (S.map (tn b)) kd X Y, made) = ((markS 0 S kd X Y).map (tn b), made)
    unfold markS
    rw [tn_pick]
    split
    · show (updS (S.map (tn b)) (pickS S X).num (fun x => { x with name := nameOf b Y }), made) = _
      rw [tn_upd _ (f := fun x => { x with name := nameOf b Y }) (g := fun x => { x with name := nameOf 0 Y }) (fun x => by unfold tn; simp only [← tn_name])]
    · show (updS (S.map (tn b)) (pickS S X).num (fun x => x.setC (pickZ Y 4) (kd == 4)), made) = _
      rw [tn_upd _ (f := fun x => x.setC (pickZ Y 4) (kd == 4)) (g := fun x => x.setC (pickZ Y 4) (kd == 4)) (fun x => tn_setC x _ _)]
  · rfl
theorem tn_grow (last : Int) (K X Y Z : Nat → Int) (made : Nat) : ∀ i, growS b last K X Y Z (S.map (tn b)) made i = ((growS 0 last K X Y Z S made i).1.map (tn b), (growS 0 last K X Y Z S made i).2)
  | 0 => rfl
  | i + 1 => by
    show stepS b last (growS b last K X Y Z (S.map (tn b)) made i).1 (growS b last K X Y Z (S.map (tn b)) made i).2 _ _ _ _ = _
    rw [tn_grow last K X Y Z made i]
    exact tn_step last _ _ _ _ _
theorem tn_root (b : Nat) : [rootS b] = [rootS 0].map (tn b) := by
  show [_] = [tn b _]
  unfold tn rootS
  simp only [tnB_none, tnB_let, Nat.zero_add]
end
def LetOK (S : List PNd) : Prop := ∀ x ∈ S, (97 ≤ (mkS 0 x).kd ∧ (mkS 0 x).kd ≤ 122) ∧ ((mkS 0 x).nm = 0 ∨ 97 ≤ (mkS 0 x).nm ∧ (mkS 0 x).nm ≤ 122)
theorem kd_let (j : Nat) : 97 ≤ ((bt (letB j) 0 : Nat) : Int) ∧ ((bt (letB j) 0 : Nat) : Int) ≤ 122 := by
  have h : j % 26 < 26 := Nat.mod_lt _ (by decide)
  rw [bt_letB]
  omega
theorem let_step (last : Int) (S : List PNd) (made : Nat) (kd X Y Z : Int) (h : LetOK S) : LetOK (stepS 0 last S made kd X Y Z).1 := by
  unfold stepS
  split
  · exact h
  split
  · unfold insertS
    split
    · exact h
    · intro y hy
      unfold insS at hy
      rw [List.mem_append, List.mem_singleton] at hy
      rcases hy with hy | rfl
      · obtain ⟨x, hx, rfl⟩ := mem_updS.1 hy
        have := h x hx
        split <;> exact this
      · exact ⟨kd_let _, Or.inl rfl⟩
  split
  · show LetOK (removeS S X)
    unfold removeS
    split
    · exact h
    · intro y hy
      obtain ⟨x, hx, _, _, _, hm, _⟩ := mem_remS hy
      rw [hm 0]
      exact h x hx
  split
  · show LetOK (moveS S X Y Z)
    unfold moveS
    split
    · exact h
    split
    · exact h
    · intro y hy
      obtain ⟨x, hx, _, _, _, hm⟩ := mem_movS hy
      rw [hm 0]
      exact h x hx
  split
  · show LetOK (markS 0 S kd X Y)
    unfold markS
    split
    · intro y hy
      obtain ⟨x, hx, rfl⟩ := mem_updS.1 hy
      split
      · refine ⟨(h x hx).1, ?_⟩
        show (if (nameOf 0 Y).size = 0 then (0 : Int) else bt (nameOf 0 Y) 0) = 0 ∨ 97 ≤ (if (nameOf 0 Y).size = 0 then (0 : Int) else bt (nameOf 0 Y) 0) ∧ (if (nameOf 0 Y).size = 0 then (0 : Int) else bt (nameOf 0 Y) 0) ≤ 122
        unfold nameOf
        by_cases hp : pickZ Y 5 < 4
        · rw [if_pos hp, if_neg (by rw [size_letB]; decide)]
          exact Or.inr (kd_let _)
        · rw [if_neg hp]
          exact Or.inl rfl
      · exact h x hx
    · intro y hy
      obtain ⟨x, hx, rfl⟩ := mem_updS.1 hy
      split
      · have e1 : (x.setC (pickZ Y 4) (kd == 4)).name = x.name := by unfold PNd.setC; (repeat' split) <;> rfl
        have e2 : (x.setC (pickZ Y 4) (kd == 4)).kind = x.kind := by unfold PNd.setC; (repeat' split) <;> rfl
        have := h x hx
        unfold mkS at this ⊢
        rw [e1, e2]
        exact this
      · exact h x hx
  · exact h
theorem let_grow (last : Int) (K X Y Z : Nat → Int) (S : List PNd) (made : Nat) (h : LetOK S) : ∀ i, LetOK (growS 0 last K X Y Z S made i).1
  | 0 => h
  | i + 1 => let_step last _ _ _ _ _ _ (let_grow last K X Y Z S made h i)
theorem let_root : LetOK [rootS 0] := by
  intro x hx
  rw [List.mem_singleton] at hx
  subst hx
  exact ⟨kd_let 0, Or.inl rfl⟩
theorem bt_none (s : ByteArray) : (if s.size = 0 then (0 : Int) else ((bt s 0 : Nat) : Int)) = ((bt s 0 : Nat) : Int) := by
  split
  · rw [bt_end s 0 (by omega)]; rfl
  · rfl
theorem bt_tn (b : Nat) (s : ByteArray) : bt (tnB b s) 0 = if 97 ≤ bt s 0 then 97 + (bt s 0 - 97 + b) % 26 else bt s 0 := by
  unfold tnB
  split
  · rw [bt_letB]
  · rfl
theorem mod_iff (i j b : Nat) : (i + b) % 26 = (j + b) % 26 ↔ i % 26 = j % 26 := by omega
theorem letter_rel {b c j : Nat} (h : 97 ≤ c ∧ c ≤ 122) : (((97 + (c - 97 + b) % 26 : Nat) : Int) == ((ltr b j : Nat) : Int)) = ((c : Int) == ((ltr 0 j : Nat) : Int)) := by
  have h1 := mod_iff (c - 97) j b
  have h2 : (c - 97) % 26 = c - 97 := Nat.mod_eq_of_lt (by omega)
  rw [Bool.eq_iff_iff, beq_iff_eq, beq_iff_eq]
  unfold ltr
  rw [Nat.add_zero]
  constructor
  · intro h3
    have h4 := h1.1 (by omega)
    omega
  · intro h3
    have h4 := h1.2 (by omega)
    omega
theorem mk_rel {b : Nat} {x : PNd} (h : (97 ≤ (mkS 0 x).kd ∧ (mkS 0 x).kd ≤ 122) ∧ ((mkS 0 x).nm = 0 ∨ 97 ≤ (mkS 0 x).nm ∧ (mkS 0 x).nm ≤ 122)) (j : Nat) :
    ((mkS b (tn b x)).kd == ((ltr b j : Nat) : Int)) = ((mkS 0 x).kd == ((ltr 0 j : Nat) : Int)) ∧ (mkS b (tn b x)).cl ((j + b) % 26) = (mkS 0 x).cl (j % 26) ∧ ((mkS b (tn b x)).nm == ((ltr b j : Nat) : Int)) = ((mkS 0 x).nm == ((ltr 0 j : Nat) : Int)) := by
  have k1 : (mkS 0 x).kd = ((bt x.kind 0 : Nat) : Int) := rfl
  have n1 : (mkS 0 x).nm = ((bt x.name 0 : Nat) : Int) := bt_none x.name
  have k2 : (mkS b (tn b x)).kd = ((bt (tnB b x.kind) 0 : Nat) : Int) := rfl
  have n2 : (mkS b (tn b x)).nm = ((bt (tnB b x.name) 0 : Nat) : Int) := bt_none (tnB b x.name)
  rw [k1, n1] at h
  rw [k1, n1, k2, n2, bt_tn, bt_tn]
  refine ⟨?_, ?_, ?_⟩
  · rw [if_pos (by omega)]
    exact letter_rel (by omega)
  · show clS b (tn b x) ((j + b) % 26) = clS 0 x (j % 26)
    have e : ∀ q, decide ((j + b) % 26 = (q + b) % 26) = decide (j % 26 = (q + 0) % 26) := fun q => by
      rw [decide_eq_decide, Nat.add_zero]
      exact mod_iff j q b
    have e0 : decide ((j + b) % 26 = b % 26) = decide (j % 26 = 0 % 26) := by
      have := e 0
      rwa [Nat.zero_add, Nat.zero_add] at this
    unfold clS
    rw [e0, e 1, e 2, e 3]
    rfl
  · rcases h.2 with h0 | h0
    · have h3 : bt x.name 0 = 0 := by omega
      have h4 := ltr_lt b j
      have h5 := ltr_lt 0 j
      rw [h3, if_neg (by decide)]
      rw [show (((0 : Nat) : Int) == ((ltr b j : Nat) : Int)) = false from by rw [beq_eq_false_iff_ne]; omega, show (((0 : Nat) : Int) == ((ltr 0 j : Nat) : Int)) = false from by rw [beq_eq_false_iff_ne]; omega]
    · rw [if_pos (by omega)]
      exact letter_rel (by omega)
theorem view_turn {b : Nat} {S : List PNd} {made : Nat} (hp : PW S made) (hl : LetOK S) : VRel b (viewT (treeS (S.map (tn b))) (mOf b (S.map (tn b)))) (viewT (treeS S) (mOf 0 S)) := by
  have hn := hp.nums
  have hn' : ((S.map (tn b)).map PNd.num).Nodup := by rw [List.map_map]; exact hn
  have key : ∀ e : Int, (tFind (treeS S) e).isSome = true → ∃ x ∈ S, mOf 0 S e.toNat = mkS 0 x ∧ mOf b (S.map (tn b)) e.toNat = mkS b (tn b x) := fun e he => by
    obtain ⟨l, hl2⟩ := Option.isSome_iff_exists.1 he
    obtain ⟨k, hk1, hk2⟩ := tFind_some hl2
    obtain ⟨x, hx, hx1, _⟩ := of_treeS hk2
    have e1 : e.toNat = x.num := by omega
    refine ⟨x, hx, ?_, ?_⟩
    · rw [e1]; exact mOf_at hn hx
    · rw [e1]
      exact mOf_at hn' (x := tn b x) (List.mem_map.2 ⟨x, hx, rfl⟩)
  rw [tn_tree]
  refine ⟨fun e j => ?_, fun e j => ?_, fun e j => ?_, rfl, rfl, rfl, rfl⟩
  · show ((tFind (treeS S) e).isSome && (mOf b (S.map (tn b)) e.toNat).kd == _) = ((tFind (treeS S) e).isSome && (mOf 0 S e.toNat).kd == _)
    by_cases he : (tFind (treeS S) e).isSome = true
    · obtain ⟨x, hx, h1, h2⟩ := key e he
      rw [h1, h2, (mk_rel (hl x hx) j).1]
    · rw [Bool.not_eq_true] at he
      rw [he]
      rfl
  · show ((tFind (treeS S) e).isSome && (decide (97 ≤ ((ltr b j : Nat) : Int) ∧ ((ltr b j : Nat) : Int) ≤ 122) && (mOf b (S.map (tn b)) e.toNat).cl (((ltr b j : Nat) : Int) - 97).toNat)) = ((tFind (treeS S) e).isSome && (decide (97 ≤ ((ltr 0 j : Nat) : Int) ∧ ((ltr 0 j : Nat) : Int) ≤ 122) && (mOf 0 S e.toNat).cl (((ltr 0 j : Nat) : Int) - 97).toNat))
    have h3 := ltr_lt b j
    have h4 := ltr_lt 0 j
    rw [decide_eq_true (show 97 ≤ ((ltr b j : Nat) : Int) ∧ ((ltr b j : Nat) : Int) ≤ 122 by omega), decide_eq_true (show 97 ≤ ((ltr 0 j : Nat) : Int) ∧ ((ltr 0 j : Nat) : Int) ≤ 122 by omega)]
    have e1 : (((ltr b j : Nat) : Int) - 97).toNat = (j + b) % 26 := by unfold ltr at *; omega
    have e2 : (((ltr 0 j : Nat) : Int) - 97).toNat = j % 26 := by unfold ltr at *; omega
    rw [e1, e2]
    by_cases he : (tFind (treeS S) e).isSome = true
    · obtain ⟨x, hx, h1, h2⟩ := key e he
      rw [h1, h2, (mk_rel (hl x hx) j).2.1]
    · rw [Bool.not_eq_true] at he
      rw [he]
      rfl
  · show ((tFind (treeS S) e).isSome && (mOf b (S.map (tn b)) e.toNat).nm == _) = ((tFind (treeS S) e).isSome && (mOf 0 S e.toNat).nm == _)
    by_cases he : (tFind (treeS S) e).isSome = true
    · obtain ⟨x, hx, h1, h2⟩ := key e he
      rw [h1, h2, (mk_rel (hl x hx) j).2.2]
    · rw [Bool.not_eq_true] at he
      rw [he]
      rfl
theorem val_turn {b : Nat} {S : List PNd} {made : Nat} (hp : PW S made) (hl : LetOK S) (rs : List RuA) (n p : Nat) : valS (mOf b (S.map (tn b))) (S.map (tn b)) (rs.map (toR b)) n p = valS (mOf 0 S) S (rs.map (toR 0)) n p := by
  unfold valS
  rw [style_rel (view_turn hp hl)]
end Go.Proofs.YtblfffbmklkhmaaGreat

namespace Go.Proofs.YtblfffbmklkhmaaGreat
open Go.RowKit
section
set_option maxRecDepth 100000
set_option maxHeartbeats 4000000
variable {DS : World → Value → Tree → Nat → (Nat → Mk) → List PRu → (Nat → Prop) → Prop}
theorem renamed_any (hP : DocOK DS) (w : World) (al : Option Addr) (ll lc : Nat) (L : Nat → Int) (hI : Il w al ll L) (hll : ll ≤ 4611686018427387904) (a0 : Option Addr) (len cap : Nat) (K X Y Z : Nat → Int) (hs : Sc w a0 len K X Y Z) (hl : len ≤ 4611686018427387903) (byv : Int) (hby : Fit byv) :
    Calls Tryz.prog 10 #[.slice al ll lc, .slice a0 len cap, .int .i64 byv] w fun e w' => e = .returned (.bool true) ∧ Below w.heap.size w w' := by
  have HP : Hid (DocOK DS) := hP
  have HS : Hid (Sc w a0 len K X Y Z) := hs
  have HPC : Hid (∀ W, Calls Tryz.prog 17 #[.int .i64 byv, .int .i64 25] W fun e w' => e = .returned (.int .i64 ((pickZ byv 25 : Nat) : Int)) ∧ w' = W) := fun W => kpick_any W byv 25 hby (by decide) (by decide)
  have hk : pickZ byv 25 < 25 := pickZ_lt byv (by decide)
  generalize pickZ byv 25 = kb at HPC hk
  have HSH : Hid (∀ b : Nat, b ≤ 25 → ∀ W, Below w.heap.size w W → Calls Tryz.prog 27 #[.slice al ll lc, .int .i64 b, .bool false, .int .i64 400] W fun e w' => e = .returned (.string (wSheetF ll L b false 400)) ∧ Below W.heap.size W w') := fun b hb W hW => ksheet_any W al ll lc L b false 400 (hI.below hW) hll hb (by decide)
  obtain ⟨ra, hra, hab⟩ := sheet_ast (len := ll) (L := L) (mild := false) 400
  have HPL : Hid (∀ b : Nat, b ≤ 25 → ∀ W, Calls Tryz.prog 19 #[.string (wSheetF ll L b false 400), .int .i64 b] W fun e w' => KPlantPost DS W b (ra.map (toR b)) e w') := fun b hb W => by
    have hz : (wSheetF ll L b false 400).size ≤ 400 := wSheetF_size
    have := kplant_any HP.out W (wSheetF ll L b false 400) b hb (by unfold maxLen; omega) (by rw [wSheet_chk (Nat.le_refl _)])
    rwa [sheet_of hz (fun r hr => (hra r hr).1) (hab b)] at this
  clear hP hs hI hra hab
  have HSH0 : Hid (∀ W, Below w.heap.size w W → Calls Tryz.prog 27 #[.slice al ll lc, .int .i64 0, .bool false, .int .i64 400] W fun e w' => e = .returned (.string (wSheetF ll L 0 false 400)) ∧ Below W.heap.size W w') := HSH.out 0 (by omega)
  have HPL0 : Hid (∀ W, Calls Tryz.prog 19 #[.string (wSheetF ll L 0 false 400), .int .i64 0] W fun e w' => KPlantPost DS W 0 (ra.map (toR 0)) e w') := HPL.out 0 (by omega)
  have HSHk : Hid (∀ W, Below w.heap.size w W → Calls Tryz.prog 27 #[.slice al ll lc, .int .i64 (1 + (kb : Int)), .bool false, .int .i64 400] W fun e w' => e = .returned (.string (wSheetF ll L (1 + kb) false 400)) ∧ Below W.heap.size W w') := fun W hW => by
    have := HSH.out (1 + kb) (by omega) W hW
    rwa [show ((1 + kb : Nat) : Int) = 1 + (kb : Int) from by omega] at this
  have HPLk : Hid (∀ W, Calls Tryz.prog 19 #[.string (wSheetF ll L (1 + kb) false 400), .int .i64 (1 + (kb : Int))] W fun e w' => KPlantPost DS W (1 + kb) (ra.map (toR (1 + kb))) e w') := fun W => by
    have := HPL.out (1 + kb) (by omega) W
    rwa [show ((1 + kb : Nat) : Int) = 1 + (kb : Int) from by omega] at this
  clear HSH HPL
  generalize wSheetF ll L 0 false 400 = s0 at HSH0 HPL0
  generalize wSheetF ll L (1 + kb) false 400 = s1 at HSHk HPLk
  go_enter Tryz.func10, Tryz.ntmps10
  go_wp2_with fail
  refine (khead_any HP.out w).mono ?_
  rintro e w1 ⟨rfl, hB1⟩
  have HB1 : Hid (Below w.heap.size w w1) := hB1
  clear hB1
  go_wp2_with fail
  refine (HPC.out _).mono ?_
  rintro e w1b ⟨rfl, rfl⟩
  clear HPC
  go_wp2_with fail
  refine (HSH0.out _ HB1.out).mono ?_
  rintro e w2 ⟨rfl, hB2⟩
  have HB2 : Hid (Below w.heap.size w w2) := HB1.out.trans (hB2.mono HB1.out.size)
  clear hB2 HB1 HSH0
  go_wp2_with fail
  refine (HPL0.out _).mono ?_
  rintro e w3 ⟨g, px, vl, n0, Fg, Fx, rfl, hgd, hin, hB3⟩
  have HGD : Hid (GD DS w3 g px vl 1 0 [rootN n0 0] (ra.map (toR 0)) Fg Fx ∧ (∀ k, Fg k ∨ Fx k → w.heap.size ≤ k) ∧ Below w.heap.size w w3) := ⟨hgd, fun k hk => Nat.le_trans HB2.out.size (hin k hk), HB2.out.trans (hB3.mono HB2.out.size)⟩
  clear hgd hin hB3 HB2 HPL0
  go_wp2_with fail
  refine (HSHk.out _ HGD.out.2.2).mono ?_
  rintro e w3b ⟨rfl, hB3b⟩
  have HGDb : Hid (GD DS w3b g px vl 1 0 [rootN n0 0] (ra.map (toR 0)) Fg Fx ∧ (∀ k, Fg k ∨ Fx k → w.heap.size ≤ k) ∧ Below w.heap.size w w3b) := ⟨HGD.out.1.below HP.out hB3b, HGD.out.2.1, HGD.out.2.2.trans (hB3b.mono HGD.out.2.2.size)⟩
  clear hB3b HGD HSHk
  go_wp2_with fail
  refine (HPLk.out _).mono ?_
  rintro e w4 ⟨g2, px2, vl2, n02, Fg2, Fx2, rfl, hgd, hin, hB4⟩
  have HT : Hid (Two DS w w4 g px vl 1 0 [rootN n0 0] (ra.map (toR 0)) Fg Fx g2 px2 vl2 1 (1 + kb) [rootN n02 (1 + kb)] (ra.map (toR (1 + kb))) Fg2 Fx2) := two_plant HP.out HGDb.out.1 HGDb.out.2.1 HGDb.out.2.2 hgd hin hB4
  clear hgd hin hB4 HGDb HPLk
  go_wp2_with fail
  refine (kgrow_sc HP.out w4 g px vl 1 0 [rootN n0 0] (ra.map (toR 0)) Fg Fx HT.out.one 7 (by decide) (by decide) a0 len cap K X Y Z HS.out HT.out.bl HT.out.na (by omega)).mono ?_
  rintro e w5 ⟨rfl, vl1, ns, Fg1, Fx1, hS, hgd, hin, hfr⟩
  have HT5 : Hid (Two DS w w5 g px vl1 (growS 0 7 K X Y Z ([rootN n0 0].map GN.pl) 1 len).2 0 ns (ra.map (toR 0)) Fg1 Fx1 g2 px2 vl2 1 (1 + kb) [rootN n02 (1 + kb)] (ra.map (toR (1 + kb))) Fg2 Fx2) := HT.out.turn HP.out hgd hin (fun _ hk => hk) hfr
  have HS1 : Hid ((growS 0 7 K X Y Z [rootS 0] 1 len).1 = ns.map GN.pl) := hS
  clear hS hgd hin hfr HT
  generalize (growS 0 7 K X Y Z ([rootN n0 0].map GN.pl) 1 len).2 = made at HT5
  go_wp2_with fail
  refine (kgrow_sc HP.out w5 g2 px2 vl2 1 (1 + kb) [rootN n02 (1 + kb)] (ra.map (toR (1 + kb))) Fg2 Fx2 HT5.out.two 7 (by decide) (by omega) a0 len cap K X Y Z HS.out HT5.out.bl HT5.out.nb (by omega)).mono ?_
  rintro e w6 ⟨rfl, vl3, ns2, Fg3, Fx3, hS, hgd, hin, hfr⟩
  have HT6 : Hid (Two DS w w6 g px vl1 made 0 ns (ra.map (toR 0)) Fg1 Fx1 g2 px2 vl3 (growS (1 + kb) 7 K X Y Z ([rootN n02 (1 + kb)].map GN.pl) 1 len).2 (1 + kb) ns2 (ra.map (toR (1 + kb))) Fg3 Fx3) := (HT5.out.swap.turn HP.out hgd hin (fun _ hk => hk) hfr).swap
  have HNN : Hid (ns2.map GN.pl = (ns.map GN.pl).map (tn (1 + kb))) := by
    unfold Hid
    rw [← HS1.out, ← hS]
    show (growS (1 + kb) 7 K X Y Z [rootS (1 + kb)] 1 len).1 = _
    rw [tn_root, tn_grow]
  have HLO : Hid (LetOK (ns.map GN.pl)) := by
    unfold Hid
    rw [← HS1.out]
    exact let_grow 7 K X Y Z _ 1 let_root len
  clear hS hgd hin hfr HT5 HS1
  generalize (growS (1 + kb) 7 K X Y Z ([rootN n02 (1 + kb)].map GN.pl) 1 len).2 = made2 at HT6
  have HVAL : Hid (∀ n ∈ ns, ∃ n2 ∈ ns2, n2.num = n.num ∧ ∀ p, valS (mOf (1 + kb) (ns2.map GN.pl)) (ns2.map GN.pl) (ra.map (toR (1 + kb))) n2.num p = valS (mOf 0 (ns.map GN.pl)) (ns.map GN.pl) (ra.map (toR 0)) n.num p) := fun n hn => by
    have h1 : tn (1 + kb) n.pl ∈ ns2.map GN.pl := by rw [HNN.out]; exact List.mem_map.2 ⟨n.pl, List.mem_map.2 ⟨n, hn, rfl⟩, rfl⟩
    obtain ⟨n2, h2, h3⟩ := List.mem_map.1 h1
    have h4 : n2.num = n.num := congrArg PNd.num h3
    exact ⟨n2, h2, h4, fun p => by rw [h4, HNN.out, val_turn HT6.out.one.pw HLO.out]⟩
  clear HLO
  generalize ra.map (toR 0) = rs at HT6 HVAL
  generalize ra.map (toR (1 + kb)) = rs2 at HT6 HVAL
  obtain ⟨bk, hbk⟩ : ∃ bk, bk = 1 + kb := ⟨_, rfl⟩
  rw [← hbk] at HT6 HVAL HNN
  clear hbk
  obtain ⟨hln0, hln⟩ := HT6.out.one.len
  obtain ⟨ag, cg, hvl⟩ := own_shape HT6.out.one.gr.row
  subst hvl
  clear HNN
  have HT7 : Hid (∃ Fx Fx', Two DS w w6 g px (.slice ag ns.length cg) made 0 ns rs Fg1 Fx g2 px2 vl3 made2 bk ns2 rs2 Fg3 Fx') := ⟨_, _, HT6.out⟩
  clear HT6
  go_wp2_with fail
  go_loopg [12, 13, 14, 15, 16, 17] ns.length (fun gk iv s1 s2 s3 s4 s5 wr => ∃ i : Nat, iv = .int .i64 i ∧ i ≤ ns.length ∧ ns.length - i ≤ gk ∧ Hid (∃ Fx Fx', Two DS w wr g px (.slice ag ns.length cg) made 0 ns rs Fg1 Fx g2 px2 vl3 made2 bk ns2 rs2 Fg3 Fx'))
  case atStart => exact ⟨0, rfl, Nat.zero_le _, by omega, HT7⟩
  case round =>
    obtain ⟨i, rfl, hi, hgk, HI⟩ := hrel
    obtain ⟨Fx4, Fx5, ht⟩ := HI.out
    have HT : Hid (Two DS w wr g px (.slice ag ns.length cg) made 0 ns rs Fg1 Fx4 g2 px2 vl3 made2 bk ns2 rs2 Fg3 Fx5) := ht
    have u1 := ht.one.gr.c1
    have hgl := ht.one.gr.lt
    clear ht HI
    by_cases hlt : i < ns.length
    · have hd : decide ((i : Int) < (ns.length : Int)) = true := by simp; omega
      have hii : (i : Int) < (ns.length : Int) := by omega
      obtain ⟨r, hr, hrl, q2, _, _⟩ := HT.out.one.gr.at' hlt
      subst hr
      have HMX : Hid (ns[i] ∈ ns) := List.getElem_mem hlt
      obtain ⟨n, hni⟩ : ∃ n, ns[i] = n := ⟨_, rfl⟩
      have HNI : Hid (ns[i] = n) := hni
      rw [hni] at q2 HMX
      clear hni
      obtain ⟨n0', _, _, _, _, hnb⟩ := node_cells (HT.out.one.gr.nd n HMX.out)
      obtain ⟨m, hm1, hm2, hm3⟩ := HVAL.out n HMX.out
      have HM : Hid (m ∈ ns2 ∧ m.num = n.num ∧ ∀ p, valS (mOf bk (ns2.map GN.pl)) (ns2.map GN.pl) rs2 m.num p = valS (mOf 0 (ns.map GN.pl)) (ns.map GN.pl) rs n.num p) := ⟨hm1, hm2, hm3⟩
      clear hm1 hm2 hm3
      go_wp2_with fail
      refine (kall_any HP.out wr g px (.slice (some ⟨r, 0, none⟩) ns.length cg) made 0 (mOf 0 (ns.map GN.pl)) ns rs Fg1 Fx4 HT.out.one.gdm n HMX.out).mono ?_
      generalize HVV : valS (mOf 0 (ns.map GN.pl)) (ns.map GN.pl) rs n.num = VV at HM ⊢
      unfold KAllPost nineV
      rintro e w8 ⟨rfl, Fx6, hgd3, hin3, hfr3⟩
      have HT8 : Hid (Two DS w w8 g px (.slice (some ⟨r, 0, none⟩) ns.length cg) made 0 ns rs Fg1 Fx6 g2 px2 vl3 made2 bk ns2 rs2 Fg3 Fx5) := HT.out.all HP.out hgd3 hin3 hfr3
      clear hgd3 hin3 hfr3 HVV u1 hgl q2 n0' hnb hrl HT
      go_upto_region 15 with fail
      have HW9 : Hid (Below w8.heap.size w8 (w8.alloc (.cells #[.int .i64 (VV 0), .int .i64 (VV 1), .int .i64 (VV 2), .int .i64 (VV 3), .int .i64 (VV 4), .int .i64 (VV 5), .int .i64 (VV 6), .int .i64 (VV 7), .int .i64 (VV 8)] 38)) ∧ (w8.alloc (.cells #[.int .i64 (VV 0), .int .i64 (VV 1), .int .i64 (VV 2), .int .i64 (VV 3), .int .i64 (VV 4), .int .i64 (VV 5), .int .i64 (VV 6), .int .i64 (VV 7), .int .i64 (VV 8)] 38)).heap[w8.heap.size]? = some (.cells #[.int .i64 (VV 0), .int .i64 (VV 1), .int .i64 (VV 2), .int .i64 (VV 3), .int .i64 (VV 4), .int .i64 (VV 5), .int .i64 (VV 6), .int .i64 (VV 7), .int .i64 (VV 8)] 38)) := ⟨(Below.refl _ _).alloc (Nat.le_refl _) _, heap_alloc_new w8 _⟩
      generalize w8.alloc (.cells #[.int .i64 (VV 0), .int .i64 (VV 1), .int .i64 (VV 2), .int .i64 (VV 3), .int .i64 (VV 4), .int .i64 (VV 5), .int .i64 (VV 6), .int .i64 (VV 7), .int .i64 (VV 8)] 38) = W9 at HW9 ⊢
      have HT9 : Hid (Two DS w W9 g px (.slice (some ⟨r, 0, none⟩) ns.length cg) made 0 ns rs Fg1 Fx6 g2 px2 vl3 made2 bk ns2 rs2 Fg3 Fx5) := HT8.out.below HP.out HW9.out.1
      have HN9 : Hid (¬ Fx5 w8.heap.size) := fun hx => Nat.lt_irrefl _ (HT8.out.two.here _ (Or.inr hx))
      clear HT8
      have u1 := HT9.out.one.gr.c1
      have hgl := HT9.out.one.gr.lt
      obtain ⟨r2, hr2, hrl, q2, _, _⟩ := HT9.out.one.gr.at' hlt
      injection hr2 with hr2
      injection hr2 with hr2 _ _
      subst hr2
      rw [HNI.out] at q2
      obtain ⟨n0', _, _, _, _, hnb⟩ := node_cells (HT9.out.one.gr.nd n HMX.out)
      go_wp2_with fail
      have hkall := kall_any HP.out W9 g2 px2 vl3 made2 bk (mOf bk (ns2.map GN.pl)) ns2 rs2 Fg3 Fx5 HT9.out.two.gdm m HM.out.1
      rw [HM.out.2.1] at hkall
      refine hkall.mono ?_
      have HEQ : Hid (∀ p, p < 9 → VV p = valS (mOf bk (ns2.map GN.pl)) (ns2.map GN.pl) rs2 n.num p) := fun p _ => by rw [← HM.out.2.2 p, HM.out.2.1]
      clear hkall HM
      generalize valS (mOf bk (ns2.map GN.pl)) (ns2.map GN.pl) rs2 n.num = UU at HEQ ⊢
      unfold KAllPost nineV
      rintro e wA ⟨rfl, Fx7, hgd3, hin3, hfr3⟩
      have HTA : Hid (Two DS w wA g px (.slice (some ⟨r, 0, none⟩) ns.length cg) made 0 ns rs Fg1 Fx6 g2 px2 vl3 made2 bk ns2 rs2 Fg3 Fx7) := (HT9.out.swap.all HP.out hgd3 hin3 hfr3).swap
      have hl9 := (Array.getElem?_eq_some_iff.1 HW9.out.2).1
      have hWA : wA.heap[w8.heap.size]? = some (.cells #[.int .i64 (VV 0), .int .i64 (VV 1), .int .i64 (VV 2), .int .i64 (VV 3), .int .i64 (VV 4), .int .i64 (VV 5), .int .i64 (VV 6), .int .i64 (VV 7), .int .i64 (VV 8)] 38) := (hfr3.block w8.heap.size hl9 HN9.out).trans HW9.out.2
      generalize w8.heap.size = bv at hWA ⊢
      have y0 : wA.cell? ⟨bv, 0, none⟩ = some (.int .i64 (VV 0)) := cell_of_blk hWA rfl
      have y1 : wA.cell? ⟨bv, 1, none⟩ = some (.int .i64 (VV 1)) := cell_of_blk hWA rfl
      have y2 : wA.cell? ⟨bv, 2, none⟩ = some (.int .i64 (VV 2)) := cell_of_blk hWA rfl
      have y3 : wA.cell? ⟨bv, 3, none⟩ = some (.int .i64 (VV 3)) := cell_of_blk hWA rfl
      have y4 : wA.cell? ⟨bv, 4, none⟩ = some (.int .i64 (VV 4)) := cell_of_blk hWA rfl
      have y5 : wA.cell? ⟨bv, 5, none⟩ = some (.int .i64 (VV 5)) := cell_of_blk hWA rfl
      have y6 : wA.cell? ⟨bv, 6, none⟩ = some (.int .i64 (VV 6)) := cell_of_blk hWA rfl
      have y7 : wA.cell? ⟨bv, 7, none⟩ = some (.int .i64 (VV 7)) := cell_of_blk hWA rfl
      have y8 : wA.cell? ⟨bv, 8, none⟩ = some (.int .i64 (VV 8)) := cell_of_blk hWA rfl
      have hlA : bv < wA.heap.size := (Array.getElem?_eq_some_iff.1 hWA).1
      have HSM : Hid (∀ W, Calls Tryz.prog 23 #[.agg #[.int .i64 (VV 0), .int .i64 (VV 1), .int .i64 (VV 2), .int .i64 (VV 3), .int .i64 (VV 4), .int .i64 (VV 5), .int .i64 (VV 6), .int .i64 (VV 7), .int .i64 (VV 8)], .agg #[.int .i64 (UU 0), .int .i64 (UU 1), .int .i64 (UU 2), .int .i64 (UU 3), .int .i64 (UU 4), .int .i64 (UU 5), .int .i64 (UU 6), .int .i64 (UU 7), .int .i64 (UU 8)]] W fun e w' => e = .returned (.bool true) ∧ Below W.heap.size W w') := fun W => ksame_any W VV UU HEQ.out
      clear hgd3 hin3 hfr3 hWA HEQ u1 hgl q2 n0' hnb hrl HT9 hl9 HN9 HW9
      go_wp2_with fail
      refine (HSM.out _).mono ?_
      rintro e wB ⟨rfl, hBB⟩
      have HBB : Hid (Below wA.heap.size wA wB) := ((Below.refl _ _).alloc (Nat.le_refl _) (.cells #[.int .i64 (UU 0), .int .i64 (UU 1), .int .i64 (UU 2), .int .i64 (UU 3), .int .i64 (UU 4), .int .i64 (UU 5), .int .i64 (UU 6), .int .i64 (UU 7), .int .i64 (UU 8)] 38)).trans (hBB.mono (by simp))
      have HIB : Hid (∃ Fx Fx', Two DS w wB g px (.slice (some ⟨r, 0, none⟩) ns.length cg) made 0 ns rs Fg1 Fx g2 px2 vl3 made2 bk ns2 rs2 Fg3 Fx') := ⟨_, _, HTA.out.below HP.out HBB.out⟩
      clear hBB HTA HBB HSM y0 y1 y2 y3 y4 y5 y6 y7 y8 hlA
      go_wp2
      go_roundg (ns.length - (i + 1))
      case measure => omega
      case rel => exact ⟨i + 1, by go_num, by omega, Nat.le_refl _, HIB⟩
    · have hd : decide ((i : Int) < (ns.length : Int)) = false := by simp; omega
      go_wp2
      go_ret
      exact ⟨rfl, HT.out.bl⟩
end
end Go.Proofs.YtblfffbmklkhmaaGreat
