/- Own work. -/
import Derived.Test.YtblfffbmklkhmaaGreatAw31
import Derived.Test.YtblfffbmklkhmaaGreatAw32
import Derived.BigQuiet
import Derived.Test.YtblfffbmklkhmaaGreatAw14
namespace Go.Proofs.YtblfffbmklkhmaaGreat
open Go.RowKit
def PShwPost (w : World) (b : Nat) (vS : Value × Value) (v : Value) (els : List PEl) (T : Tree) (made : Nat) (n : Int) (e : Ending) (w' : World) : Prop :=
  ∃ (els' : List PEl), e = .returned (.int .i64 (if (tFind T n).isSome then 0 else 5)) ∧ PB3 w' b vS v els' T made ∧ Fr w w' (fun k => v.ownBlock = some k) ∧ ∀ M, MkO els M → MkO els' M
section
set_option maxRecDepth 100000
set_option maxHeartbeats 4000000
variable (w : World) (b : Nat) (vS : Value × Value) (v : Value) (els : List PEl) (T : Tree) (made : Nat) (n : Int)
theorem pshw_any (on : Bool) (h : PB3 w b vS v els T made) (hw : TW T made) (hsh : ∀ x ∈ els, Shp x) : Calls Tryz.prog 151 #[.pointer (some ⟨b, 1, none⟩), .int .i64 n, .bool on] w fun e w' => PShwPost w b vS v els T made n e w' := by
  have HB : Hid (PB3 w b vS v els T made ∧ TW T made ∧ ∀ x ∈ els, Shp x) := ⟨h, hw, hsh⟩
  have hfew := h.few
  clear h hw hsh
  go_enter Tryz.func151, Tryz.ntmps151
  go_wp2_with fail
  refine (pfind_any w b v els n HB.out.1.c1 HB.out.1.pl hfew).mono ?_
  rintro e w1 ⟨hB1, ⟨hf, rfl⟩ | ⟨ip, xp, hxp, hf, rfl⟩⟩
  · have HE : Hid (PShwPost w b vS v els T made n (.returned (.int .i64 5)) w1) := ⟨els, by rw [HB.out.1.pt.find_none hf]; rfl, HB.out.1.below hB1, (Fr.refl w _).below hB1, fun M hM => hM⟩
    clear hf
    go_wp2
    go_ret
    exact HE.out
  · have HF : Hid (tFind T n = some (kidsP els n)) := (HB.out.1.pt.find_some HB.out.2.1 hf).1
    have hip : ip < els.length := (List.getElem?_eq_some_iff.1 hxp).1
    obtain ⟨av, cv, hvv⟩ := HB.out.1.pl.shape
    subst hvv
    have HB2 : Hid (PB3 w1 b vS (.slice av els.length cv) els T made) := HB.out.1.below hB1
    obtain ⟨g, hg, hgl, hr⟩ := HB2.out.pl.at' hip
    subst hg
    have q2 : w1.cell? ⟨g, ip * 31 + 30, none⟩ = some (.bool (shownP els[ip])) := hr 30 _ (HB.out.2.2 _ (List.getElem_mem hip)).sh
    have q0 := HB2.out.c1
    obtain ⟨cur, hcur, _⟩ := own_blk HB2.out.pl.row
    have qf : ∀ j, w1.frozen? ⟨g, j, none⟩ = false := fun _ => frozen_of_blk hcur
    have hil : (ip : Int) < (els.length : Int) := by omega
    have HB5 : Hid (PB3 (w1.setCell ⟨g, ip * 31 + 30, none⟩ (.bool on)) b vS (.slice (some ⟨g, 0, none⟩) els.length cv) (els.set ip (els[ip].put 28 (.bool on))) T made) := HB2.out.put hip (by omega) rfl
    have HE : Hid (PShwPost w b vS (.slice (some ⟨g, 0, none⟩) els.length cv) els T made n (.returned (.int .i64 0)) (w1.setCell ⟨g, ip * 31 + 30, none⟩ (.bool on))) := by
      refine ⟨_, by rw [HF.out]; rfl, HB5.out, ((Fr.refl w (fun k => (Value.slice (some ⟨g, 0, none⟩) els.length cv).ownBlock = some k)).below hB1).set (p := ⟨g, ip * 31 + 30, none⟩) (Or.inl rfl) _, fun M hM => ?_⟩
      have hx := List.getElem_mem hip
      have hmx := hM.1 _ hx
      obtain ⟨p1, p2, p3, p4⟩ := put_shw (HB.out.1.pl.ok _ hx) (hM.2 _ hx) on
      refine (hM.put HB.out.1.pt.nums hip (z := els[ip].put 28 (.bool on)) (m := M els[ip].num) rfl p1 ⟨by rw [p2]; exact hmx.1, fun i hi => by rw [p3 i hi]; exact hmx.2.1 i hi, by rw [p4]; exact hmx.2.2⟩).ext (fun y _ => ?_)
      unfold setM
      split
      · rename_i e; rw [e]
      · rfl
    clear hr hcur HB5 hf hxp
    generalize shownP els[ip] = old at q2
    go_wp2
    go_ret
    exact HE.out
end
section
set_option maxRecDepth 100000
set_option maxHeartbeats 4000000
variable (w : World) (b : Nat) (a : Option Addr) (c : Nat) (els : List PEl)
theorem pwanted_any (n : Int) (h : TRd w b a c els) : Calls Tryz.prog 82 #[.pointer (some ⟨b, 1, none⟩), .int .i64 n] w fun e w' => ∃ r, PBool w r e w' := by
  have HT : Hid (TRd w b a c els) := h
  have hfew := h.few
  have q0 := h.cell
  clear h
  go_enter Tryz.func82, Tryz.ntmps82
  go_wp2_with fail
  go_loopg [12] els.length (fun gk iv wr => ∃ i : Nat, iv = .int .i64 i ∧ i ≤ els.length ∧ els.length - i ≤ gk ∧ Hid (Below w.heap.size w wr))
  case atStart => exact ⟨0, rfl, Nat.zero_le _, by omega, Below.refl _ _⟩
  case round =>
    obtain ⟨i, rfl, hi, hgk, HN⟩ := hrel
    have hbz := HN.out.size
    by_cases hlt : i < els.length
    · have hd : decide ((i : Int) < (els.length : Int)) = true := by simp; omega
      obtain ⟨g, hg, hgl, he⟩ := HT.out.pl.el hlt
      subst hg
      have HE : Hid (ElAt wr g (i * 31) els[i].cells els[i].num els[i].par) := he.below HN.out hgl
      have hsh := (HT.out.shp _ (List.getElem_mem hlt)).sh
      generalize shownP els[i] = sh at hsh
      generalize els[i].num = ny at HE
      generalize els[i].par = py at HE
      generalize els[i].cells = cs at HE hsh
      have c0 : cs[0]? = some (.int .i64 ny) := HE.out.c0
      have HT3 : Hid (TRd (wr.alloc (.cells cs.toArray 134)) b (some ⟨g, 0, none⟩) c els) := HT.out.below (HN.out.alloc hbz _)
      have HB3 : Hid (Below w.heap.size w (wr.alloc (.cells cs.toArray 134))) := HN.out.alloc hbz _
      clear he q0
      cases sh with
      | false =>
        go_wp2_with (first | (refine wpList_load_mid rfl 134 _ rfl g (i * 31) rfl cs _ HE.out.rng Tryz.underlying134 rfl HE.out.size ?_) | (refine wpList_store_new rfl 134 _ _ rfl _ cs.toArray 134 rfl rfl HE.out.size' HE.out.same HE.out.all ?_))
        go_roundg (els.length - (i + 1))
        case measure => omega
        case rel => exact ⟨i + 1, by go_num, by omega, Nat.le_refl _, HB3⟩
      | true =>
        go_wp2_with (first | (refine wpList_load_mid rfl 134 _ rfl g (i * 31) rfl cs _ HE.out.rng Tryz.underlying134 rfl HE.out.size ?_) | (refine wpList_store_new rfl 134 _ _ rfl _ cs.toArray 134 rfl rfl HE.out.size' HE.out.same HE.out.all ?_) | (go_at_call 120; refine (pwithin_any (wr.alloc (.cells cs.toArray 134)) b _ els ny n HT3.out.cell HT3.out.pl hfew).mono ?_; rintro e w3 ⟨hB3, r, rfl, _⟩; have HB4 : Hid (Below w.heap.size w w3) := HB3.out.trans (hB3.mono HB3.out.size); clear hB3; cases r))
        · go_roundg (els.length - (i + 1))
          case measure => omega
          case rel => exact ⟨i + 1, by go_num, by omega, Nat.le_refl _, HB4⟩
        · go_ret
          exact ⟨true, rfl, HB4.out⟩
    · have hd : decide ((i : Int) < (els.length : Int)) = false := by simp; omega
      go_wp2
      go_ret
      exact ⟨false, rfl, HN.out⟩
end
end Go.Proofs.YtblfffbmklkhmaaGreat

namespace Go.Proofs.YtblfffbmklkhmaaGreat
open Go.RowKit
def dwnKids (l : List PEl) (x : Int) : List Int := (l.filter fun e => decide (e.par = x)).map fun e => (e.num : Int)
def dwn (els : List PEl) : Nat → List Int
  | 0 => [0]
  | i + 1 => match (dwn els i)[i]? with | some x => dwn els i ++ dwnKids els x | none => dwn els i
theorem dwnKids_eq (l : List PEl) (x : Int) : dwnKids l x = (kidsP l x).map fun (k : Nat) => (k : Int) := by
  unfold dwnKids kidsP
  rw [List.map_map]
  rfl
theorem dwnKids_take {l : List PEl} {i : Nat} (h : i < l.length) (x : Int) : dwnKids (l.take (i + 1)) x = if l[i].par = x then dwnKids (l.take i) x ++ [(l[i].num : Int)] else dwnKids (l.take i) x := by
  unfold dwnKids
  rw [List.take_succ_eq_append_getElem h, List.filter_append]
  by_cases hp : l[i].par = x <;> simp [hp]
theorem dwnKids_len (l : List PEl) (x : Int) : (dwnKids l x).length ≤ l.length := by
  unfold dwnKids
  rw [List.length_map]
  exact List.length_filter_le _ _
theorem dwn_go {els : List PEl} {i : Nat} {x : Int} (h : (dwn els i)[i]? = some x) : dwn els (i + 1) = dwn els i ++ dwnKids els x := by
  show (match (dwn els i)[i]? with | some x => dwn els i ++ dwnKids els x | none => dwn els i) = _
  rw [h]
theorem dwn_stop {els : List PEl} {i : Nat} (h : (dwn els i).length ≤ i) : ∀ k, dwn els (i + k) = dwn els i
  | 0 => rfl
  | k + 1 => by
    have ih := dwn_stop h k
    have e : (dwn els (i + k))[i + k]? = none := by rw [ih]; exact List.getElem?_eq_none (by omega)
    show (match (dwn els (i + k))[i + k]? with | some x => dwn els (i + k) ++ dwnKids els x | none => dwn els (i + k)) = _
    rw [e]
    exact ih
theorem dwn_len (els : List PEl) : ∀ i, (dwn els i).length ≤ 1 + i * els.length
  | 0 => by simp [dwn]
  | i + 1 => by
    have ih := dwn_len els i
    have e : (i + 1) * els.length = i * els.length + els.length := Nat.succ_mul _ _
    cases h : (dwn els i)[i]? with
    | none =>
      show (match (dwn els i)[i]? with | some x => dwn els i ++ dwnKids els x | none => dwn els i).length ≤ _
      rw [h]
      show (dwn els i).length ≤ _
      omega
    | some x =>
      rw [dwn_go h, List.length_append]
      have := dwnKids_len els x
      omega
section
variable {els : List PEl} {T : Tree} {made : Nat}
structure DwI (T : Tree) (N : List Int) (i : Nat) : Prop where
  nodup : N.Nodup
  root : (0 : Int) ∈ N
  els : ∀ x ∈ N, ∃ k l, x = ((k : Nat) : Int) ∧ (k, l) ∈ T
  up : ∀ x ∈ N, x = 0 ∨ tPar T x ∈ N.take i
  down : ∀ q ∈ T, (q.1 : Int) ∈ N.take i → ∀ k ∈ q.2, (k : Int) ∈ N
theorem cast_nodup {l : List Nat} (h : l.Nodup) : (l.map fun (k : Nat) => (k : Int)).Nodup := by
  induction l with
  | nil => simp
  | cons x l ih =>
    rw [List.nodup_cons] at h
    rw [List.map_cons, List.nodup_cons]
    refine ⟨fun hm => h.1 ?_, ih h.2⟩
    obtain ⟨y, hy, he⟩ := List.mem_map.1 hm
    have : y = x := by omega
    exact this ▸ hy
theorem dwn_inv (h : PT els T) (hw : TW T made) : ∀ i, DwI T (dwn els i) i
  | 0 => by
    refine ⟨by simp [dwn], by simp [dwn], fun x hx => ?_, fun x hx => ?_, fun q _ hq => by simp at hq⟩
    · have : x = 0 := by simpa [dwn] using hx
      obtain ⟨l, hl⟩ := hw.root
      exact ⟨0, l, this, hl⟩
    · have : x = 0 := by simpa [dwn] using hx
      exact Or.inl this
  | i + 1 => by
    have ih := dwn_inv h hw i
    cases hx : (dwn els i)[i]? with
    | none =>
      have hl : (dwn els i).length ≤ i := List.getElem?_eq_none_iff.1 hx
      have e : dwn els (i + 1) = dwn els i := dwn_stop hl 1
      have t1 : (dwn els i).take i = dwn els i := List.take_of_length_le hl
      have t2 : (dwn els i).take (i + 1) = dwn els i := List.take_of_length_le (by omega)
      rw [e]
      have hu := ih.up
      have hd := ih.down
      rw [t1] at hu hd
      exact ⟨ih.nodup, ih.root, ih.els, fun x hx => by rw [t2]; exact hu x hx, fun q hq hm => by rw [t2] at hm; exact hd q hq hm⟩
    | some x =>
      have hil : i < (dwn els i).length := (List.getElem?_eq_some_iff.1 hx).1
      have hxe : (dwn els i)[i] = x := (List.getElem?_eq_some_iff.1 hx).2
      have hxm : x ∈ dwn els i := List.mem_of_getElem? hx
      obtain ⟨kx, lx, rfl, hkx⟩ := ih.els x hxm
      have hkids : kidsP els kx = lx := (h.kids kx lx hkx).symm
      have e : dwn els (i + 1) = dwn els i ++ lx.map fun (k : Nat) => (k : Int) := by rw [dwn_go hx, dwnKids_eq, hkids]
      have tk : (dwn els (i + 1)).take (i + 1) = (dwn els i).take i ++ [(kx : Int)] := by
        rw [e, List.take_append_of_le_length (by omega), List.take_succ_eq_append_getElem hil, hxe]
      have hnew : ∀ k ∈ lx, (k : Int) ∉ dwn els i := fun k hk hm => by
        have hp := hw.parent (e := (kx, lx)) hkx hk
        rcases ih.up k hm with h0 | h0
        · have : k = 0 := by omega
          subst this
          exact hw.top _ hkx hk
        · rw [hp] at h0
          have h1 : (kx : Int) ∈ (dwn els i).take i := h0
          have hnd := ih.nodup
          rw [← List.take_append_drop i (dwn els i), List.nodup_append] at hnd
          refine hnd.2.2 _ h1 _ ?_ rfl
          rw [List.drop_eq_getElem_cons hil, hxe]
          exact List.mem_cons_self
      rw [e]
      refine ⟨?_, List.mem_append_left _ ih.root, fun y hy => ?_, fun y hy => ?_, fun q hq hm k hk => ?_⟩
      · rw [List.nodup_append]
        refine ⟨ih.nodup, cast_nodup (hw.kdup _ hkx), fun y hy z hz e => ?_⟩
        obtain ⟨k, hk, rfl⟩ := List.mem_map.1 hz
        exact hnew k hk (e ▸ hy)
      · rcases List.mem_append.1 hy with hy | hy
        · exact ih.els y hy
        · obtain ⟨k, hk, rfl⟩ := List.mem_map.1 hy
          obtain ⟨l, hl⟩ := hw.kin _ hkx k hk
          exact ⟨k, l, rfl, hl⟩
      · rw [← e, tk]
        rcases List.mem_append.1 hy with hy | hy
        · exact (ih.up y hy).imp id (fun h0 => List.mem_append_left _ h0)
        · obtain ⟨k, hk, rfl⟩ := List.mem_map.1 hy
          refine Or.inr (List.mem_append_right _ ?_)
          rw [hw.parent (e := (kx, lx)) hkx hk]
          exact List.mem_singleton.2 rfl
      · rw [← e, tk] at hm
        rcases List.mem_append.1 hm with hm | hm
        · exact List.mem_append_left _ (ih.down q hq hm k hk)
        · have h1 : q.1 = kx := by have := List.mem_singleton.1 hm; omega
          have h2 : q = (kx, lx) := num_inj hw.nums hq hkx h1
          subst h2
          exact List.mem_append_right _ (List.mem_map.2 ⟨k, hk, rfl⟩)
def dwnP (els : List PEl) : List Int := dwn els els.length
theorem nodup_int_len {T : Tree} {N : List Int} (hn : N.Nodup) (he : ∀ x ∈ N, ∃ k l, x = ((k : Nat) : Int) ∧ (k, l) ∈ T) : N.length ≤ T.length := by
  have h1 : (N.map Int.toNat).Nodup := by
    induction N with
    | nil => simp
    | cons x l ih =>
      rw [List.nodup_cons] at hn
      rw [List.map_cons, List.nodup_cons]
      refine ⟨fun hm => hn.1 ?_, ih hn.2 (fun y hy => he y (List.mem_cons_of_mem _ hy))⟩
      obtain ⟨y, hy, hye⟩ := List.mem_map.1 hm
      obtain ⟨k, _, hk, _⟩ := he x List.mem_cons_self
      obtain ⟨j, _, hj, _⟩ := he y (List.mem_cons_of_mem _ hy)
      have : y = x := by omega
      exact this ▸ hy
  have := nodup_len h1 (m := T.map Prod.fst) (fun k hk => by
    obtain ⟨x, hx, rfl⟩ := List.mem_map.1 hk
    obtain ⟨j, l, hj, hl⟩ := he x hx
    exact List.mem_map.2 ⟨_, hl, by show j = _; omega⟩)
  simpa using this
theorem dwnP_ok (h : PT els T) (hw : TW T made) : (dwnP els).Nodup ∧ (∀ x ∈ dwnP els, ∃ k l, x = ((k : Nat) : Int) ∧ (k, l) ∈ T) ∧ ∀ k l, (k, l) ∈ T → (k : Int) ∈ dwnP els := by
  have hi := dwn_inv h hw els.length
  have hlen := nodup_int_len hi.nodup hi.els
  have hel := h.len hw
  have ht : (dwn els els.length).take els.length = dwn els els.length := List.take_of_length_le (by omega)
  refine ⟨hi.nodup, hi.els, ?_⟩
  obtain ⟨rk, hr⟩ := hw.rank
  have key : ∀ (n : Nat) (k : Nat) (l : List Nat), (k, l) ∈ T → rk k ≤ n → (k : Int) ∈ dwn els els.length := by
    intro n
    induction n with
    | zero =>
      intro k l hk hn
      by_cases h0 : k = 0
      · subst h0; exact hi.root
      · obtain ⟨q, hq, hm, _⟩ := hw.up hk h0
        have := hr q hq k hm
        omega
    | succ n ih =>
      intro k l hk hn
      by_cases h0 : k = 0
      · subst h0; exact hi.root
      · obtain ⟨q, hq, hm, _⟩ := hw.up hk h0
        have h1 := hr q hq k hm
        have h2 := ih q.1 q.2 hq (by omega)
        exact hi.down q hq (by rw [ht]; exact h2) k hm
  exact fun k l hk => key (rk k) k l hk (Nat.le_refl _)
end
end Go.Proofs.YtblfffbmklkhmaaGreat

namespace Go.Proofs.YtblfffbmklkhmaaGreat
open Go.RowKit
section
set_option maxRecDepth 100000
set_option maxHeartbeats 4000000
variable (w : World) (b : Nat) (a : Option Addr) (c : Nat) (els : List PEl)
theorem pdwn_any (h : TRd w b a c els) : Calls Tryz.prog 81 #[.pointer (some ⟨b, 1, none⟩)] w fun e w' => PRowI w (dwnP els) e w' := by
  obtain ⟨i0, hi0, iz0, iz1, iz2⟩ := info_parts Tryz.info3
  have HT : Hid (TRd w b a c els) := h
  have hfew := h.few
  have q0 := h.cell
  have hbl := h.lt
  have HO0 : Hid ((w.alloc (.cells #[.int .i64 0] 3)).ownsRow w.heap.size 3 1 (.slice (some ⟨w.heap.size, 0, none⟩) 1 1) (dwn els 0).length (intsZ (dwn els 0)) ∧ Below w.heap.size w (w.alloc (.cells #[.int .i64 0] 3))) := by
    refine ⟨⟨rfl, Or.inr ⟨w.heap.size, 1, #[.int .i64 0], rfl, Nat.le_refl _, heap_alloc_new w _, Nat.le_refl _, by decide, rfl, rfl⟩⟩, (Below.refl _ _).alloc (Nat.le_refl _) _⟩
  clear h
  go_enter Tryz.func81, Tryz.ntmps81
  go_wp2_with fail
  go_loopg [3, 13] els.length (fun gk v iv wr => ∃ i : Nat, iv = .int .i64 i ∧ i ≤ els.length ∧ els.length - i ≤ gk ∧ Hid (wr.ownsRow w.heap.size 3 1 v (dwn els i).length (intsZ (dwn els i)) ∧ Below w.heap.size w wr))
  case atStart => exact ⟨0, rfl, Nat.zero_le _, by omega, HO0⟩
  case round =>
    obtain ⟨i, rfl, hi, hgk, HN⟩ := hrel
    obtain ⟨wo, rfl⟩ : ∃ wo, wo = wr := ⟨_, rfl⟩
    obtain ⟨a2, c2, hv2⟩ := own_shape HN.out.1
    subst hv2
    have hbz := HN.out.2.size
    have hNL : (dwn els i).length ≤ 600 := by
      have h1 := dwn_len els i
      have h2 : i * els.length ≤ 24 * 24 := Nat.mul_le_mul (by omega) hfew
      omega
    by_cases hlt : i < els.length
    · have hd : decide ((i : Int) < (els.length : Int)) = true := by simp; omega
      by_cases hin : i < (dwn els i).length
      · have hg1 : decide ((dwn els i).length ≤ i) = false := by simp; omega
        obtain ⟨x, hx⟩ : ∃ x, (dwn els i)[i]? = some x := ⟨_, List.getElem?_eq_getElem hin⟩
        have HGO : Hid (dwn els (i + 1) = dwn els i ++ dwnKids els x) := dwn_go hx
        have HX : Hid ((dwn els i)[i]? = some x) := hx
        clear hx
        generalize dwn els i = R at HN HGO HX hNL hin hg1 ⊢
        have q0 : wo.cell? ⟨b, 1, none⟩ = some (.slice a els.length c) := (HN.out.2.cell (p := ⟨b, 1, none⟩) hbl).trans HT.out.cell
        have hblr : b < wo.heap.size := by omega
        have HN1 : Hid (wo.ownsRow w.heap.size 3 1 (.slice a2 R.length c2) (R ++ dwnKids (els.take 0) x).length (intsZ (R ++ dwnKids (els.take 0) x)) ∧ Below w.heap.size w wo) := by
          have : R ++ dwnKids (els.take 0) x = R := by simp [dwnKids]
          rw [this]
          exact HN.out
        clear HN
        go_wp2_with fail
        go_loopg [3, 26] els.length (fun gk v kv wr => ∃ k : Nat, kv = .int .i64 k ∧ k ≤ els.length ∧ els.length - k ≤ gk ∧ Hid (wr.ownsRow w.heap.size 3 1 v (R ++ dwnKids (els.take k) x).length (intsZ (R ++ dwnKids (els.take k) x)) ∧ Below w.heap.size w wr))
        case atStart => exact ⟨0, rfl, Nat.zero_le _, by omega, HN1⟩
        case round =>
          obtain ⟨k, rfl, hk, hgk2, HJ⟩ := hrel
          obtain ⟨a3, c3, hv3⟩ := own_shape HJ.out.1
          subst hv3
          have hRL3 : (R ++ dwnKids (els.take k) x).length ≤ 640 := by
            have h1 := dwnKids_len (els.take k) x
            have h2 : (els.take k).length ≤ els.length := List.length_take_le' _ _
            rw [List.length_append]
            omega
          have HXL : Hid ((R ++ dwnKids (els.take k) x)[i]? = some x) := by unfold Hid; rw [List.getElem?_append_left hin]; exact HX.out
          have hjz := HJ.out.2.size
          obtain ⟨L, hLd⟩ : ∃ L, R ++ dwnKids (els.take k) x = L := ⟨_, rfl⟩
          have HLD : Hid (R ++ dwnKids (els.take k) x = L) := hLd
          rw [hLd] at HJ hRL3 HXL ⊢
          clear hLd
          have hiL : i < L.length := (List.getElem?_eq_some_iff.1 HXL.out).1
          by_cases hlk : k < els.length
          · have hd2 : decide ((k : Int) < (els.length : Int)) = true := by simp; omega
            obtain ⟨g, hg, hgl, he⟩ := HT.out.pl.el hlk
            subst hg
            have HE : Hid (ElAt wr g (k * 31) els[k].cells els[k].num els[k].par) := he.below HJ.out.2 hgl
            have HST : Hid (dwnKids (els.take (k + 1)) x = if els[k].par = x then dwnKids (els.take k) x ++ [(els[k].num : Int)] else dwnKids (els.take k) x) := dwnKids_take hlk x
            clear he
            generalize els[k].num = nk at HE HST
            generalize els[k].par = pk at HE HST
            generalize els[k].cells = cs at HE
            have c0 : cs[0]? = some (.int .i64 nk) := HE.out.c0
            have c1 : cs[1]? = some (.int .i64 pk) := HE.out.c1
            obtain ⟨g3, hg3, hgl3, hc3⟩ := own_cells HJ.out.1 (by omega)
            subst hg3
            have qx : wr.cell? ⟨g3, i, none⟩ = some (.int .i64 x) := hc3 i _ (by rw [List.getElem?_map, HXL.out]; rfl)
            have hii : (i : Int) < (L.length : Int) := by omega
            have hi0' : (0 : Int) ≤ (i : Int) := by omega
            have hblr2 : b < wr.heap.size := by omega
            clear hc3
            by_cases hp : pk = x
            · have gp : (pk == x) = true := by simp [hp]
              have HST2 : Hid (R ++ dwnKids (els.take (k + 1)) x = L ++ [(nk : Int)]) := by unfold Hid; rw [HST.out, if_pos hp, ← List.append_assoc, HLD.out]
              have HOD : Hid (∀ m (o : Obj), (((wr.alloc (.cells cs.toArray 134)).drewN m).alloc o).ownsRow w.heap.size 3 1 (.slice (some ⟨g3, 0, none⟩) L.length c3) L.length (intsZ L)) := fun m o => (own_drewN (HJ.out.1.alloc _) m).alloc o
              clear hp HST
              go_upto_region 10 with (first | (refine wpList_load_mid rfl 134 _ rfl g (k * 31) rfl cs _ HE.out.rng Tryz.underlying134 rfl HE.out.size ?_) | (refine wpList_store_new rfl 134 _ _ rfl _ cs.toArray 134 rfl rfl HE.out.size' HE.out.same HE.out.all ?_))
              go_quiet (fail)
              go_wp2_with (first | (at_builtin; refine wpList_append_own _ rfl (.tmp 37) (.tmp 40) 40 rfl w.heap.size 3 i0 (.int .i64 0) 1 8 Tryz.underlying40 hi0 iz0 iz1 iz2 rfl (by decide) _ _ _ rfl (HOD.out _ _) ⟨wr.heap.size + 1, 0, none⟩ 1 1 [.int .i64 (nk : Int)] rfl rfl ?c1 ?c2 ?c3 ?c4 ?c5 ?_))
              case c1 => exact new_cells _ _ (by simp [World.drewN]) _ _ _ rfl
              case c2 => exact one_z nk
              case c3 => unfold maxLen; omega
              case c4 => omega
              case c5 => simp; omega
              intro v5 w5 own5 hg5 _
              have HJ5 : Hid (w5.ownsRow w.heap.size 3 1 v5 (R ++ dwnKids (els.take (k + 1)) x).length (intsZ (R ++ dwnKids (els.take (k + 1)) x)) ∧ Below w.heap.size w w5) := by
                rw [HST2.out]
                exact ⟨by simpa [intsZ] using own5, ((below_draws (HJ.out.2.alloc hjz _) _).alloc (by simp [World.drewN]; omega) _).grown hg5 (by simp [World.drewN]; omega) (fun k hk => (HJ.out.1.lt k hk).1)⟩
              clear own5 hg5 HJ HOD
              go_wp2
              go_roundg (els.length - (k + 1))
              case measure => omega
              case rel => exact ⟨k + 1, by go_num, by omega, Nat.le_refl _, HJ5⟩
            · have gp : (pk == x) = false := by simp [hp]
              have HJ5 : Hid (∀ m, ((wr.alloc (.cells cs.toArray 134)).drewN m).ownsRow w.heap.size 3 1 (.slice (some ⟨g3, 0, none⟩) L.length c3) (R ++ dwnKids (els.take (k + 1)) x).length (intsZ (R ++ dwnKids (els.take (k + 1)) x)) ∧ Below w.heap.size w ((wr.alloc (.cells cs.toArray 134)).drewN m)) := fun m => by
                rw [HST.out, if_neg hp, HLD.out]
                exact ⟨own_drewN (HJ.out.1.alloc _) m, below_draws (HJ.out.2.alloc hjz _) m⟩
              clear hp HST
              go_upto_region 10 with (first | (refine wpList_load_mid rfl 134 _ rfl g (k * 31) rfl cs _ HE.out.rng Tryz.underlying134 rfl HE.out.size ?_) | (refine wpList_store_new rfl 134 _ _ rfl _ cs.toArray 134 rfl rfl HE.out.size' HE.out.same HE.out.all ?_))
              go_quiet (fail)
              go_wp2
              go_roundg (els.length - (k + 1))
              case measure => omega
              case rel => exact ⟨k + 1, by go_num, by omega, Nat.le_refl _, HJ5.out _⟩
          · have hd2 : decide ((k : Int) < (els.length : Int)) = false := by simp; omega
            obtain rfl : k = els.length := by omega
            have HN5 : Hid (wr.ownsRow w.heap.size 3 1 (.slice a3 L.length c3) (dwn els (i + 1)).length (intsZ (dwn els (i + 1))) ∧ Below w.heap.size w wr) := by
              have h1 := HLD.out
              rw [List.take_length] at h1
              rw [HGO.out, h1]
              exact HJ.out
            clear HJ
            go_wp2
            go_roundg (els.length - (i + 1))
            case measure => omega
            case rel => exact ⟨i + 1, by go_num, by omega, Nat.le_refl _, HN5⟩
      · have hg1 : decide ((dwn els i).length ≤ i) = true := by simp; omega
        have HE : Hid (PRowI w (dwnP els) (.returned (.slice a2 (dwn els i).length c2)) wo) := by
          have e1 : dwnP els = dwn els i := by
            have := dwn_stop (els := els) (i := i) (by omega) (els.length - i)
            rw [show i + (els.length - i) = els.length from by omega] at this
            exact this
          rw [e1]
          exact ⟨a2, c2, rfl, HN.out.1, HN.out.2⟩
        clear hin HN
        generalize (dwn els i).length = nn at hg1 HE hNL ⊢
        go_wp2
        go_ret
        exact HE.out
    · have hd : decide ((i : Int) < (els.length : Int)) = false := by simp; omega
      obtain rfl : i = els.length := by omega
      go_wp2
      go_ret
      exact ⟨a2, c2, rfl, HN.out.1, HN.out.2⟩
end
end Go.Proofs.YtblfffbmklkhmaaGreat
